import PyProof.Rows.All
import Wide.All
import OpenK.AllK
import Wide.FinOn
import Lean
import PyProof.EqAt
import PyProof.EqKinds
import PyProof.TupleCall
import PyProof.Rows.EnumRows
import PyProof.EnumMake
import KE.KIntText
import KE.KTryMore
import PySem.Challenge.RW_rowblade_k74_what_is_not_woven
set_option Elab.async false
set_option linter.all false
set_option maxRecDepth 100000
set_option compiler.extract_closed false
noncomputable section
namespace Z0
end Z0
open PySem.W renaming Frag→bg,findIn→d9,kitOne→gp,kia_one→jF,keepIn→k_,nsIn→lh,emptyDict→o_,instObj→rG,mroIn→zX,fnOf→zY,plainGet→B7,isFn→B8,makesIn→B9,specialIn→B_,takesIn→Ca,lookIn→Ii,hasDictIn→Ij,callWith_K→Ik,exmOne→yc,methodObj→Cb,plainGet_of→Cc,plainOver→Cd,takerIn→Ce,callWith_K0→Cf,codeIn→Cg,kitAny→Ci,excIn→Cj,handedIn→Nz,kitx_list→NB,kitx_dict→NC,kitx_own→ND,methodCall_KW→NF,cellsFrom_some→NG,Dflts→NH
open List renaming length_append→bL,length_map→dg,length_cons→dq,mem_cons_self→eK,mem_cons→fB,mem_cons_of_mem→fG,size_toArray→bQ,getElem?_eq_getElem→cX,getElem?_eq_some_iff→du,length_nil→dD,replicate→dJ,append_nil→dR,all_eq_true→dS,all_cons→eL,prefix_rfl→eM,getElem?_set_ne→gh,map_cons→gi,getElem?_set_self→gq,getElem?_map→gu,mem_of_getElem?→gv,getElem?_append_right→gX,lookup_cons→ib,length_set→ic,mem_singleton→ie,mem_append→iG,getElem?_append_left→iH,not_mem_nil→jG,mem_map→jH,mem_append_right→kD,lookup→kE,nodup_cons→kF,any_cons→kG,getD_eq_getElem?_getD→kH,append_assoc→lj,range→pe,length_take→ph,zip_cons_cons→pj,map_map→rH,map_append→rJ,set→rK,length_drop→vt,replicate_succ→vv,filterMap_cons→zZ,length_replicate→z9,flatten_cons→z_,length_singleton→Aa,find?_cons→Ab,drop_zero→Ac,getElem?_replicate→Cm,any_map→Cn,map→Co,any_eq_true→Cp,getElem_mem→Cq,filterMap→Cr,mem_range→Il,mem_filterMap→Im,nil_append→Io,forIn_cons→Ip,ext_getElem?→Iq,take_of_length_le→yd,drop_eq_getElem_cons→ye,take→yf,drop_left→yh,flatten_append→yi,mem_append_left→Cs,of_mem_zip→Ct,foldl→Cu,map_nil→Cv,range_succ_eq_map→Cw,all_map→Cy,map_take→Cz,map_drop→CA,map_congr_left→CF,length_zip→CG,nodup_append→CH,cons_append→CI,set_set→CJ,take_succ_cons→CK,contains_iff_mem→CL,mem_filter→NI,map_eq_nil_iff→NJ,idxOf?→NK,findIdx?_eq_some_iff_getElem→NL,zip_nil_right→NN,drop_length→NO,getElem?_eq_none→NP,range'→NQ,any_nil→NR,mem_of_mem_take→NS,filterMap_append→NT
open Bool renaming and_eq_true→cy,false_ne_true→d_,and_eq_true_iff→vz,false_eq_true→vA,or_eq_true→CM,not_true→CN,eq_iff_iff→Ir,and_false→Iu,false_and→CO,or_false→CP,beq_eq_decide_eq→CQ,true_and→CS,not_eq_true'→CT,not_false→CU,and_true→NU,eq_false_or_eq_true→NV
open Option renaming bind_eq_some_iff→cJ,map_eq_some_iff→cK,some→nC,isSome_iff_exists→CV,isSome_map→CW,getD_none→NW,none→NX,map_some→NY
open Nat renaming le_refl→dU,ne_of_lt→dh,lt_of_lt_of_le→gx,le_trans→ig,zero_le→iI,lt_irrefl→pA,lt_succ_self→Ad,le_add_right→CY,sub_self→CZ,ne_of_gt→Iv,zero_add→yj,min_eq_left→yk,le_of_lt→C0,le_of_eq→C2,lt_succ_of_lt→C3,lt_of_le_of_lt→C4,succ→C5,succ_mul→NZ,min_self→N1,not_lt_zero→N2,mul_succ→N3
open Int renaming ofNat→kI
open PyProof.Rows renaming boot_isinstance→C6,callWith_type1→C7,boot_list→C8,callWith_builtin1→N4,recsOf→N5,drecsOf→N6,boot_enumerate→N7,boot_str→N8,boot_int→N9,envOfC→N_
namespace Z1
end Z1
abbrev c9:=List (PySem.Addr × PySem.Obj)
abbrev a_ (x:PySem.Str):Prop:=(x == ("__debug__":PySem.Str))=false
abbrev e_ (x:PySem.Str):Prop:=(x == ("__classdict__":PySem.Str))=false
namespace L2
open PySem PySem.Spec PyProof.Rows
abbrev Key:=Sum Int Str
def nU:Key->Value->Bool
 | .inl k,v=>Value.isInt k v
 | .inr x,v=>Value.isStrOf x v
def adt (w:World):Key->Int
 | .inl k=>hashInt k
 | .inr x=>hashStr w x
theorem bD:∀ {k:Key}{v:Value},nU k v=true->(∃ i t,k=Sum.inl i/\v=Value.int i t)\/(∃ x t,k=Sum.inr x/\v=Value.str x t)
 | .inl i,v,h=>by
  obtain ⟨t,e⟩:=Value.isInt_shape (k:=i) (v:=v) h
  exact .inl ⟨i,t,rfl,e⟩
 | .inr x,v,h=>by
  obtain ⟨t,e⟩:=Value.isStrOf_shape (x:=x) (v:=v) h
  exact .inr ⟨x,t,rfl,e⟩
theorem Ae (i:Int) (t:Tok):nU (.inl i) (.int i t)=true:=by simp [nU,Value.isInt]
theorem Af (x:Str) (t:Tok):nU (.inr x) (.str x t)=true:=by simp [nU,Value.isStrOf]
theorem QH (a b:Int):decide ((Sum.inl a:Key)=Sum.inl b)=(a == b):=by
 by_cases e:a=b
 ·subst e;simp
 ·have h:¬ (Sum.inl a:Key)=Sum.inl b:=fun q=>e (Sum.inl.inj q)
  rw [decide_eq_false h]
  exact (beq_eq_false_iff_ne.mpr e).symm
theorem QI (a b:Str):decide ((Sum.inr a:Key)=Sum.inr b)=decide (a=b):=by
 by_cases e:a=b
 ·subst e;simp
 ·have h:¬ (Sum.inr a:Key)=Sum.inr b:=fun q=>e (Sum.inr.inj q)
  rw [decide_eq_false h,decide_eq_false e]
theorem QJ (a:Int) (b:Str):decide ((Sum.inl a:Key)=Sum.inr b)=false:=decide_eq_false (fun q=>nomatch q)
theorem QK (a:Str) (b:Int):decide ((Sum.inr a:Key)=Sum.inl b)=false:=decide_eq_false (fun q=>nomatch q)
def b9 (prog:Program) (w:World):PySem.KeyKind prog w Key where
 is:=nU
 hash:=adt w
 inj:=fun v a b ha hb=>by
  rcases bD ha with ⟨i,t,rfl,rfl⟩ | ⟨x,t,rfl,rfl⟩
  ·rcases bD hb with ⟨j,u,rfl,e⟩ | ⟨y,u,rfl,e⟩
   ·injection e with e1 _;rw [e1]
   ·exact nomatch e
  ·rcases bD hb with ⟨j,u,rfl,e⟩ | ⟨y,u,rfl,e⟩
   ·exact nomatch e
   ·injection e with e1 _;rw [e1]
 byValue:=fun k v h=>by
  rcases bD h with ⟨i,t,rfl,rfl⟩ | ⟨x,t,rfl,rfl⟩<;>rfl
 pyHash:=fun hv h=>by
  rcases bD hv with ⟨i,t,rfl,rfl⟩ | ⟨x,t,rfl,rfl⟩
  ·exact wpAny_pyHash_int h
  ·exact wpAny_pyHash_str h
 eqBool:=fun hu hv h=>by
  rcases bD hu with ⟨i,t,rfl,rfl⟩ | ⟨x,t,rfl,rfl⟩
  ·rcases bD hv with ⟨j,u,rfl,rfl⟩ | ⟨y,u,rfl,rfl⟩
   ·rw [QH] at h;exact wpAny_eqBool_int h
   ·rw [QJ] at h;exact SeqAt.EqAt.int_str i t y u _ _ _ _ h
  ·rcases bD hv with ⟨j,u,rfl,rfl⟩ | ⟨y,u,rfl,rfl⟩
   ·rw [QK] at h;exact SeqAt.EqAt.str_int x t j u _ _ _ _ h
   ·rw [QI] at h;exact wpAny_eqBool_str h
 «strs»:=fun k x t v h=>by
  rcases bD h with ⟨i,u,rfl,e⟩ | ⟨y,u,rfl,e⟩
  ·exact nomatch e
  ·injection e with e1 _
   subst e1
   cases v<;>rfl
theorem rL (prog:Program) (w:World) (i:Int) (t:Tok):(b9 prog w).is (.inl i) (.int i t)=true:=Ae i t
theorem rM (prog:Program) (w:World) (x:Str) (t:Tok):(b9 prog w).is (.inr x) (.str x t)=true:=Af x t
inductive V where
 | non | bl (b:Bool) | int (i:Int) | str (x:Str) | byt (b:Array UInt8) | flt (b:UInt64) | ref (a:Addr) | ty (n:String)
 deriving DecidableEq
def RelV:V->Value->Prop
 | .non,u=>u=Value.none
 | .bl b,u=>u=Value.bool b
 | .int i,u=>∃ t,u=Value.int i t
 | .str x,u=>∃ t,u=Value.str x t
 | .byt b,u=>∃ t,u=Value.bytes b t
 | .flt b,u=>∃ t,u=Value.float b t
 | .ref a,u=>u=Value.ref a
 | .ty n,u=>u=Value.type n
abbrev Vals:List V->List Value->Prop:=Paired RelV
theorem Vals.length {xs:List V}{us:List Value}(r:Vals xs us):xs.length=us.length:=Paired.length r
theorem Vals.get:∀ {xs:List V}{us:List Value}{i:Nat}{x:V},Vals xs us->xs[i]?=some x->∃ u,us[i]?=some u/\RelV x u
 | _,_,_,_,.nil,e=>by simp at e
 | _,_,0,_,.cons r _,e=>by simp at e;subst e;exact ⟨_,rfl,r⟩
 | _,_,i+1,x,.cons _ t,e=>by
  obtain ⟨u,h1,h2⟩:=Vals.get (i:=i) (x:=x) t (by simpa using e)
  exact ⟨u,by simpa using h1,h2⟩
theorem Vals.append:∀ {xs ys:List V}{us ws:List Value},Vals xs us->Vals ys ws->Vals (xs++ys) (us++ws)
 | _,_,_,_,.nil,s=>s
 | _,_,_,_,.cons r t,s=>.cons r (Vals.append t s)
theorem Vals.take:∀ {xs:List V}{us:List Value}(n:Nat),Vals xs us->Vals (xs.take n) (us.take n)
 | _,_,0,_=>.nil
 | _,_,_+1,.nil=>.nil
 | _,_,n+1,.cons r t=>.cons r (Vals.take n t)
theorem Vals.drop:∀ {xs:List V}{us:List Value}(n:Nat),Vals xs us->Vals (xs.drop n) (us.drop n)
 | _,_,0,r=>r
 | _,_,_+1,.nil=>.nil
 | _,_,n+1,.cons _ t=>Vals.drop n t
def iJ:Option V->Option Value->Prop
 | some v,some u=>RelV v u
 | none,none=>True
 | _,_=>False
def KV {κ:Type}:List (κ × V)->List (κ × Value)->Prop:=Paired fun (p:κ × V) (q:κ × Value)=>p.1=q.1/\RelV p.2 q.2
def kV:Key->V
 | .inl i=>.int i
 | .inr x=>.str x
inductive HO where
 | lst (xs:List V)
 | tup (xs:List V)
 | dK (aW:List (Key × V)) | dT (aW:List (List Key × V))
 | set (S:Int->Bool) (n:Nat)
 | ins (C dx:Addr) (fs:List (Str × V))
 | own (x:Addr)
 | xd (fs:List (Str × V))
 | met (f x:Addr)
 | rng (lo hi:Int)
 | iK (o:Obj) (u:HO)
 | tbl (ps:Array Value)
 | ext (φ:Heap->Prop)
abbrev Hp:=Addr->Option HO
def upd (H:Hp) (a:Addr) (o:HO):Hp:=fun b=>if b=a then some o else H b
theorem ak {H:Hp}{a:Addr}{o:HO}:upd H a o a=some o:=by unfold upd;rw [if_pos rfl]
theorem ao {H:Hp}{a b:Addr}{o:HO}(h:b≠a):upd H a o b=H b:=by unfold upd;rw [if_neg h]
theorem yl {H:Hp}{a:Addr}{o u:HO}:upd (upd H a o) a u=upd H a u:=by
 funext b;unfold upd;split<;>rfl
theorem W2 {H:Hp}{a b:Addr}{o u:HO}(h:H a=some o) (h':H b=some u) (d:o≠u):a≠b:=by
 intro e;subst e;rw [h] at h';exact d (nC.inj h')
theorem aM {H:Hp}{a b:Addr}{o:HO}(h:H a=some o) (h':H b=none):a≠b:=by
 intro e;subst e;rw [h] at h';cases h'
section
variable (P:Program) (w:World)
def bO (H:Hp) (h:Heap) (a:Addr):HO->Prop
 | .lst xs=>xs.length<=sizeLine/\∃ (its:List Value) (n:Nat),Vals xs its/\h.get? a=some { cls:=.type "list", data:=.seq its.toArray n }
 | .tup xs=>xs.length<=sizeLine/\∃ its:List Value,Vals xs its/\IsTup h a its.toArray
 | .dK aW=>aW.length<=sizeLine/\(a == sysModules)=false/\∃ vs,KV aW vs/\h.DictOf (b9 P w) a vs
 | .dT aW=>aW.length<=sizeLine/\(a == sysModules)=false/\∃ xs:List (List Key × Addr × Value),
   Paired (fun (p:List Key × V) (q:List Key × Addr × Value)=>p.1=q.1/\H q.2.1=some (.tup (p.1.map kV))/\RelV p.2 q.2.2) aW xs /\
   ∃ o es ep,h.get? a=some o/\o.ExactDict/\o.data=.dict es ep/\es.toList=xs.map (entryOfKey (tupleKind (b9 P w)))/\(xs.map (·.1)).Nodup
 | .set S n=>h.SetOf (intKind P w) a S n
 | .ins C dx fs=>H dx=some (.own a)/\fs.length<=1000/\dx≠a/\h.get? a=some (rG C dx) /\
   ∃ mA,h.Ns1 dx mA/\(∀ f,iJ (fs.lookup f) (mA f))/\PySem.Within mA (fs.map (·.1))
 | .own _=>∃ o,h.get? a=some o
 | .xd fs=>∃ mA,h.Ns1 a mA/\∀ f,iJ (fs.lookup f) (mA f)
 | .rng lo hi=>∃ t u v,h.get? a=some { cls:=.type "range", data:=.fields #[.int lo t,.int hi u,.int 1 v] }
 | .iK o u=>h.get? a=some o/\bO H h a u
 | .tbl ps=>h.get? a=some { cls:=.none,data:=.fields ps }
 | .met f x=>h.get? a=some (Cb (.ref f) (.ref x))
 | .ext φ=>φ h/\(∃ o,h.get? a=some o)/\∀ h1 h2:Heap,φ h1->(∀ o,h1.get? a=some o->h2.get? a=some o)->φ h2
def ik (H:Hp) (h:Heap):Prop:=∀ a o,H a=some o->bO P w H h a o
end
variable {C a dx f x:Addr}{A:Around}{b e o:Expr}{h h':Heap}{H H':Hp}{aa:c9}{es:List Expr}{p pos:Pos}{P:Program}{s:Shared}{E:Value->Shared->Prop}{w:World}
section
variable {o:HO}
theorem bO.lt (x:bO P w H h a o):a<h.objs.size:=by
 cases o with
 | lst xs=>obtain ⟨_,_,_,_,e⟩:=x;exact Heap.lt_size e
 | tup xs=>obtain ⟨_,_,_,p⟩:=x;exact p.lt
 | dK aW=>obtain ⟨_,_,_,_,o,_,_,e,_⟩:=x;exact Heap.lt_size e
 | dT aW=>obtain ⟨_,_,_,_,o,_,_,e,_⟩:=x;exact Heap.lt_size e
 | set S n=>obtain ⟨o,_,_,_,e,_⟩:=x;exact Heap.lt_size e
 | ins C dx fs=>obtain ⟨_,_,_,e,_⟩:=x;exact Heap.lt_size e
 | own y=>obtain ⟨_,e⟩:=x;exact Heap.lt_size e
 | xd fs=>obtain ⟨_,⟨_,_,_,e,_⟩,_⟩:=x;exact Heap.lt_size e
 | rng lo hi=>obtain ⟨_,_,_,e⟩:=x;exact Heap.lt_size e
 | iK ob u=>obtain ⟨e,_⟩:=x;exact Heap.lt_size e
 | tbl ps=>exact Heap.lt_size (show h.get? a=some _ from x)
 | met f y=>exact Heap.lt_size (show h.get? a=some _ from x)
 | ext φ=>obtain ⟨_,⟨_,e⟩,_⟩:=x;exact Heap.lt_size e
theorem Paired.QM {α β:Type}{F G:α->β->Prop}:∀ {l₁:List α}{l₂:List β},Paired F l₁ l₂->(∀ a b,F a b->G a b)->Paired G l₁ l₂
 | _,_,.nil,_=>.nil
 | _,_,.cons r t,f=>.cons (f _ _ r) (Paired.QM t f)
theorem bO.pC (x:bO P w H h a o) (k:∀ b u,(b=a\/H b=some (.own a))->h.get? b=some u->h'.get? b=some u)
  (ho:∀ b,H b=some (.own a)->H' b=some (.own a)) (ht:∀ b xs,H b=some (.tup xs)->H' b=some (.tup xs)):bO P w H' h' a o:=by
 induction o with
 | lst xs=>obtain ⟨z,its,n,r,e⟩:=x;exact ⟨z,its,n,r,k _ _ (.inl rfl) e⟩
 | tup xs=>obtain ⟨z,its,r,ob,e,c⟩:=x;exact ⟨z,its,r,ob,k _ _ (.inl rfl) e,c⟩
 | dK aW=>obtain ⟨z,y,vs,r,ob,es,ep,e,c⟩:=x;exact ⟨z,y,vs,r,ob,es,ep,k _ _ (.inl rfl) e,c⟩
 | dT aW=>
  obtain ⟨z,y,xs,r,ob,es,ep,e,c⟩:=x
  exact ⟨z,y,xs,Paired.QM r fun p q z=>⟨z.1,ht _ _ z.2.1,z.2.2⟩,ob,es,ep,k _ _ (.inl rfl) e,c⟩
 | set S n=>obtain ⟨ob,es,ep,t,e,c⟩:=x;exact ⟨ob,es,ep,t,k _ _ (.inl rfl) e,c⟩
 | ins C dx fs=>
  obtain ⟨d,z,ne,e,mA,⟨od,es,ep,e2,c⟩,r⟩:=x
  exact ⟨ho _ d,z,ne,k _ _ (.inl rfl) e,mA,⟨od,es,ep,k _ _ (.inr d) e2,c⟩,r⟩
 | own y=>obtain ⟨ob,e⟩:=x;exact ⟨ob,k _ _ (.inl rfl) e⟩
 | xd fs=>obtain ⟨mA,⟨od,es,ep,e,c⟩,r⟩:=x;exact ⟨mA,⟨od,es,ep,k _ _ (.inl rfl) e,c⟩,r⟩
 | rng lo hi=>obtain ⟨t,u,v,e⟩:=x;exact ⟨t,u,v,k _ _ (.inl rfl) e⟩
 | iK ob u ih=>obtain ⟨e,q⟩:=x;exact ⟨k _ _ (.inl rfl) e,ih q⟩
 | tbl ps=>
  have e:h.get? a=some { cls:=.none,data:=.fields ps }:=x
  show h'.get? a=some { cls:=.none,data:=.fields ps }
  exact k a _ (.inl rfl) e
 | met f y=>
  have e:h.get? a=some (Cb (.ref f) (.ref y)):=x
  show h'.get? a=some (Cb (.ref f) (.ref y))
  exact k a _ (.inl rfl) e
 | ext φ=>obtain ⟨p,⟨o,e⟩,st⟩:=x;exact ⟨st _ _ p fun o q=>k _ _ (.inl rfl) q,⟨o,k _ _ (.inl rfl) e⟩,st⟩
theorem ik.lt (x:ik P w H h) (e:H a=some o):a<h.objs.size:=(x a o e).lt
theorem ik.fresh (x:ik P w H h) (e:h.objs.size<=a):H a=none:=by
 cases q:H a with
 | none=>rfl
 | some u=>exact absurd (gx (x.lt q) e) (pA _)
theorem ik.kept (x:ik P w H h) (k:∀ b u,h.get? b=some u->h'.get? b=some u):ik P w H h':=fun a o e=>
 (x a o e).pC (fun b u _ q=>k b u q) (fun _ q=>q) fun _ _ q=>q
theorem ik.laid (x:ik P w H h) (k:∀ b u,h.get? b=some u->h'.get? b=some u) (hp:h.objs.size<=a) (new:bO P w (upd H a o) h' a o):ik P w (upd H a o) h':=fun b u e=>by
 have hn:=x.fresh hp
 by_cases hb:b=a
 ·subst hb;rw [ak] at e;cases e;exact new
 ·rw [ao hb] at e
  exact (x b u e).pC (fun c v _ q=>k c v q) (fun c q=>by rw [ao (aM q hn)];exact q) fun c xs q=>by rw [ao (aM q hn)];exact q
end
def Rd (H:Hp) (a:Addr) (u:HO):Prop:=H a=some u\/∃ o,H a=some (.iK o u)
theorem Rd.ok {P:Program}{w:World}{H:Hp}{h:Heap}{a:Addr}{u:HO}(r:Rd H a u) (x:ik P w H h):bO P w H h a u:=by
 rcases r with r | ⟨o,r⟩
 ·exact x a u r
 ·obtain ⟨_,q⟩:=x a _ r
  exact q
def W3:Option HO->Prop
 | some (.lst _)=>True
 | some (.dK _)=>True
 | some (.dT _)=>True
 | some (.set _ _)=>True
 | some (.ins _ _ _)=>True
 | some (.ext _)=>True
 | _=>False
section
variable {e:Addr}{o':HO}
theorem ik.write (ok:ik P w H h) (mu:W3 (H x)) (he:e=x\/H e=some (.own x)) (k:∀ b u,b≠e->h.get? b=some u->h'.get? b=some u) (Ww:∃ u,h'.get? e=some u)
  (new:bO P w (upd H x o') h' x o'):ik P w (upd H x o') h':=fun b u q=>by
 have W4:∀ c y,H c=some (.own y)->c≠x:=fun c y r z=>by subst z;rw [r] at mu;exact mu
 have adu:∀ c xs,H c=some (.tup xs)->c≠x:=fun c xs r z=>by subst z;rw [r] at mu;exact mu
 by_cases hb:b=x
 ·subst hb;rw [ak] at q;cases q;exact new
 ·rw [ao hb] at q
  by_cases hbe:b=e
  ·have q':H b=some (.own x):=by
    rcases he with z | z
    ·exact absurd (hbe.trans z) hb
    ·rw [hbe];exact z
   rw [q] at q';cases q'
   obtain ⟨v,hv⟩:=Ww
   exact ⟨v,by rw [hbe];exact hv⟩
  ·refine (ok b u q).pC (fun c v hc r=>k c v ?_ r) (fun c r=>by rw [ao (W4 c b r)];exact r) fun c xs r=>by rw [ao (adu c xs r)];exact r
   rcases hc with rfl | hc
   ·exact hbe
   ·rintro rfl
    rcases he with z | z
    ·exact W4 c b hc z
    ·rw [hc] at z;cases z;exact hb rfl
end
structure Un (fs ex:List Addr) (H H':Hp) (h h':Heap):Prop where
 keep:∀ b o,h.get? b=some o->H b=none->b ∉ fs->b ∉ ex->h'.get? b=some o
 slot:∀ b o,h.get? b=some o->H b=none->b∈fs->b ∉ ex->∃ sl,h'.get? b=some { o with slots:=sl }
 free:∀ b o,h.get? b=some o->H b=none->b ∉ ex->H' b=none
 there:∀ b o,h.get? b=some o->b ∉ ex->∃ o',h'.get? b=some o'
 nE:∀ b xs,H b=some (.tup xs)->H' b=some (.tup xs)
 lq:∀ b o u,H b=some (.iK o u)->H' b=some (.iK o u)
 nF:∀ b ps,H b=some (.tbl ps)->∃ more,H' b=some (.tbl (ps++more))
section
variable {fs vB ex ex':List Addr}{H1 H2:Hp}{h1 h2:Heap}{e:Addr}{o:HO}
theorem Un.any (u:Un fs ex H H1 h h1) {b:Addr}{ob:Obj}(q:h.get? b=some ob) (n:H b=none) (hx:b ∉ ex):∃ sl,h1.get? b=some { ob with slots:=sl }:=by
 by_cases hb:b∈fs
 ·exact u.slot b ob q n hb hx
 ·exact ⟨ob.slots,u.keep b ob q n hb hx⟩
theorem Un.kept (k:∀ b u,h.get? b=some u->h'.get? b=some u):Un fs ex H H h h':=
 ⟨fun b ob q _ _ _=>k b ob q,fun b ob q _ _ _=>⟨ob.slots,k b ob q⟩,fun _ _ _ n _=>n,fun b ob q _=>⟨ob,k b ob q⟩,fun _ _ q=>q,fun _ _ _ q=>q,fun _ ps q=>⟨#[],by rw [q];simp⟩⟩
theorem Un.refl:Un fs ex H H h h:=Un.kept fun _ _ q=>q
theorem Un.laid (k:∀ b u,h.get? b=some u->h'.get? b=some u) (hp:h.objs.size<=a) (hn:H a=none):Un fs ex H (upd H a o) h h' where
 keep:=fun b u q _ _ _=>k b u q
 slot:=fun b u q _ _ _=>⟨u.slots,k b u q⟩
 free:=fun b u q n _=>by rw [ao (dh (gx (Heap.lt_size q) hp))];exact n
 there:=fun b u q _=>⟨u,k b u q⟩
 nE:=fun b xs q=>by rw [ao (aM q hn)];exact q
 lq:=fun b u xs q=>by rw [ao (aM q hn)];exact q
 nF:=fun b ps q=>⟨#[],by rw [ao (aM q hn),q];simp⟩
theorem Un.write (mu:W3 (H x)) (he:e=x\/H e=some (.own x)) (k:∀ b u,b≠e->h.get? b=some u->h'.get? b=some u) (Ww:∃ u,h'.get? e=some u):Un fs ex H (upd H x o) h h':=by
 have hx:∀ b,H b=none->b≠x:=fun b n z=>by subst z;rw [n] at mu;exact mu
 have hb:∀ b,H b=none->b≠e:=fun b n z=>by
  subst z
  rcases he with r | r
  ·exact hx b n r
  ·rw [n] at r;cases r
 have hm:∀ b u,H b=some u->¬ W3 (some u)->b≠x:=fun b u q nm z=>by subst z;rw [q] at mu;exact nm mu
 refine ⟨fun b u q n _ _=>k b u (hb b n) q,fun b u q n _ _=>⟨u.slots,k b u (hb b n) q⟩,fun b u q n _=>by rw [ao (hx b n)];exact n,fun b u q _=>?_,
  fun b xs q=>by rw [ao (hm b _ q fun z=>z)];exact q,fun b u xs q=>by rw [ao (hm b _ q fun z=>z)];exact q,fun b ps q=>⟨#[],by rw [ao (hm b _ q fun z=>z),q];simp⟩⟩
 by_cases hbe:b=e
 ·subst hbe;exact Ww
 ·exact ⟨u,k b u hbe q⟩
end
def Iw (h:Heap) (H:Hp):List Addr:=(pe h.objs.size).filter fun a=>(H a).isSome
def pD (h:Heap) (H:Hp):Heap:=PySem.W.hideAll h (Iw h H)
theorem Ag (h:Heap) (H:Hp):(pD h H).objs.size=h.objs.size:=PySem.W.hideAll_size _ _
theorem C9 {h:Heap}{H:Hp}{b:Addr}{o:Obj}(e:h.get? b=some o) (n:H b=none):(pD h H).get? b=some o:=
 PySem.W.hideAll_get _ e fun hm=>by
  have q:(H b).isSome=true:=(NI.mp hm).2
  rw [n] at q;simp at q
theorem Iz {h:Heap}{H:Hp}{b:Addr}{o:Obj}(e:(pD h H).get? b=some o):h.get? b=some o/\H b=none:=by
 have e':h.get? b=some o:=PySem.W.of_hideAll (Iw h H) e
 refine ⟨e',?_⟩
 cases q:H b with
 | none=>rfl
 | some x=>
  have hm:b∈Iw h H:=NI.mpr ⟨Il.mpr (Heap.lt_size e'),by simp [q]⟩
  have z:(pD h H).get? b=none:=PySem.W.hideAll_none (Iw h H) hm
  rw [z] at e;cases e
def IA (g h:Heap) (L:Addr):c9:=(pe h.objs.size).filterMap fun a=>if a=L\/(g.get? a).isSome=true then none else (h.get? a).map fun o=>(a,o)
def rest (g h:Heap) (L d:Addr):c9:=(IA g h L).filter fun p=>decide (p.1≠d)
structure Mod (K:bg) (mg:Str->Option Value) (base:Heap):Prop where
 kin:K.In base
 glob:base.Ns mainGlobals mg
 blt:∃ mb,base.Ns builtinsNs mb/\∀ x:Str,x ≠ "__name__" -> mb x=bootBuiltins x
 nolimit:base.NoLimit
structure Cx where
 prog:Program
 w:World
 K:bg
 mg:Str->Option Value
 base:Heap
 A:Around
 N:List Str
 s₀:Shared
 H₀:Hp
 env:Env
 outer:List Env
 stack:List Env
 ex:List Addr
 fn:Str->Bool
 calm:Bool
 pn:c9
 xe:Value->Shared->Prop
def nk (l:List Env):List Addr:=l.filterMap (·.frame)
abbrev Cx.fs (X:Cx):List Addr:=nk X.outer
def nq (sc:Scope) (x:Str):Prop:=sc.names.lookup x=some .local\/sc.names.lookup x=some .cell\/sc.names.lookup x=some .free
def Loc (sc:Scope) (x:Str):Prop:=sc.names.lookup x=some .local\/sc.names.lookup x=some .cell
def Look (env:Env) (h:Heap) (m:Str->Option Value) (x:Str) (u:Value):Prop:=
 (env.kindOf x=some .local/\m x=some u)\/((env.kindOf x=some .cell\/env.kindOf x=some .free)/\∃ c,env.cells.lookup x=some c/\h.IsCell c (some u))
structure Cx.Ok (X:Cx):Prop where
 mod:Mod X.K X.mg X.base
 kind:X.env.scope.kind=.function
 glob:X.env.globals=mainGlobals
 blt:X.env.builtins=builtinsNs
 above:X.s₀.heap.objs.size<=X.env.locals
 inj:∀ x y c,X.env.cells.lookup x=some c->X.env.cells.lookup y=some c->x=y
 has:∀ x,(X.env.kindOf x=some .cell\/X.env.kindOf x=some .free)->∃ c,X.env.cells.lookup x=some c
 cab:∀ x c,X.fn x=true->X.env.cells.lookup x=some c->X.s₀.heap.objs.size<=c
 hd:X.calm=true->X.A.handled=none
 frames:X.A.frames=some X.stack
 stk:X.stack=X.outer\/(X.stack=X.env::X.outer/\X.env.frame=some X.env.locals)
 exf:∀ b∈X.ex,b≠X.env.locals/\∀ x c,X.env.cells.lookup x=some c->c≠b
 bs:∀ b o,X.base.get? b=some o->X.s₀.heap.get? b=some o/\X.H₀ b=none
 bsz:X.base.objs.size<=X.s₀.heap.objs.size
 noex:∀ b o,X.base.get? b=some o->b ∉ X.ex
 exfs:∀ b∈X.ex,b ∉ X.fs
 iL:X.s₀.heap.FunFrames X.base X.outer
 frf:∀ b∈X.fs,X.H₀ b=none
structure Inv (X:Cx) (aa:c9) (σ:List (Option V)) (H:Hp) (s:Shared):Prop where
 ok:X.Ok
 os:s.os=X.s₀.os
 bare:AllBare s.gens
 base:Un X.fs X.ex X.H₀ H X.s₀.heap s.heap
 loc:∃ m,s.heap.Ns X.env.locals m/\∀ (i:Nat) (x:Str) (v:V),X.N[i]?=some x->σ[i]?=some (some v)->nq X.env.scope x->∃ u,RelV v u/\Look X.env s.heap m x u
 cell:∀ x c,X.env.cells.lookup x=some c->∃ v,s.heap.IsCell c v
 free:H X.env.locals=none
 freeC:∀ x c,X.env.cells.lookup x=some c->H c=none
 pin:∀ p∈X.pn++aa,s.heap.get? p.1=some p.2/\H p.1=none/\p.1≠X.env.locals/\p.1 ∉ X.fs/\∀ v,p.2.data≠.cell v
 bG:ik X.prog X.w H s.heap
 len:σ.length=X.N.length
section
variable {X:Cx}{σ:List (Option V)}
theorem Cx.Ok.adv (ok:X.Ok) {b:Addr}{o:Obj}(e:X.base.get? b=some o):b ∉ X.fs:=fun hb=>by
 have:=(ok.iL.mem hb).1
 rw [e] at this;cases this
theorem Inv.bs (I:Inv X aa σ H s):∀ b o,X.base.get? b=some o->s.heap.get? b=some o/\H b=none:=fun b o e=>
 ⟨I.base.keep b o (I.ok.bs b o e).1 (I.ok.bs b o e).2 (I.ok.adv e) (I.ok.noex b o e),I.base.free b o (I.ok.bs b o e).1 (I.ok.bs b o e).2 (I.ok.noex b o e)⟩
theorem Inv.bk (I:Inv X aa σ H s):∀ b o,X.base.get? b=some o->s.heap.get? b=some o:=fun b o e=>(I.bs b o e).1
theorem Inv.mod (I:Inv X aa σ H s):Mod X.K X.mg X.base:=I.ok.mod
theorem Inv.gS (I:Inv X aa σ H s):X.K.In s.heap:=I.ok.mod.kin.keeps I.bk
theorem Inv.lt (I:Inv X aa σ H s):X.env.locals<s.heap.objs.size:=let ⟨_,hn,_⟩:=I.loc;hn.lt
theorem Inv.sz (I:Inv X aa σ H s):X.s₀.heap.objs.size<=s.heap.objs.size:=ig I.ok.above (C0 I.lt)
theorem Inv.adw (I:Inv X aa σ H s) {a:Addr}(h:s.heap.objs.size<=a):a ∉ X.fs:=fun hb=>by
 obtain ⟨_,o,ho,_⟩:=I.ok.iL.mem hb
 exact absurd (gx (Heap.lt_size ho) (ig I.sz h)) (pA _)
theorem Inv.IB (I:Inv X aa σ H s):∀ x c,X.env.cells.lookup x=some c->c≠X.env.locals:=fun x c e z=>by
 obtain ⟨v,o,ho,hd⟩:=I.cell x c e
 obtain ⟨m,⟨o',es,ep,BW,Wx,_⟩,_⟩:=I.loc
 rw [z,BW] at ho;cases ho;rw [Wx] at hd;cases hd
theorem Inv.iL (I:Inv X aa σ H s):s.heap.FunFrames X.base X.outer:=by
 have all:∀ (l:List Env),(∀ b∈nk l,b∈X.fs)->X.s₀.heap.FunFrames X.base l->s.heap.FunFrames X.base l:=by
  intro l
  induction l with
  | nil=>intro _ _;trivial
  | cons env r ih=>
   intro hs hl
   obtain ⟨hk,⟨L,o,hf,hn,ho,hd⟩,hr⟩:=hl
   have hL:L∈X.fs:=hs L (by unfold nk;rw [zZ,hf];exact eK)
   obtain ⟨sl,e⟩:=I.base.slot L o ho (I.ok.frf L hL) hL fun z=>I.ok.exfs L z hL
   exact ⟨hk,⟨L,_,hf,hn,e,hd⟩,ih (fun b hb=>hs b (by unfold nk;rw [zZ,hf];exact fG _ hb)) hr⟩
 exact all X.outer (fun _ hb=>hb) I.ok.iL
theorem Inv.stack (I:Inv X aa σ H s):s.heap.FunFrames X.base X.stack:=by
 rcases I.ok.stk with e | ⟨e,hf⟩
 ·rw [e];exact I.iL
 ·rw [e]
  obtain ⟨m,hn,_⟩:=I.loc
  refine .cons (by rw [I.ok.kind];decide) hf hn ?_ I.iL
  exact Heap.get?_none_of_le (ig I.ok.bsz I.ok.above)
theorem Inv.lr (I:Inv X aa σ H s):∀ b∈nk X.stack,b∈X.env.locals::X.fs:=fun b hb=>by
 rcases I.ok.stk with e | ⟨e,hf⟩
 ·rw [e] at hb;exact fG _ hb
 ·rw [e] at hb
  unfold nk at hb
  rw [zZ,hf] at hb
  exact hb
theorem Inv.pF (I:Inv X aa σ H s):∀ b∈nk X.stack,H b=none:=fun b hb=>by
 rcases fB.mp (I.lr b hb) with e | hb
 ·rw [e];exact I.free
 ·obtain ⟨_,o,ho,_⟩:=I.ok.iL.mem hb
  exact I.base.free b o ho (I.ok.frf b hb) fun z=>I.ok.exfs b z hb
theorem Inv.step {g':Array GenState}{t':Nat}{d':Drawn}{ch:List Addr}(I:Inv X aa σ H s)
  (BX:∀ b∈ch,(b∈X.ex\/X.s₀.heap.objs.size<=b)/\b≠X.env.locals/\(∀ x c,X.env.cells.lookup x=some c->c≠b)/\∀ p∈X.pn++aa,p.1≠b)
  (keep:∀ b o,b≠X.env.locals->b ∉ X.fs->b ∉ ch->s.heap.get? b=some o->H b=none->h'.get? b=some o)
  (slot:∀ b o,b≠X.env.locals->b∈X.fs->b ∉ ch->s.heap.get? b=some o->H b=none->∃ sl,h'.get? b=some { o with slots:=sl }) (free:∀ b o,b ∉ ch->s.heap.get? b=some o->H b=none->H' b=none)
  (there:∀ b o,b ∉ ch->s.heap.get? b=some o->∃ o',h'.get? b=some o')
  (nE:∀ b xs,H b=some (.tup xs)->H' b=some (.tup xs)) (lq:∀ b o u,H b=some (.iK o u)->H' b=some (.iK o u)) (nF:∀ b ps,H b=some (.tbl ps)->∃ more,H' b=some (.tbl (ps++more)))
  (ns:∀ m,s.heap.Ns X.env.locals m->h'.Ns X.env.locals m) (bG:ik X.prog X.w H' h') (hg:AllBare g') :
  Inv X aa σ H' { s with heap:=h',gens:=g',drawn:=d',toks:=t' }:=by
 have neL:∀ b o,X.s₀.heap.get? b=some o->b≠X.env.locals:=fun b o e=>dh (gx (Heap.lt_size e) I.ok.above)
 have neC:∀ b o,X.s₀.heap.get? b=some o->b ∉ X.ex->b ∉ ch:=fun b o e hx hb=>by
  rcases (BX b hb).1 with z | z
  ·exact hx z
  ·exact absurd (gx (Heap.lt_size e) z) (pA _)
 have cellK:∀ x c,X.env.cells.lookup x=some c->∀ v,s.heap.IsCell c v->h'.IsCell c v:=fun x c e v zz=>by
  obtain ⟨o,ho,hd⟩:=zz
  have W5:c ∉ ch:=fun z=>(BX c z).2.2.1 x c e rfl
  by_cases hc:c∈X.fs
  ·obtain ⟨sl,q⟩:=slot c o (I.IB x c e) hc W5 ho (I.freeC x c e)
   exact ⟨_,q,hd⟩
  ·exact ⟨o,keep c o (I.IB x c e) hc W5 ho (I.freeC x c e),hd⟩
 refine ⟨I.ok,I.os,hg,⟨fun b o e n hb hx=>?_,fun b o e n hb hx=>?_,fun b o e n hx=>?_,fun b o e hx=>?_,fun b xs e=>nE b xs (I.base.nE b xs e),fun b o xs e=>lq b o xs (I.base.lq b o xs e),fun b ps e=>?_⟩,?_,fun x c e=>?_,?_,fun x c e=>?_,fun p hp=>?_,bG,I.len⟩
 ·exact keep b o (neL b o e) hb (neC b o e hx) (I.base.keep b o e n hb hx) (I.base.free b o e n hx)
 ·obtain ⟨sl,e1⟩:=I.base.slot b o e n hb hx
  obtain ⟨W6,e2⟩:=slot b _ (neL b o e) hb (neC b o e hx) e1 (I.base.free b o e n hx)
  exact ⟨W6,e2⟩
 ·obtain ⟨o',e1⟩:=I.base.there b o e hx
  exact free b o' (neC b o e hx) e1 (I.base.free b o e n hx)
 ·obtain ⟨o',e1⟩:=I.base.there b o e hx
  exact there b o' (neC b o e hx) e1
 ·obtain ⟨m1,e1⟩:=I.base.nF b ps e
  obtain ⟨m2,e2⟩:=nF b _ e1
  exact ⟨m1++m2,by rw [e2,Array.append_assoc]⟩
 ·obtain ⟨m,hn,hl⟩:=I.loc
  refine ⟨m,ns m hn,fun i x v e1 e2 e3=>?_⟩
  obtain ⟨u,r,l⟩:=hl i x v e1 e2 e3
  refine ⟨u,r,?_⟩
  rcases l with l | ⟨k,c,e,z⟩
  ·exact .inl l
  ·exact .inr ⟨k,c,e,cellK x c e _ z⟩
 ·obtain ⟨v,z⟩:=I.cell x c e
  exact ⟨v,cellK x c e v z⟩
 ·obtain ⟨m,⟨o,_,_,ho,_⟩,_⟩:=I.loc
  exact free _ o (fun z=>(BX _ z).2.1 rfl) ho I.free
 ·obtain ⟨v,o,ho,hd⟩:=I.cell x c e
  exact free c o (fun z=>(BX c z).2.2.1 x c e rfl) ho (I.freeC x c e)
 ·obtain ⟨e,n,ne,nf,d⟩:=I.pin p hp
  have W5:p.1 ∉ ch:=fun z=>(BX p.1 z).2.2.2 p hp rfl
  exact ⟨keep p.1 p.2 ne nf W5 e n,free p.1 p.2 W5 e n,ne,nf,d⟩
theorem Inv.un {t':Nat}(I:Inv X aa σ H s) (u:Un X.fs [] H H' s.heap h') (bG:ik X.prog X.w H' h'):Inv X aa σ H' { s with heap:=h',toks:=t' }:=by
 obtain ⟨m,⟨o,es,ep,ho,r⟩,_⟩:=id I.loc
 obtain ⟨sl,hL⟩:=u.any ho I.free (by simp)
 exact I.step (g':=s.gens) (d':=s.drawn) (ch:=[]) (fun _ z=>nomatch z) (fun b o _ hb _ e n=>u.keep b o e n hb (by simp)) (fun b o _ hb _ e n=>u.slot b o e n hb (by simp)) (fun b o _ e n=>u.free b o e n (by simp)) (fun b o _ e=>u.there b o e (by simp)) u.nE u.lq u.nF (fun m' hm=>by
  obtain ⟨o',es',ep',BW,r'⟩:=hm
  rw [ho] at BW;cases BW
  exact ⟨_,es',ep',hL,r'⟩) bG I.bare
theorem Inv.call {g':Array GenState}{t':Nat}{d':Drawn}{ch:List Addr}(I:Inv X aa σ H s) (u:Un (nk X.stack) ch H H' s.heap h') (bG:ik X.prog X.w H' h') (hg:AllBare g')
  (BX:∀ b∈ch,(b∈X.ex\/X.s₀.heap.objs.size<=b)/\b≠X.env.locals/\(∀ x c,X.env.cells.lookup x=some c->c≠b)/\∀ p∈X.pn++aa,p.1≠b) :
  Inv X aa σ H' { s with heap:=h',gens:=g',drawn:=d',toks:=t' }:=by
 obtain ⟨m,⟨o,es,ep,ho,r⟩,_⟩:=id I.loc
 obtain ⟨sl,hL⟩:=u.any ho I.free fun z=>(BX _ z).2.1 rfl
 exact I.step (ch:=ch) BX (fun b o hL hb hc e n=>u.keep b o e n (fun z=>(fB.mp (I.lr b z)).elim hL hb) hc) (fun b o _ _ hc e n=>u.any e n hc) (fun b o hc e n=>u.free b o e n hc) (fun b o hc e=>u.there b o e hc) u.nE u.lq u.nF (fun m' hm=>by
  obtain ⟨o',es',ep',BW,r'⟩:=hm
  rw [ho] at BW;cases BW
  exact ⟨_,es',ep',hL,r'⟩) bG hg
theorem Inv.turned {t':Nat}{it:Addr}(I:Inv X aa σ H s) (k:∀ b o,b≠it->s.heap.get? b=some o->h'.get? b=some o) (hn:H it=none) (hL:it≠X.env.locals)
  (h1:it∈X.ex\/X.s₀.heap.objs.size<=it) (h2:∀ x c,X.env.cells.lookup x=some c->c≠it) (h3:∀ p∈X.pn++aa,p.1≠it):Inv X aa σ H { s with heap:=h',toks:=t' }:=by
 have nit:∀ b u,H b=some u->b≠it:=fun b u e z=>by rw [z,hn] at e;cases e
 refine I.step (g':=s.gens) (d':=s.drawn) (ch:=[it]) (fun b hb=>?_) (fun b o _ _ hc e _=>k b o (fun z=>hc (by simp [z])) e) (fun b o _ _ hc e _=>⟨o.slots,k b o (fun z=>hc (by simp [z])) e⟩) (fun _ _ _ _ n=>n)
  (fun b o hc e=>⟨o,k b o (fun z=>hc (by simp [z])) e⟩) (fun _ _ e=>e) (fun _ _ _ e=>e) (fun b ps e=>⟨#[],by rw [e];simp⟩) (fun m hm=>?_) (fun b u e=>?_) I.bare
 ·have e:b=it:=by simpa using hb
  subst e
  exact ⟨h1,hL,h2,h3⟩
 ·obtain ⟨o,es,ep,ho,r⟩:=hm
  exact ⟨o,es,ep,k _ o (Ne.symm hL) ho,r⟩
 ·refine (I.bG b u e).pC (fun c v hc q=>k c v ?_ q) (fun _ q=>q) fun _ _ q=>q
  rcases hc with z | z
  ·rw [z];exact nit b u e
  ·exact nit c _ z
theorem Inv.tok (I:Inv X aa σ H s) (t:Nat):Inv X aa σ H { s with toks:=t }:=I.un (h':=s.heap) (t':=t) Un.refl I.bG
theorem Inv.kept {t':Nat}(I:Inv X aa σ H s) (k:∀ b u,s.heap.get? b=some u->h'.get? b=some u):Inv X aa σ H { s with heap:=h',toks:=t' }:=I.un (Un.kept k) (I.bG.kept k)
theorem Inv.laid {a:Addr}{o:HO}{t':Nat}(I:Inv X aa σ H s) (k:∀ b u,s.heap.get? b=some u->h'.get? b=some u) (hp:s.heap.objs.size<=a) (new:bO X.prog X.w (upd H a o) h' a o) :
  Inv X aa σ (upd H a o) { s with heap:=h',toks:=t' }:=I.un (Un.laid k hp (I.bG.fresh hp)) (I.bG.laid k hp new)
theorem Inv.write {x e:Addr}{o:HO}{t':Nat}(I:Inv X aa σ H s) (mu:W3 (H x)) (he:e=x\/H e=some (.own x)) (k:∀ b u,b≠e->s.heap.get? b=some u->h'.get? b=some u) (Ww:∃ u,h'.get? e=some u)
  (new:bO X.prog X.w (upd H x o) h' x o):Inv X aa σ (upd H x o) { s with heap:=h',toks:=t' }:=I.un (Un.write mu he k Ww) (I.bG.write mu he k Ww new)
theorem Inv.weak {σ':List (Option V)}(I:Inv X aa σ H s) (hl:σ'.length=σ.length) (w:∀ (i:Nat) v,σ'[i]?=some (some v)->σ[i]?=some (some v)):Inv X aa σ' H s:=
 ⟨I.ok,I.os,I.bare,I.base,let ⟨m,hn,Oa⟩:=I.loc;⟨m,hn,fun i x v e1 e2 e3=>Oa i x v e1 (w i v e2) e3⟩,I.cell,I.free,I.freeC,I.pin,I.bG,hl.trans I.len⟩
theorem Inv.pG {Oc:c9}(I:Inv X aa σ H s) (h:∀ p∈Oc,s.heap.get? p.1=some p.2/\H p.1=none/\p.1≠X.env.locals/\p.1 ∉ X.fs/\∀ v,p.2.data≠.cell v):Inv X Oc σ H s:=
 ⟨I.ok,I.os,I.bare,I.base,I.loc,I.cell,I.free,I.freeC,fun p hp=>(iG.mp hp).elim (fun z=>I.pin p (Cs _ z)) (h p),I.bG,I.len⟩
theorem lz {N:List Str}(hN:N.Nodup) {i j:Nat}{x:Str}(a:N[i]?=some x) (b:N[j]?=some x):i=j:=by
 obtain ⟨h1,e1⟩:=du.mp a
 obtain ⟨h2,e2⟩:=du.mp b
 exact (List.getElem_inj hN).mp (e1.trans e2.symm)
theorem nV {M:Model}{A:Around}{E:Value->Shared->Prop}{i:Nat}{x:Str}{v:V}{u:Value}{Q:Unit->Shared->Prop}(I:Inv X aa σ H s) (hN:X.N.Nodup) (hi:X.N[i]?=some x) (hx:Loc X.env.scope x) (r:RelV v u)
  (h:∀ s',Inv X aa (σ.set i (some v)) H s'->(∃ a,Heap.SameBut a s.heap s'.heap/\(a=X.env.locals\/X.env.cells.lookup x=some a))->Q () s') (hf:X.fn x=true\/X.env.scope.names.lookup x=some .local:=by first | exact .inl rfl | exact .inr rfl | assumption):wpAny M A (storeName X.env x u) Q E s:=by
 obtain ⟨m,hn,hl⟩:=id I.loc
 have QN:(X.env.scope.kind == .class || (X.env.scope.kind == .module&&X.env.locals != X.env.globals))=false:=by rw [I.ok.kind];rfl
 have hiσ:i<σ.length:=by rw [I.len];exact (du.mp hi).1
 have IB:=I.IB
 have tracked:∀ {a:Addr} {h':Heap},(∃ o,s.heap.get? a=some o/\H a=none)->Heap.SameBut a s.heap h'->ik X.prog X.w H h':=fun {a h'} ha hs b ob e=>by
  obtain ⟨_,_,nW⟩:=ha
  refine (I.bG b ob e).pC (fun c w' hc q=>(hs.2 c ?_).trans q) (fun _ q=>q) fun _ _ q=>q
  rintro rfl
  rcases hc with rfl | hc
  ·rw [nW] at e;cases e
  ·rw [nW] at hc;cases hc
 rcases hx with hk | hk
 ·refine wpAny_storeName_local hk hn (fun h' hn' hs=>?_) QN
  obtain ⟨oL,_,_,hoL,_⟩:=id hn
  refine h _ ⟨I.ok,I.os,I.bare,⟨fun b o e n hb hx=>?_,fun b o e n hb hx=>?_,I.base.free,fun b o e hx=>?_,I.base.nE,I.base.lq,I.base.nF⟩,⟨_,hn',fun j y v' e1 e2 e3=>?_⟩,fun y c e=>?_,I.free,I.freeC,fun p hp=>?_,tracked ⟨oL,hoL,I.free⟩ hs,by simpa using I.len⟩ ⟨_,hs,.inl rfl⟩
  ·exact (hs.2 b (dh (gx (Heap.lt_size e) I.ok.above))).trans (I.base.keep b o e n hb hx)
  ·obtain ⟨sl,e1⟩:=I.base.slot b o e n hb hx
   exact ⟨sl,(hs.2 b (dh (gx (Heap.lt_size e) I.ok.above))).trans e1⟩
  ·obtain ⟨o',e1⟩:=I.base.there b o e hx
   exact ⟨o',(hs.2 b (dh (gx (Heap.lt_size e) I.ok.above))).trans e1⟩
  ·by_cases hj:j=i
   ·subst hj
    rw [hi] at e1;cases e1
    rw [gq hiσ] at e2
    cases e2
    exact ⟨u,r,.inl ⟨hk,by simp⟩⟩
   ·rw [gh (Ne.symm hj)] at e2
    obtain ⟨u',r',q⟩:=hl j y v' e1 e2 e3
    refine ⟨u',r',?_⟩
    rcases q with ⟨k,e⟩ | ⟨k,c,e,z⟩
    ·refine .inl ⟨k,?_⟩
     have:y≠x:=fun e=>hj (lz hN e1 (e ▸ hi))
     simp [this,e]
    ·exact .inr ⟨k,c,e,z.sameBut hs (IB y c e)⟩
  ·obtain ⟨w',z⟩:=I.cell y c e
   exact ⟨w',z.sameBut hs (IB y c e)⟩
  ·obtain ⟨e,n,ne,nf,d⟩:=I.pin p hp
   exact ⟨(hs.2 p.1 ne).trans e,n,ne,nf,d⟩
 ·have W7:X.fn x=true:=by
   rcases hf with z | z
   ·exact z
   ·rw [z] at hk;cases hk
  obtain ⟨c,hc⟩:=I.ok.has x (.inl hk)
  obtain ⟨w',z⟩:=I.cell x c hc
  refine wpAny_storeName_cell I.ok.kind hk hc z (fun h' Wy hs=>?_)
  obtain ⟨oc,hoc,adx⟩:=id z
  refine h { s with heap:=h' } ⟨I.ok,I.os,I.bare,⟨fun b o e n hb hx=>?_,fun b o e n hb hx=>?_,I.base.free,fun b o e hx=>?_,I.base.nE,I.base.lq,I.base.nF⟩,⟨m,hn.sameBut hs (Ne.symm (IB x c hc)),fun j y v' e1 e2 e3=>?_⟩,fun y c' e=>?_,I.free,I.freeC,fun p hp=>?_,tracked ⟨oc,hoc,I.freeC x c hc⟩ hs,by simpa using I.len⟩ ⟨c,hs,.inr hc⟩
  ·exact (hs.2 b (dh (gx (Heap.lt_size e) (I.ok.cab x c W7 hc)))).trans (I.base.keep b o e n hb hx)
  ·obtain ⟨sl,e1⟩:=I.base.slot b o e n hb hx
   exact ⟨sl,(hs.2 b (dh (gx (Heap.lt_size e) (I.ok.cab x c W7 hc)))).trans e1⟩
  ·obtain ⟨o',e1⟩:=I.base.there b o e hx
   exact ⟨o',(hs.2 b (dh (gx (Heap.lt_size e) (I.ok.cab x c W7 hc)))).trans e1⟩
  ·by_cases hj:j=i
   ·subst hj
    rw [hi] at e1;cases e1
    rw [gq hiσ] at e2
    cases e2
    exact ⟨u,r,.inr ⟨.inl hk,c,hc,Wy⟩⟩
   ·rw [gh (Ne.symm hj)] at e2
    obtain ⟨u',r',q⟩:=hl j y v' e1 e2 e3
    refine ⟨u',r',?_⟩
    rcases q with q | ⟨k,c',e,z'⟩
    ·exact .inl q
    ·refine .inr ⟨k,c',e,z'.sameBut hs ?_⟩
     rintro rfl
     exact hj (lz hN e1 (I.ok.inj _ _ _ e hc ▸ hi))
  ·by_cases hcc:c'=c
   ·subst hcc;exact ⟨_,Wy⟩
   ·obtain ⟨w2,z2⟩:=I.cell y c' e
    exact ⟨w2,z2.sameBut hs hcc⟩
  ·obtain ⟨e,n,ne,nf,d⟩:=I.pin p hp
   refine ⟨(hs.2 p.1 ?_).trans e,n,ne,nf,d⟩
   intro q
   rw [q,hoc] at e
   have q':oc=p.2:=nC.inj e
   exact d w' (by rw [<- q'];exact adx)
theorem iM {M:Model}{A:Around}{E:Value->Shared->Prop}{i:Nat}{x:Str}{v:V}{u:Value}{Q:Unit->Shared->Prop}(I:Inv X aa σ H s) (hN:X.N.Nodup) (hi:X.N[i]?=some x) (hx:Loc X.env.scope x) (r:RelV v u)
  (h:∀ s',Inv X aa (σ.set i (some v)) H s'->Q () s') (hf:X.fn x=true\/X.env.scope.names.lookup x=some .local:=by first | exact .inl rfl | exact .inr rfl | assumption):wpAny M A (storeName X.env x u) Q E s:=
 nV I hN hi hx r (fun s' I' _=>h s' I') hf
theorem Inv.Od {s':Shared}{ch:List Addr}(I:Inv X aa σ H s) (ho:s'.os=s.os) (u:Un (nk X.stack) ch H H' s.heap s'.heap) (bG:ik X.prog X.w H' s'.heap) (hg:AllBare s'.gens)
  (BX:∀ b∈ch,(b∈X.ex\/X.s₀.heap.objs.size<=b)/\b≠X.env.locals/\(∀ x c,X.env.cells.lookup x=some c->c≠b)/\∀ p∈X.pn++aa,p.1≠b):Inv X aa σ H' s':=by
 obtain ⟨h',g',d',t',o'⟩:=s'
 have e:o'=s.os:=ho
 subst e
 exact I.call (g':=g') (t':=t') (d':=d') u bG hg BX
end
abbrev XK:=Value->Option Addr->Hp->Prop
abbrev St:=List (Option V)
abbrev VK:=V->Hp->Prop
abbrev TE:=St->Hp->VK->Prop
abbrev TT:=St->Hp->(Bool->Hp->Prop)->Prop
abbrev TA:=St->Hp->(List V->Hp->Prop)->Prop
structure Ends where
 nx:St->Hp->Prop
 rt:VK
 bk:St->Hp->Prop:=fun _ _=>False
 ct:St->Hp->Prop:=fun _ _=>False
abbrev TS:=Ends->St->Hp->Prop
def EP (X:Cx) (aa:c9) (σ:St) (Q:VK) (u:Value) (s':Shared):Prop:=∃ v H',Inv X aa σ H' s'/\RelV v u/\Q v H'
def TP (X:Cx) (aa:c9) (σ:St) (Q:Bool->Hp->Prop) (b:Bool) (s':Shared):Prop:=∃ H',Inv X aa σ H' s'/\Q b H'
def AP (X:Cx) (aa:c9) (σ:St) (Q:List V->Hp->Prop) (us:List Value) (s':Shared):Prop:=∃ vs H',Inv X aa σ H' s'/\Vals vs us/\Q vs H'
def SP (X:Cx) (aa:c9) (D:Ends) (f:Flow) (s':Shared):Prop:=
 match f with
 | .next=>∃ σ' H',Inv X aa σ' H' s'/\D.nx σ' H'
 | .brk=>∃ σ' H',Inv X aa σ' H' s'/\D.bk σ' H'
 | .cont=>∃ σ' H',Inv X aa σ' H' s'/\D.ct σ' H'
 | .ret u=>∃ v σ' H',Inv X aa σ' H' s'/\RelV v u/\D.rt v H'
def PE (X:Cx) (e:Expr) (t:TE):Prop:=
 ∀ (aa:c9) (s:Shared) (σ:St) (H:Hp) (Q:VK),Inv X aa σ H s->t σ H Q->wpAny (model X.prog X.w) X.A (eval e X.env) (EP X aa σ Q) X.xe s
def PT (X:Cx) (e:Expr) (t:TT):Prop:=
 ∀ (aa:c9) (s:Shared) (σ:St) (H:Hp) (Q:Bool->Hp->Prop),Inv X aa σ H s->t σ H Q->wpAny (model X.prog X.w) X.A (isTrue e X.env (eval e X.env)) (TP X aa σ Q) X.xe s
def PW (X:Cx) (e:Expr) (t:TT):Prop:=
 ∀ (gb:Sem Value) (aa:c9) (s:Shared) (σ:St) (H:Hp) (Q:Bool->Hp->Prop),Inv X aa σ H s->t σ H Q->wpAny (model X.prog X.w) X.A (isTrue e X.env gb) (TP X aa σ Q) X.xe s
theorem PW.pt {X:Cx}{e:Expr}{t:TT}(h:PW X e t):PT X e t:=h _
def PA (X:Cx) (es:List Expr) (t:TA):Prop:=
 ∀ (pos:Pos) (aa:c9) (s:Shared) (σ:St) (H:Hp) (Q:List V->Hp->Prop),Inv X aa σ H s->t σ H Q->wpAny (model X.prog X.w) X.A (spliced (backTo pos (starEach es X.env))) (AP X aa σ Q) X.xe s
def PS (X:Cx) (st:Stmt) (t:TS):Prop:=
 ∀ (aa:c9) (s:Shared) (σ:St) (H:Hp) (D:Ends),Inv X aa σ H s->t D σ H->wpAny (model X.prog X.w) X.A (exec st X.env) (SP X aa D) X.xe s
def fD (X:Cx) (st:List Stmt) (t:TS):Prop:=
 ∀ (aa:c9) (s:Shared) (σ:St) (H:Hp) (D:Ends),Inv X aa σ H s->t D σ H->wpAny (model X.prog X.w) X.A (execs st X.env) (SP X aa D) X.xe s
theorem b7 {α:Type}{t:Sem α}{Q Q':α->Shared->Prop}{M:Model}{A:Around}{E:Value->Shared->Prop}{s:Shared}(h:wpAny M A t Q E s) (hQ:∀ a s,Q a s->Q' a s):wpAny M A t Q' E s:=wpAny_mono h hQ fun _ _ x=>x
section
variable {X:Cx}
def vC (i:Nat):TE:=fun σ H Q=>∃ v,σ[i]?=some (some v)/\Q v H
def tC (v:V):TE:=fun _ H Q=>Q v H
theorem bS {i:Nat}{x:Str}{pos:Pos}(hN:X.N[i]?=some x) (hv:nq X.env.scope x) (hd:a_ x:=by decide) (fH:e_ x:=by decide):PE X (.Name x pos) (vC i):=by
 intro aa s σ H Q I h
 obtain ⟨v,e,h⟩:=h
 obtain ⟨m,hn,hl⟩:=I.loc
 obtain ⟨u,r,l⟩:=hl i x v hN e hv
 have fin:EP X aa σ Q u s:=⟨v,H,I,r,h⟩
 rcases l with ⟨hk,hm⟩ | ⟨hk,c,hc,hcell⟩
 ·exact wpAny_Name (wpAny_loadName_local I.ok.kind hk hn hm fin) hd
 ·rcases hk with hk | hk
  ·exact wpAny_Name (wpAny_loadName_cell I.ok.kind hk hc hcell fin) hd
  ·exact wpAny_Name (wpAny_loadName_free I.ok.kind hk hc hcell fin fH) hd
theorem QO {i j pos}:PE X (.Constant (.int i) j pos) (tC (.int i)):=fun _ _ _ H _ I h=>wpAny_Constant_int ⟨.int i,H,I.tok _,⟨_,rfl⟩,h⟩
theorem Oe {b j pos}:PE X (.Constant (.bool b) j pos) (tC (.bl b)):=fun _ _ _ H _ I h=>Constant_bool ⟨.bl b,H,I,rfl,h⟩
theorem QP {j pos}:PE X (.Constant .none j pos) (tC .non):=fun _ _ _ H _ I h=>Constant_none ⟨.non,H,I,rfl,h⟩
theorem C_ {x j pos}:PE X (.Constant (.str x) j pos) (tC (.str x)):=fun _ _ _ H _ I h=>Calls.Constant_str ⟨.str x,H,I.tok _,⟨_,rfl⟩,h⟩
def Gl (X:Cx) (x:Str):Prop:=X.env.kindOf x=some .globalImplicit
theorem eT {E:Value->Shared->Prop}{aa:c9}{s:Shared}{σ:St}{H:Hp}{x:Str}{u:Value}{pos:Pos}{Q:Value->Shared->Prop}(I:Inv X aa σ H s) (hg:Gl X x) (hm:X.mg x=some u) (h:Q u s)
  (hd:a_ x:=by decide):wpAny (model X.prog X.w) X.A (eval (.Name x pos) X.env) Q E s:=
 Calls.Name_function_global I.ok.kind hg (Calls.loadGlobal_global (by rw [I.ok.glob];exact I.mod.glob.keeps I.bk) hm h) hd
theorem il {E:Value->Shared->Prop}{aa:c9}{s:Shared}{σ:St}{H:Hp}{x:Str}{u:Value}{pos:Pos}{Q:Value->Shared->Prop}(I:Inv X aa σ H s) (hg:Gl X x) (hm:X.mg x=none) (hv:bootBuiltins x=some u) (h:Q u s)
  (hn:x ≠ "__name__" := by decide) (hd:a_ x:=by decide):wpAny (model X.prog X.w) X.A (eval (.Name x pos) X.env) Q E s:=by
 obtain ⟨mb,h1,h2⟩:=I.mod.blt
 exact Calls.Name_function_global I.ok.kind hg (Calls.loadGlobal_builtin (by rw [I.ok.glob];exact I.mod.glob.keeps I.bk) hm (by rw [I.ok.blt];exact h1.keeps I.bk) ((h2 x hn).trans hv) h) hd
theorem kP {x:Str}{v:V}{u:Value}{pos:Pos}(hg:Gl X x) (hm:X.mg x=some u) (r:RelV v u) (hd:a_ x:=by decide):PE X (.Name x pos) (tC v):=
 fun _ _ _ H _ I h=>eT I hg hm ⟨v,H,I,r,h⟩ hd
theorem ym {x:Str}{v:V}{u:Value}{pos:Pos}(hg:Gl X x) (hm:X.mg x=none) (hv:bootBuiltins x=some u) (r:RelV v u) (hn:x ≠ "__name__" := by decide) (hd:a_ x:=by decide):PE X (.Name x pos) (tC v):=
 fun _ _ _ H _ I h=>il I hg hm hv ⟨v,H,I,r,h⟩ hn hd
variable {a:Expr}{ta tb:TE}
def PC (X:Cx) (op:CmpOp) (a b:Expr) (t:TE):Prop:=
 ∀ (aa:c9) (s:Shared) (σ:St) (H:Hp) (Q:VK),Inv X aa σ H s->t σ H Q ->
  wpAny (model X.prog X.w) X.A (eval a X.env) (fun v s₁=>wpAny (model X.prog X.w) X.A (eval b X.env) (fun u s₂=>wpAny (model X.prog X.w) X.A (compareOp op v u) (EP X aa σ Q) X.xe s₂) X.xe s₁) X.xe s
def tB (t:TE):TT:=fun σ H Q=>t σ H fun x H1=>∃ c,x=.bl c/\Q c H1
variable {tA tB':TT}{rest:List Expr}
def ady (t u:TT):TT:=fun σ H Q=>t σ H fun c H1=>if c=true then u σ H1 Q else Q false H1
def tOr (t u:TT):TT:=fun σ H Q=>t σ H fun c H1=>if c=true then Q true H1 else u σ H1 Q
def adz (t:TT):TT:=fun σ H Q=>t σ H fun c H1=>Q (!c) H1
theorem IC (ha:PT X a tA):PW X (.BoolOp .And [a] pos) tA:=by
 intro wh aa s σ H Q I h
 refine isTrue_and (b7 (ha aa s σ H Q I h) fun c s1 e=>?_)
 cases c with
 | true=>exact isTrue_and_nil e
 | false=>exact e
theorem QQ (ha:PT X a tA):PW X (.BoolOp .Or [a] pos) tA:=by
 intro wh aa s σ H Q I h
 refine isTrue_or (b7 (ha aa s σ H Q I h) fun c s1 e=>?_)
 cases c with
 | false=>exact isTrue_or_nil e
 | true=>exact e
theorem QR (ha:PT X a tA) (hb:PW X (.BoolOp .And (b::rest) pos) tB'):PW X (.BoolOp .And (a::b::rest) pos) (ady tA tB'):=by
 intro wh aa s σ H Q I h
 refine isTrue_and (b7 (ha aa s σ H _ I h) fun c s1 zz=>?_)
 obtain ⟨H1,I1,q1⟩:=zz
 cases c with
 | true=>exact hb wh aa s1 σ H1 Q I1 q1
 | false=>exact ⟨H1,I1,q1⟩
theorem W8 (ha:PT X a tA) (hb:PW X (.BoolOp .Or (b::rest) pos) tB'):PW X (.BoolOp .Or (a::b::rest) pos) (tOr tA tB'):=by
 intro wh aa s σ H Q I h
 refine isTrue_or (b7 (ha aa s σ H _ I h) fun c s1 zz=>?_)
 obtain ⟨H1,I1,q1⟩:=zz
 cases c with
 | true=>exact ⟨H1,I1,q1⟩
 | false=>exact hb wh aa s1 σ H1 Q I1 q1
theorem QT (ha:PT X a tA):PT X (.UnaryOp .Not a pos) (adz tA):=by
 intro aa s σ H Q I h
 exact isTrue_not (ha aa s σ H (fun c H1=>Q (!c) H1) I h)
def W9 (ta tb:TE):TE:=fun σ H Q=>ta σ H fun x H1=>∃ c,x=.bl c/\if c=true then tb σ H1 Q else Q (.bl false) H1
def adA (ta tb:TE):TE:=fun σ H Q=>ta σ H fun x H1=>∃ c,x=.bl c/\if c=true then Q (.bl true) H1 else tb σ H1 Q
def W_ (ta:TE):TE:=fun σ H Q=>ta σ H fun x H1=>∃ c,x=.bl c/\Q (.bl (!c)) H1
theorem QU {op}{t:TE}(h:PE X a t):PE X (.BoolOp op [a] pos) t:=fun aa s σ H Q I hw=>BoolOp_one (h aa s σ H Q I hw)
theorem QV (ha:PE X a ta) (hb:PE X (.BoolOp .And (b::rest) pos) tb):PE X (.BoolOp .And (a::b::rest) pos) (W9 ta tb):=by
 intro aa s σ H Q I h
 refine BoolOp_and (b7 (ha aa s σ H _ I h) fun v s1 zz=>?_)
 obtain ⟨x,H1,I1,r1,q1⟩:=zz
 obtain ⟨c,rfl,q1⟩:=q1
 cases r1
 refine wpAny_truthy_bool ?_
 cases c with
 | true=>exact hb aa s1 σ H1 Q I1 q1
 | false=>exact ⟨.bl false,H1,I1,rfl,q1⟩
theorem Xa (ha:PE X a ta) (hb:PE X (.BoolOp .Or (b::rest) pos) tb):PE X (.BoolOp .Or (a::b::rest) pos) (adA ta tb):=by
 intro aa s σ H Q I h
 refine BoolOp_or (b7 (ha aa s σ H _ I h) fun v s1 zz=>?_)
 obtain ⟨x,H1,I1,r1,q1⟩:=zz
 obtain ⟨c,rfl,q1⟩:=q1
 cases r1
 refine wpAny_truthy_bool ?_
 cases c with
 | false=>exact hb aa s1 σ H1 Q I1 q1
 | true=>exact ⟨.bl true,H1,I1,rfl,q1⟩
theorem QW (ha:PE X a ta):PE X (.UnaryOp .Not a pos) (W_ ta):=by
 intro aa s σ H Q I h
 refine UnaryOp_ (b7 (ha aa s σ H _ I h) fun v s1 zz=>?_)
 obtain ⟨x,H1,I1,r1,q1⟩:=zz
 obtain ⟨c,rfl,q1⟩:=q1
 cases r1
 exact not_of (wpAny_truthy_bool ⟨.bl (!c),H1,I1,rfl,q1⟩)
def tIf (t:TT) (ta tb:TE):TE:=fun σ H Q=>t σ H fun c H1=>if c=true then ta σ H1 Q else tb σ H1 Q
theorem Dd {c:Expr}(hc:PT X c tA) (ha:PE X a ta) (hb:PE X b tb):PE X (.IfExp c a b pos) (tIf tA ta tb):=by
 intro aa s σ H Q I h
 refine wpAny_IfExp (b7 (hc aa s σ H _ I h) fun d s1 zz=>?_)
 obtain ⟨H1,I1,q1⟩:=zz
 cases d with
 | true=>exact ha aa s1 σ H1 Q I1 q1
 | false=>exact hb aa s1 σ H1 Q I1 q1
end
def cY (K:bg) (H:Hp) (a:Addr) (xs:List V):Prop:=
 Rd H a (.lst xs) \/
  ∃ (o:Obj) (its:Array Value) (n:Nat),K.lookup a=some o/\o.cls=.type "list" /\ o.dict=none/\o.data=.seq its n/\its.size<=sizeLine/\Vals xs its.toList
def j_ (K:bg) (H:Hp) (a:Addr) (xs:List V):Prop:=
 Rd H a (.tup xs) \/
  ∃ (o:Obj) (its:Array Value) (n:Nat),K.lookup a=some o/\o.cls=.type "tuple" /\ o.data=.seq its n/\its.size<=sizeLine/\Vals xs its.toList
def adB:Value->Option V
 | .none=>some .non
 | .bool b=>some (.bl b)
 | .int i _=>some (.int i)
 | .str x _=>some (.str x)
 | .bytes b _=>some (.byt b)
 | .float b _=>some (.flt b)
 | .ref a=>some (.ref a)
 | .type n=>some (.ty n)
 | _=>none
theorem RelV.abs {x:V}{u:Value}(r:RelV x u):adB u=some x:=by
 cases x with
 | non=>cases r;rfl
 | bl _=>cases r;rfl
 | int _=>obtain ⟨t,rfl⟩:=r;rfl
 | str _=>obtain ⟨t,rfl⟩:=r;rfl
 | byt _=>obtain ⟨t,rfl⟩:=r;rfl
 | flt _=>obtain ⟨t,rfl⟩:=r;rfl
 | ref _=>cases r;rfl
 | ty _=>cases r;rfl
theorem RelV.inj {x y:V}{u:Value}(r:RelV x u) (q:RelV y u):x=y:=nC.inj (r.abs.symm.trans q.abs)
theorem Vals.inj:∀ {xs ys:List V}{us:List Value},Vals xs us->Vals ys us->xs=ys
 | _,_,_,.nil,.nil=>rfl
 | _,_,_,.cons r t,.cons r' t'=>by rw [r.inj r',Vals.inj t t']
section
variable {X:Cx}{σ:St}{xs ys:List V}
theorem cY.of {K:bg}(h:H a=some (.lst xs)):cY K H a xs:=.inl (.inl h)
theorem j_.of {K:bg}(h:H a=some (.tup xs)):j_ K H a xs:=.inl (.inl h)
theorem Inv.list (I:Inv X aa σ H s) (h:cY X.K H a xs):∃ its:List Value,Vals xs its/\PlainL s.heap a its.toArray/\xs.length<=sizeLine:=by
 rcases h with h | ⟨o,its,n,hk,hc,hd,hs,hz,r⟩
 ·obtain ⟨z,its,n,r,e⟩:=h.ok I.bG
  exact ⟨its,r,⟨_,n,e,rfl,rfl,rfl⟩,z⟩
 ·refine ⟨its.toList,r,⟨o,n,I.gS a o hk,hc,hd,by simpa using hs⟩,?_⟩
  have e:=r.length
  simp only [Array.length_toList] at e
  omega
theorem Inv.tuple (I:Inv X aa σ H s) (h:j_ X.K H a xs):∃ its:List Value,Vals xs its/\IsTup s.heap a its.toArray/\xs.length<=sizeLine:=by
 rcases h with h | ⟨o,its,n,hk,hc,hs,hz,r⟩
 ·obtain ⟨z,its,r,p⟩:=h.ok I.bG
  exact ⟨its,r,p,z⟩
 ·refine ⟨its.toList,r,⟨o,I.gS a o hk,hc,n,by simpa using hs⟩,?_⟩
  have e:=r.length
  simp only [Array.length_toList] at e
  omega
theorem Inv.De (I:Inv X aa σ H s) (h:cY X.K H a xs) (h':cY X.K H a ys):xs=ys:=by
 obtain ⟨its,r,⟨o,n,e,_,_,d⟩,_⟩:=I.list h
 obtain ⟨its',r',⟨o',n',e',_,_,d'⟩,_⟩:=I.list h'
 rw [e] at e';cases e'
 rw [d] at d'
 injection d' with d1 _
 have:its=its':=by simpa using congrArg Array.toList d1
 subst this
 exact r.inj r'
theorem Inv.nX (I:Inv X aa σ H s) (h:j_ X.K H a xs) (h':j_ X.K H a ys):xs=ys:=by
 obtain ⟨its,r,⟨o,e,_,n,d⟩,_⟩:=I.tuple h
 obtain ⟨its',r',⟨o',e',_,n',d'⟩,_⟩:=I.tuple h'
 rw [e] at e';cases e'
 rw [d] at d'
 injection d' with d1 _
 have:its=its':=by simpa using congrArg Array.toList d1
 subst this
 exact r.inj r'
end
abbrev Cx.nG (X:Cx) (E:Value->Shared->Prop):Cx:={ X with xe:=E }
abbrev Cx.Of (X:Cx):Cx:=X.nG fun _ _=>False
theorem Cx.Ok.nG {X:Cx}(ok:X.Ok) (E:Value->Shared->Prop):(X.nG E).Ok:=
 ⟨ok.mod,ok.kind,ok.glob,ok.blt,ok.above,ok.inj,ok.has,ok.cab,ok.hd,ok.frames,ok.stk,ok.exf,ok.bs,ok.bsz,ok.noex,ok.exfs,ok.iL,ok.frf⟩
theorem Cx.Ok.gy {X:Cx}{E:Value->Shared->Prop}(ok:(X.nG E).Ok):X.Ok:=
 ⟨ok.mod,ok.kind,ok.glob,ok.blt,ok.above,ok.inj,ok.has,ok.cab,ok.hd,ok.frames,ok.stk,ok.exf,ok.bs,ok.bsz,ok.noex,ok.exfs,ok.iL,ok.frf⟩
section
variable {X:Cx}{σ:St}
theorem Inv.nG (I:Inv X aa σ H s) (E:Value->Shared->Prop):Inv (X.nG E) aa σ H s:=⟨I.ok.nG E,I.os,I.bare,I.base,I.loc,I.cell,I.free,I.freeC,I.pin,I.bG,I.len⟩
theorem Inv.gy (I:Inv (X.nG E) aa σ H s):Inv X aa σ H s:=⟨I.ok.gy,I.os,I.bare,I.base,I.loc,I.cell,I.free,I.freeC,I.pin,I.bG,I.len⟩
theorem SP.gy {D:Ends}{f:Flow}{s':Shared}(h:SP (X.nG E) aa D f s'):SP X aa D f s':=by
 cases f with
 | next=>obtain ⟨σ',H',I,q⟩:=h;exact ⟨σ',H',I.gy,q⟩
 | brk=>obtain ⟨σ',H',I,q⟩:=h;exact ⟨σ',H',I.gy,q⟩
 | cont=>obtain ⟨σ',H',I,q⟩:=h;exact ⟨σ',H',I.gy,q⟩
 | ret u=>obtain ⟨v,σ',H',I,r,q⟩:=h;exact ⟨v,σ',H',I.gy,r,q⟩
theorem fD.Of {st:List Stmt}{t:TS}(h:fD X.Of st t):fD X st t:=fun aa s σ H D I hw=>
 wpAny_mono (h aa s σ H D (I.nG _) hw) (fun _ _ q=>q.gy) fun _ _ z=>False.elim z
end
section
variable {X:Cx}{st:Stmt}{rest:List Stmt}{t u:TS}{te:TE}
def Df:TS:=fun D σ H=>D.nx σ H
def Xb (t u:TS):TS:=fun D σ H=>t { D with nx:=u D } σ H
theorem pH:fD X [] Df:=fun _ _ σ H _ I h=>wpAny_execs_nil ⟨σ,H,I,h⟩
theorem gz (h1:PS X st t) (h2:fD X rest u):fD X (st::rest) (Xb t u):=by
 intro aa s σ H D I h
 refine wpAny_execs_cons (b7 (h1 aa s σ H { D with nx:=u D } I h) fun f s1 q=>?_)
 cases f with
 | next=>
  obtain ⟨σ',H',I',q⟩:=q
  exact h2 aa s1 σ' H' D I' q
 | ret v=>exact q
 | brk=>exact q
 | cont=>exact q
theorem kQ (h1:PS X st t):fD X [st] t:=by
 intro aa s σ H D I h
 refine wpAny_execs_cons (b7 (h1 aa s σ H D I h) fun f s1 q=>?_)
 cases f with
 | next=>exact wpAny_execs_nil q
 | ret v=>exact q
 | brk=>exact q
 | cont=>exact q
def QX:TS:=fun D σ H=>D.bk σ H
def Xc:TS:=fun D σ H=>D.ct σ H
theorem ID:PS X (.Pass pos) Df:=fun _ _ σ H _ I h=>wpAny_Pass ⟨σ,H,I,h⟩
theorem Dg:PS X (.Break pos) QX:=fun _ _ σ H _ I h=>wpAny_Break ⟨σ,H,I,h⟩
theorem rN:PS X (.Continue pos) Xc:=fun _ _ σ H _ I h=>wpAny_Continue ⟨σ,H,I,h⟩
theorem Inv.quiet {aa:c9}{σ:St}{H:Hp}{s:Shared}(I:Inv X aa σ H s):interactive X.env=false:=by simp [interactive,I.ok.kind]
def Xd (te:TE):TS:=fun D σ H=>te σ H fun _ H1=>D.nx σ H1
theorem pI (he:PE X e te) (hs:swapsWith e none pos.line X.env=pure false:=by rfl):PS X (.Expr e pos) (Xd te):=by
 intro aa s σ H D I h
 exact wpAny_Expr_any (b7 (he aa s σ H _ I h) fun v s1 ⟨x,H1,I1,r1,q1⟩=>⟨σ,H1,I1,q1⟩) I.quiet hs
def adC (te:TE):TS:=fun D σ H=>te σ H D.rt
theorem QY (he:PE X e te):PS X (.Return (some e) pos) (adC te):=by
 intro aa s σ H D I h
 exact wpAny_Return_some (b7 (he aa s σ H _ I h) fun v s1 ⟨x,H1,I1,r1,q1⟩=>⟨x,σ,H1,I1,r1,q1⟩)
def Xe:TS:=fun D _ H=>D.rt .non H
theorem IE:PS X (.Return none pos) Xe:=fun _ _ σ H _ I h=>wpAny_Return_none ⟨.non,σ,H,I,rfl,h⟩
def adD (c:TT) (t u:TS):TS:=fun D σ H=>c σ H fun b H1=>if b=true then t D σ H1 else u D σ H1
theorem Og {c:Expr}{a b:List Stmt}{tc:TT}(hc:PT X c tc) (ha:fD X a t) (hb:fD X b u):PS X (.If c a b pos) (adD tc t u):=by
 intro aa s σ H D I h
 refine wpAny_If (b7 (hc aa s σ H _ I h) fun d s1 zz=>?_)
 obtain ⟨H1,I1,q1⟩:=zz
 cases d with
 | true=>exact ha aa s1 σ H1 D I1 q1
 | false=>exact hb aa s1 σ H1 D I1 q1
end
abbrev TG:=V->St->Hp->(St->Hp->Prop)->Prop
abbrev Hz:=List V->St->Hp->(St->Hp->Prop)->Prop
def PG (X:Cx) (target:Expr) (t:TG):Prop:=
 ∀ (aa:c9) (s:Shared) (σ:St) (H:Hp) (v:V) (u:Value) (Q:St->Hp->Prop),Inv X aa σ H s->RelV v u->t v σ H Q ->
  wpAny (model X.prog X.w) X.A (assign target X.env u) (fun _ s'=>∃ σ' H',Inv X aa σ' H' s'/\Q σ' H') X.xe s
def Wz (X:Cx) (ts:List Expr) (t:Hz):Prop:=
 ∀ (aa:c9) (s:Shared) (σ:St) (H:Hp) (vs:List V) (us:List Value) (Q:St->Hp->Prop),Inv X aa σ H s->Vals vs us->t vs σ H Q ->
  wpAny (model X.prog X.w) X.A (assignInOrder ((assignEach ts X.env).map (·.2)) us) (fun _ s'=>∃ σ' H',Inv X aa σ' H' s'/\Q σ' H') X.xe s
abbrev TIp:=V->V->Hp->VK->Prop
def PIp (X:Cx) (op:Operator) (t:TIp):Prop:=
 ∀ (aa:c9) (s:Shared) (σ:St) (H:Hp) (x y:V) (v u:Value) (Q:VK),Inv X aa σ H s->RelV x v->RelV y u->t x y H Q ->
  wpAny (model X.prog X.w) X.A (inplaceOp op v u) (EP X aa σ Q) X.xe s
section
variable {X:Cx}
def yn (i:Nat):TG:=fun v σ H Q=>Q (σ.set i (some v)) H
theorem pJ {i:Nat}{x:Str}(hN:X.N.Nodup) (hi:X.N[i]?=some x) (hx:Loc X.env.scope x) (hf:X.fn x=true\/X.env.scope.names.lookup x=some .local:=by first | exact .inl rfl | exact .inr rfl | assumption):PG X (.Name x pos) (yn i):=by
 intro aa s σ H v u Q I r h
 exact wpAny_assign_Name (iM I hN hi hx r (fun s' I'=>⟨_,H,I',h⟩) hf)
def Xf:Hz:=fun vs σ H Q=>vs=[]/\Q σ H
def Oh (t:TG) (u:Hz):Hz:=fun vs σ H Q=>∃ v r,vs=v::r/\t v σ H fun σ' H'=>u r σ' H' Q
theorem IF:Wz X [] Xf:=by
 intro aa s σ H vs us Q I r h
 obtain ⟨e,h⟩:=h
 subst e
 cases r
 exact assignInOrder_nil ⟨σ,H,I,h⟩
theorem Dh {e:Expr}{es:List Expr}{t:TG}{u:Hz}(h1:PG X e t) (h2:Wz X es u)
  (hs:(assignEach (e::es) X.env).map (·.2)=assign e X.env::(assignEach es X.env).map (·.2):=by rfl):Wz X (e::es) (Oh t u):=by
 intro aa s σ H vs us Q I r h
 obtain ⟨v,vr,e1,h⟩:=h
 subst e1
 cases r with
 | cons r rr=>
  rw [hs]
  refine assignInOrder_cons (b7 (h1 aa s σ H _ _ _ I r h) fun _ s1 zz=>?_)
  obtain ⟨σ1,H1,I1,q1⟩:=zz
  exact h2 aa s1 σ1 H1 _ _ Q I1 rr q1
def QZ (K:bg) (n:Nat) (t:Hz):TG:=fun v σ H Q=>∃ a xs,v=.ref a/\j_ K H a xs/\xs.length=n/\t xs σ H Q
theorem Di {es:List Expr}{k:Nat}{t:Hz}{n:Nat}(hc:X.calm=true) (h:Wz X es t)
  (hn:(assignEach es X.env).length=n:=by rfl) (yo:(assignEach es X.env).findIdx? (·.1)=none:=by rfl):PG X (.Tuple es k pos) (QZ X.K n t):=by
 intro aa s σ H v u Q I r hw
 obtain ⟨a,xs,e1,hq,hl,hw⟩:=hw
 subst e1
 cases r
 obtain ⟨its,rv,ht,hz⟩:=I.tuple hq
 refine assign_Tuple_tuple (I.ok.hd hc) ht (by simp [hn,<- hl,rv.length]) yo fun h' hx=>?_
 have I1:Inv X aa σ H { s with heap:=h' }:=I.kept (t':=s.toks) fun b o e=>hx b o (dh (Heap.lt_size e)) e
 exact h aa _ σ H xs _ Q I1 (by simpa using rv) hw
def Xg (te:TE) (g:TG):TS:=fun D σ H=>te σ H fun x H1=>g x σ H1 D.nx
theorem Q0 {tg e:Expr}{te:TE}{g:TG}(he:PE X e te) (hg:PG X tg g) (hs:swapsWithSole [tg] e pos.line X.env=pure false:=by rfl) (hw:swappedStores [tg] e X.env=pure none:=by rfl)
  (h1:(assignEach [tg] X.env).map (·.2)=[assign tg X.env]:=by rfl):PS X (.Assign [tg] e pos) (Xg te g):=by
 intro aa s σ H D I h
 refine wpAny_Assign_stores (b7 (he aa s σ H _ I h) fun v s1 ⟨x,H1,I1,r1,q1⟩=>?_) hs hw
 rw [h1]
 exact b7 (hg aa s1 σ H1 x v _ I1 r1 q1) fun _ s2 q=>q
theorem jI {i:Nat}{x:Str}{e:Expr}{te:TE}{cu:Pos}(hN:X.N.Nodup) (hi:X.N[i]?=some x) (hx:Loc X.env.scope x) (he:PE X e te) (hs:swapsWith e (some (.Name x cu)) pos.line X.env=pure false:=by rfl) (hf:X.fn x=true\/X.env.scope.names.lookup x=some .local:=by first | exact .inl rfl | exact .inr rfl | assumption) :
  PS X (.Assign [.Name x cu] e pos) (Xg te (yn i)):=by
 intro aa s σ H D I h
 refine wpAny_Assign_Name (b7 (he aa s σ H _ I h) fun v s1 ⟨y,H1,I1,r1,q1⟩=>?_) hs
 exact iM I1 hN hi hx r1 (fun s2 I2=>⟨_,H1,I2,q1⟩) hf
def adE (i:Nat) (te:TE) (ti:TIp):TS:=fun D σ H=>∃ x,σ[i]?=some (some x)/\te σ H fun y H1=>ti x y H1 fun z H2=>D.nx (σ.set i (some z)) H2
theorem Q2 {i:Nat}{x:Str}{e:Expr}{te:TE}{op:Operator}{ti:TIp}{cu:Pos}(hN:X.N.Nodup) (hi:X.N[i]?=some x) (hx:Loc X.env.scope x) (he:PE X e te) (ho:PIp X op ti) (hf:X.fn x=true\/X.env.scope.names.lookup x=some .local:=by first | exact .inl rfl | exact .inr rfl | assumption) :
  PS X (.AugAssign (.Name x cu) op e pos) (adE i te ti):=by
 intro aa s σ H D I h
 obtain ⟨v,e1,h⟩:=h
 obtain ⟨m,hn,hl⟩:=I.loc
 have vis:nq X.env.scope x:=by rcases hx with k | k;exact .inl k;exact .inr (.inl k)
 obtain ⟨u,r,l⟩:=hl i x v hi e1 vis
 refine wpAny_AugAssign_Name ?_
 have go:wpAny (model X.prog X.w) X.A (eval e X.env) (fun w s₂=>wpAny (model X.prog X.w) X.A (inplaceOp op u w) (fun r s₃=>wpAny (model X.prog X.w) X.A (storeName X.env x r) (fun _=>SP X aa D .next) X.xe s₃) X.xe s₂) X.xe s:=by
  refine b7 (he aa s σ H _ I h) fun w s1 zz=>?_
  obtain ⟨y,H1,I1,r1,q1⟩:=zz
  refine b7 (ho aa s1 σ H1 v y u w _ I1 r r1 q1) fun z s2 zz=>?_
  obtain ⟨zv,H2,I2,r2,q2⟩:=zz
  exact iM I2 hN hi hx r2 (fun s3 I3=>⟨_,H2,I3,q2⟩) hf
 rcases l with ⟨hk,hm⟩ | ⟨hk,c,hc,hcell⟩
 ·exact wpAny_loadName_local I.ok.kind hk hn hm go
 ·rcases hk with hk | hk
  ·exact wpAny_loadName_cell I.ok.kind hk hc hcell go
  ·rcases hx with k | k
   ·have:X.env.scope.names.lookup x=some .free:=hk
    rw [k] at this;cases this
   ·have:X.env.scope.names.lookup x=some .free:=hk
    rw [k] at this;cases this
def ipI (f:Int->Int->Int):TIp:=fun x y H Q=>∃ i j,x=.int i/\y=.int j/\Q (.int (f i j)) H
theorem Q3:PIp X .Add (ipI fun i j=>i+j):=by
 intro aa s σ H x y v u Q I r1 r2 h
 obtain ⟨i,j,e1,e2,q⟩:=h
 subst e1;subst e2
 obtain ⟨t,rfl⟩:=r1
 obtain ⟨t',rfl⟩:=r2
 exact iadd_int ⟨.int _,H,I.tok _,⟨_,rfl⟩,q⟩
end
section
variable {X:Cx}
def Q4 (c:TT) (tb:TS):TS:=fun D σ H=>∃ W:Nat->St->Hp->Prop,(∃ m,W m σ H)/\∀ m σ H,W m σ H ->
 c σ H fun b H1=>if b=true then ∃ N:St->Hp->Prop,(∀ σ' H',N σ' H'->∃ m',m'<m/\W m' σ' H')/\tb { D with nx:=N,ct:=N,bk:=D.nx } σ H1 else D.nx σ H1
theorem Dj {c:Expr}{body:List Stmt}{tc:TT}{tb:TS}(hp:PassesOwn (model X.prog X.w) X.A X.env X.xe) (hc:PT X c tc) (hb:fD X body tb):PS X (.While c body [] pos) (Q4 tc tb):=by
 intro aa s σ H D I h
 obtain ⟨W,⟨m0,w0⟩,turn⟩:=h
 refine wpAny_While (codeAny_whileLoop (fun n s'=>∃ σ' H',Inv X aa σ' H' s'/\W n σ' H') ?_ m0 ⟨σ,H,I,w0⟩)
 rintro n s1 ⟨σ1,H1,I1,w1⟩
 refine wpAny_passesOwn hp (b7 (hc aa s1 σ1 H1 _ I1 (turn n σ1 H1 w1)) fun b s2 zz=>?_)
 obtain ⟨H2,I2,q2⟩:=zz
 cases b with
 | true=>
  obtain ⟨N,hN,q2⟩:=q2
  rw [if_pos rfl]
  refine wpAny_passesOwn hp (b7 (hb aa s2 σ1 H2 _ I2 q2) fun f s3 q3=>?_)
  cases f with
  | next=>
   obtain ⟨σ3,H3,I3,n3⟩:=q3
   obtain ⟨m',hm,w3⟩:=hN σ3 H3 n3
   exact ⟨m',hm,σ3,H3,I3,w3⟩
  | cont=>
   obtain ⟨σ3,H3,I3,n3⟩:=q3
   obtain ⟨m',hm,w3⟩:=hN σ3 H3 n3
   exact ⟨m',hm,σ3,H3,I3,w3⟩
  | brk=>exact q3
  | ret v=>exact q3
 | false=>
  rw [if_neg d_]
  exact wpAny_execs_nil ⟨σ1,H2,I2,q2⟩
end
structure It where
 go:Nat->Hp->Prop
 yld:Nat->Hp->V->Hp->Prop
 stop:Nat->Hp->Prop
def lA (X:Cx) (aa:c9) (H:Hp) (b:Addr):Prop:=
 H b=none/\b≠X.env.locals/\b ∉ X.fs/\(b∈X.ex\/X.s₀.heap.objs.size<=b)/\(∀ x c,X.env.cells.lookup x=some c->c≠b)/\∀ p∈X.pn++aa,p.1≠b
theorem Inv.Ah {X:Cx}{aa:c9}{σ:St}{H H':Hp}{s:Shared}{b:Addr}(I:Inv X aa σ H s) (hb:s.heap.objs.size<=b) (hn:H' b=none):lA X aa H' b:=by
 refine ⟨hn,Iv (gx I.lt hb),I.adw hb,.inr (ig I.sz hb),fun x c e z=>?_,fun p hp z=>?_⟩
 ·obtain ⟨v,q⟩:=I.cell x c e
  exact absurd (gx q.lt (by rw [z];exact hb)) (pA _)
 ·exact absurd (gx (Heap.lt_size (I.pin p hp).1) (by rw [z];exact hb)) (pA _)
structure Turn (P:Program) (w:World) (K:bg) (tg:Expr) (J:It) (fp:List Addr) (it:Addr) (tn:Nat->Heap->Prop):Prop where
 mem:it∈fp
 obj:∀ i h,tn i h->∀ b∈fp,∃ o,h.get? b=some o/\∀ v,o.data≠.cell v
 keep:∀ i h h',tn i h->(∀ b∈fp,∀ o,h.get? b=some o->h'.get? b=some o)->tn i h'
 item:∀ (X:Cx),X.prog=P->X.w=w->X.K=K->X.calm=true->∀ (i:Nat) (aa:c9) (s:Shared) (σ:St) (H:Hp) (E:Value->Shared->Prop),Inv X aa σ H s->(∀ b∈fp,lA X aa H b)->tn i s.heap->J.go i H ->
  wpAny (model P w) X.A (pyNext (.ref it)) (fun r s1=>∃ u,r=some u /\
   wpAny (model P w) X.A (letOwnedTupleGo tg (.ref it) u) (fun _ s2=>∃ x H',Inv X aa σ H' s2/\RelV x u/\J.yld i H x H'/\tn (i+1) s2.heap/\∀ b∈fp,H' b=none) E s1) E s
 done:∀ (X:Cx),X.prog=P->X.w=w->X.K=K->X.calm=true->∀ (i:Nat) (aa:c9) (s:Shared) (σ:St) (H:Hp) (E:Value->Shared->Prop),Inv X aa σ H s->(∀ b∈fp,lA X aa H b)->tn i s.heap->J.stop i H ->
  wpAny (model P w) X.A (pyNext (.ref it)) (fun r s1=>r=none/\Inv X aa σ H s1) E s
 self:∀ (A:Around) (i:Nat) (s:Shared) (Q:Value->Shared->Prop) (E:Value->Shared->Prop),tn i s.heap->Q (.ref it) s->wpAny (model P w) A (pyIter (.ref it)) Q E s
abbrev TI:=St->Hp->(It->Hp->Prop)->Prop
def PIE (X:Cx) (aa:c9) (σ:St) (tg:Expr) (R:It->Hp->Prop) (itv:Value) (s2:Shared):Prop:=
 ∃ (it:Addr) (fp:List Addr) (tn:Nat->Heap->Prop) (J:It) (H':Hp),itv=.ref it/\Inv X aa σ H' s2/\Turn X.prog X.w X.K tg J fp it tn/\tn 0 s2.heap/\(∀ b∈fp,lA X aa H' b)/\R J H'
def PI (X:Cx) (tg iter:Expr) (wi:TI):Prop:=
 ∀ (aa:c9) (s:Shared) (σ:St) (H:Hp) (R:It->Hp->Prop),Inv X aa σ H s->wi σ H R ->
  wpAny (model X.prog X.w) X.A (eval iter X.env) (fun v s1=>wpAny (model X.prog X.w) X.A (pyIter v) (PIE X aa σ tg R) X.xe s1) X.xe s
theorem Oi {M:Model}{A:Around}{E:Value->Shared->Prop}{s:Shared}{tg:Expr}{it:Addr}{u:Value}{o:Obj}{n:String}{vs:Array Value}{Q:Unit->Shared->Prop}(ho:s.heap.get? it=some o) (hc:o.cls=.type n) (hd:o.data=.fields vs)
  (hn:["enumerate", "zip", "dict_itemiterator", "dict_reverseitemiterator", "odict_iterator", "itertools.zip_longest", "itertools.pairwise"].contains n=false) (hQ:Q () s):wpAny M A (letOwnedTupleGo tg (.ref it) u) Q E s:=by
 unfold letOwnedTupleGo
 cases tg<;>first
  | exact wpAny_pure hQ
  | (cases u<;>first
    | exact wpAny_pure hQ
    | (refine wpAny_bind (wpAny_load ho ?_)
       rw [hc,hd]
       show wpAny M A (if (["enumerate", "zip", "dict_itemiterator", "dict_reverseitemiterator", "odict_iterator", "itertools.zip_longest", "itertools.pairwise"].contains n&&vs[0]? == some (rawInt _))=true then _ else _) Q E s
       rw [if_neg (by intro h;rw [hn,CO] at h;cases h)]
       exact wpAny_pure hQ))
def Itl (K:bg) (a:Addr):It:=
 ⟨fun i H=>∃ xs x,cY K H a xs/\xs[i]?=some x,fun i H x H'=>H'=H/\∀ xs,cY K H a xs->xs[i]?=some x,fun i H=>∃ xs,cY K H a xs/\xs.length<=i⟩
def Itt (K:bg) (a:Addr):It:=
 ⟨fun i H=>∃ xs x,j_ K H a xs/\xs[i]?=some x,fun i H x H'=>H'=H/\∀ xs,j_ K H a xs->xs[i]?=some x,fun i H=>∃ xs,j_ K H a xs/\xs.length<=i⟩
theorem Ai {P:Program}{w:World}{K:bg}{tg:Expr}(a it:Addr):Turn P w K tg (Itl K a) [it] it (fun i h=>h.IsListIter it a i) where
 mem:=by simp
 obj:=fun i h st b hb=>by
  have e:b=it:=by simpa using hb
  subst e
  obtain ⟨o,e,c,d⟩:=st
  exact ⟨o,e,fun v z=>by rw [d] at z;cases z⟩
 keep:=fun i h h' st k=>st.at fun o e=>k it (by simp) o e
 item:=by
  intro X hP hw hK hc i aa s σ H E I hf st hg
  subst hP hw hK
  obtain ⟨xs,x,hq,hx⟩:=hg
  obtain ⟨its,rv,p,hz⟩:=I.list hq
  obtain ⟨u,hu,ru⟩:=rv.get hx
  obtain ⟨f0,f1,f2,f3,f4,f5⟩:=hf it (by simp)
  refine wpAny_pyNext_list_item st p.isList (x:=u) (by simpa using hu) fun h' Dk sb=>?_
  have I1:Inv X aa σ H { s with heap:=h' }:=I.turned (t':=s.toks) (fun b o hb e=>(sb.2 b hb).trans e) f0 f1 f3 f4 f5
  obtain ⟨o,e,c,d⟩:=id Dk
  exact ⟨u,rfl,Oi (s:={ s with heap:=h' }) e c d (by decide) ⟨x,H,I1,ru,⟨rfl,fun ys hy=>by rw [I.De hy hq];exact hx⟩,Dk,fun b hb=>(hf b hb).1⟩⟩
 done:=by
  intro X hP hw hK hc i aa s σ H E I hf st hg
  subst hP hw hK
  obtain ⟨xs,hq,hx⟩:=hg
  obtain ⟨its,rv,p,hz⟩:=I.list hq
  obtain ⟨f0,f1,f2,f3,f4,f5⟩:=hf it (by simp)
  have hl:=rv.length
  exact wpAny_pyNext_list_end (I.ok.hd hc) st p.isList (by simp;omega) fun h' eb=>⟨rfl,I.turned (t':=s.toks) (fun b o hb e=>eb b o hb e) f0 f1 f3 f4 f5⟩
 self:=fun _ _ _ _ _ st h=>wpAny_pyIter_listiter st h
theorem vD {P:Program}{w:World}{K:bg}{tg:Expr}(a it:Addr):Turn P w K tg (Itt K a) [it] it (fun i h=>h.IsTupleIter it a i) where
 mem:=by simp
 obj:=fun i h st b hb=>by
  have e:b=it:=by simpa using hb
  subst e
  obtain ⟨o,e,c,d⟩:=st
  exact ⟨o,e,fun v z=>by rw [d] at z;cases z⟩
 keep:=fun i h h' st k=>st.at fun o e=>k it (by simp) o e
 item:=by
  intro X hP hw hK hc i aa s σ H E I hf st hg
  subst hP hw hK
  obtain ⟨xs,x,hq,hx⟩:=hg
  obtain ⟨its,rv,p,hz⟩:=I.tuple hq
  obtain ⟨u,hu,ru⟩:=rv.get hx
  obtain ⟨f0,f1,f2,f3,f4,f5⟩:=hf it (by simp)
  refine wpAny_pyNext_tuple_item st (show s.heap.IsTuple a its.toArray from p) (x:=u) (by simpa using hu) fun h' Dk sb=>?_
  have I1:Inv X aa σ H { s with heap:=h' }:=I.turned (t':=s.toks) (fun b o hb e=>(sb.2 b hb).trans e) f0 f1 f3 f4 f5
  obtain ⟨o,e,c,d⟩:=id Dk
  exact ⟨u,rfl,Oi (s:={ s with heap:=h' }) e c d (by decide) ⟨x,H,I1,ru,⟨rfl,fun ys hy=>by rw [I.nX hy hq];exact hx⟩,Dk,fun b hb=>(hf b hb).1⟩⟩
 done:=by
  intro X hP hw hK hc i aa s σ H E I hf st hg
  subst hP hw hK
  obtain ⟨xs,hq,hx⟩:=hg
  obtain ⟨its,rv,p,hz⟩:=I.tuple hq
  obtain ⟨f0,f1,f2,f3,f4,f5⟩:=hf it (by simp)
  have hl:=rv.length
  exact wpAny_pyNext_tuple_end (I.ok.hd hc) st (show s.heap.IsTuple a its.toArray from p) (by simp;omega) fun h' eb=>⟨rfl,I.turned (t':=s.toks) (fun b o hb e=>eb b o hb e) f0 f1 f3 f4 f5⟩
 self:=fun _ _ _ _ _ st h=>wpAny_pyIter_tupleiter st h
section
variable {X:Cx}{tg:Expr}
def Xh (K:bg) (tl:TE):TI:=fun σ H R=>tl σ H fun x H1=>∃ a,x=.ref a/\(∃ xs,cY K H1 a xs)/\R (Itl K a) H1
def adF (K:bg) (tl:TE):TI:=fun σ H R=>tl σ H fun x H1=>∃ a,x=.ref a/\(∃ xs,j_ K H1 a xs)/\R (Itt K a) H1
theorem IG {l:Expr}{tl:TE}(hl:PE X l tl):PI X tg l (Xh X.K tl):=by
 intro aa s σ H R I h
 refine b7 (hl aa s σ H _ I h) fun v s1 zz=>?_
 obtain ⟨x,H1,I1,r1,q1⟩:=zz
 obtain ⟨a,e,⟨xs,hq⟩,q⟩:=q1
 subst e
 cases r1
 obtain ⟨its,rv,p,hz⟩:=I1.list hq
 refine wpAny_pyIter_list p.isList ?_
 refine ⟨s1.heap.objs.size,[s1.heap.objs.size],_,_,H1,rfl,I1.kept (t':=s1.toks) fun b o e=>Heap.get?_push_of_some _ e,Ai a _,⟨_,Heap.get?_push_size _ rfl,rfl,rfl⟩,fun b hb=>?_,q⟩
 have e:b=s1.heap.objs.size:=by simpa using hb
 subst e
 exact I1.Ah (dU _) (I1.bG.fresh (dU _))
theorem Q5 {l:Expr}{tl:TE}(hl:PE X l tl):PI X tg l (adF X.K tl):=by
 intro aa s σ H R I h
 refine b7 (hl aa s σ H _ I h) fun v s1 zz=>?_
 obtain ⟨x,H1,I1,r1,q1⟩:=zz
 obtain ⟨a,e,⟨xs,hq⟩,q⟩:=q1
 subst e
 cases r1
 obtain ⟨its,rv,p,hz⟩:=I1.tuple hq
 refine wpAny_pyIter_tuple (show s1.heap.IsTuple a its.toArray from p) ?_
 refine ⟨s1.heap.objs.size,[s1.heap.objs.size],_,_,H1,rfl,I1.kept (t':=s1.toks) fun b o e=>Heap.get?_push_of_some _ e,vD a _,⟨_,Heap.get?_push_size _ rfl,rfl,rfl⟩,fun b hb=>?_,q⟩
 have e:b=s1.heap.objs.size:=by simpa using hb
 subst e
 exact I1.Ah (dU _) (I1.bG.fresh (dU _))
def adG (wi:TI) (g:TG) (tb:TS):TS:=fun D σ H=>wi σ H fun J H1=>∃ W:Nat->Nat->St->Hp->Prop,(∃ m,W 0 m σ H1)/\∀ i m σ H,W i m σ H ->
 (J.stop i H/\D.nx σ H)\/(J.go i H/\∃ N:St->Hp->Prop,(∀ σ' H',N σ' H'->∃ m',m'<m/\W (i+1) m' σ' H')/\∀ x H',J.yld i H x H'->g x σ H' fun σ2 H2=>tb { D with nx:=N,ct:=N,bk:=D.nx } σ2 H2)
def lB (fp:List Addr) (h:Heap):c9:=fp.filterMap fun b=>(h.get? b).map fun o=>(b,o)
theorem fX {fp:List Addr}{h:Heap}{b:Addr}{o:Obj}(hb:b∈fp) (e:h.get? b=some o):(b,o)∈lB fp h:=Im.mpr ⟨b,hb,by rw [e];rfl⟩
theorem Aj {fp:List Addr}{h:Heap}{p:Addr × Obj}(hp:p∈lB fp h):p.1∈fp/\h.get? p.1=some p.2:=by
 obtain ⟨b,hb,e⟩:=Im.mp hp
 cases q:h.get? b with
 | none=>rw [q] at e;cases e
 | some o=>
  rw [q] at e
  have e':(b,o)=p:=nC.inj e
  subst e'
  exact ⟨hb,q⟩
theorem Inv.pinned {aa:c9}{σ:St}{H:Hp}{s:Shared}{fp:List Addr}(I:Inv X aa σ H s) (hf:∀ b∈fp,lA X aa H b) (ho:∀ b∈fp,∃ o,s.heap.get? b=some o/\∀ v,o.data≠.cell v):Inv X (aa++lB fp s.heap) σ H s:=
 I.pG fun p hp=>(iG.mp hp).elim (fun z=>I.pin p (kD _ z)) fun z=>by
  obtain ⟨hb,e⟩:=Aj z
  obtain ⟨f0,f1,f2,_⟩:=hf p.1 hb
  obtain ⟨o,e',d⟩:=ho p.1 hb
  rw [e] at e';cases e'
  exact ⟨e,f0,f1,f2,d⟩
theorem Inv.iN {aa pl:c9}{σ:St}{H:Hp}{s:Shared}(I:Inv X (aa++pl) σ H s):Inv X aa σ H s:=I.pG fun p hp=>I.pin p (kD _ (Cs _ hp))
theorem Q6 {iter:Expr}{body:List Stmt}{wi:TI}{g:TG}{tb:TS}{pos:Pos}(hp:PassesOwn (model X.prog X.w) X.A X.env X.xe) (hc:X.calm=true) (hi:PI X tg iter wi) (hg:PG X tg g) (hb:fD X body tb)
  (hs:∀ x,foldedSetIterable iter X.env x=pure x:=by intro _;rfl):PS X (.For tg iter body [] pos) (adG wi g tb):=by
 intro aa s σ H D I h
 refine wpAny_For (b7 (hi aa s σ H _ I h) fun v s1 h1=>b7 h1 fun itv s2 h2=>?_) hs
 obtain ⟨it,fp,tn,J,H2,e,I2,T,Xi,f2,W,⟨m0,w0⟩,turn⟩:=h2
 subst e
 have vE:∀ {H':Hp},(∀ b∈fp,H' b=none)->∀ b∈fp,lA X aa H' b:=fun hn b hb=>⟨hn b hb,(f2 b hb).2⟩
 refine codeAny_forLoop_any (fun n s'=>∃ i σ' H',Inv X aa σ' H' s'/\tn i s'.heap/\(∀ b∈fp,H' b=none)/\W i n σ' H') ?_ m0 ⟨0,σ,H2,I2,Xi,fun b hb=>(f2 b hb).1,w0⟩
 rintro n s3 ⟨i,σ3,H3,I3,st3,vG,w3⟩
 rcases turn i n σ3 H3 w3 with ⟨stop,qn⟩ | ⟨go,N,hN,step⟩
 ·refine wpAny_passesOwn hp (b7 (T.done X rfl rfl rfl hc i aa s3 σ3 H3 X.xe I3 (vE vG) st3 stop) fun r s4 zz=>?_)
  obtain ⟨hr,I4⟩:=zz
  subst hr
  exact wpAny_execs_nil ⟨σ3,H3,I4,qn⟩
 ·refine wpAny_passesOwn hp (b7 (T.item X rfl rfl rfl hc i aa s3 σ3 H3 X.xe I3 (vE vG) st3 go) fun r s4 zz=>?_)
  obtain ⟨u,hr,h4⟩:=zz
  subst hr
  refine wpAny_passesOwn hp (b7 h4 fun _ s5 zz=>?_)
  obtain ⟨x,H5,I5,r5,y5,II,fr5⟩:=zz
  have I5':=I5.pinned (vE fr5) (T.obj _ _ II)
  refine wpAny_passesOwn hp (b7 (hg _ s5 σ3 H5 x u _ I5' r5 (step x H5 y5)) fun _ s6 zz=>?_)
  obtain ⟨σ6,H6,I6,q6⟩:=zz
  refine wpAny_passesOwn hp (b7 (hb _ s6 σ6 H6 _ I6 q6) fun f s7 q7=>?_)
  have again:∀ {σ7:St} {H7:Hp},Inv X (aa++lB fp s5.heap) σ7 H7 s7->N σ7 H7->∃ m,m<n/\∃ i σ' H',Inv X aa σ' H' s7/\tn i s7.heap/\(∀ b∈fp,H' b=none)/\W i m σ' H':=fun {σ7 H7} I7 n7=>by
   obtain ⟨m',hm,w7⟩:=hN σ7 H7 n7
   refine ⟨m',hm,i+1,σ7,H7,I7.iN,T.keep _ _ _ II fun b hb o e=>(I7.pin (b,o) (kD _ (kD _ (fX hb e)))).1,fun b hb=>?_,w7⟩
   obtain ⟨o,e,d⟩:=T.obj _ _ II b hb
   exact (I7.pin (b,o) (kD _ (kD _ (fX hb e)))).2.1
  cases f with
  | next=>obtain ⟨σ7,H7,I7,n7⟩:=q7;exact again I7 n7
  | cont=>obtain ⟨σ7,H7,I7,n7⟩:=q7;exact again I7 n7
  | brk=>obtain ⟨σ7,H7,I7,q7⟩:=q7;exact ⟨σ7,H7,I7.iN,q7⟩
  | ret v=>obtain ⟨x7,σ7,H7,I7,r7,q7⟩:=q7;exact ⟨x7,σ7,H7,I7.iN,r7,q7⟩
end
abbrev R2:=V->V->Hp->VK->Prop
def fW (X:Cx) (f:Value->Value->Sem Value) (r:R2):Prop:=
 ∀ (aa:c9) (s:Shared) (σ:St) (H:Hp) (x y:V) (v u:Value) (Q:VK),Inv X aa σ H s->RelV x v->RelV y u->r x y H Q ->
  wpAny (model X.prog X.w) X.A (f v u) (EP X aa σ Q) X.xe s
def UnR (X:Cx) (f:Value->Sem Value) (r:V->Hp->VK->Prop):Prop:=
 ∀ (aa:c9) (s:Shared) (σ:St) (H:Hp) (x:V) (v:Value) (Q:VK),Inv X aa σ H s->RelV x v->r x H Q ->
  wpAny (model X.prog X.w) X.A (f v) (EP X aa σ Q) X.xe s
def er (X:Cx) (f:Value) (r:List V->Hp->VK->Prop):Prop:=
 ∀ (aa:c9) (s:Shared) (σ:St) (H:Hp) (xs:List V) (us:List Value) (Q:VK),Inv X aa σ H s->Vals xs us->r xs H Q ->
  wpAny (model X.prog X.w) X.A (call f us) (EP X aa σ Q) X.xe s
def adH (X:Cx) (r:V->Hp->(Bool->Hp->Prop)->Prop):Prop:=
 ∀ (aa:c9) (s:Shared) (σ:St) (H:Hp) (x:V) (v:Value) (Q:Bool->Hp->Prop),Inv X aa σ H s->RelV x v->r x H Q ->
  wpAny (model X.prog X.w) X.A (truthy v) (TP X aa σ Q) X.xe s
def HA (r:R2) (ta tb:TE):TE:=fun σ H Q=>ta σ H fun x H1=>tb σ H1 fun y H2=>r x y H2 Q
def tUn (r:V->Hp->VK->Prop) (ta:TE):TE:=fun σ H Q=>ta σ H fun x H1=>r x H1 Q
def rI (C:Int->Int->Prop) (g:Int->Int->V):R2:=fun x y H Q=>∃ i j,x=.int i/\y=.int j/\C i j/\Q (g i j) H
def HB (g:Int->Int->V):R2:=fun x y H Q=>∃ i j,x=.int i/\y=.int j/\Q (g i j) H
def rU (g:Int->V):V->Hp->VK->Prop:=fun x H Q=>∃ i,x=.int i/\Q (g i) H
section
variable {X:Cx}{a c:Expr}{ta tb tc:TE}
theorem Q7 (ha:PE X a ta) (hb:PE X b tb) {aa:c9}{s:Shared}{σ:St}{H:Hp}{R:V->V->Hp->Prop}(I:Inv X aa σ H s)
  (h:ta σ H fun x H1=>tb σ H1 fun y H2=>R x y H2) {Q:Value->Shared->Prop} {f:Value->Value->Sem Value}
  (hf:∀ v u s2 x y H2,Inv X aa σ H2 s2->RelV x v->RelV y u->R x y H2->wpAny (model X.prog X.w) X.A (f v u) Q X.xe s2) :
  wpAny (model X.prog X.w) X.A (eval a X.env) (fun v s₁=>wpAny (model X.prog X.w) X.A (eval b X.env) (fun u s₂=>wpAny (model X.prog X.w) X.A (f v u) Q X.xe s₂) X.xe s₁) X.xe s:=by
 refine b7 (ha aa s σ H _ I h) fun v s1 zz=>?_
 obtain ⟨x,H1,I1,r1,q1⟩:=zz
 refine b7 (hb aa s1 σ H1 _ I1 q1) fun u s2 zz=>?_
 obtain ⟨y,H2,I2,r2,q2⟩:=zz
 exact hf v u s2 x y H2 I2 r1 r2 q2
theorem nY {op:Operator}{r:R2}(ho:fW X (binaryOp op) r) (ha:PE X a ta) (hb:PE X b tb):PE X (.BinOp a op b pos) (HA r ta tb):=by
 intro aa s σ H Q I h
 exact wpAny_BinOp (Q7 ha hb I h fun v u s2 x y H2 I2 rx ry q=>ho aa s2 σ H2 x y v u Q I2 rx ry q)
theorem Xj {op:UnaryOp}{r:V->Hp->VK->Prop}(ho:UnR X (unaryOp op) r) (ha:PE X a ta):PE X (.UnaryOp op a pos) (tUn r ta):=by
 intro aa s σ H Q I h
 exact UnaryOp_ (b7 (ha aa s σ H _ I h) fun v s1 ⟨x,H1,I1,r1,q1⟩=>ho aa s1 σ H1 x v Q I1 r1 q1)
theorem opI {f:Value->Value->Sem Value}{C:Int->Int->Prop}{g:Int->Int->Int}
  (rule:∀ (i j:Int) (t u:Tok) (s:Shared) (Q:Value->Shared->Prop) (E:Value->Shared->Prop),C i j->Q (.int (g i j) s.toks) { s with toks:=s.toks+1 }->wpAny (model X.prog X.w) X.A (f (.int i t) (.int j u)) Q E s) :
  fW X f (rI C fun i j=>.int (g i j)):=by
 intro aa s σ H x y v u Q I rx ry h
 obtain ⟨i,j,rfl,rfl,hc,q⟩:=h
 obtain ⟨t,rfl⟩:=rx
 obtain ⟨t',rfl⟩:=ry
 exact rule i j t t' s _ _ hc ⟨.int (g i j),H,I.tok _,⟨_,rfl⟩,q⟩
theorem adI {f:Value->Value->Sem Value}{g:Int->Int->Int}
  (rule:∀ (i j:Int) (t u:Tok) (s:Shared) (Q:Value->Shared->Prop) (E:Value->Shared->Prop),Q (.int (g i j) s.toks) { s with toks:=s.toks+1 }->wpAny (model X.prog X.w) X.A (f (.int i t) (.int j u)) Q E s) :
  fW X f (HB fun i j=>.int (g i j)):=by
 intro aa s σ H x y v u Q I rx ry h
 obtain ⟨i,j,rfl,rfl,q⟩:=h
 obtain ⟨t,rfl⟩:=rx
 obtain ⟨t',rfl⟩:=ry
 exact rule i j t t' s _ _ ⟨.int (g i j),H,I.tok _,⟨_,rfl⟩,q⟩
theorem IJ {f:Value->Value->Sem Value}{g:Int->Int->Bool}
  (rule:∀ (i j:Int) (t u:Tok) (s:Shared) (Q:Value->Shared->Prop) (E:Value->Shared->Prop),Q (.bool (g i j)) s->wpAny (model X.prog X.w) X.A (f (.int i t) (.int j u)) Q E s) :
  fW X f (HB fun i j=>.bl (g i j)):=by
 intro aa s σ H x y v u Q I rx ry h
 obtain ⟨i,j,rfl,rfl,q⟩:=h
 obtain ⟨t,rfl⟩:=rx
 obtain ⟨t',rfl⟩:=ry
 exact rule i j t t' s _ _ ⟨.bl (g i j),H,I,rfl,q⟩
def Xk (i j:Int):Prop:=0<j/\j<1073741824
def Q8 (i j:Int):Prop:=(-(2 ^ 64)<i/\i<2 ^ 64)\/(-(2 ^ 64)<j/\j<2 ^ 64)
theorem Q8.ok {i j:Int}(h:Q8 i j):IntMulOk i j:=by
 rcases h with ⟨h1,h2⟩ | ⟨h1,h2⟩
 ·exact .of_left (intBits_le_64 h1 h2)
 ·exact .of_right (intBits_le_64 h1 h2)
theorem Q9:fW X (binaryOp .Add) (HB fun i j=>.int (i+j)):=adI fun _ _ _ _ _ _ _ q=>add_int q
theorem IK:fW X (binaryOp .FloorDiv) (rI Xk fun i j=>.int (i/j)):=opI fun i j _ _ _ _ _ hc q=>by
 have h1:(0:Int)<j:=hc.1
 have h2:j<1073741824:=hc.2
 exact floordiv_int (by omega) (by rw [Int.fdiv_eq_ediv_of_nonneg i (by omega)];exact q) (.inl (PyProof.noPylong_small (by omega)))
theorem Q_:fW X (binaryOp .Mod) (rI (fun _ j=>0<j) fun i j=>.int (i % j)):=opI fun i j _ _ _ _ _ hc q=>by
 have h1:(0:Int)<j:=hc
 exact mod_int' (by omega) (by rw [Int.fmod_eq_emod_of_nonneg i (by omega)];exact q)
theorem unI {f:Value->Sem Value}{g:Int->Int}
  (rule:∀ (i:Int) (t:Tok) (s:Shared) (Q:Value->Shared->Prop) (E:Value->Shared->Prop),Q (.int (g i) s.toks) { s with toks:=s.toks+1 }->wpAny (model X.prog X.w) X.A (f (.int i t)) Q E s) :
  UnR X f (rU fun i=>.int (g i)):=by
 intro aa s σ H x v Q I rx h
 obtain ⟨i,rfl,q⟩:=h
 obtain ⟨t,rfl⟩:=rx
 exact rule i t s _ _ ⟨.int (g i),H,I.tok _,⟨_,rfl⟩,q⟩
theorem Ra:UnR X (unaryOp .USub) (rU fun i=>.int (-i)):=unI fun _ _ _ _ _ q=>neg_int q
end
section
variable {X:Cx}{a c:Expr}{ta tb tc:TE}
theorem jJ {aa:c9}{σ:St}{H:Hp}{s:Shared}{Q:VK}{k k':Bool}(I:Inv X aa σ H s) (q:Q (.bl k) H) (e:k=k'):EP X aa σ Q (.bool k') s:=by
 subst e
 exact ⟨.bl k,H,I,rfl,q⟩
theorem Xl:fW X (compareOp .Lt) (HB fun i j=>.bl (decide (i<j))):=IJ fun _ _ _ _ _ _ _ q=>lt_int q
theorem Xm:fW X (compareOp .LtE) (HB fun i j=>.bl (decide (i<=j))):=IJ fun _ _ _ _ _ _ _ q=>le_int q
theorem Xn:fW X (compareOp .Gt) (HB fun i j=>.bl (decide (j<i))):=IJ fun _ _ _ _ _ _ _ q=>gt_int q
theorem Xo:fW X (compareOp .GtE) (HB fun i j=>.bl (decide (j<=i))):=IJ fun _ _ _ _ _ _ _ q=>ge_int q
theorem Ak:fW X (compareOp .In) (fun x y H Q=>∃ i j,x=.str i/\y=.str j/\Q (.bl (!(Builtin.Str.occurrences j i 0 j.length 1).isEmpty)) H):=by
 intro aa s σ H x y v u Q I rx ry h
 obtain ⟨i,j,rfl,rfl,q⟩:=h
 obtain ⟨t,rfl⟩:=rx
 obtain ⟨t',rfl⟩:=ry
 exact in_str (jJ I q rfl)
theorem Rb:fW X (compareOp .Is) (fun x y H Q=>y=.non/\Q (.bl (decide (x=.non))) H):=by
 intro aa s σ H x y v u Q I rx ry h
 obtain ⟨rfl,q⟩:=h
 cases ry
 refine is_none_gen (jJ I q ?_)
 cases x<;>first
  | (cases rx;rfl)
  | (obtain ⟨t,rfl⟩:=rx;rfl)
theorem pK:fW X (compareOp .NotIn) (fun x y H Q=>∃ i j,x=.str i/\y=.str j/\Q (.bl (!(!(Builtin.Str.occurrences j i 0 j.length 1).isEmpty))) H):=by
 intro aa s σ H x y v u Q I rx ry h
 obtain ⟨i,j,rfl,rfl,q⟩:=h
 obtain ⟨t,rfl⟩:=rx
 obtain ⟨t',rfl⟩:=ry
 exact notIn_str (jJ I q rfl)
theorem fW.or {f:Value->Value->Sem Value}{r r':R2}(h:fW X f r) (h':fW X f r'):fW X f (fun x y H Q=>r x y H Q\/r' x y H Q):=by
 intro aa s σ H x y v u Q I rx ry q
 rcases q with q | q
 ·exact h aa s σ H x y v u Q I rx ry q
 ·exact h' aa s σ H x y v u Q I rx ry q
theorem kR {op:CmpOp}{r:R2}(ho:fW X (compareOp op) r) (ha:PE X a ta) (hb:PE X b tb) (hm:behindInMarks op b=false):PE X (.Compare a [op] [b] pos) (HA r ta tb):=by
 intro aa s σ H Q I h
 exact wpAny_Compare1 (Q7 ha hb I h fun v u s2 x y H2 I2 rx ry q=>ho aa s2 σ H2 x y v u Q I2 rx ry q) hm
def Xp (t:TE):TT:=fun σ H Q=>t σ H fun x H'=>∃ k,x=.bl k/\Q k H'
theorem kT {op:CmpOp}{r:R2}(ho:fW X (compareOp op) r) (ha:PE X a ta) (hb:PE X b tb) (hm:behindInMarks op b=false):PT X (.Compare a [op] [b] pos) (Xp (HA r ta tb)):=by
 intro aa s σ H Q I h
 refine wpAny_isTrue_Compare1 (b7 (ha aa s σ H _ I h) fun v s1 ⟨x,H1,I1,r1,q1⟩=>b7 (hb aa s1 σ H1 _ I1 q1) fun u s2 ⟨y,H2,I2,r2,q2⟩=>
  b7 (ho aa s2 σ H2 x y v u _ I2 r1 r2 q2) fun c s3 ⟨z,H3,I3,r3,k,e,q3⟩=>?_) hm
 subst e
 cases r3
 exact wpAny_truthy_bool ⟨H3,I3,q3⟩
def Rf (K:bg) (x:V) (H:Hp) (k:Bool):Prop:=
 match x with
 | .non=>k=false
 | .bl b=>k=b
 | .int i=>k=(i != 0)
 | .str y=>y.length<=sizeLine/\k=((y.length:Int) != 0)
 | .byt y=>y.size<=sizeLine/\k=((y.size:Int) != 0)
 | .ref p=>(∃ xs,cY K H p xs/\k=!xs.isEmpty)\/(∃ xs,j_ K H p xs/\k=!xs.isEmpty)\/∃ aW,H p=some (.dK aW)/\k=!aW.isEmpty
 | _=>False
theorem vH {κ:Type}{aW:List (κ × V)}{vs:List (κ × Value)}(r:KV aW vs):(!vs.isEmpty)=!aW.isEmpty:=by
 cases r<;>rfl
theorem lC {xs:List V}{its:List Value}(r:Vals xs its):(!its.toArray.isEmpty)=!xs.isEmpty:=by
 cases r<;>simp
theorem lD:(sizeLine:Nat)<2 ^ 63:=by rw [sizeLine_eq];decide
theorem Rg:adH X (fun x H Q=>∃ k,Rf X.K x H k/\Q k H):=by
 intro aa s σ H x v Q I rx h
 obtain ⟨k,e,q⟩:=h
 have hl:=lD
 have hs:sizeLine=16777216:=sizeLine_eq
 cases x with
 | non=>
  cases rx
  have e':k=false:=e
  subst e'
  exact truthy_none ⟨H,I,q⟩
 | bl b=>
  cases rx
  have e':k=b:=e
  subst e'
  exact wpAny_truthy_bool ⟨H,I,q⟩
 | int i=>
  obtain ⟨t,rfl⟩:=rx
  have e':k=(i != 0):=e
  subst e'
  exact PySem.P.truthy_int ⟨H,I,q⟩
 | str y=>
  obtain ⟨t,rfl⟩:=rx
  obtain ⟨hy,e'⟩:y.length<=sizeLine/\k=((y.length:Int) != 0):=e
  subst e'
  exact PySem.P.truthy_str (by omega) ⟨H,I.tok _,q⟩
 | byt y=>
  obtain ⟨t,rfl⟩:=rx
  obtain ⟨hy,e'⟩:y.size<=sizeLine/\k=((y.size:Int) != 0):=e
  subst e'
  exact PySem.W.truthy_bytes (by omega) ⟨H,I.tok _,q⟩
 | ref p=>
  cases rx
  have e':(∃ xs,cY X.K H p xs/\k=!xs.isEmpty)\/(∃ xs,j_ X.K H p xs/\k=!xs.isEmpty)\/∃ aW,H p=some (.dK aW)/\k=!aW.isEmpty:=e
  rcases e' with ⟨xs,hx,e'⟩ | ⟨xs,hx,e'⟩ | ⟨aW,hx,e'⟩
  ·subst e'
   obtain ⟨its,r,pl,hz⟩:=I.list hx
   have cL:=r.length
   exact wpAny_truthy_list pl.isList (by simp only [bQ];omega) ⟨H,I.tok _,by rw [lC r];exact q⟩
  ·subst e'
   obtain ⟨its,r,pl,hz⟩:=I.tuple hx
   have cL:=r.length
   exact truthy_tuple pl (by simp only [bQ];omega) ⟨H,I.tok _,by rw [lC r];exact q⟩
  ·subst e'
   obtain ⟨hz,hS,vs,r,m⟩:aW.length<=sizeLine/\(p == sysModules)=false/\∃ vs,KV aW vs/\s.heap.DictOf (b9 X.prog X.w) p vs:=I.bG p _ hx
   have cL:aW.length=vs.length:=Paired.length r
   exact wpAny_truthy_dict hS m (by omega) ⟨H,I.tok _,by rw [vH r];exact q⟩
 | _=>exact (show False from e).elim
theorem Dl (ha:PE X a ta) (he:∀ gb,isTrue a X.env gb=(do let v <- gb;standAt a.pos;holding [v] (truthy v))) :
  PT X a (fun σ H Q=>ta σ H fun x H'=>∃ k,Rf X.K x H' k/\Q k H'):=by
 intro aa s σ H Q I h
 exact isTrue_plain (b7 (ha aa s σ H _ I h) fun v s1 ⟨x,H1,I1,r1,q1⟩=>Rg aa s1 σ H1 x v Q I1 r1 q1) (he _)
theorem vI:fW X (binaryOp .Add) (fun x y H Q=>∃ i j,x=.str i/\y=.str j/\i.length+j.length<=sizeLine/\Q (.str (i++j)) H):=by
 intro aa s σ H x y v u Q I rx ry h
 obtain ⟨i,j,rfl,rfl,hz,q⟩:=h
 obtain ⟨t,rfl⟩:=rx
 obtain ⟨t',rfl⟩:=ry
 exact add_str (fun t' tk=>⟨.str (i++j),H,I.tok _,⟨_,rfl⟩,q⟩) hz
theorem vals1 {x:V}{us:List Value}(r:Vals [x] us):∃ u,us=[u]/\RelV x u:=by
 cases r with
 | cons r1 r2=>cases r2;exact ⟨_,rfl,r1⟩
theorem vals2 {x y:V}{us:List Value}(r:Vals [x,y] us):∃ u w',us=[u,w']/\RelV x u/\RelV y w':=by
 cases r with
 | cons r1 r2=>
  cases r2 with
  | cons r3 r4=>cases r4;exact ⟨_,_,rfl,r1,r3⟩
theorem pL:er X (.type "str") (fun xs H Q=>∃ i,xs=[.int i]/\i.natAbs.log2<1920/\Q (.str (toString i)) H):=by
 intro aa s σ H xs us Q I r h
 obtain ⟨i,rfl,hz,q⟩:=h
 obtain ⟨u,rfl,t,rfl⟩:=vals1 r
 exact PySem.P.str_of_int hz ⟨.str _,H,I.tok _,⟨_,rfl⟩,q⟩
def Xq (K:bg) (x:V) (H:Hp) (n:Nat):Prop:=
 match x with
 | .str y=>y.length<=sizeLine/\n=y.length
 | .byt y=>y.size<=sizeLine/\n=y.size
 | .ref p=>(∃ xs,cY K H p xs/\n=xs.length)\/∃ xs,j_ K H p xs/\n=xs.length
 | _=>False
theorem lE:er X (.builtin "len") (fun xs H Q=>∃ x n,xs=[x]/\Xq X.K x H n/\Q (.int n) H):=by
 intro aa s σ H xs us Q I r h
 obtain ⟨x,n,rfl,e,q⟩:=h
 obtain ⟨u,rfl,rx⟩:=vals1 r
 have hl:=lD
 have hs:sizeLine=16777216:=sizeLine_eq
 cases x with
 | str y=>
  obtain ⟨t,rfl⟩:=rx
  obtain ⟨hy,e'⟩:y.length<=sizeLine/\n=y.length:=e
  subst e'
  exact len_str (by omega) ⟨.int _,H,I.tok _,⟨_,rfl⟩,q⟩
 | byt y=>
  obtain ⟨t,rfl⟩:=rx
  obtain ⟨hy,e'⟩:y.size<=sizeLine/\n=y.size:=e
  subst e'
  exact PySem.W.len_bytes (by omega) ⟨.int _,H,I.tok _,⟨_,rfl⟩,q⟩
 | ref p=>
  cases rx
  have e':(∃ xs,cY X.K H p xs/\n=xs.length)\/∃ xs,j_ X.K H p xs/\n=xs.length:=e
  rcases e' with ⟨xs,hx,e'⟩ | ⟨xs,hx,e'⟩
  ·subst e'
   obtain ⟨its,r',pl,hz⟩:=I.list hx
   have cL:=r'.length
   exact Calls.call_len_list pl.isList (by simp only [bQ];omega) ⟨.int xs.length,H,I.tok _,⟨_,by simp only [bQ];rw [cL]⟩,q⟩
  ·subst e'
   obtain ⟨its,r',pl,hz⟩:=I.tuple hx
   have cL:=r'.length
   exact len_tuple pl (by simp only [bQ];omega) ⟨.int xs.length,H,I.tok _,⟨_,by simp only [bQ];rw [cL]⟩,q⟩
 | _=>exact (show False from e).elim
end
structure vJ (h:Heap) (x dx C:Addr) (mA:Str->Option Value):Prop where
 obj:h.get? x=some (rG C dx)
 ns:h.Ns1 dx mA
 ne:dx≠x
theorem Al {h:Heap}{dx:Addr}{mA:Str->Option Value}(n:h.Ns1 dx mA):∃ od,h.get? dx=some od/\∀ name,Ii name od=some (mA name):=by
 obtain ⟨o,es,ep,ho,hd,hk,_,hm⟩:=n
 refine ⟨o,ho,fun name=>?_⟩
 have e:=hm name
 unfold nsFind findBy at e
 rw [<- Array.find?_toList] at e
 unfold Ii
 rw [hd]
 dsimp only
 split
 ·rename_i y q
  rw [q] at e
  exact congrArg some e
 ·rename_i q
  rw [q] at e
  have a:es.toList.any (·.refKey)=false:=by
   rw [List.any_eq_false]
   intro y hy
   obtain ⟨z,t,adJ⟩:=hk y (Array.mem_toList_iff.mp hy)
   simp [DictEntry.refKey,adJ]
  have a':¬ es.toList.any (·.refKey)=true:=by rw [a];exact d_
  rw [if_neg a']
  exact congrArg some e
theorem vJ.look {h:Heap}{x dx C:Addr}{mA:Str->Option Value}(I:vJ h x dx C mA):∃ od,PySem.W.InstAt h x (rG C dx) C (some od)/\∀ name,Ii name od=some (mA name):=
 let ⟨od,ho,hl⟩:=Al I.ns
 ⟨od,⟨I.obj,rfl,rfl,ho⟩,hl⟩
section
variable {prog:Program}{K:bg}{mA:Str->Option Value}{name:Str}{v:Value}
theorem get_map {expr:Bool}{Q:Value->Shared->Prop}(X:K.In s.heap) (I:vJ s.heap x dx C mA) (hg:B7 K C name=true) (hh:Ij K C=true)
  (ha:d9 K (.ref C) name=some none) (hv:mA name=some v) (hv':Nz v=true) (h:Q v { s with toks:=s.toks+1 }) :
  wpAny (model prog w) A (getAttr (.ref x) name expr) Q E s:=by
 obtain ⟨od,J,hl⟩:=I.look
 exact PySem.W.get_value X J (Cc hg).1 (PySem.W.findObj_own hh ha rfl (by rw [hl,hv])) hv' h
theorem Dm {pl:Sem Bool}{Q:Value × List Value->Shared->Prop}(X:K.In s.heap) (I:vJ s.heap x dx C mA) (hg:B7 K C name=true)
  (hf:d9 K (.ref C) name=some (some (.ref f))) (ht:B8 K (.ref f)=true) (hv:mA name=none) (h:Q (.ref f,[.ref x]) s) :
  wpAny (model prog w) A (getMethod (.ref x) name pl) Q E s:=by
 obtain ⟨od,J,hl⟩:=I.look
 exact PySem.W.method_fn X J (Cc hg).1 (Cc hg).2 hf (beq_iff_eq.mp ht) (by show (Ii name od).map (·.isSome)=some false;rw [hl,hv];rfl) h
theorem IL {ns:List Str}{Q:Unit->Shared->Prop}(X:K.In s.heap) (I:vJ s.heap x dx C mA)
  (hs:d9 K (.ref C) "__setattr__" = some (some (.builtin "object.__setattr__"))) (hp:Cd K C=true) (ht:Ce K C name=some none) (hh:Ij K C=true)
  (hw:PySem.Within mA ns) (hsz:ns.length<=sizeLine)
  (h:∀ h',vJ h' x dx C (fun y=>if y=name then some v else mA y)->Heap.SameBut dx s.heap h'->Q () { s with heap:=h',toks:=s.toks+2 }) :
  wpAny (model prog w) A (setAttr (.ref x) name v) Q E s:=by
 obtain ⟨od,J,hl⟩:=I.look
 refine PySem.W.set_plain X J hs (PySem.W.osa_open (s:={ s with toks:=s.toks+1 }) (r:=none) X J hp ht fun b=>?_)
 obtain ⟨cd,hc,Wx⟩:=PySem.W.any_some hh
 have hx:s.heap.get? x=some ⟨.ref C,some dx,.plain,#[]⟩:=I.obj
 refine wpAny_bind (wpAny_pure (wpAny_bind (wpAny_bind (wpAny_loadPart hx (wpAny_bind (PySem.W.Looks.here (s:={ s with toks:=s.toks+1 }) (PySem.W.looks_clsIn X hc) ?_))))))
 rw [Wx]
 refine wpAny_pure (a:=some dx) (wpAny_bind (wpAny_pure (wpAny_bind ?_)))
 refine wpAny_nsSet1 (s:={ s with toks:=s.toks+1 }) I.ns fun h' Dp vK=>?_
 obtain ⟨oD,esD,epD,hoD,hdD,IM⟩:=Dp.count (PySem.Within.cons name v hw)
 refine wpAny_bind (wpAny_lookBehind hoD (by rw [hdD];exact pastItsLine_dict (ig IM (by rw [dq];omega))) ?_)
 exact wpAny_pure (h _ ⟨(vK.2 _ (Ne.symm I.ne)).trans I.obj,Dp,I.ne⟩ vK)
theorem Dq {R:Result->Shared->Prop}{vs:List Value}{kw:List (Str × Value)}(X:K.In s.heap) (hm:B9 K C=true)
  (hi:d9 K (.ref C) "__init__" = some (some (.ref f))) (hf:PySem.W.typeIn K (.ref f)=some (.type "function"))
  (h:codeAny (model prog w) (A.under (.builtin "type.__call__" ⟨.ref C::vs,kw⟩)) (.call (.ref f) ⟨.ref (s.heap.objs.size+1)::vs,kw⟩) (PySem.W.InitBack (s.heap.objs.size+1) R)
   { s with heap:=(s.heap.push o_).push (rG C s.heap.objs.size) }) :
  codeAny (model prog w) A (.call (.ref C) ⟨vs,kw⟩) R s:=by
 obtain ⟨hh,g,d,t,os⟩:=s
 exact PySem.W.make_core (PySem.W.makes_of X hm) (PySem.W.looks_findIn X hi) (fun self=>PySem.W.bind_fn X self hf) (.inl rfl) h
end
def dM (f:Str) (v:V):List (Str × V)->List (Str × V)
 | []=>[(f,v)]
 | (g,x)::r=>if g=f then (g,v)::r else (g,x)::dM f v r
theorem kc (f g:Str) (v:V):∀ fs:List (Str × V),(dM f v fs).lookup g=if g=f then some v else fs.lookup g
 | []=>by
  show kE g [(f,v)]=_
  by_cases h:g=f
  ·have hb:(g == f)=true:=beq_iff_eq.mpr h
   simp only [kE,hb,if_pos h]
  ·have hb:(g == f)=false:=beq_eq_false_iff_ne.mpr h
   simp only [kE,hb,if_neg h]
 | (k,x)::r=>by
  have ih:=kc f g v r
  rw [show dM f v ((k,x)::r)=(if k=f then (k,v)::r else (k,x)::dM f v r) from rfl]
  by_cases hk:k=f
  ·rw [if_pos hk]
   by_cases h:g=k
   ·have hb:(g == k)=true:=beq_iff_eq.mpr h
    simp only [kE,hb,if_pos (h.trans hk)]
   ·have hb:(g == k)=false:=beq_eq_false_iff_ne.mpr h
    simp only [kE,hb,if_neg (fun e:g=f=>h (e.trans hk.symm))]
  ·rw [if_neg hk]
   by_cases h:g=k
   ·have hb:(g == k)=true:=beq_iff_eq.mpr h
    simp only [kE,hb,if_neg (fun e:g=f=>hk (h.symm.trans e))]
   ·have hb:(g == k)=false:=beq_eq_false_iff_ne.mpr h
    simp only [kE,hb]
    exact ih
theorem jK (f:Str) (v:V):∀ fs:List (Str × V),f∈(dM f v fs).map (·.1)/\∀ g,g∈fs.map (·.1)->g∈(dM f v fs).map (·.1)
 | []=>⟨by simp [dM],fun g h=>by simp at h⟩
 | (k,x)::r=>by
  obtain ⟨i1,i2⟩:=jK f v r
  rw [show dM f v ((k,x)::r)=(if k=f then (k,v)::r else (k,x)::dM f v r) from rfl]
  by_cases hk:k=f
  ·rw [if_pos hk]
   subst hk
   exact ⟨by simp,fun g h=>by simpa using h⟩
  ·rw [if_neg hk]
   refine ⟨?_,fun g h=>?_⟩
   ·rw [gi]
    exact fG _ i1
   ·rw [gi] at h ⊢
    rcases fB.mp h with e | e
    ·exact fB.mpr (.inl e)
    ·exact fG _ (i2 g e)
theorem kg (f:Str) (v:V):∀ fs:List (Str × V),(dM f v fs).length<=fs.length+1
 | []=>by simp [dM]
 | (k,x)::r=>by
  have ih:=kg f v r
  rw [show dM f v ((k,x)::r)=(if k=f then (k,v)::r else (k,x)::dM f v r) from rfl]
  by_cases hk:k=f
  ·rw [if_pos hk,dq,dq];omega
  ·rw [if_neg hk,dq,dq];omega
theorem iJ.some_of {v:V}{o:Option Value}(r:iJ (some v) o):∃ u,o=some u/\RelV v u:=by
 cases o with
 | none=>exact (show False from r).elim
 | some u=>exact ⟨u,rfl,r⟩
theorem iJ.none_of {o:Option Value}(r:iJ none o):o=none:=by
 cases o with
 | none=>rfl
 | some u=>exact (show False from r).elim
theorem Am {v:V}{u:Value}(r:RelV v u):Nz u=true:=by
 cases v with
 | non=>cases (show u=Value.none from r);rfl
 | bl b=>cases (show u=Value.bool b from r);rfl
 | int i=>obtain ⟨t,e⟩:=(show ∃ t,u=Value.int i t from r);cases e;rfl
 | str x=>obtain ⟨t,e⟩:=(show ∃ t,u=Value.str x t from r);cases e;rfl
 | byt b=>obtain ⟨t,e⟩:=(show ∃ t,u=Value.bytes b t from r);cases e;rfl
 | flt b=>obtain ⟨t,e⟩:=(show ∃ t,u=Value.float b t from r);cases e;rfl
 | ref a=>cases (show u=Value.ref a from r);rfl
 | ty n=>cases (show u=Value.type n from r);rfl
section
variable {fs vB:List (Str × V)}
theorem iO (bG:ik P w H h) (e:H a=some (.ins C dx fs)):∃ mA,vJ h a dx C mA/\(∀ f,iJ (fs.lookup f) (mA f))/\PySem.Within mA (fs.map (·.1))/\fs.length<=1000/\H dx=some (.own a):=by
 obtain ⟨d,z,ne,ob,mA,n,r,q⟩:=(show bO P w H h a (.ins C dx fs) from bG a _ e)
 exact ⟨mA,⟨ob,n,ne⟩,r,q,z,d⟩
end
structure pM (K:bg) (C:Addr):Prop where
 pg:B7 K C Str.empty=true
 hd:Ij K C=true
 po:Cd K C=true
 sa:d9 K (.ref C) "__setattr__" = some (some (.builtin "object.__setattr__"))
theorem pM.get {K:bg}{C:Addr}(c:pM K C) (f:Str):B7 K C f=true:=c.pg
def eu (K:bg) (C:Addr) (f:Str):Prop:=d9 K (.ref C) f=some none
theorem eu.Xr {K:bg}{C:Addr}{f:Str}(n:eu K C f):Ce K C f=some none:=by
 unfold Ce
 rw [show d9 K (.ref C) f=some none from n]
 rfl
structure Meth (K:bg) (C:Addr) (m:Str) (f:Addr):Prop where
 at_:d9 K (.ref C) m=some (some (.ref f))
 fn:B8 K (.ref f)=true
 kp:k_ K (.ref f)=true
section
variable {X:Cx}{σ:St}{fs:List (Str × V)}{f:Str}{v:V}
theorem vL {b:Bool}{Q:Value->Shared->Prop}(I:Inv X aa σ H s) (e:H a=some (.ins C dx fs)) (c:pM X.K C) (n:eu X.K C f) (l:fs.lookup f=some v)
  (h:∀ u s',Inv X aa σ H s'->RelV v u->Q u s'):wpAny (model X.prog X.w) A (getAttr (.ref a) f b) Q E s:=by
 obtain ⟨mA,O,r,_,_,_⟩:=iO I.bG e
 obtain ⟨u,hu,ru⟩:=iJ.some_of (v:=v) (o:=mA f) (by rw [<- l];exact r f)
 exact get_map I.gS O (c.get f) c.hd n hu (Am ru) (h u _ (I.tok _) ru)
theorem lF {m:Str}{g:Addr}{pl:Sem Bool}{Q:Value × List Value->Shared->Prop}(I:Inv X aa σ H s) (e:H a=some (.ins C dx fs)) (c:pM X.K C) (k:Meth X.K C m g) (l:fs.lookup m=none)
  (h:Q (.ref g,[.ref a]) s):wpAny (model X.prog X.w) A (getMethod (.ref a) m pl) Q E s:=by
 obtain ⟨mA,O,r,_,_,_⟩:=iO I.bG e
 have hn:mA m=none:=iJ.none_of (by rw [<- l];exact r m)
 exact Dm I.gS O (c.get m) k.at_ k.fn hn h
theorem vM {y:V}{u:Value}{Q:Unit->Shared->Prop}(I:Inv X aa σ H s) (e:H a=some (.ins C dx fs)) (c:pM X.K C) (n:eu X.K C f) (hl:fs.length<1000) (ry:RelV y u)
  (h:∀ s',Inv X aa σ (upd H a (.ins C dx (dM f y fs))) s'->Q () s'):wpAny (model X.prog X.w) A (setAttr (.ref a) f u) Q E s:=by
 obtain ⟨mA,O,r,wi,_,ho⟩:=iO I.bG e
 have hz:(fs.map (·.1)).length<=sizeLine:=by rw [dg,sizeLine_eq];omega
 refine IL I.gS O c.sa c.po n.Xr c.hd wi hz fun h' O' sb=>h _ ?_
 have hd:∃ o,h'.get? dx=some o:=let ⟨o,_,_,e',_⟩:=O'.ns;⟨o,e'⟩
 refine I.write (x:=a) (e:=dx) (by rw [e];exact True.intro) (.inr ho) (fun b q hb z=>(sb.2 b hb).trans z) hd ?_
 refine ⟨by rw [ao O.ne];exact ho,?_,O.ne,O'.obj,_,O'.ns,fun g=>?_,fun g hg=>?_⟩
 ·have:=kg f y fs;omega
 ·show iJ ((dM f y fs).lookup g) (if g=f then some u else mA g)
  rw [kc]
  by_cases q:g=f
  ·rw [if_pos q,if_pos q];exact ry
  ·rw [if_neg q,if_neg q];exact r g
 ·by_cases q:g=f
  ·rw [q];exact (jK f y fs).1
  ·refine (jK f y fs).2 g (wi g fun z=>hg ?_)
   show (if g=f then some u else mA g)=none
   rw [if_neg q];exact z
theorem Inv.made (I:Inv X aa σ H s):Inv X aa σ (upd (upd H s.heap.objs.size (.own (s.heap.objs.size+1))) (s.heap.objs.size+1) (.ins C s.heap.objs.size []))
  { s with heap:=(s.heap.push o_).push (rG C s.heap.objs.size) }:=by
 have e1:(s.heap.push o_).get? s.heap.objs.size=some o_:=Heap.get?_push_size s.heap rfl
 have e2:((s.heap.push o_).push (rG C s.heap.objs.size)).get? (s.heap.objs.size+1)=some (rG C s.heap.objs.size):=by
  have:=Heap.get?_push_size (s.heap.push o_) (o:=rG C s.heap.objs.size) rfl
  rwa [Heap.size_push] at this
 have e3:(s.heap.push o_).Ns s.heap.objs.size (fun _=>none):=⟨o_,#[],_,e1,rfl,(fun e he=>absurd he (by simp)),fun _=>rfl⟩
 have I1:=I.laid (a:=s.heap.objs.size) (o:=.own (s.heap.objs.size+1)) (h':=s.heap.push o_) (t':=s.toks) (fun b u q=>Heap.get?_push_of_some _ q) (dU _) ⟨_,e1⟩
 refine I1.laid (a:=s.heap.objs.size+1) (o:=.ins C s.heap.objs.size []) (t':=s.toks) (fun b u q=>Heap.get?_push_of_some _ q) (C2 (Heap.size_push _ _)) ?_
 have ne:s.heap.objs.size≠s.heap.objs.size+1:=dh (Ad _)
 refine ⟨by rw [ao ne,ak],iI _,ne,e2,fun _=>none,(Heap.Ns1.of_empty e3).at fun o q=>Heap.get?_push_of_some _ q,fun _=>True.intro,fun y hy=>absurd rfl hy⟩
theorem IP {prog:Program}{w:World}{env:Env}{e:Expr}{f:Str}{pos:Pos}{s:Shared}{Q:Value->Shared->Prop}(hb:attributeBase e f env (eval e env)=eval e env)
  (h:wpAny (model prog w) A (eval e env) (fun o s₁=>wpAny (model prog w) A (getAttr o f true) Q E s₁) E s):wpAny (model prog w) A (eval (.Attribute e f pos) env) Q E s:=
 Attribute_any_ h (by rw [arm_eval_Attribute,hb])
end
def adK (K:bg) (ta:TE) (f:Str):TE:=fun σ H Q=>ta σ H fun x H1=>∃ a C dx fs v,x=.ref a/\H1 a=some (.ins C dx fs)/\pM K C/\eu K C f/\fs.lookup f=some v/\Q v H1
def Xs (K:bg) (ta tv:TE) (f:Str):TS:=fun D σ H=>tv σ H fun y H1=>ta σ H1 fun x H2=>∃ a C dx fs,x=.ref a/\H2 a=some (.ins C dx fs)/\pM K C/\eu K C f/\fs.length<1000 /\
 D.nx σ (upd H2 a (.ins C dx (dM f y fs)))
section
variable {X:Cx}{value:Expr}{f:Str}{cu ir:Pos}{ta tv:TE}
theorem Ri (he:PE X e ta) (hb:attributeBase e f X.env (eval e X.env)=eval e X.env):PE X (.Attribute e f pos) (adK X.K ta f):=by
 intro aa s σ H Q I h
 refine IP hb (b7 (he aa s σ H _ I h) fun u s1 zz=>?_)
 obtain ⟨x,H1,I1,rx,a,C,dx,fs,v,ex,ea,c,n,l,q⟩:=zz
 subst ex
 obtain rfl:u=Value.ref a:=rx
 exact vL I1 ea c n l fun u' s2 I2 ru=>⟨v,H1,I2,ru,q⟩
theorem vN (ha:PE X o ta) (hv:PE X value tv) (hs:swapsWith value (some (.Attribute o f cu)) pos.line X.env=pure false):PS X (.Assign [.Attribute o f cu] value pos) (Xs X.K ta tv f):=by
 intro aa s σ H D I h
 refine plainObj_wpAny_Assign_Attribute (b7 (hv aa s σ H _ I h) fun u s1 ⟨y,H1,I1,ry,q⟩=>b7 (ha aa s1 σ H1 _ I1 q) fun ov s2 ⟨x,H2,I2,rx,a,C,dx,fs,ex,ea,c,n,l,q2⟩=>?_) hs
 subst ex
 obtain rfl:ov=Value.ref a:=rx
 exact vM I2 ea c n l ry fun s3 I3=>⟨σ,_,I3,q2⟩
end
section
variable {X:Cx}{σ:St}{Q:Value->Shared->Prop}{c:Value}{b:Bool}
inductive gY (K:bg) (H:Hp):V->Value->Prop where
 | non:gY K H .non (.type "NoneType")
 | bl (x:Bool):gY K H (.bl x) (.type "bool")
 | int (i:Int):gY K H (.int i) (.type "int")
 | str (x:Str):gY K H (.str x) (.type "str")
 | flt (x:UInt64):gY K H (.flt x) (.type "float")
 | lst {a:Addr} {xs:List V} (e:H a=some (.lst xs)):gY K H (.ref a) (.type "list")
 | iK {a:Addr} {o:Obj} {xs:List V} (e:H a=some (.iK o (.lst xs))):gY K H (.ref a) (.type "list")
 | tup {a:Addr} {xs:List V} (e:j_ K H a xs):gY K H (.ref a) (.type "tuple")
 | dK {a:Addr} {aW:List (Key × V)} (e:H a=some (.dK aW)):gY K H (.ref a) (.type "dict")
 | dT {a:Addr} {aW:List (List Key × V)} (e:H a=some (.dT aW)):gY K H (.ref a) (.type "dict")
 | ins {a C dx:Addr} {fs:List (Str × V)} (e:H a=some (.ins C dx fs)) (cl:pM K C) (ha:d9 K (.ref C) "__class__" = some (some (.builtin "object.__class__")))
   (hn:B_ K (.builtin "object.__class__") "__get__" = some (some (.builtin "getset_descriptor.__get__"))) (htk:Ca K (.builtin "object.__class__")=some true)
   (hm:zX K C (.type "object")=some true):gY K H (.ref a) (.ref C)
theorem nZ {x:V}{u t:Value}(I:Inv X aa σ H s) (rx:RelV x u) (ty:gY X.K H x t) (e:gp X.K t c=some b) (h:∀ tk,Q (.bool b) { s with toks:=tk }) :
  wpAny (model X.prog X.w) A (call (.builtin "isinstance") [u,c]) Q E s:=by
 cases ty with
 | non=>cases (show u=Value.none from rx);exact jF PySem.W.kitx_none I.gS True.intro e (fun z=>nomatch z) h
 | bl y=>cases (show u=Value.bool y from rx);exact jF PySem.W.kitx_bool I.gS True.intro e (fun z=>nomatch z) h
 | int i=>obtain ⟨t,q⟩:=(show ∃ t,u=Value.int i t from rx);cases q;exact jF PySem.W.kitx_int I.gS True.intro e (fun z=>nomatch z) h
 | str y=>obtain ⟨t,q⟩:=(show ∃ t,u=Value.str y t from rx);cases q;exact jF PySem.W.kitx_str I.gS True.intro e (fun z=>nomatch z) h
 | flt y=>obtain ⟨t,q⟩:=(show ∃ t,u=Value.float y t from rx);cases q;exact jF PySem.W.kitx_float I.gS True.intro e (fun z=>nomatch z) h
 | @lst a xs ea=>
  cases (show u=Value.ref a from rx)
  obtain ⟨_,_,n,_,h1⟩:=(show bO X.prog X.w H s.heap a (.lst xs) from I.bG a _ ea)
  exact jF NB I.gS ⟨_,h1,rfl⟩ e (fun z=>nomatch z) h
 | @iK a ob xs ea=>
  cases (show u=Value.ref a from rx)
  obtain ⟨_,_,_,n,_,h1⟩:=(show bO X.prog X.w H s.heap a (.iK ob (.lst xs)) from I.bG a _ ea)
  exact jF NB I.gS ⟨_,h1,rfl⟩ e (fun z=>nomatch z) h
 | @tup a xs ea=>
  cases (show u=Value.ref a from rx)
  obtain ⟨_,_,p,_⟩:=I.tuple ea
  obtain ⟨o,h1,h2,_⟩:=p
  exact jF PySem.W.kitx_tuple I.gS ⟨o,h1,h2⟩ e (fun z=>nomatch z) h
 | @dK a aW ea=>
  cases (show u=Value.ref a from rx)
  obtain ⟨_,_,vs,_,p⟩:=(show bO X.prog X.w H s.heap a (.dK aW) from I.bG a _ ea)
  obtain ⟨o,es,ep,h1,h2,_⟩:=p
  exact jF NC I.gS ⟨o,h1,h2.1⟩ e (fun z=>nomatch z) h
 | @dT a aW ea=>
  cases (show u=Value.ref a from rx)
  obtain ⟨_,_,xs,_,o,es,ep,h1,h2,_⟩:=(show bO X.prog X.w H s.heap a (.dT aW) from I.bG a _ ea)
  exact jF NC I.gS ⟨o,h1,h2.1⟩ e (fun z=>nomatch z) h
 | @ins a C dx fs ea cl ha hn htk hm=>
  cases (show u=Value.ref a from rx)
  obtain ⟨mA,O,_⟩:=iO I.bG ea
  obtain ⟨od,J,_⟩:=O.look
  exact jF (ND (cl.get _) cl.hd ha hn htk hm) I.gS J e (fun z=>nomatch z) h
end
structure bB (k:Nat) (A:Around):Prop where
 hd:A.handled=none
 dp:A.depth+3*k+5<recursionLimit
 un:A.units+16*k+200<cLine
theorem bB.mono {j k:Nat}{A:Around}(r:bB k A) (h:j<=k):bB j A:=⟨r.hd,by have:=r.dp;omega,by have:=r.un;omega⟩
theorem bB.deeper {k:Nat}{A:Around}(r:bB (k+1) A) (env:Env):bB k (A.deeper env):=
 ⟨r.hd,by have:=r.dp;show A.depth+1+3*k+5<_;omega,by have:=r.un;show A.units+3+16*k+200<_;omega⟩
theorem vO {A:Around}{C:Addr}{us:List Value}{kw:List (Str × Value)}:(A.under (.builtin "type.__call__" ⟨.ref C::us,kw⟩)).depth=A.depth+1:=by
 first | rfl | simp [Around.under,Code.weight,Code.isCreation,Code.isGuard,Code.isCaller,Code.frames,Code.isFrame,guardIds]
theorem vP {A:Around}{C:Addr}{us:List Value}{kw:List (Str × Value)}:(A.under (.builtin "type.__call__" ⟨.ref C::us,kw⟩)).units=A.units+1:=by
 first | rfl | simp [Around.under,Code.cUnits,Code.frames,Code.isFrame]
theorem bB.make {k:Nat}{A:Around}(r:bB (k+1) A) (C:Addr) (us:List Value) (kw:List (Str × Value)):bB k (A.under (.builtin "type.__call__" ⟨.ref C::us,kw⟩)):=
 ⟨r.hd,by have:=r.dp;rw [vO];omega,by have:=r.un;rw [vP];omega⟩
theorem bB.depth {k:Nat}{A:Around}(r:bB k A):A.depth<recursionLimit:=by have:=r.dp;omega
theorem bB.units {k:Nat}{A:Around}(r:bB k A):A.units+64<cLine:=by have:=r.un;omega
def IQ:TA:=fun _ H Q=>Q [] H
def Xu (ta:TE) (tr:TA):TA:=fun σ H Q=>ta σ H fun x H1=>tr σ H1 fun xs H2=>Q (x::xs) H2
section
variable {X:Cx}{te:TE}{t:TA}
theorem cZ:PA X [] IQ:=fun _ _ _ _ H Q I h=>Calls.spliced_nil ⟨[],H,I,.nil,h⟩
theorem bj (ha:PE X e te) (hr:PA X es t) (hs:starEach (e::es) X.env=(false,eval e X.env)::starEach es X.env:=by rfl):PA X (e::es) (Xu te t):=by
 intro pos aa s σ H Q I h
 rw [hs]
 show wpAny _ _ (spliced ((false,eval e X.env)::backTo pos (starEach es X.env))) _ _ s
 refine Calls.spliced_cons (b7 (ha aa s σ H _ I h) fun u s1 zz=>?_)
 obtain ⟨x,H1,I1,r1,q1⟩:=zz
 exact b7 (hr pos aa s1 σ H1 _ I1 q1) fun us s2 ⟨xs,H2,I2,r2,q2⟩=>⟨x::xs,H2,I2,.cons r1 r2,q2⟩
def adL (t:TA):TE:=fun σ H Q=>t σ H fun xs H1=>xs.length<=sizeLine/\∀ p,H1 p=none->Q (.ref p) (upd H1 p (.tup xs))
def adM (t:TA):TE:=fun σ H Q=>t σ H fun xs H1=>xs.length<=sizeLine/\∀ p,H1 p=none->Q (.ref p) (upd H1 p (.lst xs))
theorem Dr {x1}(h:PA X es t):PE X (.Tuple es x1 pos) (adL t):=by
 intro aa s σ H Q I hq
 refine wpAny_Tuple_spliced (b7 (h pos aa s σ H _ I hq) fun us s1 ⟨xs,H1,I1,r,z,q⟩=>⟨by rw [<- r.length];exact z,?_⟩)
 have hf:H1 s1.heap.objs.size=none:=I1.bG.fresh (dU _)
 refine ⟨.ref s1.heap.objs.size,upd H1 s1.heap.objs.size (.tup xs),I1.laid (t':=s1.toks) (fun b u e=>Heap.get?_push_of_some _ e) (dU _) ?_,rfl,q _ hf⟩
 exact ⟨z,us,r,⟨_,Heap.get?_push_size _ rfl,rfl,_,rfl⟩⟩
theorem lG (h:PA X es t):PE X (.List es pos) (adM t):=by
 intro aa s σ H Q I hq
 refine wpAny_List_spliced (b7 (h pos aa s σ H _ I hq) fun us s1 ⟨xs,H1,I1,r,z,q⟩=>⟨by rw [<- r.length];exact z,?_⟩)
 have hf:H1 s1.heap.objs.size=none:=I1.bG.fresh (dU _)
 refine ⟨.ref s1.heap.objs.size,upd H1 s1.heap.objs.size (.lst xs),I1.laid (t':=s1.toks) (fun b u e=>Heap.get?_push_of_some _ e) (dU _) ?_,rfl,q _ hf⟩
 exact ⟨z,us,0,r,Heap.get?_push_size _ rfl⟩
end
abbrev Sp:=List V->Hp->VK->XK->Prop
abbrev BY:=List Env->Hp->Shared->XK->Value->Shared->Prop
structure vQ (P:Program) (w:World) (K:bg) (mg:Str->Option Value) (base:Heap) (A:Around) (outer:List Env) (s:Shared) (H:Hp):Prop where
 frames:A.frames=some outer
 mod:Mod K mg base
 bs:∀ b o,base.get? b=some o->s.heap.get? b=some o/\H b=none
 bsz:base.objs.size<=s.heap.objs.size
 iL:s.heap.FunFrames base outer
 frf:∀ b∈nk outer,H b=none
 bG:ik P w H s.heap
 bare:AllBare s.gens
def CE (outer:List Env) (P:Program) (w:World) (H:Hp) (s:Shared) (Q:VK) (u:Value) (s':Shared):Prop:=
 ∃ v H',s'.os=s.os/\AllBare s'.gens/\Un (nk outer) [] H H' s.heap s'.heap/\ik P w H' s'.heap/\RelV v u/\Q v H'
def CR (CX:BY) (outer:List Env) (P:Program) (w:World) (H:Hp) (s:Shared) (Q:VK) (E:XK) (r:Result) (s':Shared):Prop:=
 match r with
 | .ok (.ret u)=>CE outer P w H s Q u s'
 | .ok _=>False
 | .error e=>CX outer H s E e s'
structure bU (P:Program) (w:World) (K:bg) (mg:Str->Option Value) (base:Heap) (CX:BY) (k:Nat) (f:Addr) (fd:FuncData) (ps:List Str) (sp:Sp):Prop where
 len:∀ vs H Q E,sp vs H Q E->vs.length=ps.length
 run:∀ (A:Around) (outer:List Env) (s:Shared) (H:Hp) (args:Args) (us:List Value) (vs:List V) (Q:VK) (E:XK),bB k A->vQ P w K mg base A outer s H->BindsTo s fd args (ps.zip us)->Vals vs us->sp vs H Q E ->
  codeAny (model P w) A (.call (.ref f) args) (CR CX outer P w H s Q E) s
theorem bU.imp {P:Program}{w:World}{K:bg}{mg:Str->Option Value}{base:Heap}{CX:BY}{k:Nat}{f:Addr}{fd:FuncData}{ps:List Str}{sp sp':Sp}(F:bU P w K mg base CX k f fd ps sp)
  (h:∀ vs H Q E,sp' vs H Q E->sp vs H Q E):bU P w K mg base CX k f fd ps sp':=
 ⟨fun vs H Q E q=>F.len vs H Q E (h _ _ _ _ q),fun A outer s H args us vs Q E hr he hb hv hs=>F.run A outer s H args us vs Q E hr he hb hv (h _ _ _ _ hs)⟩
theorem vQ.make {P:Program}{w:World}{K:bg}{mg:Str->Option Value}{base:Heap}{A:Around}{outer:List Env}{s:Shared}{H:Hp}(e:vQ P w K mg base A outer s H) (C:Addr) (us:List Value) (kw:List (Str × Value)) :
  vQ P w K mg base (A.under (.builtin "type.__call__" ⟨.ref C::us,kw⟩)) outer s H:=⟨by first | exact e.frames | (simpa [Around.under,Code.envs,Code.isFrame,pushEnvs] using e.frames),e.mod,e.bs,e.bsz,e.iL,e.frf,e.bG,e.bare⟩
section
variable {X:Cx}{σ:St}{s':Shared}
theorem Inv.Rj (I:Inv X aa σ H s):vQ X.prog X.w X.K X.mg X.base X.A X.stack s H:=
 ⟨I.ok.frames,I.ok.mod,I.bs,ig I.ok.bsz I.sz,I.stack,I.pF,I.bG,I.bare⟩
theorem Inv.after {Q:VK}{u:Value}(I:Inv X aa σ H s) (h:CE X.stack X.prog X.w H s Q u s'):EP X aa σ Q u s':=by
 obtain ⟨v,H',os,bare,un,bG,r,q⟩:=h
 obtain ⟨hh,g,d,t,os'⟩:=s'
 obtain rfl:os'=s.os:=os
 exact ⟨v,H',I.call (h':=hh) (g':=g) (d':=d) (t':=t) (ch:=[]) un bG bare (fun b z=>absurd z (by simp)),r,q⟩
end
def Oj (sp:Sp) (jB:List V) (E:XK) (t:TA):TE:=fun σ H Q=>t σ H fun vs H1=>sp (vs++jB) H1 Q E
def yq (C:Addr) (m:Str) (sp:Sp) (jB:List V) (E:XK) (ta:TE) (t:TA):TE:=fun σ H Q=>ta σ H fun x H1=>∃ a dx fs,x=.ref a/\H1 a=some (.ins C dx fs)/\fs.lookup m=none /\
 t σ H1 fun vs H2=>sp (x::(vs++jB)) H2 Q E
def Xv (C:Addr) (sp:Sp) (jB:List V) (E:XK) (t:TA):TE:=fun σ H Q=>t σ H fun vs H1=>∀ x dx,H1 x=none->H1 dx=none->dx≠x ->
 sp (.ref x::(vs++jB)) (upd (upd H1 dx (.own x)) x (.ins C dx [])) (fun v H2=>v=.non/\Q (.ref x) H2) E
def Binds (K:bg) (fd:FuncData) (ps:List Str) (ds:List Value):Prop:=
 ∀ (s:Shared) (us:List Value),K.In s.heap->(us++ds).length=ps.length->BindsTo s fd ⟨us,[]⟩ (ps.zip (us++ds))
theorem Binds.all {K:bg}{fd:FuncData}{ps:List Str}(h:∀ us:List Value,us.length=ps.length->bindArgs fd ⟨us,[]⟩=pure (ps.zip us)):Binds K fd ps []:=fun s us _ hl=>by
 rw [dR] at hl ⊢
 exact .of_eq (h us hl)
def Passes (CX:BY) (X:Cx) (E:XK):Prop:=∀ (aa:c9) (σ:St) (H:Hp) (s:Shared) (e:Value) (s':Shared),Inv X aa σ H s->CX X.stack H s E e s'->X.xe e s'
section
variable {X:Cx}{CX:BY}{k:Nat}{fd:FuncData}{ps:List Str}{sp:Sp}{jB:List V}{ds:List Value}{E:XK}{x m:Str}{cP:Pos}{ta:TE}{t:TA}
theorem pO {aa:c9}{σ:St}{H:Hp}{s:Shared}{Q:VK}{us:List Value}{vs:List V}(F:bU X.prog X.w X.K X.mg X.base CX k f fd ps sp) (hr:bB k X.A) (hb:Binds X.K fd ps ds) (hd:Vals jB ds) (hx:Passes CX X E)
  (I:Inv X aa σ H s) (r:Vals vs us) (h:sp (vs++jB) H Q E):wpAny (model X.prog X.w) X.A (call (.ref f) us) (EP X aa σ Q) X.xe s:=by
 have r2:Vals (vs++jB) (us++ds):=r.append hd
 have hl:(us++ds).length=ps.length:=by rw [<- r2.length];exact F.len _ _ _ _ h
 refine wpAny_call (codeAny_mono (F.run X.A X.stack s H ⟨us,[]⟩ (us++ds) (vs++jB) Q E hr I.Rj (hb s us I.gS hl) r2 h) fun r s' hq=>?_)
 cases r with
 | error e=>exact hx aa σ H s e s' I hq
 | ok fl=>
  cases fl with
  | ret u=>exact I.after hq
  | next=>exact False.elim hq
  | brk=>exact False.elim hq
  | cont=>exact False.elim hq
theorem IS (F:bU X.prog X.w X.K X.mg X.base CX k f fd ps sp) (hr:bB k X.A) (hg:Gl X x) (hm:X.mg x=some (.ref f)) (hk:k_ X.K (.ref f)=true) (hb:Binds X.K fd ps ds) (hd:Vals jB ds) (hx:Passes CX X E)
  (ha:PA X (e::es) t) (gA:a_ x:=by decide) (he:starEach (e::es) X.env=(false,eval e X.env)::starEach es X.env:=by rfl) (hpl:(backTo pos (starEach es X.env)).any (·.1)=false:=by rfl) :
  PE X (.Call (.Name x p) (e::es) [] pos) (Oj sp jB E t):=by
 intro aa s σ H Q I h
 refine wpAny_Call_Name_kw (eT I hg hm ?_ gA)
 refine Ik (h₀:=X.base) I.ok.mod.kin hk (b7 (ha pos aa s σ H _ I h) fun us s1 ⟨vs,H1,I1,r,q⟩=>⟨I1.gS,?_⟩) he hpl
 exact pO F hr hb hd hx I1 r q
theorem Dt (F:bU X.prog X.w X.K X.mg X.base CX k f fd ps sp) (hr:bB k X.A) (hg:Gl X x) (hm:X.mg x=some (.ref f)) (hk:k_ X.K (.ref f)=true) (hb:Binds X.K fd ps ds) (hd:Vals jB ds) (hx:Passes CX X E)
  (gA:a_ x:=by decide):PE X (.Call (.Name x p) [] [] pos) (Oj sp jB E IQ):=by
 intro aa s σ H Q I h
 refine wpAny_Call_Name_kw (eT I hg hm ?_ gA)
 exact Cf I.gS hk (pO (us:=[]) F hr hb hd hx I .nil h)
theorem IU {pl:Sem Bool}(he:PE X o ta) (c:pM X.K C) (hm:Meth X.K C m f) (F:bU X.prog X.w X.K X.mg X.base CX k f fd ps sp) (hr:bB k X.A) (hb:Binds X.K fd ps ds) (hd:Vals jB ds) (hx:Passes CX X E) (ha:PA X (e::es) t)
  (yo:starEach (e::es) X.env=(false,eval e X.env)::starEach es X.env:=by rfl) (hpl:(backTo pos (starEach es X.env)).any (·.1)=false:=by rfl)
  (ht:eval (.Call (.Attribute o m cP) (e::es) [] pos) X.env=(do
   let ov <- eval o X.env
   standAt cP.atName
   let (f,first) <- holding [ov] (getMethod ov m pl)
   callWith pos f first (backTo pos (starEach (e::es) X.env)) (backToKw pos (keywordEach [] X.env))):=by rfl) :
  PE X (.Call (.Attribute o m cP) (e::es) [] pos) (yq C m sp jB E ta t):=by
 intro aa s σ H Q I h
 refine NF (pl:=pl) (b7 (he aa s σ H _ I h) fun u s1 ⟨x,H1,I1,rx,a,dx,fs,ex,ea,l,q⟩=>?_) ht
 subst ex
 obtain rfl:u=Value.ref a:=rx
 refine lF I1 ea c hm l ?_
 refine Ik (first:=[.ref a]) (h₀:=X.base) I.ok.mod.kin hm.kp (b7 (ha pos aa s1 σ H1 _ I1 q) fun us s2 ⟨vs,H2,I2,r,q2⟩=>⟨I2.gS,?_⟩) yo hpl
 exact pO (us:=.ref a::us) (vs:=.ref a::vs) F hr hb hd hx I2 (.cons rfl r) q2
theorem Du {pl:Sem Bool}(he:PE X o ta) (c:pM X.K C) (hm:Meth X.K C m f) (F:bU X.prog X.w X.K X.mg X.base CX k f fd ps sp) (hr:bB k X.A) (hb:Binds X.K fd ps ds) (hd:Vals jB ds) (hx:Passes CX X E)
  (ht:eval (.Call (.Attribute o m cP) [] [] pos) X.env=(do
   let ov <- eval o X.env
   standAt cP.atName
   let (f,first) <- holding [ov] (getMethod ov m pl)
   callWith pos f first (backTo pos (starEach [] X.env)) (backToKw pos (keywordEach [] X.env))):=by rfl) :
  PE X (.Call (.Attribute o m cP) [] [] pos) (yq C m sp jB E ta IQ):=by
 intro aa s σ H Q I h
 refine NF (pl:=pl) (b7 (he aa s σ H _ I h) fun u s1 ⟨x,H1,I1,rx,a,dx,fs,ex,ea,l,q⟩=>?_) ht
 subst ex
 obtain rfl:u=Value.ref a:=rx
 refine lF I1 ea c hm l ?_
 exact Cf (first:=[.ref a]) I1.gS hm.kp (pO (us:=[.ref a]) (vs:=[.ref a]) F hr hb hd hx I1 (.cons rfl .nil) q)
structure Mk (K:bg) (C f:Addr):Prop where
 makes:B9 K C=true
 init:d9 K (.ref C) "__init__" = some (some (.ref f))
 fn:B8 K (.ref f)=true
 kp:k_ K (.ref C)=true
theorem Dv {aa:c9}{σ:St}{H:Hp}{s:Shared}{Q:VK}{us:List Value}{vs:List V}(M:Mk X.K C f) (F:bU X.prog X.w X.K X.mg X.base CX k f fd ps sp) (hr:bB (k+1) X.A) (hb:Binds X.K fd ps ds) (hd:Vals jB ds)
  (hx:Passes CX X E) (I:Inv X aa σ H s) (r:Vals vs us)
  (h:∀ x dx,H x=none->H dx=none->dx≠x->sp (.ref x::(vs++jB)) (upd (upd H dx (.own x)) x (.ins C dx [])) (fun v H2=>v=.non/\Q (.ref x) H2) E) :
  wpAny (model X.prog X.w) X.A (call (.ref C) us) (EP X aa σ Q) X.xe s:=by
 have hq:=h (s.heap.objs.size+1) s.heap.objs.size (I.bG.fresh (Nat.le_succ _)) (I.bG.fresh (dU _)) (dh (Ad _))
 have I2:=Inv.made (C:=C) I
 have r2:Vals (V.ref (s.heap.objs.size+1)::(vs++jB)) (Value.ref (s.heap.objs.size+1)::(us++ds)):=.cons rfl (r.append hd)
 have hl:(Value.ref (s.heap.objs.size+1)::us++ds).length=ps.length:=by
  have e:=r2.length
  rw [F.len _ _ _ _ hq] at e
  exact e.symm
 refine wpAny_call (Dq (f:=f) I.gS M.makes M.init (beq_iff_eq.mp M.fn) (codeAny_mono (F.run _ X.stack _ _ ⟨Value.ref (s.heap.objs.size+1)::us,[]⟩ (Value.ref (s.heap.objs.size+1)::(us++ds)) _ _ E (hr.make C us [])
  (I2.Rj.make C us []) (hb _ (Value.ref (s.heap.objs.size+1)::us) I2.gS hl) r2 hq) fun r s' Xw=>?_))
 cases r with
 | error e=>exact hx aa σ _ _ e s' I2 Xw
 | ok fl=>
  cases fl with
  | ret u=>
   obtain ⟨v,H',I3,rv,ev,q3⟩:=I2.after Xw
   subst ev
   exact ⟨rv,⟨V.ref (s.heap.objs.size+1),H',I3,rfl,q3⟩⟩
  | next=>exact False.elim Xw
  | brk=>exact False.elim Xw
  | cont=>exact False.elim Xw
theorem pP (M:Mk X.K C f) (F:bU X.prog X.w X.K X.mg X.base CX k f fd ps sp) (hr:bB (k+1) X.A) (hg:Gl X x) (hm:X.mg x=some (.ref C)) (hb:Binds X.K fd ps ds) (hd:Vals jB ds) (hx:Passes CX X E)
  (ha:PA X (e::es) t) (gA:a_ x:=by decide) (he:starEach (e::es) X.env=(false,eval e X.env)::starEach es X.env:=by rfl) (hpl:(backTo pos (starEach es X.env)).any (·.1)=false:=by rfl) :
  PE X (.Call (.Name x p) (e::es) [] pos) (Xv C sp jB E t):=by
 intro aa s σ H Q I h
 refine wpAny_Call_Name_kw (eT I hg hm ?_ gA)
 refine Ik (h₀:=X.base) I.ok.mod.kin M.kp (b7 (ha pos aa s σ H _ I h) fun us s1 ⟨vs,H1,I1,r,q⟩=>⟨I1.gS,?_⟩) he hpl
 exact Dv M F hr hb hd hx I1 r q
end
section
variable {X:Cx}{CX:BY}{k:Nat}{fd:FuncData}{ps ks:List Str}{sp:Sp}{E:XK}{x m:Str}{cP afW:Pos}{kws:List Keyword}{te ta:TE}{t tk:TA}{nm:Option Str}
variable {g:List Value->List Value->List Value}{gV:List V->List V->List V}
end
structure eU (N P:List Str) (sc:Scope):Prop where
 kind:sc.kind=.function
 co:sc.isCoroutine=false
 gen:sc.isGenerator=false
 nd:N.Nodup
 pre:N.take P.length=P
 par:∀ x∈P,sc.names.lookup x=some .local\/sc.names.lookup x=some .cell
 nofree:∀ y∈sc.names,y.2≠.free
theorem n6 {kindOf:Str->Option NameKind}{x:Str}:∀ {binds:List (Str × Value)}{m:Str->Option Value},(∀ v,(x,v) ∉ binds)->bindL kindOf binds m x=m x
 | [],_,_=>rfl
 | (n,v)::r,m,h=>by
  unfold bindL
  rw [n6 fun w hw=>h w (fG _ hw)]
  split
  ·have:x≠n:=by rintro rfl;exact h v eK
   simp [this]
  ·rfl
theorem n8 {kindOf:Str->Option NameKind}{x:Str}:∀ {binds:List (Str × Value)}{m:Str->Option Value},(∀ v,(x,v) ∉ binds)->bindC kindOf binds m x=m x
 | [],_,_=>rfl
 | (n,v)::r,m,h=>by
  unfold bindC
  rw [n8 fun w hw=>h w (fG _ hw)]
  split
  ·rfl
  ·have:x≠n:=by rintro rfl;exact h v eK
   simp [this]
theorem n9 {kindOf:Str->Option NameKind}{x:Str}{v:Value}:∀ {P:List Str}{vs:List Value}{i:Nat}{m:Str->Option Value},P.Nodup->P[i]?=some x->vs[i]?=some v->kindOf x=some .local ->
  bindL kindOf (P.zip vs) m x=some v
 | [],_,_,_,_,h,_,_=>by simp at h
 | _::_,[],_,_,_,_,h,_=>by simp at h
 | p::P,w::vs,0,m,nd,h1,h2,hk=>by
  simp at h1 h2;subst h1;subst h2
  show bindL kindOf ((p,w)::P.zip vs) m p=_
  unfold bindL
  rw [n6 fun v hv=>(kF.mp nd).1 (Ct hv).1,if_pos hk]
  simp
 | p::P,w::vs,i+1,m,nd,h1,h2,hk=>by
  show bindL kindOf ((p,w)::P.zip vs) m x=_
  unfold bindL
  exact n9 (i:=i) (kF.mp nd).2 (by simpa using h1) (by simpa using h2) hk
theorem n_ {kindOf:Str->Option NameKind}{x:Str}{v:Value}:∀ {P:List Str}{vs:List Value}{i:Nat}{m:Str->Option Value},P.Nodup->P[i]?=some x->vs[i]?=some v->kindOf x≠some .local ->
  bindC kindOf (P.zip vs) m x=some v
 | [],_,_,_,_,h,_,_=>by simp at h
 | _::_,[],_,_,_,_,h,_=>by simp at h
 | p::P,w::vs,0,m,nd,h1,h2,hk=>by
  simp at h1 h2;subst h1;subst h2
  show bindC kindOf ((p,w)::P.zip vs) m p=_
  unfold bindC
  rw [n8 fun v hv=>(kF.mp nd).1 (Ct hv).1,if_neg hk]
  simp
 | p::P,w::vs,i+1,m,nd,h1,h2,hk=>by
  show bindC kindOf ((p,w)::P.zip vs) m x=_
  unfold bindC
  exact n_ (i:=i) (kF.mp nd).2 (by simpa using h1) (by simpa using h2) hk
def start (N:List Str) (vs:List V):St:=vs.map some++dJ (N.length-vs.length) none
def jL (CX:BY) (P:Program) (w:World) (K:bg) (mg:Str->Option Value) (base:Heap) (N:List Str) (qual:Str) (scope:Scope) (f:Addr) (cd:Value) (A:Around) (outer:List Env) (s:Shared) (H:Hp) (E:XK):Cx where
 prog:=P
 w:=w
 K:=K
 mg:=mg
 base:=base
 A:=A.deeper (envOfC qual scope s.heap.objs.size f cd)
 N:=N
 s₀:=s
 H₀:=H
 env:=envOfC qual scope s.heap.objs.size f cd
 outer:=outer
 stack:=envOfC qual scope s.heap.objs.size f cd::outer
 ex:=[]
 calm:=true
 fn:=fun _=>true
 pn:=[]
 xe:=fun e s'=>wpAny (model P w) (A.deeper (envOfC qual scope s.heap.objs.size f cd)) (leaving (envOfC qual scope s.heap.objs.size f cd) e) (fun _ IV=>CX outer H s E e IV) (fun e' IV=>CX outer H s E e' IV) s'
theorem rO {sc:Scope}{n:Nat}{x:Str}(h:sc.names.lookup x=some .cell):∃ c,(cellsFrom n sc.names []).lookup x=some c:=by
 have q:=NG sc.names n [] (.inl h)
 exact CV.mp q
theorem An {CX:BY}{P:Program}{w:World}{K:bg}{mg:Str->Option Value}{base:Heap}{N ps:List Str}{qual:Str}{scope:Scope}{f:Addr}{cd:Value}{A:Around}{outer:List Env}{s s1:Shared}{H:Hp}{E:XK}{us:List Value}{vs:List V}
  (S:eU N ps scope) (hd:A.handled=none) (e0:vQ P w K mg base A outer s H) (hl:vs.length=ps.length) (r:Vals vs us)
  (x:InCallC s s.heap.objs.size (bindL (envOfC qual scope s.heap.objs.size f cd).kindOf (ps.zip us) fun _=>none) (cellsFrom (s.heap.objs.size+1) scope.names []) (bindC (envOfC qual scope s.heap.objs.size f cd).kindOf (ps.zip us) fun _=>none) s1) :
  Inv (jL CX P w K mg base N qual scope f cd A outer s H E) [] (start N vs) H s1:=by
 have hpl:ps.length<=N.length:=by have:=congrArg List.length S.pre;rw [ph] at this;omega
 obtain ⟨h1,tk,rfl,hk⟩:=x.done
 have Xx:∀ b:Addr,b ∉ (jL CX P w K mg base N qual scope f cd A outer s H E).ex:=fun b z=>absurd (show b∈([]:List Addr) from z) (by simp)
 refine ⟨⟨e0.mod,S.kind,rfl,rfl,dU _,fun y z c h1 h2=>?_,fun y hy=>?_,fun y c _ h=>?_,fun _=>hd,Around.frames_deeper e0.frames,.inr ⟨rfl,rfl⟩,fun b z=>absurd z (Xx b),e0.bs,e0.bsz,fun b _ _=>Xx b,fun b z=>absurd z (Xx b),e0.iL,e0.frf⟩,
  rfl,e0.bare,Un.kept hk,⟨_,x.toInCall.ns,fun i y v h1 h2 h3=>?_⟩,fun y c h=>⟨_,x.cell y c h⟩,e0.bG.fresh (dU _),fun y c h=>?_,fun p hp=>absurd (show p∈([]:c9) from hp) (by simp),e0.bG.kept hk,?_⟩
 ·exact name_of_addr x.apart (PySem.mem_of_lookup h1) (PySem.mem_of_lookup h2)
 ·have hy:scope.names.lookup y=some .cell\/scope.names.lookup y=some .free:=hy
  rcases hy with hy | hy
  ·exact rO hy
  ·exact absurd rfl (S.nofree _ (PySem.mem_of_lookup hy))
 ·exact C0 (x.above y c (PySem.mem_of_lookup h))
 ·have hi:i<vs.length:=by
   unfold start at h2
   by_cases hi:i<vs.length
   ·exact hi
   ·rw [gX (by simpa using hi)] at h2
    rw [Cm] at h2
    split at h2<;>cases h2
  have ha:vs[i]?=some v:=by
   unfold start at h2
   rw [iH (by simpa using hi),gu] at h2
   cases e:vs[i]? with
   | none=>rw [e] at h2;cases h2
   | some a=>rw [e] at h2;cases h2;rfl
  obtain ⟨u,hu,rv⟩:=r.get ha
  have hp:ps[i]?=some y:=by
   rw [<- S.pre,List.getElem?_take_of_lt (by omega)];exact h1
  have ndP:ps.Nodup:=by rw [<- S.pre];exact S.nd.sublist (List.take_sublist _ _)
  refine ⟨u,rv,?_⟩
  rcases S.par y (gv hp) with k | k
  ·exact .inl ⟨k,n9 ndP hp hu k⟩
  ·obtain ⟨c,e⟩:=rO (n:=s.heap.objs.size+1) k
   refine .inr ⟨.inl k,c,e,?_⟩
   have q:=x.cell y c e
   rw [n_ ndP hp hu (by show scope.names.lookup y≠_;rw [k];decide)] at q
   exact q
 ·exact e0.bG.fresh (C0 (x.above y c (PySem.mem_of_lookup h)))
 ·unfold start
  show _=N.length
  rw [bL,dg,z9]
  omega
theorem Ol {CX:BY}{P:Program}{w:World}{K:bg}{mg:Str->Option Value}{base:Heap}{k:Nat}{f:Addr}{name qual:Str}{params:Arguments}{body:List Stmt}{scope:Scope}{dV kV doc pm fE ct oc:Value}{an od:Option Addr}
  {yr:Array (Option Value)} {N ps:List Str} {sp:Sp} (lk:K.lookup f=some ⟨oc,od,.func (zY name qual params body scope dV kV doc pm an fE ct),yr⟩) (fH:Cg K fE qual=true) (S:eU N ps scope)
  (len:∀ vs H Q E,sp vs H Q E->vs.length=ps.length)
  (Dw:∀ (A:Around) (outer:List Env) (s:Shared) (H:Hp) (vs:List V) (Q:VK) (E:XK),bB k (A.deeper (envOfC qual scope s.heap.objs.size f fE))->sp vs H Q E ->
   ∃ t,fD (jL CX P w K mg base N qual scope f fE A outer s H E) body t/\t { nx:=fun _ H'=>Q .non H',rt:=Q } (start N vs) H) :
  bU P w K mg base CX (k+1) f (zY name qual params body scope dV kV doc pm an fE ct) ps sp:=by
 refine ⟨len,fun A outer s H args us vs Q E hr e0 hb r WA=>?_⟩
 have hl:=len _ _ _ _ WA
 have KX:K.In s.heap:=e0.mod.kin.keeps fun b o e=>(e0.bs b o e).1
 have lim:s.heap.NoLimit:=e0.mod.nolimit.keeps fun b o e=>(e0.bs b o e).1
 have Xy:∀ y∈ps.zip us,scope.names.lookup y.1=some .local\/(scope.names.lookup y.1=some .cell/\((cellsFrom (s.heap.objs.size+1) scope.names []).lookup y.1).isSome=true):=fun ⟨n,v⟩ hy=>by
  rcases S.par n (Ct hy).1 with q | q
  ·exact .inl q
  ·exact .inr ⟨q,NG _ _ _ (.inl q)⟩
 refine codeAny_call_function hr.depth (KX _ _ lk) rfl S.co S.gen rfl (PySem.W.codeRec_of KX fH) (hb _ _ _ _ ?_)
 refine wpAny_newFunctionEnv_cells S.kind Xy fun env he s1 x=>?_
 subst he
 refine ⟨lim.keeps x.toInCall.keep,codeAny_func ?_⟩
 obtain ⟨t,ht,hq⟩:=Dw A outer s H vs Q E (hr.deeper _) WA
 have I:Inv (jL CX P w K mg base N qual scope f fE A outer s H E) [] (start N vs) H s1:=An S hr.hd e0 hl r x
 refine wpAny_mono (ht [] s1 (start N vs) H _ I hq) (fun fl s' hs=>?_) fun e s' hs=>hs
 have fin:∀ {σ':St} {H':Hp} {v:V} {u:Value},Inv (jL CX P w K mg base N qual scope f fE A outer s H E) [] σ' H' s'->RelV v u->Q v H'->CE outer P w H s Q u s':=
  fun {σ' H' v u} J rv q=>⟨v,H',J.os,J.bare,J.base,J.bG,rv,q⟩
 cases fl with
 | ret u=>
  obtain ⟨v,σ',H',J,rv,q⟩:=hs
  exact fin J rv q
 | next=>
  obtain ⟨σ',H',J,q⟩:=hs
  exact fin (v:=V.non) (u:=Value.none) J rfl q
 | brk=>
  obtain ⟨_,_,_,q⟩:=hs
  exact False.elim q
 | cont=>
  obtain ⟨_,_,_,q⟩:=hs
  exact False.elim q
section
variable {X:Cx}{x:Str}{t:TA}{id T:String}{r:List V->Hp->VK->Prop}
def tCB (r:List V->Hp->VK->Prop) (t:TA):TE:=fun σ H Q=>t σ H fun vs H1=>r vs H1 Q
theorem dN (hc:er X (.builtin id) r) (hg:Gl X x) (hm:X.mg x=none) (hv:bootBuiltins x=some (.builtin id)) (ha:PA X (e::es) t) (hn:x ≠ "__name__" := by decide) (gA:a_ x:=by decide)
  (he:starEach (e::es) X.env=(false,eval e X.env)::starEach es X.env:=by rfl) (hpl:(backTo pos (starEach es X.env)).any (·.1)=false:=by rfl):PE X (.Call (.Name x p) (e::es) [] pos) (tCB r t):=by
 intro aa s σ H Q I h
 refine wpAny_Call_Name_kw (il I hg hm hv ?_ hn gA)
 exact N4 (b7 (ha pos aa s σ H _ I h) fun us s1 ⟨vs,H1,I1,r1,q1⟩=>hc aa s1 σ H1 vs us Q I1 r1 q1) he hpl
theorem oh (hc:er X (.type T) r) (hg:Gl X x) (hm:X.mg x=none) (hv:bootBuiltins x=some (.type T)) (ha:PA X (e::es) t) (hn:x ≠ "__name__" := by decide) (gA:a_ x:=by decide)
  (he:starEach (e::es) X.env=(false,eval e X.env)::starEach es X.env:=by rfl) (hpl:(backTo pos (starEach es X.env)).any (·.1)=false:=by rfl):PE X (.Call (.Name x p) (e::es) [] pos) (tCB r t):=by
 intro aa s σ H Q I h
 refine wpAny_Call_Name_kw (il I hg hm hv ?_ hn gA)
 exact C7 (b7 (ha pos aa s σ H _ I h) fun us s1 ⟨vs,H1,I1,r1,q1⟩=>hc aa s1 σ H1 vs us Q I1 r1 q1) he hpl
end
end L2
namespace HT
open PySem PyProof.Rows
section
open PySem.SeqAt
open PySem.AutoSeq1 (wpAny_loadPart')
open PySem.MeetsSeq PySem.MeetsSeq2 PySem.MeetsSeq3
end
section
variable {prog:Program}{w:World}{A:Around}{E:Value->Shared->Prop}{s:Shared}
def dX (n d:Nat):Option Int->Nat
 | none=>d
 | some v=>if v<0 then (v+(n:Int)).toNat else min v.toNat n
end
end HT
namespace L2
open PySem PySem.Spec PyProof.Rows
abbrev TO:=St->Hp->(Option Int->Hp->Prop)->Prop
def PO (X:Cx) (e:Option Expr) (t:TO):Prop:=
 ∀ (aa:c9) (s:Shared) (σ:St) (H:Hp) (Q:Option Int->Hp->Prop),Inv X aa σ H s->t σ H Q ->
  wpAny (model X.prog X.w) X.A (evalPart e X.env) (fun u s'=>∃ o H',Inv X aa σ H' s'/\IsPart u o/\Q o H') X.xe s
def IW:TO:=fun _ H Q=>Q none H
def Xz (t:TE):TO:=fun σ H Q=>t σ H fun x H1=>∃ i,x=.int i/\Q (some i) H1
variable {X:Cx}
section
variable {e:Expr}{te:TE}{lo hi:Option Expr}{tl th:TO}{pos p2:Pos}
theorem IX:PO X none IW:=by
 intro aa s σ H Q I h
 rw [evalPart_none]
 exact wpAny_pure ⟨none,H,I,.none,h⟩
theorem IY (h:PE X e te):PO X (some e) (Xz te):=by
 intro aa s σ H Q I hw
 rw [evalPart_some]
 refine b7 (h aa s σ H _ I hw) fun u s1 zz=>?_
 obtain ⟨x,H1,I1,r1,q1⟩:=zz
 obtain ⟨i,rfl,q⟩:=q1
 obtain ⟨t,rfl⟩:=r1
 exact ⟨some i,H1,I1,.int i t,q⟩
def Om (X:Cx) (r:V->Option Int->Option Int->Hp->VK->Prop):Prop:=
 ∀ (aa:c9) (s:Shared) (σ:St) (H:Hp) (x:V) (v vl vu:Value) (lo hi:Option Int) (sl:Addr) (Q:VK),Inv X aa σ H s->RelV x v->s.heap.IsSliceOf sl vl vu .none->IsPart vl lo->IsPart vu hi->r x lo hi H Q ->
  ∃ T id,typeLookup (.type T) "__getitem__" = pure (some (.builtin id))/\s.TypeIs v T/\wpAny (model X.prog X.w) X.A (getItem v (.ref sl)) (EP X aa σ Q) X.xe s
theorem Om.or {r r':V->Option Int->Option Int->Hp->VK->Prop}(h:Om X r) (h':Om X r'):Om X (fun x lo hi H Q=>r x lo hi H Q\/r' x lo hi H Q):=by
 intro aa s σ H x v vl vu lo hi sl Q I rx hs pl pu q
 rcases q with q | q
 ·exact h aa s σ H x v vl vu lo hi sl Q I rx hs pl pu q
 ·exact h' aa s σ H x v vl vu lo hi sl Q I rx hs pl pu q
def tSl (r:V->Option Int->Option Int->Hp->VK->Prop) (te:TE) (tl th:TO):TE:=fun σ H Q=>te σ H fun x H1=>tl σ H1 fun l H2=>th σ H2 fun u H3=>r x l u H3 Q
theorem Dz {r:V->Option Int->Option Int->Hp->VK->Prop}(hr:Om X r) (he:PE X e te) (hl:PO X lo tl) (hu:PO X hi th):PE X (.Subscript e (.Slice lo hi none p2) pos) (tSl r te tl th):=by
 intro aa s σ H Q I h
 refine Subscript_ (b7 (he aa s σ H _ I h) fun v s1 zz=>?_)
 obtain ⟨x,H1,I1,r1,q1⟩:=zz
 refine wpAny_Slice (b7 (hl aa s1 σ H1 _ I1 q1) fun vl s2 ⟨l,H2,I2,pl,q2⟩=>b7 (hu aa s2 σ H2 _ I2 q2) fun vu s3 zz=>?_)
 obtain ⟨u,H3,I3,pu,q3⟩:=zz
 rw [evalPart_none]
 refine wpAny_pure ?_
 have I4:Inv X aa σ H3 { s3 with heap:=s3.heap.push { cls:=.type "slice", data:=.fields #[vl,vu,.none] } }:=I3.kept (t':=s3.toks) fun b ob q=>Heap.get?_push_of_some _ q
 obtain ⟨T,id,hT,ht,hg⟩:=hr aa { s3 with heap:=s3.heap.push { cls:=.type "slice", data:=.fields #[vl,vu,.none] } } σ H3 x v vl vu l u s3.heap.objs.size Q I4 r1 (Heap.IsSliceOf.new ..) pl pu q3
 show wpAny (model X.prog X.w) X.A (subscriptTail e (.Slice lo hi none p2) v (.ref s3.heap.objs.size)) (EP X aa σ Q) X.xe { s3 with heap:=s3.heap.push { cls:=.type "slice", data:=.fields #[vl,vu,.none] } }
 exact tail_any (ops:=[.ref s3.heap.objs.size,v]) ht hT hg (by with_unfolding_all rfl)
def Ao (xs:List V) (lo hi:Option Int):List V:=(xs.drop (HT.dX xs.length 0 lo)).take (HT.dX xs.length xs.length hi-HT.dX xs.length 0 lo)
theorem rP (xs:List V) (lo hi:Option Int):(Ao xs lo hi).length<=xs.length:=by
 unfold Ao
 rw [ph,vt]
 omega
end
def Rk (n:Nat) (i:Int):Option Nat:=if 0<=i then (if i<n then some i.toNat else none) else if -(n:Int)<=i then some (i+n).toNat else none
def DA {α:Type}(xs:List α) (i:Int):Option α:=(Rk xs.length i).bind fun j=>xs[j]?
theorem IZ {n:Nat}{i:Int}{j:Nat}(h:Rk n i=some j):seqIndex? i n=some j/\j<n/\-(n:Int)<=i/\i<n:=by
 unfold Rk at h
 by_cases h0:0<=i
 ·rw [if_pos h0] at h
  by_cases h1:i<n
  ·rw [if_pos h1] at h
   have e:i.toNat=j:=nC.inj h
   exact ⟨by rw [seqIndex_of h0 h1,e],by omega,by omega,h1⟩
  ·rw [if_neg h1] at h;cases h
 ·rw [if_neg h0] at h
  by_cases h1:-(n:Int)<=i
  ·rw [if_pos h1] at h
   have e:(i+n).toNat=j:=nC.inj h
   exact ⟨by rw [seqIndex_neg (by omega) h1,e],by omega,h1,by omega⟩
  ·rw [if_neg h1] at h;cases h
theorem pQ {α:Type}{xs:List α}{i:Int}{v:α}(h:DA xs i=some v):∃ j,seqIndex? i xs.length=some j/\xs[j]?=some v/\j<xs.length/\-(xs.length:Int)<=i/\i<xs.length:=by
 unfold DA at h
 cases e:Rk xs.length i with
 | none=>rw [e] at h;cases h
 | some j=>
  rw [e] at h
  obtain ⟨h1,h2,h3,h4⟩:=IZ e
  exact ⟨j,h1,h,h2,h3,h4⟩
def iP (b:Expr):Prop:=∀ o i,subscripted b false o i=operate [o,i] (getItem o i)
def I0 (X:Cx) (r:R2):Prop:=
 ∀ (value slice:Expr) (aa:c9) (s:Shared) (σ:St) (H:Hp) (x y:V) (v u:Value) (Q:VK),Inv X aa σ H s->RelV x v->RelV y u->r x y H Q ->
  subscripted slice false v u=operate [v,u] (getItem v u)->wpAny (model X.prog X.w) X.A (subscriptTail value slice v u) (EP X aa σ Q) X.xe s
def Aq (X:Cx) (id:String) (r:V->List V->Hp->VK->Prop):Prop:=
 ∀ (aa:c9) (s:Shared) (σ:St) (H:Hp) (x:V) (xs:List V) (v:Value) (us:List Value) (Q:VK),Inv X aa σ H s->RelV x v->Vals xs us->r x xs H Q ->
  wpAny (model X.prog X.w) X.A (call (.builtin id) (v::us)) (EP X aa σ Q) X.xe s
section
variable {a b:Expr}{ta tb:TE}{pos:Pos}
theorem I0.or {r r':R2}(h:I0 X r) (h':I0 X r'):I0 X (fun x y H Q=>r x y H Q\/r' x y H Q):=by
 intro value slice aa s σ H x y v u Q I rx ry q hs
 rcases q with q | q
 ·exact h value slice aa s σ H x y v u Q I rx ry q hs
 ·exact h' value slice aa s σ H x y v u Q I rx ry q hs
theorem Oo {r:R2}(hr:I0 X r) (ha:PE X a ta) (hb:PE X b tb) (hs:iP b):PE X (.Subscript a b pos) (HA r ta tb):=by
 intro aa s σ H Q I h
 exact Subscript_ (Q7 ha hb I h fun v u s2 x y H2 I2 rx ry q=>hr a b aa s2 σ H2 x y v u Q I2 rx ry q (hs _ _))
def XA (K:bg):R2:=fun x y H Q=>∃ p xs i v,x=.ref p/\y=.int i/\cY K H p xs/\DA xs i=some v/\Q v H
def XC (K:bg):R2:=fun x y H Q=>∃ p xs i v,x=.ref p/\y=.int i/\j_ K H p xs/\DA xs i=some v/\Q v H
def XD:R2:=fun x y H Q=>∃ z i c,x=.str z/\y=.int i/\z.length<=sizeLine/\DA z.cps.toList i=some c/\Q (.str ⟨#[c]⟩) H
theorem yt:I0 X (XA X.K):=by
 intro value slice aa s σ H x y v u Q I rx ry h hs
 obtain ⟨p,xs,i,z,rfl,rfl,hq,he,q⟩:=h
 cases rx
 obtain ⟨t,rfl⟩:=ry
 obtain ⟨its,r,pl,hz⟩:=I.list hq
 obtain ⟨j,h1,h2,h3,h4,h5⟩:=pQ he
 obtain ⟨w,ew,I_⟩:=r.get h2
 have hl:=r.length
 have hn:=lD
 have fin:EP X aa σ Q w s:=⟨z,H,I,I_,q⟩
 by_cases h0:0<=i
 ·have hj:i.toNat=j:=by
   rw [seqIndex_of h0 h5] at h1
   exact nC.inj h1
  exact item_listR pl.isList h0 (by omega) (by rw [hj];simpa using ew) fin hs
 ·have hj:(i+(its.toArray.size:Int)).toNat=j:=by
   rw [seqIndex_neg (by omega) h4] at h1
   rw [bQ,<- hl]
   exact nC.inj h1
  exact subscriptTail_builtinR (x:=w) pl.isList.typeIs slot_list_getitem.lookup
   (wpAny_getItem_list_neg (Q:=fun r s'=>r=w/\EP X aa σ Q r s') pl.isList (by omega) (by rw [bQ]<;>omega) (by omega) (by rw [hj];simpa using ew) ⟨rfl,fin⟩) hs
theorem Rl:I0 X (XC X.K):=by
 intro value slice aa s σ H x y v u Q I rx ry h hs
 obtain ⟨p,xs,i,z,rfl,rfl,hq,he,q⟩:=h
 cases rx
 obtain ⟨t,rfl⟩:=ry
 obtain ⟨its,r,pl,hz⟩:=I.tuple hq
 obtain ⟨j,h1,h2,h3,h4,h5⟩:=pQ he
 obtain ⟨w,ew,I_⟩:=r.get h2
 have hl:=r.length
 have hn:=lD
 have fin:EP X aa σ Q w s:=⟨z,H,I,I_,q⟩
 exact subscriptTail_builtinR (x:=w) pl.typeIs slot_tuple_getitem.lookup
  (getItem_tuple (j:=j) (Q:=fun r s'=>r=w/\EP X aa σ Q r s') pl (by omega) (by omega) (by rw [bQ,<- hl];exact h1) (by simpa using ew) ⟨rfl,fin⟩) hs
theorem Rm:I0 X XD:=by
 intro value slice aa s σ H x y v u Q I rx ry h hs
 obtain ⟨z,i,c,rfl,rfl,hz,he,q⟩:=h
 obtain ⟨t,rfl⟩:=rx
 obtain ⟨t',rfl⟩:=ry
 obtain ⟨j,h1,h2,h3,h4,h5⟩:=pQ he
 have hl:z.cps.toList.length=z.length:=by simp [Str.length]
 rw [hl] at h1 h4 h5
 have hn:=lD
 exact tail_any (typeIs_str s z t) slot_str_getitem.lookup (getItem_str (c:=c) (by
  have e1:decide (i < -(2 ^ 63:Int))=false:=decide_eq_false (by omega)
  have e2:decide (i ≥ 2 ^ 63)=false:=decide_eq_false (by omega)
  rw [e1,e2,CP]) (by rw [h1];simpa using h2) ⟨.str ⟨#[c]⟩,H,I.tok _,⟨_,rfl⟩,q⟩) hs
def rIx (K:bg):R2:=fun x y H Q=>XA K x y H Q\/XC K x y H Q\/XD x y H Q
theorem Rn:I0 X (rIx X.K):=yt.or (Rl.or Rm)
theorem pR (lo hi:Option Int) (n:Nat):(sliceBounds lo hi none n).1=((HT.dX n 0 lo:Nat):Int)/\(sliceBounds lo hi none n).2.1=((HT.dX n n hi:Nat):Int)/\(sliceBounds lo hi none n).2.2=1:=by
 refine ⟨?_,?_,rfl⟩
 ·cases lo with
  | none=>simp [sliceBounds,HT.dX]
  | some i=>
   simp only [sliceBounds,HT.dX,NW,show (1:Int) > 0 by decide,if_true]
   by_cases h:i<0
   ·simp only [h,if_true]<;>omega
   ·simp only [h,if_false]<;>omega
 ·cases hi with
  | none=>simp [sliceBounds,HT.dX]
  | some i=>
   simp only [sliceBounds,HT.dX,NW,show (1:Int) > 0 by decide,if_true]
   by_cases h:i<0
   ·simp only [h,if_true]<;>omega
   ·simp only [h,if_false]<;>omega
theorem nH (its:List Value) (lo hi:Option Int):slicePick its.toArray lo hi none=((its.drop (HT.dX its.length 0 lo)).take (HT.dX its.length its.length hi-HT.dX its.length 0 lo)).toArray:=by
 obtain ⟨h1,h2,h3⟩:=pR lo hi its.toArray.size
 unfold slicePick
 rw [h1,h2,h3]
 simp only [sliceRange_one,pick_run,bQ]<;>rfl
def XE (K:bg):V->Option Int->Option Int->Hp->VK->Prop:=fun x lo hi H Q=>∃ a xs,x=.ref a/\cY K H a xs/\∀ p,H p=none->Q (.ref p) (upd H p (.lst (Ao xs lo hi)))
theorem Ja:Om X (XE X.K):=by
 intro aa s σ H x v vl vu lo hi sl Q I rx hs pl pu h
 obtain ⟨a,xs,rfl,hx,q⟩:=h
 cases rx
 obtain ⟨its,r,ht,hz⟩:=I.list hx
 have cL:=r.length
 refine ⟨"list", _,slot_list_getitem.lookup,ht.isList.typeIs,?_⟩
 refine wpAny_getItem_list_slice ht.isList hs pl pu .none (by simp) ?_ (by rw [bQ]<;>omega)
 rw [nH,<- cL]
 refine ⟨.ref s.heap.objs.size,_,I.laid (t':=s.toks) (o:=.lst (Ao xs lo hi)) (fun b ob q=>Heap.get?_push_of_some _ q) (dU _) ?_,rfl,q _ (I.bG.fresh (dU _))⟩
 exact ⟨ig (rP xs lo hi) hz,_,0,(r.drop (HT.dX xs.length 0 lo)).take (HT.dX xs.length xs.length hi-HT.dX xs.length 0 lo),Heap.get?_push_size _ rfl⟩
def dC:V->Bool
 | .non=>true
 | .bl _=>true
 | .int _=>true
 | .str _=>true
 | _=>false
def DB:V->V->Bool
 | .non,.non=>true
 | .bl a,.bl b=>a == b
 | .bl a,.int b=>(if a then 1 else 0) == b
 | .int a,.bl b=>a == (if b then 1 else 0)
 | .int a,.int b=>a == b
 | .str a,.str b=>a == b
 | _,_=>false
theorem vR {A:Around}{s:Shared}{y x:V}{u v:Value}(ry:RelV y u) (rx:RelV x v) (fy:dC y=true) (fx:dC x=true):SeqAt.EqAt A s u v (DB y x):=by
 cases y with
 | non=>
  cases ry
  cases x with
  | non=>cases rx;exact SeqAt.EqAt.same _
  | bl b=>cases rx;exact SeqAt.EqAt.none_bool b
  | int b=>obtain ⟨t,rfl⟩:=rx;exact SeqAt.EqAt.none_int b t
  | str b=>obtain ⟨t,rfl⟩:=rx;exact SeqAt.EqAt.none_str b t
  | _=>exact absurd (show false=true from fx) d_
 | bl a=>
  cases ry
  cases x with
  | non=>cases rx;exact SeqAt.EqAt.bool_none a
  | bl b=>cases rx;exact SeqAt.EqAt.bool_bool a b
  | int b=>obtain ⟨t,rfl⟩:=rx;exact SeqAt.EqAt.bool_int a b t
  | str b=>obtain ⟨t,rfl⟩:=rx;exact SeqAt.EqAt.bool_str a b t
  | _=>exact absurd (show false=true from fx) d_
 | int a=>
  obtain ⟨t',rfl⟩:=ry
  cases x with
  | non=>cases rx;exact SeqAt.EqAt.int_none a t'
  | bl b=>cases rx;exact SeqAt.EqAt.int_bool a t' b
  | int b=>obtain ⟨t,rfl⟩:=rx;exact SeqAt.EqAt.int_int a t' b t
  | str b=>obtain ⟨t,rfl⟩:=rx;exact SeqAt.EqAt.int_str a t' b t
  | _=>exact absurd (show false=true from fx) d_
 | str a=>
  obtain ⟨t',rfl⟩:=ry
  cases x with
  | non=>cases rx;exact SeqAt.EqAt.str_none a t'
  | bl b=>cases rx;exact SeqAt.EqAt.str_bool a t' b
  | int b=>obtain ⟨t,rfl⟩:=rx;exact SeqAt.EqAt.str_int a t' b t
  | str b=>obtain ⟨t,rfl⟩:=rx;exact SeqAt.EqAt.str_str a t' b t
  | _=>exact absurd (show false=true from fx) d_
 | _=>exact absurd (show false=true from fy) d_
def vS (x:V) (u:Value):Bool:=match u with
 | .none=>DB .non x
 | .bool b=>DB (.bl b) x
 | .int i _=>DB (.int i) x
 | .str z _=>DB (.str z) x
 | _=>false
theorem DC {x y:V}{u:Value}(r:RelV y u) (f:dC y=true):vS x u=DB y x:=by
 cases y with
 | non=>cases r;rfl
 | bl b=>cases r;rfl
 | int i=>obtain ⟨t,rfl⟩:=r;rfl
 | str z=>obtain ⟨t,rfl⟩:=r;rfl
 | _=>exact absurd (show false=true from f) d_
theorem iQ {x:V}:∀ {xs:List V}{us:List Value},Vals xs us->xs.all dC=true->us.any (vS x)=xs.any fun y=>DB y x
 | _,_,.nil,_=>rfl
 | y::xs,u::us,.cons r t,f=>by
  rw [eL,cy] at f
  rw [kG,kG,DC r f.1,iQ t f.2]
theorem gB {A:Around}{s:Shared}{x:V}{v:Value}(rx:RelV x v) (fx:dC x=true):∀ {xs:List V}{us:List Value},Vals xs us->xs.all dC=true->∀ u∈us,SeqAt.EqAt A s u v (vS x u)
 | _,_,.nil,_=>fun u hu=>by cases hu
 | y::xs,u::us,.cons r t,f=>fun u' hu=>by
  rw [eL,cy] at f
  rcases fB.mp hu with rfl | hu
  ·rw [DC r f.1];exact vR r rx f.1 fx
  ·exact gB rx fx t f.2 u' hu
def inV (x:V) (xs:List V):Bool:=xs.any fun y=>DB y x
def rIn (K:bg) (neg:Bool):R2:=fun x y H Q=>∃ p xs,y=.ref p/\(cY K H p xs\/j_ K H p xs)/\dC x=true/\xs.all dC=true/\Q (.bl (if neg then !inV x xs else inV x xs)) H
theorem Ar:fW X (compareOp .In) (rIn X.K false):=by
 intro aa s σ H x y v u Q I rx ry h
 obtain ⟨p,xs,rfl,hq,fx,fs,q⟩:=h
 cases ry
 rcases hq with hq | hq
 ·obtain ⟨its,r,pl,hz⟩:=I.list hq
  refine SeqAt.in_listAt (vS x) pl.isList (fun w hw=>gB rx fx r fs w (by simpa using hw)) ⟨.bl _,H,I,rfl,?_⟩
  rw [show its.toArray.any (vS x)=its.any (vS x) by simp,iQ r fs]
  exact q
 ·obtain ⟨its,r,pl,hz⟩:=I.tuple hq
  refine SeqAt.in_tupleAt (vS x) pl (fun w hw=>gB rx fx r fs w (by simpa using hw)) ⟨.bl _,H,I,rfl,?_⟩
  rw [show its.toArray.any (vS x)=its.any (vS x) by simp,iQ r fs]
  exact q
theorem pS:fW X (compareOp .NotIn) (rIn X.K true):=by
 intro aa s σ H x y v u Q I rx ry h
 obtain ⟨p,xs,rfl,hq,fx,fs,q⟩:=h
 cases ry
 rcases hq with hq | hq
 ·obtain ⟨its,r,pl,hz⟩:=I.list hq
  refine SeqAt.notIn_listAt (vS x) pl.isList (fun w hw=>gB rx fx r fs w (by simpa using hw)) ⟨.bl _,H,I,rfl,?_⟩
  rw [show its.toArray.any (vS x)=its.any (vS x) by simp,iQ r fs]
  exact q
 ·obtain ⟨its,r,pl,hz⟩:=I.tuple hq
  refine SeqAt.notIn_tupleAt (vS x) pl (fun w hw=>gB rx fx r fs w (by simpa using hw)) ⟨.bl _,H,I,rfl,?_⟩
  rw [show its.toArray.any (vS x)=its.any (vS x) by simp,iQ r fs]
  exact q
theorem iR:er X (.type "list") (fun xs H Q=>∃ p ys,xs=[.ref p]/\(cY X.K H p ys\/j_ X.K H p ys)/\∀ l,H l=none->Q (.ref l) (upd H l (.lst ys))):=by
 intro aa s σ H xs us Q I r h
 obtain ⟨p,ys,rfl,hq,q⟩:=h
 obtain ⟨u,rfl,rx⟩:=vals1 r
 cases rx
 have fin:∀ (its:List Value),Vals ys its->ys.length<=sizeLine->∀ (h':Heap) (c':Nat),(∀ b o',s.heap.get? b=some o'->h'.get? b=some o') ->
   h'.get? s.heap.objs.size=some { cls:=.type "list", dict:=none,data:=.seq its.toArray c',slots:=#[] }->EP X aa σ Q (.ref s.heap.objs.size) { s with heap:=h' }:=fun its r' hz h' c' kp e=>
  ⟨.ref s.heap.objs.size,_,I.laid (t':=s.toks) kp (dU _) (show bO X.prog X.w _ h' _ (.lst ys) from ⟨hz,its,c',r',e⟩),rfl,q _ (I.bG.fresh (dU _))⟩
 rcases hq with hq | hq
 ·obtain ⟨its,r',pl,hz⟩:=I.list hq
  have cL:=r'.length
  obtain ⟨o,ho,hc,n,hd⟩:=pl.isList
  exact call_list_seq p (.inl rfl) ho hc hd (fun h' c' kp e=>fin its r' hz h' c' kp e) (by simp only [bQ]<;>omega)
 ·obtain ⟨its,r',pl,hz⟩:=I.tuple hq
  have cL:=r'.length
  obtain ⟨o,ho,hc,n,hd⟩:=pl
  exact call_list_seq p (.inr rfl) ho hc hd (fun h' c' kp e=>fin its r' hz h' c' kp e) (by simp only [bQ]<;>omega)
def tyV (K:bg) (T:String) (x:V) (H:Hp):Prop:=match x with
 | .str _=>T = "str"
 | .int _=>T = "int"
 | .ref p=>(T = "list" /\ ∃ xs,cY K H p xs)\/(T = "tuple" /\ ∃ o,K.lookup p=some o/\o.cls=.type "tuple" /\ o.dict=none) \/
   (T = "dict" /\ ((∃ aW,H p=some (.dK aW))\/∃ aW,H p=some (.dT aW)))\/(T = "set" /\ ∃ S n,H p=some (.set S n))
 | _=>False
theorem Ro {aa:c9}{σ:St}{H:Hp}{s:Shared}{T:String}{x:V}{v:Value}(I:Inv X aa σ H s) (r:RelV x v) (ty:tyV X.K T x H) :
  s.TypeIs v T/\∀ a,v=.ref a->∃ ob,s.heap.get? a=some ob/\ob.dict=none:=by
 cases x with
 | str z=>
  obtain ⟨t,rfl⟩:=r
  cases (show T = "str" from ty)
  exact ⟨typeIs_str s z t,fun _ e=>nomatch e⟩
 | int i=>
  obtain ⟨t,rfl⟩:=r
  cases (show T = "int" from ty)
  exact ⟨typeIs_int s i t,fun _ e=>nomatch e⟩
 | ref p=>
  cases r
  rcases ty with ⟨rfl,xs,hq⟩ | ⟨rfl,o,hk,hc,hd⟩ | ⟨rfl,hk⟩ | ⟨rfl,S,n,hk⟩
  ·obtain ⟨its,_,pl,_⟩:=I.list hq
   refine ⟨pl.isList.typeIs,fun a e=>?_⟩
   cases e
   obtain ⟨o,n,e,c,hd,_⟩:=pl
   exact ⟨o,e,hd⟩
  ·refine ⟨⟨o,I.gS p o hk,hc⟩,fun a e=>?_⟩
   cases e
   exact ⟨o,I.gS _ o hk,hd⟩
  ·have z:∃ o,s.heap.get? p=some o/\o.ExactDict:=by
    rcases hk with ⟨aW,hk⟩ | ⟨aW,hk⟩
    ·obtain ⟨_,_,_,_,o,_,_,e,ex,_⟩:=I.bG p _ hk
     exact ⟨o,e,ex⟩
    ·obtain ⟨_,_,_,_,o,_,_,e,ex,_⟩:=I.bG p _ hk
     exact ⟨o,e,ex⟩
   obtain ⟨o,e,ex⟩:=z
   refine ⟨⟨o,e,ex.1⟩,fun a e2=>?_⟩
   cases e2
   exact ⟨o,e,ex.2.1⟩
  ·obtain ⟨o,_,_,_,e,ex,_⟩:=I.bG p _ hk
   refine ⟨⟨o,e,ex.1⟩,fun a e2=>?_⟩
   cases e2
   exact ⟨o,e,ex.2.1⟩
 | _=>exact False.elim ty
def tBM (K:bg) (T:String) (r:V->List V->Hp->VK->Prop) (to:TE) (t:TA):TE:=fun σ H Q=>to σ H fun x H1=>tyV K T x H1/\t σ H1 fun xs H2=>r x xs H2 Q
variable {o e:Expr}{es:List Expr}{to:TE}{t:TA}{name:Str}{cP cQ:Pos}{T id:String}{r:V->List V->Hp->VK->Prop}
theorem DE (pa:PlainAttrs T) (slot:Slot T name id) (XF:typeOf (.builtin id)=pure (.type "method_descriptor")) (hm:Aq X id r) (ho:PE X o to) (ha:PA X (e::es) t)
  (XG:attributeBase o name X.env (eval o X.env)=eval o X.env:=by rfl)
  (adN:((backTo cQ (starEach (e::es) X.env)).all (fun x=>!x.1)&&(backToKw cQ (keywordEach [] X.env)).all (fun x=>x.1.isSome)
   && decide ((e::es).length+([]:List Keyword).length+(if ([]:List Keyword).isEmpty then 0 else 1)<30))=true:=by rfl)
  (lH:(cP.endLine == cQ.line)=true:=by rfl) (hs:starEach (e::es) X.env=(false,eval e X.env)::starEach es X.env:=by rfl) (Rp:(backTo cQ (starEach es X.env)).any (·.1)=false:=by rfl) :
  PE X (.Call (.Attribute o name cP) (e::es) [] cQ) (tBM X.K T r to t):=by
 intro aa s σ H Q I h
 refine wpAny_Call_method_late XG adN lH rfl (b7 (ho aa s σ H _ I h) fun v s1 zz=>?_)
 obtain ⟨x,H1,I1,r1,ty,q1⟩:=zz
 obtain ⟨h1,h2⟩:=Ro I1 r1 ty
 refine ⟨T,id,pa,slot,XF,h1,h2,?_⟩
 have hA:=ha cQ aa s1 σ H1 _ I1 q1
 rw [hs] at hA ⊢
 refine Calls.callWith_builtin (by show (false || (backTo cQ (starEach es X.env)).any (·.1))=false;rw [Rp]<;>rfl) (Calls.evalArgs_plain ?_)
 exact b7 hA fun us s2 ⟨vs,H2,I2,r2,q2⟩=>hm aa s2 σ H2 x vs v us Q I2 r1 r2 q2
end
def MtM (X:Cx) (id:String) (r:V->List V->Hp->VK->Prop):Prop:=
 ∀ (aa:c9) (s:Shared) (σ:St) (H:Hp) (x:V) (xs:List V) (v:Value) (us:List Value) (Q:VK),Inv X aa σ H s->RelV x v->Vals xs us->r x xs H Q ->
  wpAny (model X.prog X.w) X.A (call (.builtin id) (v::us)) (EP X aa σ Q) X.xe s
theorem Vals.one:∀ {x:V}{us:List Value},Vals [x] us->∃ u,us=[u]/\RelV x u
 | _,_,.cons r .nil=>⟨_,rfl,r⟩
theorem Vals.two:∀ {x y:V}{us:List Value},Vals [x,y] us->∃ u v,us=[u,v]/\RelV x u/\RelV y v
 | _,_,_,.cons r (.cons q .nil)=>⟨_,_,rfl,r,q⟩
theorem Vals.rep {xs:List V}{us:List Value}(h:Vals xs us):∀ k:Nat,Vals (dJ k xs).flatten (dJ k us).flatten
 | 0=>.nil
 | k+1=>by
  rw [vv,vv,z_,z_]
  exact Vals.append h (Vals.rep h k)
theorem foldl_rep (its:List Value):∀ (k:Nat) (bR:List Value),
  Cu (fun x1 x2=>x1++x2) bR.toArray (dJ k its.toArray)=(bR++(dJ k its).flatten).toArray
 | 0,bR=>by simp
 | k+1,bR=>by
  have e:bR.toArray++its.toArray=(bR++its).toArray:=by simp
  have e2:(bR++its)++(dJ k its).flatten=bR++(dJ (k+1) its).flatten:=by
   rw [vv,z_,lj]
  rw [<- e2,<- foldl_rep its k (bR++its),<- e,vv,List.foldl_cons]
section
variable {aa:c9}{σ:St}{H:Hp}{s:Shared}{l b:Addr}{xs ys zs:List V}
theorem Inv.XH {its its':List Value}{n:Nat}{f:Array Value->Array Value}{t':Nat}(I:Inv X aa σ H s) (hH:H l=some (.lst xs))
  (e:s.heap.get? l=some { cls:=.type "list", data:=.seq its.toArray n }) (hf:f its.toArray=its'.toArray) (hv:Vals ys its') (hz:ys.length<=sizeLine) :
  Inv X aa σ (upd H l (.lst ys)) { s with heap:=s.heap.update l (Obj.mapSeq f),toks:=t' }:=by
 have q:=PySem.IsL.update e f
 rw [hf] at q
 refine I.write (x:=l) (e:=l) (by rw [hH];exact trivial) (.inl rfl) (fun b' u hb hu=>(Heap.get?_update_other s.heap (Obj.mapSeq f) (Ne.symm hb)).trans hu) ⟨_,q⟩ ?_
 exact ⟨hz,its',_,hv,q⟩
theorem Inv.As {its:List Value}{t':Nat}(I:Inv X aa σ H s) (hv:Vals ys its) (hz:ys.length<=sizeLine) :
  Inv X aa σ (upd H s.heap.objs.size (.lst ys)) { s with heap:=s.heap.push { cls:=.type "list", data:=.seq its.toArray },toks:=t' }:=
 I.laid (fun _ _ q=>Heap.get?_push_of_some _ q) (dU _) ⟨hz,its,0,hv,Heap.get?_push_size _ rfl⟩
theorem Inv.fresh (I:Inv X aa σ H s):H s.heap.objs.size=none:=I.bG.fresh (dU _)
theorem Inv.DF (I:Inv X aa σ H s) (hH:H l=some (.lst xs)):xs.length<=sizeLine/\∃ (its:List Value) (n:Nat),Vals xs its/\xs.length=its.length/\s.heap.get? l=some { cls:=.type "list", data:=.seq its.toArray n }:=by
 obtain ⟨z,its,n,r,e⟩:=I.bG l _ hH
 exact ⟨z,its,n,r,r.length,e⟩
theorem DH {n:Nat}(h:n<=sizeLine):Builtin.List.listTooLong n=false:=by
 unfold Builtin.List.listTooLong
 exact decide_eq_false (by omega)
end
section
def Jb:V->List V->Hp->VK->Prop:=fun x vs H Q=>∃ l xs y,x=.ref l/\vs=[y]/\H l=some (.lst xs)/\xs.length<sizeLine/\Q .non (upd H l (.lst (xs++[y])))
theorem oi:MtM X "list.append" Jb:=by
 intro aa s σ H x vs v us Q I rx rv h
 obtain ⟨l,xs,y,rfl,rfl,hH,hz,q⟩:=h
 cases rx
 obtain ⟨u,rfl,ru⟩:=rv.one
 obtain ⟨z,its,n,r,hl,e⟩:=I.DF hH
 refine call_meets F.slot_list_append ⟨_,e,rfl⟩ F.entry_list_append (F.args_list_append_2 _ _) (PySem.list_append l its.toArray n u (by rw [bQ];omega)) ⟨e,?_⟩
 refine ⟨.non,_,I.XH (its':=its++[u]) hH e (by simp) (r.append (.cons ru .nil)) ?_,rfl,q⟩
 rw [bL,Aa]
 omega
def XI:R2:=fun x y H Q=>∃ l b xs zs,x=.ref l/\y=.ref b/\H l=some (.lst xs)/\H b=some (.lst zs)/\xs.length+zs.length<=sizeLine/\∀ p,H p=none->Q (.ref p) (upd H p (.lst (xs++zs)))
theorem vU:fW X (binaryOp .Add) XI:=by
 intro aa s σ H x y v u Q I rx ry h
 obtain ⟨l,b,xs,zs,rfl,rfl,hH,hB,hz,q⟩:=h
 cases rx
 cases ry
 obtain ⟨z,its,n,r,hl,e⟩:=I.DF hH
 obtain ⟨z2,XJ,n2,r2,hl2,e2⟩:=I.DF hB
 refine PySem.P.add_list e e2 ?_ (by rw [bQ,bQ];omega)
 have ea:its.toArray++XJ.toArray=(its++XJ).toArray:=by simp
 rw [ea]
 exact ⟨.ref _,_,I.As (t':=s.toks) (r.append r2) (by rw [bL];omega),rfl,q _ I.fresh⟩
def XM:R2:=fun x y H Q=>∃ l k xs,x=.ref l/\y=.int k/\H l=some (.lst xs)/\-(2 ^ 63)<=k/\k<2 ^ 63/\xs.length*k.toNat<=sizeLine /\
 ∀ p,H p=none->Q (.ref p) (upd H p (.lst (dJ k.toNat xs).flatten))
theorem len_rep {α:Type}(xs:List α) (k:Nat):(dJ k xs).flatten.length=k*xs.length:=by
 induction k with
 | zero=>simp
 | succ k ih=>rw [vv,z_,bL,ih,NZ,Nat.add_comm]
theorem Rq:fW X (binaryOp .Mult) XM:=by
 intro aa s σ H x y v u Q I rx ry h
 obtain ⟨l,k,xs,rfl,rfl,hH,h1,h2,hz,q⟩:=h
 cases rx
 obtain ⟨t,rfl⟩:=ry
 obtain ⟨z,its,n,r,hl,e⟩:=I.DF hH
 have cL:its.toArray.size*k.toNat<=sizeLine:=by rw [bQ,<- hl];exact hz
 have adO:¬ its.toArray.size*k.toNat > (2 ^ 63-1)/8:=by
  have:(sizeLine:Nat)<=(2 ^ 63-1)/8:=by decide
  omega
 have adP:¬ (!Builtin.List.listFitsIndex k)=true:=by
  rw [fitsIndex_both h1 h2]
  exact d_
 have XN:¬ Builtin.List.listTooLong (its.toArray.size*k.toNat)=true:=by
  rw [DH cL]
  exact d_
 have adQ:Cu (fun x1 x2=>x1++x2) #[] (dJ (if its.toArray.isEmpty=true then 0 else k.toNat) its.toArray)=(dJ k.toNat its).flatten.toArray:=by
  have f0:∀ m:Nat,Cu (fun x1 x2=>x1++x2) #[] (dJ m its.toArray)=(dJ m its).flatten.toArray:=fun m=>by
   have:=foldl_rep its m []
   rw [Io] at this
   exact this
  rw [f0]
  cases its with
  | nil=>simp
  | cons a r'=>rw [if_neg (by simp)]
 refine wpAny_binaryOp_repeat_ref (T := "list") (U := "int") (by decide) ⟨_,e,rfl⟩ (fun s'=>typeIs_int s' k t) noFill_list_mul F.fills_int_mul F.slot_int_rmul repeat_list F.slot_int_index.lookup
  (call_meets F.slot_int_rmul (typeIs_int s k t) F.entry_int_rmul (F.args_int_rmul_2 _ _) (int___rmul___int_list k t l its.toArray n)
   ⟨e,rfl,⟨_,e,rfl⟩,call_meets F.slot_list_mul ⟨_,e,rfl⟩ F.entry_list_mul (F.args_list_mul_2 _ _) (AutoListH.list___mul___list_int_3 l its.toArray n k t adP adO XN) ⟨e,?_⟩⟩)
 rw [adQ]
 exact ⟨.ref _,_,I.As (t':=s.toks) (r.rep k.toNat) (by rw [len_rep,Nat.mul_comm];exact hz),rfl,q _ I.fresh⟩
end
section
variable {prog:Program}{w:World}{A:Around}{E:Value->Shared->Prop}{s:Shared}
set_option maxRecDepth 100000 in
end
section
end
end L2
namespace Att
open PySem PySem.W PySem.Calls PyProof.Rows
theorem kJ {P:Params}{h:Heap}:∀ (ns:List Int) (vs:List Value),WellAll P h vs (ns.map WData.int)->IntsAre vs ns:=by
 intro ns
 induction ns with
 | nil=>
  intro vs w
  rw [Cv] at w
  cases w
  exact .nil
 | cons n ns ih=>
  intro vs w
  rw [gi] at w
  cases w with
  | cons a b=>
   cases a
   exact .cons _ _ (ih _ b)
theorem Au {l:OpenLaw}{n:Nat}(hn:l.most=some n) {P:Params}{h:Heap}{args:List WData}{vals:List Value}
  (Jc:l.row.toRowW.claim.pre args=true) (hwl:WellAll P h vals args) :
  ∃ a vs ns,vals=[Value.ref a]/\args=[WData.list (ns.map WData.int)]/\h.get? a=some { cls:=.type "list", data:=.seq vs.toArray }/\IntsAre vs ns/\ns.length<=n:=by
 have hsh:WShape.hasAll [] args [.list .int]=true:=(pre_splitW Jc).1
 have hc:l.pre.holds [] { args:=args }=true:=(pre_splitW Jc).2
 obtain ⟨d,r,rfl,h1,h2⟩:=hasAllW_cons hsh
 obtain rfl:=hasAllW_nil h2
 obtain ⟨xs,rfl,h3⟩:=hasW_list h1
 obtain ⟨ns,rfl⟩:=items_int h3
 have cL:ns.length<=n:=by
  unfold OpenLaw.pre at hc
  have h4:(WTm.not (.lt (.lit (.int (n:Int))) (.len (.arg 0)))).holds [] { args:=[.list (ns.map .int)] }=true:=by
   have h4:=(holds_andW hc).1
   rw [hn] at h4
   exact h4
  have h5:=condW_of h4 (w_not (w_lt w_lit (w_len_list (w_arg rfl))))
  rw [dg] at h5
  refine Nat.le_of_not_lt fun q=>?_
  have q':(n:Int)<((ns.length:Nat):Int):=by omega
  first
   | (rw [decide_eq_true q'] at h5;exact absurd h5 (by decide))
   | (simp at h5;omega)
 cases hwl with
 | cons w1 w2=>
  cases w2
  cases w1 with
  | list ho Rr=>exact ⟨_,_,ns,rfl,rfl,ho,kJ ns _ Rr,cL⟩
theorem Av (l:OpenLaw) (args:List WData):l.row.toRowW.claim.post args (.bool true) args=true:=
 postW_of (r:=l.row.toRowW) (X:=(true == true))
  (show WShape.has [] (.bool true) .bool=true by first | rfl | decide | simp [WShape.has,WShape.arms,WShape.armsAll])
  (show (WTm.eq .res (.lit (.bool true))).value [] { args:=args,res:=some (.bool true),after:=args }=some (.bool (true == true)) from w_eq_bool (w_res rfl) w_lit) rfl
section
variable {prog:Program}{w:World}{A:Around}{E:Value->Shared->Prop}{s:Shared}{K:Frag}
end
end Att
namespace L2
open PySem PySem.Spec PyProof.Rows
theorem oj:∀ {vs:List Value}{ns:List Int},IntsAre vs ns->Vals (ns.map V.int) vs
 | _,_,.nil=>.nil
 | _,_,.cons n t h=>.cons ⟨t,rfl⟩ (oj h)
def Rt (H:Hp):Prop:=∀ b,H b=none\/∃ o xs,H b=some (.iK o (.lst xs))
theorem DI {P:Program}{w:World}{K:bg}{mg mb:Str->Option Value}{CX:BY}{k:Nat}{fa a:Addr}{fd:FuncData}{x:Str}{sp:Sp}{s₁:Shared}{vs:List Value}{ns:List Int}
  (KX:K.In s₁.heap) (yu:s₁.heap.Ns mainGlobals mg) (hb:s₁.heap.Ns builtinsNs mb) (hbb:∀ x:Str,x ≠ "__name__" -> mb x=bootBuiltins x) (adR:s₁.heap.NoLimit) (hg:s₁.gens=#[])
  (ha:s₁.heap.get? a=some { cls:=.type "list", data:=.seq vs.toArray }) (hi:IntsAre vs ns) (hl:ns.length<=sizeLine) (hr:bB k callerA)
  (F:∀ base:Heap,K.In base->base.Ns mainGlobals mg->bU P w K mg base CX k fa fd [x] sp) (XO:∀ (s:Shared) (u:Value),BindsTo s fd ⟨[u],[]⟩ [(x,u)])
  (WA:∀ H:Hp,Rt H->cY K H a (ns.map V.int)->sp [.ref a] H (fun v _=>v=.bl true) fun _ _ _=>False)
  (hCX:∀ H e s',CX [] H s₁ (fun _ _ _=>False) e s'->False) :
  codeAny (model P w) callerA (.call (.ref fa) ⟨[.ref a],[]⟩) (fun r s'=>r=.ok (.ret (.bool true))/\OldK s₁.heap s'.heap/\s'.os=s₁.os/\AllBare s'.gens) s₁:=by
 have rv:=oj hi
 have adS:=hi.length
 have core:∀ H:Hp,Rt H->cY K H a (ns.map V.int)->ik P w H s₁.heap->(∀ b,H b≠none->b=a)->(H a≠none->K.lookup a=none) ->
   codeAny (model P w) callerA (.call (.ref fa) ⟨[.ref a],[]⟩) (fun r s'=>r=.ok (.ret (.bool true))/\OldK s₁.heap s'.heap/\s'.os=s₁.os/\AllBare s'.gens) s₁:=by
  intro H hO hS bG hA hK
  have yv:∀ {b:Addr} {o:Obj},s₁.heap.get? b=some o->H b=none->(pD s₁.heap H).get? b=some o:=fun e n=>C9 e n
  have Xx:∀ {b:Addr} {o:Obj} {es:Array DictEntry} {ep:Nat},s₁.heap.get? b=some o->o.data=.dict es ep->H b=none:=fun {b o es ep} e d=>by
   cases q:H b with
   | none=>rfl
   | some u=>
    have e':b=a:=hA b (by rw [q];simp)
    subst e'
    rw [ha] at e;cases e
    have d':Data.seq vs.toArray _=Data.dict es ep:=d
    cases d'
  have nsK:∀ {b:Addr} {m:Str->Option Value},s₁.heap.Ns b m->(pD s₁.heap H).Ns b m:=fun {b m} ⟨o,es,ep,e,d,r⟩=>⟨o,es,ep,yv e (Xx e d),d,r⟩
  have hKb:K.In (pD s₁.heap H):=fun b o e=>yv (KX b o e) (by
   cases q:H b with
   | none=>rfl
   | some u=>
    have e':b=a:=hA b (by rw [q];simp)
    subst e'
    rw [hK (by rw [q];simp)] at e;cases e)
  have hM:Mod K mg (pD s₁.heap H):=⟨hKb,nsK yu,⟨mb,nsK hb,hbb⟩,let ⟨mc,h1,h2⟩:=adR;⟨mc,nsK h1,h2⟩⟩
  have e0:vQ P w K mg (pD s₁.heap H) callerA [] s₁ H:=⟨rfl,hM,fun b o e=>Iz e,C2 (Ag _ _),trivial,fun b hb=>absurd (show b∈([]:List Addr) from hb) (by simp),bG,.of_eq hg⟩
  refine codeAny_mono ((F _ hKb (nsK yu)).run callerA [] s₁ H ⟨[.ref a],[]⟩ [.ref a] [.ref a] _ _ hr e0 (XO s₁ (.ref a)) (.cons rfl .nil) (WA H hO hS)) fun r s' h=>?_
  cases r with
  | error e=>exact (hCX H e s' h).elim
  | ok fl=>
   cases fl with
   | next=>exact False.elim h
   | brk=>exact False.elim h
   | cont=>exact False.elim h
   | ret u=>
    obtain ⟨v,H',os,bare,un,adT,r',q⟩:=h
    have q':v=.bl true:=q
    subst q'
    obtain rfl:u=Value.bool true:=r'
    refine ⟨rfl,OldK.of_keep fun b o e=>?_,os,bare⟩
    cases q:H b with
    | none=>exact un.keep b o e q (by intro z;exact absurd (show b∈([]:List Addr) from z) (by simp)) (by simp)
    | some u=>
     rcases hO b with z | ⟨ob,xs,z⟩
     ·rw [q] at z;cases z
     ·have z2:=un.lq b ob _ z
      obtain ⟨e1,_⟩:=bG b _ z
      obtain ⟨e2,_⟩:=adT b _ z2
      rw [e] at e1;cases e1
      exact e2
 cases hk:K.lookup a with
 | some o=>
  have e:=KX a o hk
  rw [ha] at e
  cases e
  refine core (fun _=>none) (fun _=>.inl rfl) (.inr ⟨_,vs.toArray,_,hk,rfl,rfl,rfl,by rw [bQ,adS];exact hl,by simpa using rv⟩) (fun b u z=>by have z':(none:Option HO)=some u:=z;cases z') (fun b z=>absurd rfl z) fun z=>absurd rfl z
 | none=>
  refine core (fun b=>if b=a then some (.iK { cls:=.type "list", data:=.seq vs.toArray } (.lst (ns.map V.int))) else none) (fun b=>?_) (.inl (.inr ⟨{ cls:=.type "list", data:=.seq vs.toArray },if_pos rfl⟩)) (fun b u z=>?_) (fun b z=>?_) fun _=>hk
  ·by_cases hb:b=a
   ·exact .inr ⟨_,_,if_pos hb⟩
   ·exact .inl (if_neg hb)
  ·by_cases hb:b=a
   ·have z':=(if_pos hb).symm.trans z
    cases z'
    subst hb
    exact ⟨ha,by rw [dg];exact hl,vs,_,rv,ha⟩
   ·have z':=(if_neg hb).symm.trans z
    cases z'
  ·by_cases hb:b=a
   ·exact hb
   ·exact absurd (if_neg hb) z
def inClass (s:Stmt) (j:Nat):Stmt:=match s with
 | .ClassDef _ _ _ body _ _ _ _ _ _ _=>body.getD j (.Pass ⟨0,0,0,0⟩)
 | _=>.Pass ⟨0,0,0,0⟩
def iS (s:Stmt):Arguments:=match s with
 | .FunctionDef _ a _ _ _ _ _ _ _ _=>a
 | _=>{ posonlyargs:=[],args:=[],vararg:=none,kwonlyargs:=[],kw_defaults:=[],kwarg:=none,defaults:=[] }
def bM (s:Stmt):List Stmt:=match s with
 | .FunctionDef _ _ b _ _ _ _ _ _ _=>b
 | _=>[]
def aw (s:Stmt):Scope:=match s with
 | .FunctionDef _ _ _ _ _ _ sc _ _ _=>sc
 | _=>{ kind:=.function,names:=[],isGenerator:=false,isCoroutine:=false }
abbrev kh:BY:=fun _ _ _ _ _ _=>False
abbrev E0:XK:=fun _ _ _=>False
theorem lI {X:Cx}:Passes kh X E0:=fun _ _ _ _ _ _ _ h=>h.elim
structure HC (K:bg) (x qual:Str) (st:Stmt) (f:Addr) (fd:FuncData):Prop where
 ex:∃ (oc:Value) (od:Option Addr) (kV doc pm:Value) (an:Option Addr) (fE ct:Value) (yr:Array (Option Value)),
  fd=zY x qual (iS st) (bM st) (aw st) .none kV doc pm an fE ct/\K.lookup f=some ⟨oc,od,.func fd,yr⟩/\Cg K fE qual=true
 kp:k_ K (.ref f)=true
section
variable {P:Program}{w:World}{K:bg}{mg:Str->Option Value}{base:Heap}
theorem HC.ok {x qual:Str}{st:Stmt}{f:Addr}{fd:FuncData}{N ps:List Str}{k:Nat}{sp:Sp}(F:HC K x qual st f fd) (S:eU N ps (aw st)) (len:∀ vs H Q E,sp vs H Q E->vs.length=ps.length)
  (Dw:∀ (fE:Value) (A:Around) (outer:List Env) (s:Shared) (H:Hp) (vs:List V) (Q:VK) (E:XK),bB k (A.deeper (envOfC qual (aw st) s.heap.objs.size f fE))->sp vs H Q E ->
   ∃ t,fD (jL kh P w K mg base N qual (aw st) f fE A outer s H E).Of (bM st) t/\t { nx:=fun _ H'=>Q .non H',rt:=Q } (start N vs) H):bU P w K mg base kh (k+1) f fd ps sp:=by
 obtain ⟨oc,od,kV,doc,pm,an,fE,ct,yr,rfl,lk,fH⟩:=F.ex
 refine Ol lk fH S len fun A outer s H vs Q E hr WA=>?_
 obtain ⟨t,h,q⟩:=Dw fE A outer s H vs Q E hr WA
 exact ⟨t,h.Of,q⟩
theorem HC.binds {x qual:Str}{st:Stmt}{f:Addr}{fd:FuncData}{ps:List Str}(F:HC K x qual st f fd)
  (h:∀ (kV doc pm:Value) (an:Option Addr) (fE ct:Value) (us:List Value),us.length=ps.length->bindArgs (zY x qual (iS st) (bM st) (aw st) .none kV doc pm an fE ct) ⟨us,[]⟩=pure (ps.zip us)):Binds K fd ps []:=by
 obtain ⟨oc,od,kV,doc,pm,an,fE,ct,yr,rfl,lk,fH⟩:=F.ex
 exact .all (h kV doc pm an fE ct)
end
section
variable {X:Cx}
end
theorem nI {A B:Prop}(h:B):if false=true then A else B:=by
 rw [if_neg d_]
 exact h
theorem pU {A B:Prop}(h:A):if true=true then A else B:=by
 rw [if_pos rfl]
 exact h
def aP (H H':Hp):Prop:=∀ b o,H b=some o->H' b=some o
theorem aP.refl (H:Hp):aP H H:=fun _ _ h=>h
theorem aP.trans {H H1 H2:Hp}(a:aP H H1) (b:aP H1 H2):aP H H2:=fun c o h=>b c o (a c o h)
theorem aP.free {H H':Hp}(e:aP H H') {l:Addr}(h:H' l=NX):H l=NX:=by
 cases q:H l with
 | none=>rfl
 | some o=>
  rw [e l o q] at h
  cases h
theorem aP.seq {K:bg}{H H':Hp}{a:Addr}{xs:List V}(e:aP H H') (h:cY K H a xs):cY K H' a xs:=by
 rcases h with (h | ⟨o,h⟩) | h
 ·exact .inl (.inl (e _ _ h))
 ·exact .inl (.inr ⟨o,e _ _ h⟩)
 ·exact .inr h
end L2
set_option maxHeartbeats 400000
namespace L2
open PySem PySem.Spec PyProof.Rows
theorem Aw {prog:Program}{w:World}{A:Around}{R:Result->Shared->Prop}{s:Shared}{elt target iter:Expr}{ifs:List Expr}{scope:Scope}{pos:Pos}{it bR:Value}{env:Env}(I:Nat->Shared->Prop)
  (turn:∀ n s,I n s->wpAny (model prog w) A (pyNext it) (fun r s₁=>match r with
   | none=>R (.ok .next) s₁
   | some v=>wpAny (model prog w) A (letOwnedTupleGo target it v) (fun _ s₀=>wpAny (model prog w) A (assign target env v) (fun _ s₂=>
     wpAny (model prog w) A (forIn ifs true fun c r=>if r=true then do let ok <- isTrue c env (eval c env);pure (ForInStep.yield ok) else pure (ForInStep.yield r)) (fun ok s₃=>
      if ok=true then wpAny (model prog w) A (eval elt env) (fun x s₄=>
       wpAny (model prog w) A (call (.builtin "list.append") [bR,x]) (fun _ s₅=>∃ m,m<n/\I m s₅) (fun _ _=>False) s₄) (fun _ _=>False) s₃
      else ∃ m,m<n/\I m s₃) (fun _ _=>False) s₂) (fun _ _=>False) s₀) (fun _ _=>False) s₁) (fun _ _=>False) s)
  (n:Nat) (h:I n s):codeAny (model prog w) A (.compLoop (.ListComp elt [⟨target,iter,ifs,0⟩] scope pos) 0 it bR env) R s:=by
 refine codeAny_loop rfl I (fun n s hI=>?_) n h
 show wpAny _ A ((compTurn (.ListComp elt [⟨target,iter,ifs,0⟩] scope pos) 0 it bR env).onRaise (fun x=>do noteFrame x env;theTreesLotGoes x)) _ _ s
 refine wpAny_noted ?_
 rw [compTurn_list]
 refine wpAny_bind (wpAny_standAt (wpAny_bind (wpAny_mono (turn n s hI) (fun r s₁ h₁=>?_) fun _ _ h'=>h'.elim)))
 cases r with
 | none=>exact wpAny_pure h₁
 | some v=>
  refine wpAny_bind (wpAny_mono h₁ (fun _ s₀ h₀=>wpAny_bind (wpAny_mono h₀ (fun _ s₂ h₂=>wpAny_bind (wpAny_mono h₂ (fun ok s₃ h₃=>?_) fun _ _ h'=>h'.elim)) fun _ _ h'=>h'.elim)) fun _ _ h'=>h'.elim)
  cases ok with
  | false=>exact wpAny_pure ⟨rfl,h₃⟩
  | true=>
   exact wpAny_bind (wpAny_bind (wpAny_mono h₃ (fun x s₄ h₄=>wpAny_bind (wpAny_mono h₄ (fun _ s₅ h₅=>wpAny_pure (wpAny_pure ⟨rfl,h₅⟩)) fun _ _ h'=>h'.elim)) fun _ _ h'=>h'.elim))
theorem fh (env:Env):∀ (names:List (Str × NameKind)) (bR:List (Str × Addr)),(∀ p∈names,p.2=.free->∃ c,env.cells.lookup p.1=some c)->(∀ x c,bR.lookup x=some c->env.cells.lookup x=some c) ->
  ∃ cl,(forIn names bR fun (p:Str × NameKind) (cs:List (Str × Addr))=>if p.2 == .free then do let c <- cellOf env p.1;pure (ForInStep.yield ((p.1,c)::cs)) else pure (ForInStep.yield cs):Sem (List (Str × Addr)))=pure cl /\
   (∀ x c,cl.lookup x=some c->env.cells.lookup x=some c)/\(∀ x c,bR.lookup x=some c->∃ c',cl.lookup x=some c')/\(∀ p∈names,p.2=.free->∃ c,cl.lookup p.1=some c)
 | [],bR,_,ha=>⟨bR,rfl,ha,fun x c e=>⟨c,e⟩,fun _ h=>nomatch h⟩
 | (n,k)::r,bR,hn,ha=>by
  by_cases hk:k=.free
  ·subst hk
   obtain ⟨c,hc⟩:=hn (n,.free) eK rfl
   have ha':∀ x d,((n,c)::bR).lookup x=some d->env.cells.lookup x=some d:=fun x d e=>by
    rw [ib] at e
    cases hx:x == n with
    | true=>rw [hx] at e;have hx:=eq_of_beq hx;subst hx;cases e;exact hc
    | false=>rw [hx] at e;exact ha x d e
   obtain ⟨cl,e,h1,h2,h3⟩:=fh env r ((n,c)::bR) (fun p hp=>hn p (fG _ hp)) ha'
   have self:∃ c',cl.lookup n=some c':=h2 n c (by rw [ib];simp)
   refine ⟨cl,?_,h1,fun x d hx=>?_,fun p hp hf=>?_⟩
   ·rw [Ip]
    show ((do let c <- cellOf env n;pure (ForInStep.yield ((n,c)::bR))) >>= _)=_
    unfold cellOf
    rw [hc]
    exact e
   ·cases HD:x == n with
    | true=>have:=eq_of_beq HD;subst this;exact self
    | false=>exact h2 x d (by rw [ib,HD];exact hx)
   ·rcases fB.mp hp with rfl | hp
    ·exact self
    ·exact h3 p hp hf
  ·obtain ⟨cl,e,h1,h2,h3⟩:=fh env r bR (fun p hp=>hn p (fG _ hp)) ha
   refine ⟨cl,?_,h1,h2,fun p hp hf=>?_⟩
   ·rw [Ip]
    have hb:(k == NameKind.free)=false:=by simpa using hk
    show ((if (k == NameKind.free)=true then _ else pure (ForInStep.yield bR)) >>= _)=_
    rw [hb]
    exact e
   ·rcases fB.mp hp with rfl | hp
    ·exact absurd hf hk
    ·exact h3 p hp hf
theorem nJ {scope:Scope}{env:Env}(h:∀ p∈scope.names,p.2=.free->∃ c,env.cells.lookup p.1=some c) :
  ∃ cl,closureFor scope env=pure cl/\(∀ x c,cl.lookup x=some c->env.cells.lookup x=some c)/\∀ p∈scope.names,p.2=.free->∃ c,cl.lookup p.1=some c:=by
 obtain ⟨cl,e,h1,_,h3⟩:=fh env scope.names [] h (fun _ _ e=>nomatch e)
 refine ⟨cl,?_,h1,h3⟩
 unfold closureFor
 exact (congrArg (fun z:Sem (List (Str × Addr))=>z >>= fun cs=>pure cs) e)
abbrev Cx.block (X:Cx) (N:List Str) (scope:Scope) (cl:List (Str × Addr)) (C:Addr) (fp:List Addr) (s:Shared) (H:Hp):Cx where
 prog:=X.prog
 w:=X.w
 K:=X.K
 mg:=X.mg
 base:=X.base
 A:=X.A
 N:=N
 s₀:=s
 H₀:=H
 env:=compEnvC scope cl C X.env
 outer:=X.stack
 stack:=X.stack
 ex:=fp
 fn:=fun _=>false
 calm:=X.calm
 pn:=[]
 xe:=fun _ _=>False
inductive eA (X:Cx) (scope:Scope):List Nat->List Str->Prop where
 | nil:eA X scope [] []
 | cons {j:Nat} {x:Str} {js:List Nat} {xs:List Str}:X.N[j]?=some x->scope.names.lookup x=some .free->X.env.kindOf x=some .cell->eA X scope js xs->eA X scope (j::js) (x::xs)
theorem eA.get {X:Cx}{scope:Scope}:∀ {js:List Nat}{xs:List Str},eA X scope js xs->∀ {i:Nat}{x:Str},xs[i]?=some x->∃ j,js[i]?=some j/\X.N[j]?=some x/\scope.names.lookup x=some .free/\X.env.kindOf x=some .cell
 | _,_,.nil,_,_,e=>by simp at e
 | _,_,.cons h1 h2 h3 _,0,_,e=>by simp at e;subst e;exact ⟨_,rfl,h1,h2,h3⟩
 | _,_,.cons _ _ _ t,i+1,_,e=>by
  obtain ⟨j,a,b⟩:=t.get (i:=i) (by simpa using e)
  exact ⟨j,by simpa using a,b⟩
theorem eA.length {X:Cx}{scope:Scope}:∀ {js:List Nat}{xs:List Str},eA X scope js xs->js.length=xs.length
 | _,_,.nil=>rfl
 | _,_,.cons _ _ _ t=>by simp [t.length]
def b_ (k:Nat) (js:List Nat) (σ:St):St:=dJ k none++js.map fun j=>(σ[j]?).join
theorem dY {env:Env}(hk:env.scope.kind=.function):∀ {names:List (Str × NameKind)}{x:Str},names.lookup x=some .free->env.kindOf x=some .cell ->
  (names.map fun (n,k)=>if (k == NameKind.free&&env.scope.kind == .function&&env.kindOf n == some .cell) then (n,NameKind.cell) else (n,k)).lookup x=some .cell
 | [],_,h,_=>by simp at h
 | (n,k)::r,x,h,hc=>by
  have ih:=@dY env hk r x
  show kE x ((if (k == NameKind.free&&env.scope.kind == .function&&env.kindOf n == some .cell)=true then (n,NameKind.cell) else (n,k))::_)=_
  cases hx:x == n with
  | true=>
   have e:=eq_of_beq hx
   subst e
   simp only [ib,hx] at h
   cases h
   rw [if_pos (by rw [hk,hc];rfl)]
   simp [ib]
  | false=>
   simp only [ib,hx] at h
   by_cases hq:(k == NameKind.free&&env.scope.kind == .function&&env.kindOf n == some .cell)=true
   ·rw [if_pos hq];simp only [ib,hx];exact ih h hc
   ·rw [if_neg hq];simp only [ib,hx];exact ih h hc
theorem eB {env:Env}:∀ {names:List (Str × NameKind)}{x:Str},(∀ p∈names,p.2≠.cell) ->
  ((names.map fun (n,k)=>if (k == NameKind.free&&env.scope.kind == .function&&env.kindOf n == some .cell) then (n,NameKind.cell) else (n,k)).lookup x=some .cell \/
   (names.map fun (n,k)=>if (k == NameKind.free&&env.scope.kind == .function&&env.kindOf n == some .cell) then (n,NameKind.cell) else (n,k)).lookup x=some .free)->∃ p∈names,p.1=x/\p.2=.free
 | [],_,_,h=>by simp at h
 | (n,k)::r,x,hn,h=>by
  have ih:=@eB env r x (fun p hp=>hn p (fG _ hp))
  have h:kE x ((if (k == NameKind.free&&env.scope.kind == .function&&env.kindOf n == some .cell)=true then (n,NameKind.cell) else (n,k))::(r.map fun (n,k)=>if (k == NameKind.free&&env.scope.kind == .function&&env.kindOf n == some .cell) then (n,NameKind.cell) else (n,k)))=some .cell \/
   kE x ((if (k == NameKind.free&&env.scope.kind == .function&&env.kindOf n == some .cell)=true then (n,NameKind.cell) else (n,k))::(r.map fun (n,k)=>if (k == NameKind.free&&env.scope.kind == .function&&env.kindOf n == some .cell) then (n,NameKind.cell) else (n,k)))=some .free:=h
  cases hx:x == n with
  | true=>
   have e:=eq_of_beq hx
   subst e
   refine ⟨(x,k),eK,rfl,?_⟩
   by_cases hq:(k == NameKind.free&&env.scope.kind == .function&&env.kindOf x == some .cell)=true
   ·cases k<;>first | rfl | (simp at hq)
   ·rw [if_neg hq] at h
    simp only [ib,beq_self_eq_true] at h
    rcases h with h | h
    ·cases h;exact absurd rfl (hn (x,.cell) eK)
    ·cases h;rfl
  | false=>
   have h':kE x (r.map fun (n,k)=>if (k == NameKind.free&&env.scope.kind == .function&&env.kindOf n == some .cell) then (n,NameKind.cell) else (n,k))=some .cell \/
    kE x (r.map fun (n,k)=>if (k == NameKind.free&&env.scope.kind == .function&&env.kindOf n == some .cell) then (n,NameKind.cell) else (n,k))=some .free:=by
    by_cases hq:(k == NameKind.free&&env.scope.kind == .function&&env.kindOf n == some .cell)=true
    ·rw [if_pos hq] at h;simp only [ib,hx] at h;exact h
    ·rw [if_neg hq] at h;simp only [ib,hx] at h;exact h
   obtain ⟨p,hp,e1,e2⟩:=ih h'
   exact ⟨p,fG _ hp,e1,e2⟩
structure eV (X:Cx) (scope:Scope):Prop where
 kind:scope.kind=.function
 nocell:∀ p∈scope.names,p.2≠.cell
 names:∀ p∈scope.names,p.2=.local->scope.names.lookup p.1=some .local
 frees:∀ p∈scope.names,p.2=.free->X.env.kindOf p.1=some .cell
variable {X:Cx}{tg:Expr}
section
variable {aa:c9}{σ:St}{H:Hp}{s:Shared}
theorem Inv.enter {ls fs:List Str}{js:List Nat}{scope:Scope}{cl:List (Str × Addr)}{fp:List Addr}{h₁:Heap}{tk:Nat}(I:Inv X aa σ H s) (S:eV X scope) (F:eA X scope js fs)
  (Jd:∀ x c,cl.lookup x=some c->X.env.cells.lookup x=some c) (hcf:∀ p∈scope.names,p.2=.free->∃ c,cl.lookup p.1=some c)
  (hf:∀ b∈fp,lA X aa H b) (hfz:∀ b∈fp,b<s.heap.objs.size) (yu:h₁.Ns s.heap.objs.size (fun _=>none)) (hk:∀ b o,s.heap.get? b=some o->h₁.get? b=some o) :
  Inv (X.block (ls++fs) scope cl s.heap.objs.size fp s H) [] (b_ ls.length js σ) H { s with heap:=h₁,toks:=tk }:=by
 have afX:∀ x c,cl.lookup x=some c->c<s.heap.objs.size:=fun x c e=>by
  obtain ⟨v,q⟩:=I.cell x c (Jd x c e)
  exact q.lt
 refine ⟨⟨I.ok.mod,?_,I.ok.glob,I.ok.blt,dU _,fun x y c h1 h2=>I.ok.inj x y c (Jd x c h1) (Jd y c h2),fun x hx=>?_,(fun x c hx=>by cases hx),I.ok.hd,I.ok.frames,.inl rfl,fun b hb=>⟨dh (hfz b hb),fun x c e=>(hf b hb).2.2.2.2.1 x c (Jd x c e)⟩,
  I.bs,ig I.ok.bsz I.sz,fun b o e hb=>?_,fun b hb z=>?_,I.stack,I.pF⟩,rfl,I.bare,Un.kept hk,⟨_,yu,fun i x v e1 e2 e3=>?_⟩,fun x c e=>?_,I.bG.fresh (dU _),fun x c e=>I.freeC x c (Jd x c e),fun p hp=>absurd hp (by simp),I.bG.kept hk,?_⟩
 ·show (relabel scope X.env).kind=.function
  exact S.kind
 ·obtain ⟨p,hp,e1,e2⟩:=eB (env:=X.env) S.nocell hx
  obtain ⟨c,e⟩:=hcf p hp e2
  exact ⟨c,by rw [<- e1];exact e⟩
 ·rcases (hf b hb).2.2.2.1 with z | z
  ·exact I.ok.noex b o e z
  ·exact absurd (gx (Heap.lt_size (I.ok.bs b o e).1) z) (pA _)
 ·rcases fB.mp (I.lr b z) with e | e
  ·exact (hf b hb).2.1 e
  ·exact (hf b hb).2.2.1 e
 ·-- a name of the block that has a value: one from around
  have hi:ls.length<=i:=by
   by_cases hi:i<ls.length
   ·unfold b_ at e2
    rw [iH (by simpa using hi),Cm] at e2
    split at e2<;>cases e2
   ·omega
  have e1':fs[i-ls.length]?=some x:=by
   have q:(ls++fs)[i]?=some x:=e1
   rw [gX hi] at q;exact q
  obtain ⟨j,hj,hN,Oq,hce⟩:=F.get e1'
  have WB:(σ[j]?).join=some v:=by
   unfold b_ at e2
   rw [gX (by simpa using hi),gu] at e2
   simp only [z9] at e2
   rw [hj] at e2
   simpa using e2
  have hσ:σ[j]?=some (some v):=by
   cases q:σ[j]? with
   | none=>rw [q] at WB;cases WB
   | some z=>rw [q] at WB;have WB:z=some v:=WB;rw [WB]
  obtain ⟨m,_,hl⟩:=I.loc
  obtain ⟨u,r,l⟩:=hl j x v hN hσ (.inr (.inl hce))
  refine ⟨u,r,.inr ⟨.inl (dY I.ok.kind Oq hce),?_⟩⟩
  rcases l with ⟨z,_⟩ | ⟨_,c,e,q⟩
  ·have z':X.env.kindOf x=some .local:=z
   rw [hce] at z';cases z'
  ·obtain ⟨c',e'⟩:=hcf (x,.free) (PySem.mem_of_lookup Oq) rfl
   have ec:=Jd x c' e'
   rw [e] at ec
   have ec:=nC.inj ec
   rw [<- ec] at e'
   obtain ⟨o,ho,hd⟩:=q
   exact ⟨c,e',o,hk _ _ ho,hd⟩
 ·obtain ⟨v,o,ho,hd⟩:=I.cell x c (Jd x c e)
  exact ⟨v,o,hk _ _ ho,hd⟩
 ·unfold b_
  show _=(ls++fs).length
  rw [bL,z9,dg,bL,F.length]
end
section
def HE (X:Cx) (ifs:List Expr) (t:TT):Prop:=
 ∀ (aa:c9) (s:Shared) (σ:St) (H:Hp) (Q:Bool->Hp->Prop),Inv X aa σ H s->t σ H Q ->
  wpAny (model X.prog X.w) X.A (forIn ifs true fun c r=>if r=true then do let ok <- isTrue c X.env (eval c X.env);pure (ForInStep.yield ok) else pure (ForInStep.yield r)) (TP X aa σ Q) X.xe s
def adU:TT:=fun _ H Q=>Q true H
theorem Je:HE X [] adU:=fun _ _ _ H _ I h=>wpAny_tests_nil ⟨H,I,h⟩
theorem Jf {c:Expr}{t:TT}(h:PT X c t):HE X [c] t:=fun aa s σ H Q I hw=>wpAny_tests_one (h aa s σ H Q I hw)
def cH:St->St->Prop
 | [],[]=>True
 | none::a,_::b=>cH a b
 | some v::a,some w::b=>v=w/\cH a b
 | _,_=>False
theorem cH.len:∀ {a b:St},cH a b->a.length=b.length
 | [],[],_=>rfl
 | [],_::_,h=>h.elim
 | none::a,[],h=>h.elim
 | some _::a,[],h=>h.elim
 | none::a,x::b,h=>by simp [cH.len (a:=a) (b:=b) h]
 | some _::a,none::b,h=>h.elim
 | some _::a,some _::b,h=>by simp [cH.len (a:=a) (b:=b) h.2]
theorem cH.get:∀ {a b:St},cH a b->∀ (i:Nat) (v:V),a[i]?=some (some v)->b[i]?=some (some v)
 | [],[],_,_,_,e=>e
 | [],_::_,h,_,_,_=>h.elim
 | none::a,[],h,_,_,_=>h.elim
 | some _::a,[],h,_,_,_=>h.elim
 | none::a,x::b,h,0,v,e=>by simp at e
 | none::a,x::b,h,i+1,v,e=>by
  have:=cH.get (a:=a) (b:=b) h i v (by simpa using e)
  simpa using this
 | some _::a,none::b,h,_,_,_=>h.elim
 | some y::a,some z::b,h,0,v,e=>by have e1:=h.1;subst e1;simpa using e
 | some y::a,some z::b,h,i+1,v,e=>by
  have:=cH.get (a:=a) (b:=b) h.2 i v (by simpa using e)
  simpa using this
@[irreducible] def tComp (wi:TI) (k:Nat) (js:List Nat) (g:TG) (tt:TT) (te:TE):TE:=fun σ H Q=>wi σ H fun J H1=>∀ D,H1 D=none->∃ W:Nat->Nat->List V->Hp->Prop,(∃ m,W 0 m [] (upd H1 D (.lst []))) /\
 ∀ i m ys H,W i m ys H->(J.stop i H/\Q (.ref D) H)\/(J.go i H/\∀ x H',J.yld i H x H'->g x (b_ k js σ) H' fun σ2 H2=>cH (b_ k js σ) σ2/\tt σ2 H2 fun b H3=>
  if b=true then te σ2 H3 fun y H4=>H4 D=some (.lst ys)/\ys.length<sizeLine/\∃ m',m'<m/\W (i+1) m' (ys++[y]) (upd H4 D (.lst (ys++[y])))
  else ∃ m',m'<m/\W (i+1) m' ys H3)
theorem om {scope:Scope}{ls fs:List Str}{js:List Nat}{tg iter elt:Expr}{ifs:List Expr}{pos cu:Pos}{wi:TI}{g:TG}{tt:TT}{te:TE}{use:Option (Value->Sem Unit)}{Qo:Value->Shared->Prop}
  (hc:X.calm=true) (S:eV X scope) (F:eA X scope js fs) (hi:PI X tg iter wi)
  (hg:∀ cl C fp s H,PG (X.block (ls++fs) scope cl C fp s H) tg g) (ht:∀ cl C fp s H,HE (X.block (ls++fs) scope cl C fp s H) ifs tt) (he:∀ cl C fp s H,PE (X.block (ls++fs) scope cl C fp s H) elt te)
  {aa:c9} {s:Shared} {σ:St} {H:Hp} {Q:VK} (I:Inv X aa σ H s) (h:tComp wi ls.length js g tt te σ H Q)
  (fin:∀ D C s' H' m,Inv X aa σ H' s'->lA X aa H' C->s'.heap.Ns C m->Q (.ref D) H'->compPost (model X.prog X.w) X.A X.xe use Qo (.ref D) C (.ok .next) s')
  (hs:∀ x,foldedSetIterable iter X.env x=pure x) :
  wpAny (model X.prog X.w) X.A (comprehension (.ListComp elt [⟨tg,iter,ifs,0⟩] scope pos) scope X.env cu (newList []) false (eval iter X.env) use) Qo X.xe s:=by
 unfold tComp at h
 obtain ⟨cl,ecl,h1,h2⟩:=nJ (scope:=scope) (env:=X.env) (fun p hp hf=>I.ok.has p.1 (.inl (S.frees p hp hf)))
 refine wpAny_comprehension_free rfl hs ecl S.kind S.names (b7 (hi aa s σ H _ I h) fun v s1 q1=>b7 q1 fun itv s2 q2=>?_)
 obtain ⟨it,fp,tn,J,H2,e,I2,T,Xi,f2,q⟩:=q2
 subst e
 refine wpAny_newObj_type (wpAny_newFunctionEnv S.nocell (by intro y hy;simp at hy) (fun h₁ hns₁ hsb₁=>?_) S.kind)
 have I3:Inv X aa σ (upd H2 s2.heap.objs.size (.lst [])) { s2 with heap:=s2.heap.push { cls:=.type "list", dict:=none,data:=.seq ([]:List Value).toArray } }:=I2.As (t':=s2.toks) .nil (iI _)
 obtain ⟨W,⟨m0,w0⟩,step⟩:=q s2.heap.objs.size I2.fresh
 dsimp only at hns₁ hsb₁ ⊢
 generalize XQ:({ s2 with heap:=s2.heap.push { cls:=.type "list", dict:=none,data:=.seq ([]:List Value).toArray } }:Shared)=s3 at I3
 have WC:s3.heap=s2.heap.push { cls:=.type "list", dict:=none,data:=.seq ([]:List Value).toArray }:=by rw [<- XQ]
 rw [<- WC] at hns₁ hsb₁ ⊢
 have old:∀ b o,s3.heap.get? b=some o->h₁.get? b=some o:=fun b o e=>hsb₁.extBut b o (dh (Heap.lt_size e)) (Heap.get?_push_of_some _ e)
 have up:∀ b o,s2.heap.get? b=some o->s3.heap.get? b=some o:=fun b o e=>by rw [WC];exact Heap.get?_push_of_some _ e
 have fz2:∀ b∈fp,b<s2.heap.objs.size:=fun b hb=>by
  obtain ⟨o,e,_⟩:=T.obj 0 _ Xi b hb
  exact Heap.lt_size e
 have f3:∀ b∈fp,lA X aa (upd H2 s2.heap.objs.size (.lst [])) b:=fun b hb=>⟨by rw [ao (dh (fz2 b hb))];exact (f2 b hb).1,(f2 b hb).2⟩
 have fz3:∀ b∈fp,b<s3.heap.objs.size:=fun b hb=>by
  obtain ⟨o,e,_⟩:=T.obj 0 _ Xi b hb
  exact Heap.lt_size (up b o e)
 have I4:=I3.enter (ls:=ls) (h₁:=h₁) (tk:=s2.toks+([]:List (Str × Value)).length) S F h1 h2 f3 fz3 (by simpa using hns₁) old
 have st4:tn 0 h₁:=T.keep 0 _ _ Xi fun b _ o e=>old b o (up b o e)
 generalize hC:s3.heap.objs.size=C at I4 hns₁ hsb₁ ⊢
 generalize hH3:upd H2 s2.heap.objs.size (.lst [])=H3 at I3 I4 f3 w0
 have vE:∀ {H':Hp},(∀ b∈fp,H' b=none)->∀ b∈fp,lA (X.block (ls++fs) scope cl C fp s3 H3) [] H' b:=fun hn b hb=>
  ⟨hn b hb,by rw [<- hC];exact dh (fz3 b hb),fun z=>(fB.mp (I3.lr b z)).elim (f3 b hb).2.1 (f3 b hb).2.2.1,.inl hb,fun x c e=>(f3 b hb).2.2.2.2.1 x c (h1 x c e),fun p hp=>absurd hp (by simp)⟩
 have BX:∀ b∈fp,(b∈X.ex\/X.s₀.heap.objs.size<=b)/\b≠X.env.locals/\(∀ x c,X.env.cells.lookup x=some c->c≠b)/\∀ p∈X.pn++aa,p.1≠b:=fun b hb=>⟨(f3 b hb).2.2.2.1,(f3 b hb).2.1,(f3 b hb).2.2.2.2.1,(f3 b hb).2.2.2.2.2⟩
 have loop:∀ s4:Shared,s4={ s3 with heap:=h₁,toks:=s2.toks+([]:List (Str × Value)).length } ->
   codeAny (model X.prog X.w) X.A (.compLoop (.ListComp elt [⟨tg,iter,ifs,0⟩] scope pos) 0 (.ref it) (.ref s2.heap.objs.size) (compEnvC scope cl C X.env)) (compPost (model X.prog X.w) X.A X.xe use Qo (.ref s2.heap.objs.size) C) s4:=by
  rintro s4 rfl
  refine Aw (fun n s'=>∃ i ys H',Inv (X.block (ls++fs) scope cl C fp s3 H3) [] (b_ ls.length js σ) H' s'/\tn i s'.heap/\(∀ b∈fp,H' b=none)/\W i n ys H') ?_ m0 ⟨0,[],H3,I4,st4,fun b hb=>(f3 b hb).1,w0⟩
  rintro n s5 ⟨i,ys,H5,I5,II,fr5,w5⟩
  rcases step i n ys H5 w5 with ⟨stop,qf⟩ | ⟨go,nxt⟩
  ·refine b7 (T.done (X.block (ls++fs) scope cl C fp s3 H3) rfl rfl rfl hc i [] s5 _ H5 (fun _ _=>False) I5 (vE fr5) II stop) fun r s6 zz=>?_
   obtain ⟨hr,I6⟩:=zz
   subst hr
   obtain ⟨m,hm,_⟩:=id I6.loc
   have J6:Inv X aa σ H5 s6:=I3.Od (ch:=fp) I6.os I6.base I6.bG I6.bare BX
   exact fin _ C s6 H5 m J6 (I3.Ah (C2 hC) I6.free) hm qf
  ·refine b7 (T.item (X.block (ls++fs) scope cl C fp s3 H3) rfl rfl rfl hc i [] s5 _ H5 (fun _ _=>False) I5 (vE fr5) II go) fun r s6 zz=>?_
   obtain ⟨u,hr,h6⟩:=zz
   subst hr
   refine b7 h6 fun _ s7 zz=>?_
   obtain ⟨x,H7,I7,r7,y7,st7,fr7⟩:=zz
   have I7':=I7.pinned (vE fr7) (T.obj _ _ st7)
   refine b7 (hg cl C fp s3 H3 _ s7 _ H7 x u _ I7' r7 (nxt x H7 y7)) fun _ s8 zz=>?_
   obtain ⟨σ8,H8,I8,kp,q8⟩:=zz
   have again:∀ {s9:Shared} {H9:Hp},Inv (X.block (ls++fs) scope cl C fp s3 H3) ([]++lB fp s7.heap) σ8 H9 s9 ->
     Inv (X.block (ls++fs) scope cl C fp s3 H3) [] (b_ ls.length js σ) H9 s9/\tn (i+1) s9.heap/\∀ b∈fp,H9 b=none:=fun {s9 H9} I9=>by
    refine ⟨I9.iN.weak kp.len kp.get,T.keep _ _ _ st7 fun b hb o e=>(I9.pin (b,o) (kD _ (kD _ (fX hb e)))).1,fun b hb=>?_⟩
    obtain ⟨o,e,d⟩:=T.obj _ _ st7 b hb
    exact (I9.pin (b,o) (kD _ (kD _ (fX hb e)))).2.1
   refine b7 (ht cl C fp s3 H3 _ s8 σ8 H8 _ I8 q8) fun b s9 zz=>?_
   obtain ⟨H9,I9,q9⟩:=zz
   cases b with
   | false=>
    obtain ⟨m',hm,w9⟩:=q9
    obtain ⟨a1,a2,a3⟩:=again I9
    exact ⟨m',hm,i+1,ys,H9,a1,a2,a3,w9⟩
   | true=>
    refine b7 (he cl C fp s3 H3 _ s9 σ8 H9 _ I9 q9) fun xv DJ zz=>?_
    obtain ⟨y,H10,I10,r10,hD,hz,m',hm,w10⟩:=zz
    refine b7 (oi (X:=X.block (ls++fs) scope cl C fp s3 H3) _ DJ σ8 H10 (.ref s2.heap.objs.size) [y] (.ref s2.heap.objs.size) [xv] (fun _ H11=>H11=upd H10 s2.heap.objs.size (.lst (ys++[y]))) I10 rfl (.cons r10 .nil)
     ⟨_,ys,y,rfl,rfl,hD,hz,rfl⟩) fun _ s11 ⟨z,H11,I11,_,e11⟩=>?_
    subst e11
    obtain ⟨a1,a2,a3⟩:=again I11
    exact ⟨m',hm,i+1,ys++[y],_,a1,a2,a3,w10⟩
 have afY:({ newEnv scope C X.env.globals cl X.env.qual none .none (some X.env) builtinsNs with scope:=relabel scope X.env }:Env)=compEnvC scope cl C X.env:=rfl
 exact codeAny_compStart_list (loop _ (by rw [<- XQ])) (T.self X.A 0 _ _ _ st4 (loop _ (by rw [<- XQ])))
variable {scope:Scope}{ls fs:List Str}{js:List Nat}{iter elt:Expr}{ifs:List Expr}{pos:Pos}{wi:TI}{g:TG}{tt:TT}{te:TE}
theorem Jg (ls:List Str) (hc:X.calm=true) (S:eV X scope) (F:eA X scope js fs) (hi:PI X tg iter wi)
  (hg:∀ cl C fp s H,PG (X.block (ls++fs) scope cl C fp s H) tg g) (ht:∀ cl C fp s H,HE (X.block (ls++fs) scope cl C fp s H) ifs tt) (he:∀ cl C fp s H,PE (X.block (ls++fs) scope cl C fp s H) elt te)
  (hs:∀ x,foldedSetIterable iter X.env x=pure x:=by intro _;rfl):PE X (.ListComp elt [⟨tg,iter,ifs,0⟩] scope pos) (tComp wi ls.length js g tt te):=by
 intro aa s σ H Q I h
 rw [eval_ListComp]
 refine om (use:=none) hc S F hi hg ht he I h ?_ hs
 intro D C s' H' m J fC hm q
 exact ⟨m,hm,fun h' Ax=>⟨.ref D,H',J.turned (t':=s'.toks) (it:=C) (fun b o hb e=>(Ax.2 b hb).trans e) fC.1 fC.2.1 fC.2.2.2.1 fC.2.2.2.2.1 fC.2.2.2.2.2,rfl,q⟩⟩
theorem yw {i:Nat}{x:Str}{px Ru:Pos}(ls:List Str) (hc:X.calm=true) (hN:X.N.Nodup) (hix:X.N[i]?=some x) (hx:Loc X.env.scope x) (S:eV X scope) (F:eA X scope js fs) (hi:PI X tg iter wi)
  (hg:∀ cl C fp s H,PG (X.block (ls++fs) scope cl C fp s H) tg g) (ht:∀ cl C fp s H,HE (X.block (ls++fs) scope cl C fp s H) ifs tt) (he:∀ cl C fp s H,PE (X.block (ls++fs) scope cl C fp s H) elt te)
  (hs:∀ x,foldedSetIterable iter X.env x=pure x:=by intro _;rfl) (hf:X.fn x=true\/X.env.scope.names.lookup x=some .local:=by first | exact .inl rfl | exact .inr rfl | assumption)
  (hsw:swapsWith (.ListComp elt [⟨tg,iter,ifs,0⟩] scope pos) (some (.Name x px)) Ru.line X.env=pure true:=by rfl) :
  PS X (.Assign [.Name x px] (.ListComp elt [⟨tg,iter,ifs,0⟩] scope pos) Ru) (fun D σ H=>tComp wi ls.length js g tt te σ H fun v H1=>D.nx (σ.set i (some v)) H1):=by
 intro aa s σ H D I h
 rw [exec_Assign_Name_used _ _ _ _ hsw]
 refine wpAny_bind (wpAny_standAt (wpAny_bind ?_))
 show wpAny _ X.A (do let _ <- comprehension (.ListComp elt [⟨tg,iter,ifs,0⟩] scope pos) scope X.env _ (newList []) false (eval iter X.env) (some (assign (.Name x px) X.env))) _ _ s
 refine wpAny_bind (wpAny_mono (om (use:=some (assign (.Name x px) X.env)) (Qo:=fun _ s'=>SP X aa D .next s') hc S F hi hg ht he I h ?_ hs) (fun _ s' hq=>wpAny_pure (wpAny_pure hq)) fun _ _ e=>e)
 intro D' C s' H' m J fC hm q
 show wpAny _ X.A (assign (.Name x px) X.env (.ref D')) _ _ _
 refine wpAny_assign_Name (nV J hN hix hx (show RelV (.ref D') (.ref D') from rfl) (fun IV J' ⟨a,hsb,ha⟩=>?_) hf)
 have ne:C≠a:=by
  rcases ha with e | e
  ·rw [e];exact fC.2.1
  ·exact Ne.symm (fC.2.2.2.2.1 x a e)
 refine ⟨m,hm.sameBut hsb ne,fun h' Ax=>?_⟩
 exact ⟨_,H',J'.turned (t':=IV.toks) (it:=C) (fun b o hb e=>(Ax.2 b hb).trans e) fC.1 fC.2.1 fC.2.2.2.1 fC.2.2.2.2.1 fC.2.2.2.2.2,q⟩
end
section
theorem DK {P:Program}{w:World}{K:bg}{x:Str}{px:Pos}{it:Addr}{n:Nat}{Pv:Nat->Value->Prop}{St:Nat->Heap->Prop}(val:Nat->V->Prop)
  (W:∀ A:Around,A.handled=none->Walks P w A it [it] [it] n Pv St) (hv:∀ i v,Pv i v->∃ y,RelV y v/\val i y)
  (ho:∀ i h,St i h->∃ o,h.get? it=some o/\∀ v,o.data≠.cell v) (hk:∀ i (h h':Heap),St i h->(∀ o,h.get? it=some o->h'.get? it=some o)->St i h')
  (XR:∀ (A:Around) (i:Nat) (s:Shared) (Q:Value->Shared->Prop) (E:Value->Shared->Prop),St i s.heap->Q (.ref it) s->wpAny (model P w) A (pyIter (.ref it)) Q E s) :
  Turn P w K (.Name x px) ⟨fun i _=>i<n,fun i H y H'=>H'=H/\val i y,fun i _=>i=n⟩ [it] it St where
 mem:=by simp
 obj:=fun i h st b hb=>by
  have e:b=it:=by simpa using hb
  subst e
  exact ho i h st
 keep:=fun i h h' st k=>hk i h h' st (k it (by simp))
 item:=by
  intro X hP hw hK hc i aa s σ H E I hf st hg
  subst hP hw hK
  obtain ⟨f0,f1,f2,f3,f4,f5⟩:=hf it (by simp)
  refine (W X.A (I.ok.hd hc)).item i s _ _ hg st fun v h' tk hPv Dk kk=>?_
  obtain ⟨y,ry,vy⟩:=hv i v hPv
  have I1:Inv X aa σ H { s with heap:=h',toks:=tk }:=I.turned (fun b o hb e=>kk b o (by simpa using hb) e) f0 f1 f3 f4 f5
  exact ⟨v,rfl,wpAny_pure ⟨y,H,I1,ry,⟨rfl,vy⟩,Dk,fun b hb=>(hf b hb).1⟩⟩
 done:=by
  intro X hP hw hK hc i aa s σ H E I hf st hg
  subst hP hw hK
  obtain ⟨f0,f1,f2,f3,f4,f5⟩:=hf it (by simp)
  have hg:i=n:=hg
  rw [hg] at st
  exact (W X.A (I.ok.hd hc)).done s _ _ st fun h' tk kk=>⟨rfl,I.turned (fun b o hb e=>kk b o (by simpa using hb) e) f0 f1 f3 f4 f5⟩
 self:=XR
def Its (z:Str):It:=⟨fun i _=>i<z.cps.size,fun i H y H'=>H'=H/\∃ c,z.cps[i]?=some c/\y=.str ⟨#[c]⟩,fun i _=>i=z.cps.size⟩
def adV (tl:TE):TI:=fun σ H R=>tl σ H fun v H1=>∃ z,v=.str z/\R (Its z) H1
theorem Rv {l:Expr}{tl:TE}{x:Str}{px:Pos}(hl:PE X l tl):PI X (.Name x px) l (adV tl):=by
 intro aa s σ H R I h
 refine b7 (hl aa s σ H _ I h) fun v s1 zz=>?_
 obtain ⟨y,H1,I1,r1,q1⟩:=zz
 obtain ⟨z,rfl,q⟩:=q1
 obtain ⟨t,rfl⟩:=r1
 have fpk:∀ b∈[s1.heap.objs.size],lA X aa H1 b:=fun b hb=>by
  have e:b=s1.heap.objs.size:=by simpa using hb
  subst e
  exact I1.Ah (dU _) (I1.bG.fresh (dU _))
 have hv:∀ i v,SignAt z i v->∃ y,RelV y v/\∃ c,z.cps[i]?=some c/\y=.str ⟨#[c]⟩:=fun i v ⟨c,u,e,ev⟩=>⟨.str ⟨#[c]⟩,⟨u,ev⟩,c,e,rfl⟩
 have DL:∀ (ty:String) (i:Nat) (h:Heap),h.IsStrIter s1.heap.objs.size ty z t i->∃ o,h.get? s1.heap.objs.size=some o/\∀ v,o.data≠.cell v:=fun ty i h ⟨o,e,_,d⟩=>⟨o,e,fun v q=>by rw [d] at q;cases q⟩
 have kp:∀ (ty:String) (i:Nat) (h h':Heap),h.IsStrIter s1.heap.objs.size ty z t i->(∀ o,h.get? s1.heap.objs.size=some o->h'.get? s1.heap.objs.size=some o)->h'.IsStrIter s1.heap.objs.size ty z t i:=fun ty i h h' ⟨o,e,r⟩ k=>⟨o,k o e,r⟩
 cases ha:z.cps.all (· < 128)
 ·refine wpAny_pyIter_wide ha ?_
  exact ⟨s1.heap.objs.size,[s1.heap.objs.size],_,_,H1,rfl,I1.kept (t':=s1.toks) fun b o e=>Heap.get?_push_of_some _ e,
   DK (fun i y=>∃ c,z.cps[i]?=some c/\y=.str ⟨#[c]⟩) (fun A hA=>Walks.strWide hA _ z t) hv (DL _) (kp _) (fun _ _ _ _ _ st h=>wpAny_pyIter_striter_wide st h),⟨_,Heap.get?_push_size _ rfl,rfl,rfl⟩,fpk,q⟩
 ·refine wpAny_pyIter_ascii ha ?_
  exact ⟨s1.heap.objs.size,[s1.heap.objs.size],_,_,H1,rfl,I1.kept (t':=s1.toks) fun b o e=>Heap.get?_push_of_some _ e,
   DK (fun i y=>∃ c,z.cps[i]?=some c/\y=.str ⟨#[c]⟩) (fun A hA=>Walks.strAscii hA _ z t) hv (DL _) (kp _) (fun _ _ _ _ _ st h=>wpAny_pyIter_striter_ascii st h),⟨_,Heap.get?_push_size _ rfl,rfl,rfl⟩,fpk,q⟩
end
structure Det (J:It) (src:List V) (I:Hp->Prop):Prop where
 go:∀ i H,I H->i<src.length->J.go i H
 yld:∀ i H x H',I H->i<src.length->J.yld i H x H'->H'=H/\src[i]?=some x
 stop:∀ i H,I H->i=src.length->J.stop i H
theorem Jh (z:Str):Det (Its z) (z.cps.toList.map fun c=>V.str ⟨#[c]⟩) (fun _=>True):=
 ⟨fun i H _ h=>by have h:i<(z.cps.toList.map fun c=>V.str ⟨#[c]⟩).length:=h;rw [dg,Array.length_toList] at h;exact h,
  fun i H x H' _ _ y=>by
  obtain ⟨e,c,hc,ex⟩:=y
  refine ⟨e,?_⟩
  rw [gu,Array.getElem?_toList,hc,ex]
  rfl,
  fun i H _ h=>by rw [dg,Array.length_toList] at h;exact h⟩
section
end
section
theorem nK:Aq X "str.startswith" (fun x vs H Q=>∃ a b,x=.str a/\vs=[.str b]/\Q (.bl (Txt.startswith a b)) H):=by
 intro aa s σ H x vs v us Q I rx rv h
 obtain ⟨a,b,rfl,rfl,q⟩:=h
 obtain ⟨t,rfl⟩:=rx
 obtain ⟨u,rfl,⟨t',rfl⟩⟩:=rv.one
 exact SC.startswith ⟨.bl _,H,I,rfl,q⟩
theorem rQ:Aq X "str.endswith" (fun x vs H Q=>∃ a b,x=.str a/\vs=[.str b]/\Q (.bl (Txt.endswith a b)) H):=by
 intro aa s σ H x vs v us Q I rx rv h
 obtain ⟨a,b,rfl,rfl,q⟩:=h
 obtain ⟨t,rfl⟩:=rx
 obtain ⟨u,rfl,⟨t',rfl⟩⟩:=rv.one
 exact SC.endswith ⟨.bl _,H,I,rfl,q⟩
theorem DM:Aq X "str.find" (fun x vs H Q=>∃ a b i,x=.str a/\vs=[.str b,.int i]/\Q (.int (Txt.find3 a b i)) H):=by
 intro aa s σ H x vs v us Q I rx rv h
 obtain ⟨a,b,i,rfl,rfl,q⟩:=h
 obtain ⟨t,rfl⟩:=rx
 obtain ⟨u,u',rfl,⟨t',rfl⟩,⟨t'',rfl⟩⟩:=rv.two
 exact SC.find3 ⟨.int _,H,I.tok _,⟨_,rfl⟩,q⟩
theorem lJ:∀ {ys:List Str}{us:List Value},Vals (ys.map V.str) us->StrsAre us ys
 | [],_,.nil=>.nil
 | y::ys,_,.cons ⟨t,e⟩ r=>by
  subst e
  exact .cons y t (lJ (ys:=ys) r)
theorem Ji:Aq X "str.join" (fun x vs H Q=>∃ sep l ys,x=.str sep/\vs=[.ref l]/\cY X.K H l (ys.map V.str)/\(ys.map (·.length)).sum+ys.length*sep.length<=16777216/\Q (.str (Str.join sep ys)) H):=by
 intro aa s σ H x vs v us Q I rx rv h
 obtain ⟨sep,l,ys,rfl,rfl,hl,hz,q⟩:=h
 obtain ⟨t,rfl⟩:=rx
 obtain ⟨u,rfl,ru⟩:=rv.one
 cases ru
 obtain ⟨its,r,p,_⟩:=I.list hl
 refine join_list p.isList (ys:=ys) (by simpa using lJ r) hz fun t' k=>?_
 have e:Txt.join sep ys=Str.join sep ys:=StrLaws.glued_eq_join sep ys
 rw [e]
 exact ⟨.str _,H,I.tok _,⟨_,rfl⟩,q⟩
theorem Rw:Om X (fun x lo hi H Q=>∃ z,x=.str z/\z.length<=sizeLine/\Q (.str (Txt.slice z lo hi)) H):=by
 intro aa s σ H x v vl vu lo hi sl Q I rx hs pl pu h
 obtain ⟨z,rfl,hz,q⟩:=h
 obtain ⟨t,rfl⟩:=rx
 refine ⟨"str", _,F.slot_str_getitem.lookup,typeIs_str _ _ _,?_⟩
 obtain ⟨o,ho,hc,hd⟩:=hs
 cases pl with
 | none=>
  cases pu with
  | none=>exact wpAny_getItem_str_slice (l:=none) (u:=none) (st:=none) ⟨o,ho,hc,hd⟩ rfl (post_val_or_str ⟨ig (Txt.slice_le z _ _) hz,fun t' k=>⟨.str _,H,I.tok _,⟨_,rfl⟩,q⟩⟩)
  | int j tj=>exact wpAny_getItem_str_slice (l:=none) (u:=some (j,tj)) (st:=none) ⟨o,ho,hc,hd⟩ rfl (post_val_or_str ⟨ig (Txt.slice_le z _ _) hz,fun t' k=>⟨.str _,H,I.tok _,⟨_,rfl⟩,q⟩⟩)
 | int i ti=>
  cases pu with
  | none=>exact wpAny_getItem_str_slice (l:=some (i,ti)) (u:=none) (st:=none) ⟨o,ho,hc,hd⟩ rfl (post_val_or_str ⟨ig (Txt.slice_le z _ _) hz,fun t' k=>⟨.str _,H,I.tok _,⟨_,rfl⟩,q⟩⟩)
  | int j tj=>exact wpAny_getItem_str_slice (l:=some (i,ti)) (u:=some (j,tj)) (st:=none) ⟨o,ho,hc,hd⟩ rfl (post_val_or_str ⟨ig (Txt.slice_le z _ _) hz,fun t' k=>⟨.str _,H,I.tok _,⟨_,rfl⟩,q⟩⟩)
theorem rR:er X (.builtin "isinstance") (fun xs H Q=>∃ x T t b,xs=[x,.ty T]/\gY X.K H x t/\gp X.K t (.type T)=some b/\Q (.bl b) H):=by
 intro aa s σ H xs us Q I r h
 obtain ⟨x,T,t,b,rfl,ty,e,q⟩:=h
 obtain ⟨u,u',rfl,ru,XS⟩:=vals2 r
 cases XS
 exact nZ I ru ty e fun tk=>⟨.bl b,H,I.tok _,rfl,q⟩
theorem lK {ks:List Bool}{its:List Value}(r:Vals (ks.map V.bl) its) (A:Around):TruthOf X.prog X.w A (fun i v=>its.toArray[i]?=some v) (fun i=>ks.getD i true):=by
 intro i v s Q E hv hQ
 have hv:its[i]?=some v:=by simpa using hv
 have hi:i<ks.length:=by
  have h1:=(du.mp hv).1
  have h2:=r.length
  rw [dg] at h2
  omega
 obtain ⟨u,e,ru⟩:=r.get (i:=i) (x:=.bl ks[i]) (by rw [gu,cX hi];rfl)
 rw [hv] at e
 cases e
 cases ru
 have g:ks.getD i true=ks[i]:=by rw [kH,cX hi];rfl
 have hQ:Q (ks.getD i true) s:=hQ
 rw [g] at hQ
 exact wpAny_truthy_bool hQ
theorem range_all (ks:List Bool):(pe ks.length).all (fun i=>ks.getD i true)=ks.all id:=by
 induction ks with
 | nil=>rfl
 | cons k ks ih=>
  rw [dq,Cw,eL,Cy,eL,<- ih]
  rfl
theorem range_any (ks:List Bool):(pe ks.length).any (fun i=>ks.getD i true)=ks.any id:=by
 induction ks with
 | nil=>rfl
 | cons k ks ih=>
  rw [dq,Cw,kG,Cn,kG,<- ih]
  rfl
theorem DN (hc:X.calm=true):er X (.builtin "all") (fun xs H Q=>∃ (p:Addr) (ks:List Bool),xs=[.ref p]/\cY X.K H p (ks.map V.bl)/\Q (.bl (ks.all id)) H):=by
 intro aa s σ H xs us Q I r h
 obtain ⟨p,ks,rfl,hp,q⟩:=h
 obtain ⟨u,rfl,ru⟩:=vals1 r
 cases ru
 obtain ⟨its,rv,pl,hz⟩:=I.list hp
 have cL:=rv.length
 rw [dg] at cL
 refine call_all_walk (wpAny_pyIter_list pl.isList ?_)
 have gC:p≠s.heap.objs.size:=let ⟨_,e,_⟩:=pl.isList;dh (Heap.lt_size e)
 refine ⟨s.heap.objs.size,_,[s.heap.objs.size],its.toArray.size,_,_,fun i=>ks.getD i true,rfl,Walks.list (show X.A.in1.handled=none from I.ok.hd hc) s.heap.objs.size p gC its.toArray,⟨⟨_,Heap.get?_push_size _ rfl,rfl,rfl⟩,Heap.IsList.push pl.isList _⟩,lK rv _,fun h' tk kk=>?_⟩
 rw [bQ,<- cL,range_all]
 refine ⟨.bl _,H,?_,rfl,q⟩
 refine I.kept fun b o e=>kk b o (fun z=>?_) (Heap.get?_push_of_some _ e)
 have hb:b=s.heap.objs.size:=by simpa using z
 rw [hb] at e
 exact pA _ (Heap.lt_size e)
theorem DO (hc:X.calm=true):er X (.builtin "any") (fun xs H Q=>∃ (p:Addr) (ks:List Bool),xs=[.ref p]/\cY X.K H p (ks.map V.bl)/\Q (.bl (ks.any id)) H):=by
 intro aa s σ H xs us Q I r h
 obtain ⟨p,ks,rfl,hp,q⟩:=h
 obtain ⟨u,rfl,ru⟩:=vals1 r
 cases ru
 obtain ⟨its,rv,pl,hz⟩:=I.list hp
 have cL:=rv.length
 rw [dg] at cL
 refine call_any_walk (wpAny_pyIter_list pl.isList ?_)
 have gC:p≠s.heap.objs.size:=let ⟨_,e,_⟩:=pl.isList;dh (Heap.lt_size e)
 refine ⟨s.heap.objs.size,_,[s.heap.objs.size],its.toArray.size,_,_,fun i=>ks.getD i true,rfl,Walks.list (show X.A.in1.handled=none from I.ok.hd hc) s.heap.objs.size p gC its.toArray,⟨⟨_,Heap.get?_push_size _ rfl,rfl,rfl⟩,Heap.IsList.push pl.isList _⟩,lK rv _,fun h' tk kk=>?_⟩
 rw [bQ,<- cL,range_any]
 refine ⟨.bl _,H,?_,rfl,q⟩
 refine I.kept fun b o e=>kk b o (fun z=>?_) (Heap.get?_push_of_some _ e)
 have hb:b=s.heap.objs.size:=by simpa using z
 rw [hb] at e
 exact pA _ (Heap.lt_size e)
end
end L2
namespace K74
open PySem L2
noncomputable abbrev top (i:Nat):Stmt:=PySem.Challenge.pw_rowblade_k74_what_is_not_woven.main.body.getD i (.Pass ⟨0,0,0,0⟩)
end K74
noncomputable section
namespace KH
open PySem PySem.W PySem.Calls PyProof.Rows L2 K74
abbrev pw:Program:=PySem.Challenge.pw_rowblade_k74_what_is_not_woven
noncomputable abbrev r (a:Nat):Value:=.ref a
noncomputable abbrev O (c:Value) (d:Option Addr) (x:Data) (s:List (Option Value)):Obj:=⟨c,d,x,⟨s⟩⟩
abbrev W:=Params->Obj
abbrev Z:=Str × Nat × Value
noncomputable abbrev D (P:Params) (e:Z):DictEntry:=⟨PyData.keyHash P e.1,.str e.1 e.2.1,e.2.2⟩
abbrev fN (n q:Str) (s:Stmt) (g:Addr) (cl:List (Str × Addr)) (dv kv doc pm:Value) (an:Option Addr) (cd ct:Value) (b:Addr):FuncData:=⟨n,q,iS s,.stmts (bM s),aw s,g,cl,dv,kv,doc,pm,an,cd,ct,b⟩
abbrev C (n q:Str) (t u L a b c g:Nat) (x:Addr) (B:Bool) (y:Addr) (k l m o:Value):W:=fun _=>O (.type "code") none (.fields ⟨[.str n t,.str q (t+1),.str "/claim/cut.py" (t+2),.int (kI L) 0,.int (kI a) 0,.int (kI b) 0,.int (kI c) 0,.int (kI g) 0,r x,.bool B,.int (kI 181) 0,r y,k,l,m,o,.int (kI u) 0,.int (kI L) 0,.str "/claim/cut.py" (u+1)]⟩) []
abbrev cf (n q:Str) (t u L a x:Nat):W:=C n q t u L a 0 0 3 x true (x+1) .none (r (x+2)) (r (x+3)) (r (x+4))
abbrev cg (n:Str) (t u L a x:Nat):W:=cf n n t u L a x
abbrev cc (n:Str) (t L x:Nat):W:=C n n t (t+3) L 0 0 0 0 x false (x+1) .none .none .none .none
abbrev lt (b:Nat) (l:List (Nat × Nat)):W:=fun _=>O .none none (.fields ⟨(l.map fun p=>[.int (kI p.1) 0,.int (kI b) 0,r p.2]).flatten⟩) []
abbrev fO (n q:Str) (s:Stmt) (m:Value) (c:Nat):W:=fun _=>O (.type "function") none (.func (fN n q s 3 [] .none .none .none m none (r c) .none 0)) []
abbrev fn (n q:Str) (s:Stmt):W:=fun _=>O .none none (.func (fN n q s 0 [] .none .none .none .none none .none .none 0)) []
def sS:Nat->List Str->List Value
 | _,[]=>[]
 | k,x::l=>.str x k::sS (k+1) l
abbrev tS (k:Nat) (l:List Str):W:=fun _=>O (.type "tuple") none (.seq ⟨sS k l⟩ 0) []
abbrev tV (l:List Value):W:=fun _=>O (.type "tuple") none (.seq ⟨l⟩ 0) []
abbrev di (n:Nat) (l:List Z):W:=fun P=>O (.type "dict") none (.dict ⟨l.map (D P)⟩ n) []
abbrev c1 (m:Value) (b:Nat) (q:Str) (L:Nat) (xs:List Z) (st sr n:Nat):W:=di n (("__module__", b,m)::("__qualname__", b+2,.str q (b+1))::("__firstlineno__", b+4,.int (kI L) (b+3))::(xs.append [("__static_attributes__", st,r sr)]))
abbrev c2 (m:Value) (b L:Nat) (xs:List Z) (st sr:Nat) (ys:List Z) (dt n:Nat):W:=di n (("__module__", b,m)::("__firstlineno__", b+4,.int (kI L) (b+3))::(xs.append (("__static_attributes__", st,r sr)::(ys.append [("__doc__", dt,.none)]))))
abbrev cG (n:Str) (bs mr:List Value) (d:Nat) (su:List Value) (h:Option Value) (t:Nat) (nw:String):W:=fun _=>O (.type "type") none (.cls ⟨n,bs,mr,d,n,true,[],su,false,none,false⟩) [h,none,some (.str n t),some (.str n (t+8)),some (.builtin nw),some (.bool true)]
abbrev ob:Value:=.type "object"
abbrev cB (n:Str) (d b:Nat) (su:List Value) (h t:Nat):W:=cG n [r b] [r (d+1),r b,ob] d su (some (r h)) t "object.__new__"
abbrev c0 (n:Str) (d:Nat) (su:List Value) (t:Nat):W:=cG n [ob] [r (d+1),ob] d su none t "object.__new__"
abbrev fr (c l:Nat) (m:Value):W:=fun _=>O (.type "frame") none .plain [some (r c),some (r 3),some (r l),none,some m,none,some (r 0)]
abbrev is (c:Nat):W:=fun _=>O (.type "builtin_function_or_method") none (.fields ⟨[.builtin "object.__init_subclass__", r c]⟩) []
abbrev su (c:Nat):W:=fun _=>O (.type "super") none (.fields ⟨[r c,r c,r c]⟩) []
noncomputable abbrev gd (t c:Nat):W:=fun _=>O (.type "getset_descriptor") none (.fields ⟨[.str "__dict__" t,r c,.builtin "function.__dict__", .builtin "function.__dict__#set"]⟩) []
abbrev gw (t c:Nat):W:=fun _=>O (.type "getset_descriptor") none (.fields ⟨[.str "__weakref__" t,r c,.builtin "ExceptionGroup.__weakref__", .none]⟩) []
noncomputable abbrev N (o:Params->Obj) (l r:Params->BT):Params->BT:=fun P=>.node (o P) (l P) (r P)
noncomputable abbrev E:Params->BT:=fun _=>.nil
abbrev L (o:Params->Obj):Params->BT:=N o E E
abbrev m0:Value:=.str "__main__" 164
abbrev m1:Value:=.str "rowblade.errors" 187
abbrev m2:Value:=.str "rowblade.lines" 373
abbrev m3:Value:=.str "rowblade.signs" 924
abbrev m4:Value:=.str "rowblade.patterns" 947
abbrev m5:Value:=.str "rowblade.linereading" 1068
abbrev m6:Value:=.str "rowblade.rows" 1286
abbrev m7:Value:=.str "rowblade.reading" 1296
abbrev m8:Value:=.str "rowblade.showing" 1339
abbrev m9:Value:=.str "rowblade.weave" 1382
abbrev BZ:Value:=.str "law_rowblade_k74_what_is_not_woven" 1397
abbrev ae:=tV []
abbrev aq:W:=fun P=>O .none none (.fields ⟨[]⟩) []
abbrev HG:=cc "<module>" 182 1 11
abbrev HH:=fr 13 3 m0
abbrev d0:List Z:=[("__doc__", 166,.none),("__package__", 167,.none),("__loader__", 168,(.builtin "__main__.__loader__#opaque")),("__spec__", 169,.none),("__annotations__", 170,(r 6)),("__builtins__", 171,(r 4)),("__file__", 173,(.str "/claim/cut.py" 172)),("__cached__", 174,.none),("BladeError", 206,(r 24)),("NoPattern", 222,(r 37)),("NotThat", 238,(r 49)),("NotWoven", 254,(r 61)),("Finished", 270,(r 73))]
abbrev o3:=di 14 (("__name__", 165,(.str "rowblade.errors" 187))::d0)
noncomputable abbrev l0:List (Nat × Nat):=[(2,20),(4,33),(6,45),(8,57),(10,69)]
abbrev XT:=lt 0 l0
abbrev HJ:=tV [(.type "ValueError")]
abbrev aH:W:=fun P=>O (.type "builtin_function_or_method") none (.fields ⟨[(.builtin "type.__prepare__"),(.type "type")]⟩) []
abbrev Jj:=c1 m1 196 "BladeError" 2 [] 201 22 4
abbrev Jk:=cc "BladeError" 191 2 18
abbrev Jl:=fr 20 17 m1
abbrev HK:=c2 m1 196 2 [] 201 22 [("__weakref__", 203,(r 25))] 204 3
abbrev o24:=cG "BladeError" [(.type "ValueError")] [(r 24),(.type "ValueError"),(.type "Exception"),(.type "BaseException"),(.type "object")] 23 [(r 37),(r 49),(r 61),(r 73)] (some (r 15)) 189 "ValueError.__new__"
abbrev HL:=gw 202 24
abbrev Jm:=su 24
abbrev Jo:=is 24
abbrev bZ:=tV [(r 24)]
abbrev Jp:=c1 m1 214 "NoPattern" 4 [] 219 35 4
abbrev Jq:=cc "NoPattern" 209 4 31
abbrev Jr:=fr 33 30 m1
abbrev HM:=c2 m1 214 4 [] 219 35 [] 220 2
abbrev HN:=cG "NoPattern" [(r 24)] [(r 37),(r 24),(.type "ValueError"),(.type "Exception"),(.type "BaseException"),(.type "object")] 36 [] (some (r 28)) 207 "ValueError.__new__"
abbrev Js:=su 37
abbrev Jt:=is 37
abbrev Ju:=c1 m1 230 "NotThat" 6 [] 235 47 4
abbrev Jv:=cc "NotThat" 225 6 43
abbrev Jw:=fr 45 42 m1
abbrev HP:=c2 m1 230 6 [] 235 47 [] 236 2
abbrev HQ:=cG "NotThat" [(r 24)] [(r 49),(r 24),(.type "ValueError"),(.type "Exception"),(.type "BaseException"),(.type "object")] 48 [] (some (r 40)) 223 "ValueError.__new__"
abbrev Jx:=su 49
abbrev Jy:=is 49
abbrev Jz:=c1 m1 246 "NotWoven" 8 [] 251 59 4
abbrev JA:=cc "NotWoven" 241 8 55
abbrev JB:=fr 57 54 m1
abbrev HR:=c2 m1 246 8 [] 251 59 [] 252 2
abbrev HS:=cG "NotWoven" [(r 24)] [(r 61),(r 24),(.type "ValueError"),(.type "Exception"),(.type "BaseException"),(.type "object")] 60 [] (some (r 52)) 239 "ValueError.__new__"
abbrev JC:=su 61
abbrev JD:=is 61
abbrev JE:=c1 m1 262 "Finished" 10 [] 267 71 4
abbrev JF:=cc "Finished" 257 10 67
abbrev JG:=fr 69 66 m1
abbrev HU:=c2 m1 262 10 [] 267 71 [] 268 2
abbrev HV:=cG "Finished" [(r 24)] [(r 73),(r 24),(.type "ValueError"),(.type "Exception"),(.type "BaseException"),(.type "object")] 72 [] (some (r 64)) 255 "ValueError.__new__"
abbrev JH:=su 73
abbrev JI:=is 73
abbrev d1:=d0.append [("NoLine", 295,(r 92)),("TwoMarks", 320,(r 111)),("NoMark", 345,(r 130)),("Endless", 372,(r 149))]
abbrev adW:=di 18 (("__name__", 165,(.str "rowblade.lines" 373))::d1)
abbrev l1:=l0++[(12,81),(16,100),(20,119),(24,138)]
abbrev XU:=lt 0 l1
abbrev iT:=cG "BladeError" [(.type "ValueError")] [(r 24),(.type "ValueError"),(.type "Exception"),(.type "BaseException"),(.type "object")] 23 [(r 37),(r 49),(r 61),(r 73),(r 92),(r 111),(r 130),(r 149)] (some (r 15)) 189 "ValueError.__new__"
abbrev Ot:=c1 m1 278 "NoLine" 12 [("__init__", 290,(r 89))] 292 90 5
abbrev Ou:=lt 4 [(14,88)]
abbrev Ov:=cc "NoLine" 273 12 79
abbrev Ow:=fr 81 78 m1
abbrev JJ:=tS 286 ["self", "row"]
abbrev Ox:=fn "__init__" "NoLine.__init__" (inClass (top 6) 0)
abbrev JK:=cf "__init__" "NoLine.__init__" 283 288 14 2 83
abbrev JL:=fO "__init__" "NoLine.__init__" (inClass (top 6) 0) m1 88
abbrev JM:=tS 291 ["row"]
abbrev JN:=c2 m1 278 12 [("__init__", 290,(r 89))] 292 90 [] 293 2
abbrev JO:=cG "NoLine" [(r 24)] [(r 92),(r 24),(.type "ValueError"),(.type "Exception"),(.type "BaseException"),(.type "object")] 91 [] (some (r 76)) 271 "ValueError.__new__"
abbrev Oz:=su 92
abbrev OA:=is 92
abbrev OB:=c1 m1 303 "TwoMarks" 16 [("__init__", 315,(r 108))] 317 109 5
abbrev OC:=lt 4 [(18,107)]
abbrev rT:=cc "TwoMarks" 298 16 98
abbrev rV:=fr 100 97 m1
abbrev pV:=tS 311 ["self", "row"]
abbrev rW:=fn "__init__" "TwoMarks.__init__" (inClass (top 7) 0)
abbrev pW:=cf "__init__" "TwoMarks.__init__" 308 313 18 2 102
abbrev pX:=fO "__init__" "TwoMarks.__init__" (inClass (top 7) 0) m1 107
abbrev pY:=tS 316 ["row"]
abbrev pZ:=c2 m1 303 16 [("__init__", 315,(r 108))] 317 109 [] 318 2
abbrev p9:=cG "TwoMarks" [(r 24)] [(r 111),(r 24),(.type "ValueError"),(.type "Exception"),(.type "BaseException"),(.type "object")] 110 [] (some (r 95)) 296 "ValueError.__new__"
abbrev rX:=su 111
abbrev rY:=is 111
abbrev rZ:=c1 m1 328 "NoMark" 20 [("__init__", 340,(r 127))] 342 128 5
abbrev r6:=lt 4 [(22,126)]
abbrev r8:=cc "NoMark" 323 20 117
abbrev r9:=fr 119 116 m1
abbrev p_:=tS 336 ["self", "row"]
abbrev r_:=fn "__init__" "NoMark.__init__" (inClass (top 8) 0)
abbrev qa:=cf "__init__" "NoMark.__init__" 333 338 22 2 121
abbrev sd:=fO "__init__" "NoMark.__init__" (inClass (top 8) 0) m1 126
abbrev se:=tS 341 ["row"]
abbrev sf:=c2 m1 328 20 [("__init__", 340,(r 127))] 342 128 [] 343 2
abbrev sj:=cG "NoMark" [(r 24)] [(r 130),(r 24),(.type "ValueError"),(.type "Exception"),(.type "BaseException"),(.type "object")] 129 [] (some (r 114)) 321 "ValueError.__new__"
abbrev sy:=su 130
abbrev vV:=is 130
abbrev vW:=c1 m1 353 "Endless" 24 [("__init__", 366,(r 146))] 369 147 5
abbrev vX:=lt 4 [(26,145)]
abbrev vY:=cc "Endless" 348 24 136
abbrev vZ:=fr 138 135 m1
abbrev qb:=tS 361 ["self", "row", "line"]
abbrev sA:=fn "__init__" "Endless.__init__" (inClass (top 9) 0)
abbrev qc:=cf "__init__" "Endless.__init__" 358 364 26 3 140
abbrev qe:=fO "__init__" "Endless.__init__" (inClass (top 9) 0) m1 145
abbrev qg:=tS 367 ["line", "row"]
abbrev qh:=c2 m1 353 24 [("__init__", 366,(r 146))] 369 147 [] 370 2
abbrev qi:=cG "Endless" [(r 24)] [(r 149),(r 24),(.type "ValueError"),(.type "Exception"),(.type "BaseException"),(.type "object")] 148 [] (some (r 133)) 346 "ValueError.__new__"
abbrev sC:=su 149
abbrev sD:=is 149
abbrev d2:=d1.append [("Program", 403,(r 168)),("Line", 434,(r 189)),("Cond", 454,(r 203)),("Always", 470,(r 217)),("RowIs", 495,(r 236))]
abbrev adX:=di 23 (("__name__", 165,(.str "rowblade.lines" 373))::d2)
abbrev l2:=l1++[(30,157),(34,178),(39,199),(41,213),(43,225)]
abbrev XW:=lt 0 l2
abbrev v5:=c1 m2 382 "Program" 30 [("__init__", 394,(r 165))] 396 166 5
abbrev v8:=lt 4 [(32,164)]
abbrev v9:=cc "Program" 377 30 155
abbrev v_:=fr 157 154 m2
abbrev sE:=tS 390 ["self", "lines"]
abbrev wb:=fn "__init__" "Program.__init__" (inClass (top 11) 0)
abbrev sF:=cf "__init__" "Program.__init__" 387 392 32 2 159
abbrev sG:=fO "__init__" "Program.__init__" (inClass (top 11) 0) m2 164
abbrev sH:=tS 395 ["lines"]
abbrev sI:=c2 m2 382 30 [("__init__", 394,(r 165))] 396 166 [("__dict__", 398,(r 169)),("__weakref__", 400,(r 170))] 401 4
abbrev sJ:=c0 "Program" 167 [] 375
abbrev sL:=gd 397 168
abbrev sM:=gw 399 168
abbrev wc:=su 168
abbrev we:=is 168
abbrev wg:=c1 m2 411 "Line" 34 [("__init__", 424,(r 186))] 427 187 5
abbrev wj:=lt 4 [(36,185)]
abbrev wm:=cc "Line" 406 34 176
abbrev wo:=fr 178 175 m2
abbrev sO:=tS 419 ["self", "cond", "deed"]
abbrev wt:=fn "__init__" "Line.__init__" (inClass (top 12) 0)
abbrev sP:=cf "__init__" "Line.__init__" 416 422 36 3 180
abbrev sQ:=fO "__init__" "Line.__init__" (inClass (top 12) 0) m2 185
abbrev sR:=tS 425 ["cond", "deed"]
abbrev sU:=c2 m2 411 34 [("__init__", 424,(r 186))] 427 187 [("__dict__", 429,(r 190)),("__weakref__", 431,(r 191))] 432 4
abbrev sV:=c0 "Line" 188 [] 404
abbrev sX:=gd 428 189
abbrev sY:=gw 430 189
abbrev wu:=su 189
abbrev wx:=is 189
abbrev Ay:=c1 m2 442 "Cond" 39 [] 447 201 4
abbrev Az:=cc "Cond" 437 39 197
abbrev wy:=fr 199 196 m2
abbrev wz:=c2 m2 442 39 [] 447 201 [("__dict__", 449,(r 204)),("__weakref__", 451,(r 205))] 452 4
abbrev adY:=c0 "Cond" 202 [(r 217),(r 236)] 435
abbrev wA:=gd 448 203
abbrev wB:=gw 450 203
abbrev AA:=su 203
abbrev AB:=is 203
abbrev bc:=tV [(r 203)]
abbrev AD:=c1 m2 462 "Always" 41 [] 467 215 4
abbrev AE:=cc "Always" 457 41 211
abbrev AF:=fr 213 210 m2
abbrev wC:=c2 m2 462 41 [] 467 215 [] 468 2
abbrev wD:=cB "Always" 216 203 [] 208 455
abbrev AG:=su 217
abbrev AH:=is 217
abbrev AI:=c1 m2 478 "RowIs" 43 [("__init__", 490,(r 233))] 492 234 5
abbrev AJ:=lt 4 [(45,232)]
abbrev AK:=cc "RowIs" 473 43 223
abbrev AL:=fr 225 222 m2
abbrev sZ:=tS 486 ["self", "number"]
abbrev wF:=fn "__init__" "RowIs.__init__" (inClass (top 15) 0)
abbrev s_:=cf "__init__" "RowIs.__init__" 483 488 45 2 227
abbrev tm:=fO "__init__" "RowIs.__init__" (inClass (top 15) 0) m2 232
abbrev tu:=tS 491 ["number"]
abbrev tw:=c2 m2 478 43 [("__init__", 490,(r 233))] 492 234 [] 493 2
abbrev tD:=cB "RowIs" 235 203 [] 220 471
abbrev wG:=su 236
abbrev wH:=is 236
abbrev d3:=d2.append [("Last", 511,(r 248)),("Like", 536,(r 267)),("Soon", 563,(r 286)),("FromTo", 590,(r 305)),("Not", 615,(r 324))]
abbrev adZ:=di 28 (("__name__", 165,(.str "rowblade.lines" 373))::d3)
abbrev l3:=l2++[(47,244),(49,256),(53,275),(58,294),(63,313)]
abbrev XY:=lt 0 l3
abbrev Rx:=c0 "Cond" 202 [(r 217),(r 236),(r 248),(r 267),(r 286),(r 305),(r 324)] 435
abbrev AM:=c1 m2 503 "Last" 47 [] 508 246 4
abbrev AN:=cc "Last" 498 47 242
abbrev AO:=fr 244 241 m2
abbrev wI:=c2 m2 503 47 [] 508 246 [] 509 2
abbrev wJ:=cB "Last" 247 203 [] 239 496
abbrev AQ:=su 248
abbrev AR:=is 248
abbrev AS:=c1 m2 519 "Like" 49 [("__init__", 531,(r 264))] 533 265 5
abbrev JP:=lt 4 [(51,263)]
abbrev JQ:=cc "Like" 514 49 254
abbrev JR:=fr 256 253 m2
abbrev DP:=tS 527 ["self", "pattern"]
abbrev JS:=fn "__init__" "Like.__init__" (inClass (top 17) 0)
abbrev DQ:=cf "__init__" "Like.__init__" 524 529 51 2 258
abbrev DR:=fO "__init__" "Like.__init__" (inClass (top 17) 0) m2 263
abbrev DS:=tS 532 ["pattern"]
abbrev DT:=c2 m2 519 49 [("__init__", 531,(r 264))] 533 265 [] 534 2
abbrev DU:=cB "Like" 266 203 [] 251 512
abbrev DV:=su 267
abbrev DW:=is 267
abbrev DX:=c1 m2 544 "Soon" 53 [("__init__", 557,(r 283))] 560 284 5
abbrev DY:=lt 4 [(55,282)]
abbrev DZ:=cc "Soon" 539 53 273
abbrev D0:=fr 275 272 m2
abbrev AU:=tS 552 ["self", "many", "pattern"]
abbrev D3:=fn "__init__" "Soon.__init__" (inClass (top 18) 0)
abbrev AV:=cf "__init__" "Soon.__init__" 549 555 55 3 277
abbrev AW:=fO "__init__" "Soon.__init__" (inClass (top 18) 0) m2 282
abbrev AX:=tS 558 ["many", "pattern"]
abbrev AY:=c2 m2 544 53 [("__init__", 557,(r 283))] 560 284 [] 561 2
abbrev wK:=cB "Soon" 285 203 [] 270 537
abbrev AZ:=su 286
abbrev A0:=is 286
abbrev A1:=c1 m2 571 "FromTo" 58 [("__init__", 584,(r 302))] 587 303 5
abbrev A2:=lt 4 [(60,301)]
abbrev A3:=cc "FromTo" 566 58 292
abbrev A4:=fr 294 291 m2
abbrev wL:=tS 579 ["self", "first", "second"]
abbrev A5:=fn "__init__" "FromTo.__init__" (inClass (top 19) 0)
abbrev wM:=cf "__init__" "FromTo.__init__" 576 582 60 3 296
abbrev wN:=fO "__init__" "FromTo.__init__" (inClass (top 19) 0) m2 301
abbrev wO:=tS 585 ["first", "second"]
abbrev wQ:=c2 m2 571 58 [("__init__", 584,(r 302))] 587 303 [] 588 2
abbrev wR:=cB "FromTo" 304 203 [] 289 564
abbrev A6:=su 305
abbrev A7:=is 305
abbrev A8:=c1 m2 598 "Not" 63 [("__init__", 610,(r 321))] 612 322 5
abbrev A9:=lt 4 [(65,320)]
abbrev A_:=cc "Not" 593 63 311
abbrev Ba:=fr 313 310 m2
abbrev wU:=tS 606 ["self", "inner"]
abbrev Bb:=fn "__init__" "Not.__init__" (inClass (top 20) 0)
abbrev wV:=cf "__init__" "Not.__init__" 603 608 65 2 315
abbrev wW:=fO "__init__" "Not.__init__" (inClass (top 20) 0) m2 320
abbrev wX:=tS 611 ["inner"]
abbrev Bc:=c2 m2 598 63 [("__init__", 610,(r 321))] 612 322 [] 613 2
abbrev Bd:=cB "Not" 323 203 [] 308 591
abbrev Be:=su 324
abbrev Bf:=is 324
abbrev d4:=d3.append [("End", 631,(r 336)),("Deed", 651,(r 348)),("Mark", 676,(r 369)),("Drop", 692,(r 381)),("Print", 708,(r 393))]
abbrev ad0:=di 33 (("__name__", 165,(.str "rowblade.lines" 373))::d4)
abbrev l4:=l3++[(67,332),(69,344),(71,358),(75,377),(77,389)]
abbrev XZ:=lt 0 l4
abbrev lL:=c0 "Cond" 202 [(r 217),(r 236),(r 248),(r 267),(r 286),(r 305),(r 324),(r 336)] 435
abbrev JT:=c1 m2 623 "End" 67 [] 628 334 4
abbrev JU:=cc "End" 618 67 330
abbrev JV:=fr 332 329 m2
abbrev D4:=c2 m2 623 67 [] 628 334 [] 629 2
abbrev D5:=cB "End" 335 203 [] 327 616
abbrev JW:=su 336
abbrev JX:=is 336
abbrev JY:=c1 m2 639 "Deed" 69 [] 644 346 4
abbrev JZ:=cc "Deed" 634 69 342
abbrev J0:=fr 344 341 m2
abbrev D6:=c2 m2 639 69 [] 644 346 [("__dict__", 646,(r 349)),("__weakref__", 648,(r 350))] 649 4
abbrev ad1:=c0 "Deed" 347 [(r 369),(r 381),(r 393)] 632
abbrev D7:=gd 645 348
abbrev D8:=gw 647 348
abbrev J1:=su 348
abbrev J2:=is 348
abbrev bf:=tV [(r 348)]
abbrev J3:=c1 m2 659 "Mark" 71 [("__init__", 671,(r 366))] 673 367 5
abbrev D9:=lt 4 [(73,365)]
abbrev D_:=cc "Mark" 654 71 356
abbrev Ea:=fr 358 355 m2
abbrev Bg:=tS 667 ["self", "name"]
abbrev Eb:=fn "__init__" "Mark.__init__" (inClass (top 23) 0)
abbrev Bj:=cf "__init__" "Mark.__init__" 664 669 73 2 360
abbrev Bk:=fO "__init__" "Mark.__init__" (inClass (top 23) 0) m2 365
abbrev Bl:=tS 672 ["name"]
abbrev Bm:=c2 m2 659 71 [("__init__", 671,(r 366))] 673 367 [] 674 2
abbrev Bo:=cB "Mark" 368 348 [] 353 652
abbrev Ec:=su 369
abbrev Ed:=is 369
abbrev Ef:=c1 m2 684 "Drop" 75 [] 689 379 4
abbrev Eg:=cc "Drop" 679 75 375
abbrev Eh:=fr 377 374 m2
abbrev Bp:=c2 m2 684 75 [] 689 379 [] 690 2
abbrev Bq:=cB "Drop" 380 348 [] 372 677
abbrev Ei:=su 381
abbrev J4:=is 381
abbrev J5:=c1 m2 700 "Print" 77 [] 705 391 4
abbrev Ej:=cc "Print" 695 77 387
abbrev J7:=fr 389 386 m2
abbrev Ek:=c2 m2 700 77 [] 705 391 [] 706 2
abbrev El:=cB "Print" 392 348 [] 384 693
abbrev J8:=su 393
abbrev J9:=is 393
abbrev d5:=d4.append [("Done", 724,(r 405)),("Say", 749,(r 424)),("Swap", 778,(r 443)),("Join", 803,(r 462)),("Pile", 830,(r 481))]
abbrev ad2:=di 38 (("__name__", 165,(.str "rowblade.lines" 373))::d5)
abbrev l5:=l4++[(79,401),(81,413),(85,432),(91,451),(95,470)]
abbrev X0:=lt 0 l5
abbrev Ry:=c0 "Deed" 347 [(r 369),(r 381),(r 393),(r 405),(r 424),(r 443),(r 462),(r 481)] 632
abbrev J_:=c1 m2 716 "Done" 79 [] 721 403 4
abbrev Ka:=cc "Done" 711 79 399
abbrev Kc:=fr 401 398 m2
abbrev Em:=c2 m2 716 79 [] 721 403 [] 722 2
abbrev En:=cB "Done" 404 348 [] 396 709
abbrev Kd:=su 405
abbrev Ke:=is 405
abbrev Kf:=c1 m2 732 "Say" 81 [("__init__", 744,(r 421))] 746 422 5
abbrev Kg:=lt 4 [(83,420)]
abbrev Kh:=cc "Say" 727 81 411
abbrev Kl:=fr 413 410 m2
abbrev Eo:=tS 740 ["self", "words"]
abbrev Km:=fn "__init__" "Say.__init__" (inClass (top 27) 0)
abbrev Ep:=cf "__init__" "Say.__init__" 737 742 83 2 415
abbrev Er:=fO "__init__" "Say.__init__" (inClass (top 27) 0) m2 420
abbrev Es:=tS 745 ["words"]
abbrev Et:=c2 m2 732 81 [("__init__", 744,(r 421))] 746 422 [] 747 2
abbrev Eu:=cB "Say" 423 348 [] 408 725
abbrev Kn:=su 424
abbrev Ko:=is 424
abbrev Kp:=c1 m2 757 "Swap" 85 [("__init__", 771,(r 440))] 775 441 5
abbrev Kq:=lt 4 [(87,439)]
abbrev Kr:=cc "Swap" 752 85 430
abbrev Ks:=fr 432 429 m2
abbrev Ew:=tS 765 ["self", "pattern", "words", "every"]
abbrev Ku:=fn "__init__" "Swap.__init__" (inClass (top 28) 0)
abbrev Ey:=cf "__init__" "Swap.__init__" 762 769 87 4 434
abbrev Ez:=fO "__init__" "Swap.__init__" (inClass (top 28) 0) m2 439
abbrev EA:=tS 772 ["every", "pattern", "words"]
abbrev EB:=c2 m2 757 85 [("__init__", 771,(r 440))] 775 441 [] 776 2
abbrev EC:=cB "Swap" 442 348 [] 427 750
abbrev Kv:=su 443
abbrev Kw:=is 443
abbrev Kz:=c1 m2 786 "Join" 91 [("__init__", 798,(r 459))] 800 460 5
abbrev KA:=lt 4 [(93,458)]
abbrev Rz:=cc "Join" 781 91 449
abbrev RA:=fr 451 448 m2
abbrev KC:=tS 794 ["self", "most"]
abbrev RB:=fn "__init__" "Join.__init__" (inClass (top 29) 0)
abbrev KD:=cf "__init__" "Join.__init__" 791 796 93 2 453
abbrev KG:=fO "__init__" "Join.__init__" (inClass (top 29) 0) m2 458
abbrev KI:=tS 799 ["most"]
abbrev KJ:=c2 m2 786 91 [("__init__", 798,(r 459))] 800 460 [] 801 2
abbrev KL:=cB "Join" 461 348 [] 446 779
abbrev RC:=su 462
abbrev RD:=is 462
abbrev KN:=c1 m2 811 "Pile" 95 [("__init__", 824,(r 478))] 827 479 5
abbrev RE:=lt 4 [(97,477)]
abbrev RG:=cc "Pile" 806 95 468
abbrev KO:=fr 470 467 m2
abbrev KP:=tS 819 ["self", "shelf", "most"]
abbrev KQ:=fn "__init__" "Pile.__init__" (inClass (top 30) 0)
abbrev KR:=cf "__init__" "Pile.__init__" 816 822 97 3 472
abbrev KS:=fO "__init__" "Pile.__init__" (inClass (top 30) 0) m2 477
abbrev KU:=tS 825 ["most", "shelf"]
abbrev KW:=c2 m2 811 95 [("__init__", 824,(r 478))] 827 479 [] 828 2
abbrev KY:=cB "Pile" 480 348 [] 465 804
abbrev RH:=su 481
abbrev RI:=is 481
abbrev d6:=d5.append [("Bring", 855,(r 500)),("Go", 880,(r 519)),("Add", 907,(r 538)),("Tell", 923,(r 550)),("SIGNS", 927,(.str "abcdefghijklmnopqrstuvwxyzABCDEFGHIJKLMNOPQRSTUVWXYZ0123456789 !\"#$&'()*+,-./:;<=>?\x40[\\]^_`{|}~" 926)),("SMALL_LETTERS", 929,(.str "abcdefghijklmnopqrstuvwxyz" 928)),("FIGURES", 931,(.str "0123456789" 930)),("made_of", 937,(r 557)),("beginning_of", 946,(r 564)),("MOST_ITEMS", 950,(.int (8) 949)),("MOST_SIGNS", 952,(.int (12) 951)),("NEVER_PLAIN", 954,(.str "^$.[]*+?/" 953)),("NEVER_IN_A_SET", 956,(.str "]^/" 955)),("ONCE", 958,(.str "1" 957)),("HOW_MANY", 960,(.str "*+?" 959)),("may_stand_plain", 967,(r 571)),("pattern", 978,(r 578))]
abbrev ad3:=di 55 (("__name__", 165,(.str "rowblade.patterns" 947))::d6)
abbrev l6:=l5++[(100,489),(104,508),(108,527),(113,546),(119,556),(121,563),(133,570),(135,577)]
abbrev X3:=lt 0 l6
abbrev qj:=c0 "Deed" 347 [(r 369),(r 381),(r 393),(r 405),(r 424),(r 443),(r 462),(r 481),(r 500),(r 519),(r 538),(r 550)] 632
abbrev RJ:=c1 m2 838 "Bring" 100 [("__init__", 850,(r 497))] 852 498 5
abbrev RK:=lt 4 [(102,496)]
abbrev RL:=cc "Bring" 833 100 487
abbrev RM:=fr 489 486 m2
abbrev KZ:=tS 846 ["self", "shelf"]
abbrev RN:=fn "__init__" "Bring.__init__" (inClass (top 31) 0)
abbrev K0:=cf "__init__" "Bring.__init__" 843 848 102 2 491
abbrev K1:=fO "__init__" "Bring.__init__" (inClass (top 31) 0) m2 496
abbrev K2:=tS 851 ["shelf"]
abbrev K3:=c2 m2 838 100 [("__init__", 850,(r 497))] 852 498 [] 853 2
abbrev K4:=cB "Bring" 499 348 [] 484 831
abbrev RO:=su 500
abbrev RQ:=is 500
abbrev RS:=c1 m2 863 "Go" 104 [("__init__", 875,(r 516))] 877 517 5
abbrev RT:=lt 4 [(106,515)]
abbrev RU:=cc "Go" 858 104 506
abbrev RV:=fr 508 505 m2
abbrev RW:=tS 871 ["self", "name"]
abbrev RX:=fn "__init__" "Go.__init__" (inClass (top 32) 0)
abbrev K5:=cf "__init__" "Go.__init__" 868 873 106 2 510
abbrev RY:=fO "__init__" "Go.__init__" (inClass (top 32) 0) m2 515
abbrev K6:=tS 876 ["name"]
abbrev RZ:=c2 m2 863 104 [("__init__", 875,(r 516))] 877 517 [] 878 2
abbrev R0:=cB "Go" 518 348 [] 503 856
abbrev X4:=su 519
abbrev X5:=is 519
abbrev X6:=c1 m2 888 "Add" 108 [("__init__", 901,(r 535))] 904 536 5
abbrev X7:=lt 4 [(110,534)]
abbrev X8:=cc "Add" 883 108 525
abbrev X_:=fr 527 524 m2
abbrev R1:=tS 896 ["self", "first", "second"]
abbrev Yb:=fn "__init__" "Add.__init__" (inClass (top 33) 0)
abbrev R3:=cf "__init__" "Add.__init__" 893 899 110 3 529
abbrev R4:=fO "__init__" "Add.__init__" (inClass (top 33) 0) m2 534
abbrev K7:=tS 902 ["first", "second"]
abbrev R5:=c2 m2 888 108 [("__init__", 901,(r 535))] 904 536 [] 905 2
abbrev R6:=cB "Add" 537 348 [] 522 881
abbrev Yc:=su 538
abbrev Yd:=is 538
abbrev R7:=c1 m2 915 "Tell" 113 [] 920 548 4
abbrev R8:=cc "Tell" 910 113 544
abbrev R9:=fr 546 543 m2
abbrev K8:=c2 m2 915 113 [] 920 548 [] 921 2
abbrev K9:=cB "Tell" 549 348 [] 541 908
abbrev R_:=su 550
abbrev Sa:=is 550
abbrev Sb:=fn "made_of" "made_of" (top 39)
abbrev K_:=C "made_of" "made_of" 932 935 119 2 0 0 3 553 true 554 .none .none .none (r 555)
abbrev La:=fO "made_of" "made_of" (top 39) m3 556
abbrev Lb:=tS 941 ["text", "signs", "many"]
abbrev Sd:=fn "beginning_of" "beginning_of" (top 40)
abbrev Ld:=cg "beginning_of" 938 944 121 2 558
abbrev Le:=fO "beginning_of" "beginning_of" (top 40) m3 563
abbrev Lf:=tS 964 ["sign"]
abbrev Se:=fn "may_stand_plain" "may_stand_plain" (top 48)
abbrev Lg:=cg "may_stand_plain" 961 965 133 1 565
abbrev Lh:=fO "may_stand_plain" "may_stand_plain" (top 48) m4 570
abbrev Li:=tS 971 ["text", "front", "body", "back", "items"]
abbrev Sf:=fn "pattern" "pattern" (top 49)
abbrev Lj:=cg "pattern" 968 976 135 1 572
abbrev Ll:=fO "pattern" "pattern" (top 49) m4 577
abbrev d7:=(d6.append [("items_of", 989,(r 585)),("place_behind_core", 998,(r 592)),("many_at", 1006,(r 599)),("item_of", 1014,(r 606)),("set_item", 1020,(r 611)),("is_written_plain", 1028,(r 618)),("written", 1039,(r 625)),("written_core", 1047,(r 632)),("may_be_empty", 1054,(r 639)),("least_length", 1060,(r 644)),("may_be_left_out", 1067,(r 651)),("COND_BEGINNINGS", 1077,(r 652)),("MOST_ROW", 1079,(.int (999) 1078)),("MOST_FIGURES", 1081,(.int (3) 1080)),("MOST_SOON", 1083,(.int (3) 1082)),("LEAST_JOIN", 1085,(.int (2) 1084)),("MOST_SMALL", 1087,(.int (9) 1086)),("MOST_LETTERS", 1089,(.int (8) 1088)),("MOST_TEXT", 1091,(.int (40) 1090)),("Scan", 1164,(r 704)),("line_of", 1174,(r 715)),("line_next", 1180,(r 720)),("cond_next", 1187,(r 727)),("plain_cond_next", 1196,(r 734)),("row_or_pattern_next", 1203,(r 741))]).append [("deed_next", 1210,(r 748)),("swap_next", 1219,(r 755)),("pile_next", 1227,(r 762)),("add_next", 1235,(r 769)),("number_next", 1246,(r 776)),("name_next", 1254,(r 783)),("words_next", 1262,(r 790)),("pattern_next", 1270,(r 797))]
abbrev ad4:=di 88 (("__name__", 165,(.str "rowblade.linereading" 1068))::d7)
abbrev l7:=l6++[(147,584),(156,591),(163,598),(167,605),(175,610),(187,617),(189,624),(196,631),(204,638),(206,643),(208,650),(219,658),(251,714),(257,719),(265,726),(271,733),(283,740),(287,747),(312,754),(316,761),(321,768),(325,775),(333,782),(338,789),(343,796)]
abbrev Ye:=lt 0 l7
abbrev Sh:=tS 982 ["body", "items", "place", "behind", "many"]
abbrev Yg:=fn "items_of" "items_of" (top 50)
abbrev Si:=cg "items_of" 979 987 147 1 579
abbrev Sj:=fO "items_of" "items_of" (top 50) m4 584
abbrev Sk:=tS 993 ["body", "place", "bracket"]
abbrev Yh:=fn "place_behind_core" "place_behind_core" (top 51)
abbrev Sl:=cg "place_behind_core" 990 996 156 2 586
abbrev Sm:=fO "place_behind_core" "place_behind_core" (top 51) m4 591
abbrev Sn:=tS 1002 ["body", "place"]
abbrev Yi:=fn "many_at" "many_at" (top 52)
abbrev So:=cg "many_at" 999 1004 163 2 593
abbrev Sq:=fO "many_at" "many_at" (top 52) m4 598
abbrev Ss:=tS 1010 ["core", "many"]
abbrev Yj:=fn "item_of" "item_of" (top 53)
abbrev Su:=cg "item_of" 1007 1012 167 2 600
abbrev Sv:=fO "item_of" "item_of" (top 53) m4 605
abbrev Yk:=fn "set_item" "set_item" (top 54)
abbrev Sw:=C "set_item" "set_item" 1015 1018 175 2 0 0 3 607 true 608 .none .none .none (r 609)
abbrev Sx:=fO "set_item" "set_item" (top 54) m4 610
abbrev Sy:=tS 1024 ["signs", "others"]
abbrev Yl:=fn "is_written_plain" "is_written_plain" (top 55)
abbrev Sz:=cg "is_written_plain" 1021 1026 187 2 612
abbrev SA:=fO "is_written_plain" "is_written_plain" (top 55) m4 617
abbrev SD:=tS 1032 ["one", "parts", "signs", "others", "many"]
abbrev Ym:=fn "written" "written" (top 56)
abbrev SE:=cg "written" 1029 1037 189 1 619
abbrev SG:=fO "written" "written" (top 56) m4 624
abbrev SH:=tS 1043 ["signs", "others"]
abbrev Yn:=fn "written_core" "written_core" (top 57)
abbrev SI:=cg "written_core" 1040 1045 196 2 626
abbrev SJ:=fO "written_core" "written_core" (top 57) m4 631
abbrev SK:=tS 1051 ["one"]
abbrev Yo:=fn "may_be_empty" "may_be_empty" (top 58)
abbrev SM:=cg "may_be_empty" 1048 1052 204 1 633
abbrev SN:=fO "may_be_empty" "may_be_empty" (top 58) m4 638
abbrev Yp:=fn "least_length" "least_length" (top 59)
abbrev SO:=C "least_length" "least_length" 1055 1058 206 1 0 0 3 640 true 641 .none .none .none (r 642)
abbrev SQ:=fO "least_length" "least_length" (top 59) m4 643
abbrev SS:=tS 1064 ["item"]
abbrev Yq:=fn "may_be_left_out" "may_be_left_out" (top 60)
abbrev SW:=cg "may_be_left_out" 1061 1065 208 1 645
abbrev SX:=fO "may_be_left_out" "may_be_left_out" (top 60) m4 650
abbrev SY:=tS 1070 ["row ", "last", "/", "soon ", "from ", "not ", "end"]
abbrev Yr:=c1 m5 1099 "Scan" 219 [("__init__", 1112,(r 666)),("refuse", 1119,(r 673)),("passes", 1127,(r 680)),("must_pass", 1135,(r 687)),("while_made_of", 1144,(r 694)),("between", 1154,(r 701))] 1157 702 10
abbrev Ys:=lt 4 [(221,665),(225,672),(228,679),(234,686),(238,693),(243,700)]
abbrev Yt:=cc "Scan" 1094 219 656
abbrev Yu:=fr 658 655 m5
abbrev S2:=tS 1107 ["self", "row", "number"]
abbrev Yv:=fn "__init__" "Scan.__init__" (inClass (top 70) 0)
abbrev S3:=cf "__init__" "Scan.__init__" 1104 1110 221 3 660
abbrev S4:=fO "__init__" "Scan.__init__" (inClass (top 70) 0) m5 665
abbrev S5:=tS 1116 ["self"]
abbrev Yw:=fn "refuse" "Scan.refuse" (inClass (top 70) 1)
abbrev S6:=cf "refuse" "Scan.refuse" 1113 1117 225 1 667
abbrev S7:=fO "refuse" "Scan.refuse" (inClass (top 70) 1) m5 672
abbrev S8:=tS 1123 ["self", "words"]
abbrev Yx:=fn "passes" "Scan.passes" (inClass (top 70) 2)
abbrev S9:=cf "passes" "Scan.passes" 1120 1125 228 2 674
abbrev S_:=fO "passes" "Scan.passes" (inClass (top 70) 2) m5 679
abbrev Tc:=tS 1131 ["self", "words"]
abbrev Yy:=fn "must_pass" "Scan.must_pass" (inClass (top 70) 3)
abbrev Td:=cf "must_pass" "Scan.must_pass" 1128 1133 234 2 681
abbrev Te:=fO "must_pass" "Scan.must_pass" (inClass (top 70) 3) m5 686
abbrev Tf:=tS 1139 ["self", "signs", "taken"]
abbrev Yz:=fn "while_made_of" "Scan.while_made_of" (inClass (top 70) 4)
abbrev Tg:=cf "while_made_of" "Scan.while_made_of" 1136 1142 238 2 688
abbrev Th:=fO "while_made_of" "Scan.while_made_of" (inClass (top 70) 4) m5 693
abbrev Ti:=tS 1148 ["self", "sign", "place", "inside"]
abbrev YA:=fn "between" "Scan.between" (inClass (top 70) 5)
abbrev Tj:=cf "between" "Scan.between" 1145 1152 243 2 695
abbrev Tn:=fO "between" "Scan.between" (inClass (top 70) 5) m5 700
abbrev To:=tS 1155 ["number", "rest"]
abbrev Tp:=c2 m5 1099 219 [("__init__", 1112,(r 666)),("refuse", 1119,(r 673)),("passes", 1127,(r 680)),("must_pass", 1135,(r 687)),("while_made_of", 1144,(r 694)),("between", 1154,(r 701))] 1157 702 [("__dict__", 1159,(r 705)),("__weakref__", 1161,(r 706))] 1162 4
abbrev Tq:=c0 "Scan" 703 [] 1092
abbrev Tr:=gd 1158 704
abbrev Tt:=gw 1160 704
abbrev YB:=su 704
abbrev YC:=is 704
abbrev Tu:=tS 1168 ["row", "number", "scan", "line"]
abbrev YD:=fn "line_of" "line_of" (top 71)
abbrev Tv:=cg "line_of" 1165 1172 251 2 709
abbrev Tw:=fO "line_of" "line_of" (top 71) m5 714
abbrev YE:=fn "line_next" "line_next" (top 72)
abbrev Tz:=C "line_next" "line_next" 1175 1178 257 1 0 0 3 716 true 717 .none .none .none (r 718)
abbrev TF:=fO "line_next" "line_next" (top 72) m5 719
abbrev TH:=tS 1184 ["scan"]
abbrev YF:=fn "cond_next" "cond_next" (top 73)
abbrev TJ:=cg "cond_next" 1181 1185 265 1 721
abbrev TL:=fO "cond_next" "cond_next" (top 73) m5 726
abbrev TM:=tS 1191 ["scan", "many", "first"]
abbrev YG:=fn "plain_cond_next" "plain_cond_next" (top 74)
abbrev TN:=cg "plain_cond_next" 1188 1194 271 1 728
abbrev TQ:=fO "plain_cond_next" "plain_cond_next" (top 74) m5 733
abbrev TR:=tS 1200 ["scan"]
abbrev YH:=fn "row_or_pattern_next" "row_or_pattern_next" (top 75)
abbrev TU:=cg "row_or_pattern_next" 1197 1201 283 1 735
abbrev TV:=fO "row_or_pattern_next" "row_or_pattern_next" (top 75) m5 740
abbrev TX:=tS 1207 ["scan"]
abbrev YI:=fn "deed_next" "deed_next" (top 76)
abbrev TY:=cg "deed_next" 1204 1208 287 1 742
abbrev TZ:=fO "deed_next" "deed_next" (top 76) m5 747
abbrev T9:=tS 1214 ["scan", "every", "one"]
abbrev YJ:=fn "swap_next" "swap_next" (top 77)
abbrev T_:=cg "swap_next" 1211 1217 312 2 749
abbrev Ua:=fO "swap_next" "swap_next" (top 77) m5 754
abbrev Ub:=tS 1223 ["scan", "shelf"]
abbrev YK:=fn "pile_next" "pile_next" (top 78)
abbrev Uc:=cg "pile_next" 1220 1225 316 1 756
abbrev Ud:=fO "pile_next" "pile_next" (top 78) m5 761
abbrev Ue:=tS 1231 ["scan", "first"]
abbrev ad5:=fn "add_next" "add_next" (top 79)
abbrev YL:=cg "add_next" 1228 1233 321 1 763
abbrev YM:=fO "add_next" "add_next" (top 79) m5 768
abbrev YN:=tS 1239 ["scan", "least", "most", "figures", "number"]
abbrev ad6:=fn "number_next" "number_next" (top 80)
abbrev YO:=cg "number_next" 1236 1244 325 3 770
abbrev YQ:=fO "number_next" "number_next" (top 80) m5 775
abbrev YR:=tS 1250 ["scan", "name"]
abbrev ad7:=fn "name_next" "name_next" (top 81)
abbrev YS:=cg "name_next" 1247 1252 333 1 777
abbrev YT:=fO "name_next" "name_next" (top 81) m5 782
abbrev YU:=tS 1258 ["scan", "words"]
abbrev ad8:=fn "words_next" "words_next" (top 82)
abbrev YV:=cg "words_next" 1255 1260 338 1 784
abbrev YW:=fO "words_next" "words_next" (top 82) m5 789
abbrev YX:=tS 1266 ["scan", "text"]
abbrev ad9:=fn "pattern_next" "pattern_next" (top 83)
abbrev YZ:=cg "pattern_next" 1263 1268 343 1 791
abbrev Y0:=fO "pattern_next" "pattern_next" (top 83) m5 796
abbrev d8:=(d7.append [("may_stand", 1278,(r 804)),("may_swap", 1285,(r 811)),("cut", 1295,(r 818)),("MOST_LINES", 1299,(.int (24) 1298)),("read", 1308,(r 825)),("lines_of", 1318,(r 832)),("marks_of", 1328,(r 839)),("refuse_go_without_mark", 1338,(r 846)),("shown", 1346,(r 851)),("line_text", 1353,(r 858)),("cond_text", 1360,(r 865)),("deed_text", 1367,(r 872)),("pattern_text", 1374,(r 879)),("quoted", 1381,(r 886)),("woven", 1389,(r 891)),("sees_the_row_alone", 1396,(r 898)),("_law_cell_at", 1406,(r 905)),("_law_word", 1414,(r 912)),("_law_far", 1422,(r 919)),("_law_near", 1429,(r 926)),("_law_drop", 1437,(r 933)),("_law_deed", 1445,(r 940)),("_law_line", 1453,(r 947)),("_law_marked", 1459,(r 952)),("_law_programs", 1465,(r 957))]).append [("_law_sorts", 1474,(r 964)),("_law_named", 1482,(r 971)),("law", 1488,(r 976))]
abbrev Y4:=di 116 (("__name__", 165,(.str "law_rowblade_k74_what_is_not_woven" 1397))::d8)
abbrev l8:=l7++[(349,803),(355,810),(360,817),(367,824),(372,831),(379,838),(387,845),(392,850),(394,857),(398,864),(412,871),(436,878),(438,885),(441,890),(451,897),(456,904),(460,911),(463,918),(467,925),(469,932),(473,939),(476,946),(482,951),(486,956),(506,963),(515,970),(522,975)]
abbrev Y5:=lt 0 l8
abbrev Y6:=tS 1274 ["cond", "deed"]
abbrev ad_:=fn "may_stand" "may_stand" (top 84)
abbrev Y7:=cg "may_stand" 1271 1276 349 2 798
abbrev Y8:=fO "may_stand" "may_stand" (top 84) m5 803
abbrev Y9:=tS 1282 ["deed"]
abbrev aea:=fn "may_swap" "may_swap" (top 85)
abbrev Y_:=cg "may_swap" 1279 1283 355 1 805
abbrev Za:=fO "may_swap" "may_swap" (top 85) m5 810
abbrev Zb:=tS 1291 ["text", "rows"]
abbrev aeb:=fn "cut" "cut" (top 87)
abbrev Zc:=cg "cut" 1288 1293 360 1 812
abbrev Zd:=fO "cut" "cut" (top 87) m6 817
abbrev Ze:=tS 1303 ["text", "lines", "marks"]
abbrev aec:=fn "read" "read" (top 90)
abbrev Zf:=cg "read" 1300 1306 367 1 819
abbrev Zg:=fO "read" "read" (top 90) m7 824
abbrev Zh:=tS 1312 ["rows", "lines", "number", "row"]
abbrev aed:=fn "lines_of" "lines_of" (top 91)
abbrev Zi:=cg "lines_of" 1309 1316 372 1 826
abbrev Zj:=fO "lines_of" "lines_of" (top 91) m7 831
abbrev Zk:=tS 1322 ["lines", "marks", "number", "line"]
abbrev aee:=fn "marks_of" "marks_of" (top 92)
abbrev Zl:=cg "marks_of" 1319 1326 379 1 833
abbrev Zm:=fO "marks_of" "marks_of" (top 92) m7 838
abbrev Zn:=tS 1332 ["lines", "marks", "number", "line"]
abbrev aef:=fn "refuse_go_without_mark" "refuse_go_without_mark" (top 93)
abbrev Zo:=cg "refuse_go_without_mark" 1329 1336 387 2 840
abbrev Zp:=fO "refuse_go_without_mark" "refuse_go_without_mark" (top 93) m7 845
abbrev aeg:=fn "shown" "shown" (top 95)
abbrev Zq:=C "shown" "shown" 1341 1344 392 1 0 0 3 847 true 848 .none .none .none (r 849)
abbrev Zr:=fO "shown" "shown" (top 95) m8 850
abbrev Zs:=tS 1350 ["line"]
abbrev aeh:=fn "line_text" "line_text" (top 96)
abbrev Zt:=cg "line_text" 1347 1351 394 1 852
abbrev Zu:=fO "line_text" "line_text" (top 96) m8 857
abbrev Zv:=tS 1357 ["cond"]
abbrev aei:=fn "cond_text" "cond_text" (top 97)
abbrev Zw:=cg "cond_text" 1354 1358 398 1 859
abbrev Zx:=fO "cond_text" "cond_text" (top 97) m8 864
abbrev Zy:=tS 1364 ["deed"]
abbrev aej:=fn "deed_text" "deed_text" (top 98)
abbrev Zz:=cg "deed_text" 1361 1365 412 1 866
abbrev ZA:=fO "deed_text" "deed_text" (top 98) m8 871
abbrev ZC:=tS 1371 ["one"]
abbrev aek:=fn "pattern_text" "pattern_text" (top 99)
abbrev ZD:=cg "pattern_text" 1368 1372 436 1 873
abbrev ZE:=fO "pattern_text" "pattern_text" (top 99) m8 878
abbrev ZF:=tS 1378 ["words"]
abbrev ael:=fn "quoted" "quoted" (top 100)
abbrev ZG:=cg "quoted" 1375 1379 438 1 880
abbrev ZH:=fO "quoted" "quoted" (top 100) m8 885
abbrev aem:=fn "woven" "woven" (top 102)
abbrev ZI:=C "woven" "woven" 1384 1387 441 2 0 0 3 887 true 888 .none .none .none (r 889)
abbrev ZJ:=fO "woven" "woven" (top 102) m9 890
abbrev ZK:=tS 1393 ["cond"]
abbrev aen:=fn "sees_the_row_alone" "sees_the_row_alone" (top 103)
abbrev ZL:=cg "sees_the_row_alone" 1390 1394 451 1 892
abbrev ZM:=fO "sees_the_row_alone" "sees_the_row_alone" (top 103) m9 897
abbrev ZN:=tS 1402 ["_law_script", "_law_k"]
abbrev aeo:=fn "_law_cell_at" "_law_cell_at" (top 105)
abbrev ZO:=cg "_law_cell_at" 1399 1404 456 2 899
abbrev ZP:=fO "_law_cell_at" "_law_cell_at" (top 105) BZ 904
abbrev ZQ:=tS 1410 ["_law_number", "_law_some"]
abbrev aep:=fn "_law_word" "_law_word" (top 106)
abbrev ZR:=cg "_law_word" 1407 1412 460 1 906
abbrev ZS:=fO "_law_word" "_law_word" (top 106) BZ 911
abbrev ZT:=tS 1418 ["_law_number", "_law_cond"]
abbrev aeq:=fn "_law_far" "_law_far" (top 107)
abbrev ZU:=cg "_law_far" 1415 1420 463 1 913
abbrev ZV:=fO "_law_far" "_law_far" (top 107) BZ 918
abbrev ZW:=tS 1426 ["_law_number"]
abbrev aer:=fn "_law_near" "_law_near" (top 108)
abbrev ZX:=cg "_law_near" 1423 1427 467 1 920
abbrev ZY:=fO "_law_near" "_law_near" (top 108) BZ 925
abbrev ZZ:=tS 1433 ["_law_cell", "_law_number"]
abbrev aes:=fn "_law_drop" "_law_drop" (top 109)
abbrev Z2:=cg "_law_drop" 1430 1435 469 1 927
abbrev Z3:=fO "_law_drop" "_law_drop" (top 109) BZ 932
abbrev Z4:=tS 1441 ["_law_number", "_law_some"]
abbrev aet:=fn "_law_deed" "_law_deed" (top 110)
abbrev Z5:=cg "_law_deed" 1438 1443 473 1 934
abbrev Z6:=fO "_law_deed" "_law_deed" (top 110) BZ 939
abbrev Z7:=tS 1449 ["_law_cell", "_law_number"]
abbrev aeu:=fn "_law_line" "_law_line" (top 111)
abbrev Z8:=cg "_law_line" 1446 1451 476 1 941
abbrev Z9:=fO "_law_line" "_law_line" (top 111) BZ 946
abbrev aev:=fn "_law_marked" "_law_marked" (top 112)
abbrev Z_:=C "_law_marked" "_law_marked" 1454 1457 482 2 0 0 3 948 true 949 .none .none .none (r 950)
abbrev aaa:=fO "_law_marked" "_law_marked" (top 112) BZ 951
abbrev aew:=fn "_law_programs" "_law_programs" (top 113)
abbrev aab:=C "_law_programs" "_law_programs" 1460 1463 486 1 0 0 3 953 true 954 .none .none .none (r 955)
abbrev aac:=fO "_law_programs" "_law_programs" (top 113) BZ 956
abbrev aad:=tS 1469 ["_law_programs_here", "_law_sorts_here", "e"]
abbrev aex:=fn "_law_sorts" "_law_sorts" (top 114)
abbrev aae:=cg "_law_sorts" 1466 1472 506 1 958
abbrev aaf:=fO "_law_sorts" "_law_sorts" (top 114) BZ 963
abbrev aag:=tS 1478 ["_law_programs_here", "_law_refused"]
abbrev aey:=fn "_law_named" "_law_named" (top 115)
abbrev aah:=cg "_law_named" 1475 1480 515 1 965
abbrev aai:=fO "_law_named" "_law_named" (top 115) BZ 970
abbrev aez:=fn "law" "law" (top 116)
abbrev aaj:=C "law" "law" 1483 1486 522 1 0 0 3 972 true 973 .none .none .none (r 974)
abbrev aak:=fO "law" "law" (top 116) BZ 975
abbrev t14:=N boot_o_0 (N boot_o_1 (N boot_o_3 (L boot_o_7) (L ae)) (N boot_o_5 (L boot_o_9) (L HG))) (N boot_o_2 (N boot_o_4 (L boot_o_8) (L aq)) (N boot_o_6 (L boot_o_10) (L HH)))
abbrev t90:=N boot_o_0 (N boot_o_1 (N o3 (N boot_o_7 (N HJ (N ae (L JD) E) (L ae)) (N HK (N Jt (L ae) E) (L ae))) (N ae (N aq (N ae (L ae) E) (L Jy)) (N Jo (N ae (L JI) E) (L ae)))) (N boot_o_5 (N boot_o_9 (N Jj (N Jq (L aH) E) (L HQ)) (N HL (N aH (L HV) E) (L JA))) (N HG (N Jl (N HN (L JF) E) (L aH)) (N aH (L Jv) (L HS))))) (N boot_o_2 (N boot_o_4 (N boot_o_8 (N aH (N aq (L bZ) E) (L HP)) (N o24 (N bZ (L HU) E) (L aq))) (N XT (N Jk (N HM (L aq) E) (L bZ)) (N bZ (L aq) (L HR)))) (N boot_o_6 (N boot_o_10 (N ae (N Jr (L JE) E) (L Jx)) (N Jm (N Ju (L JH) E) (L JB))) (N HH (N ae (N Js (L JG) E) (L Jz)) (N Jp (L Jw) (L JC)))))
abbrev aeA:=N boot_o_1 (N adW (N boot_o_7 (N HJ (N ae (N JD (L sd) E) (L bZ)) (N ae (N ae (L ae) E) (L p9))) (N HK (N Jt (N ae (L vW) E) (L aq)) (N ae (N Ox (L sD) E) (L r8)))) (N ae (N aq (N ae (N ae (L sy) E) (L OC)) (N Jy (N ae (L qg) E) (L aH))) (N Jo (N ae (N JI (L vZ) E) (L pW)) (N ae (L JN) (L p_))))) (N boot_o_5 (N boot_o_9 (N Jj (N Jq (N aH (L sf) E) (L OB)) (N HQ (N Ov (L qc) E) (L rY))) (N HL (N aH (N HV (L vX) E) (L ae)) (N JA (L JL) (L ae)))) (N HG (N Jl (N HN (N JF (L bZ) E) (L rV)) (N aH (N JJ (L qi) E) (L ae))) (N aH (N Jv (N aH (L aq) E) (L pY)) (N HS (L Oz) (L r_)))))
abbrev aeB:=N boot_o_2 (N boot_o_4 (N boot_o_8 (N aH (N aq (N bZ (L se) E) (L aH)) (N HP (N Ou (L sA) E) (L rX))) (N iT (N bZ (N HU (L ae) E) (L pV)) (N aq (L JK) (L r9)))) (N XU (N Jk (N HM (N aq (L vV) E) (L rT)) (N bZ (N aq (L qh) E) (L rZ))) (N bZ (N aq (N bZ (L ae) E) (L pX)) (N HR (L JO) (L ae))))) (N boot_o_6 (N boot_o_10 (N ae (N Jr (N JE (L sj) E) (L ae)) (N Jx (N Ow (L qe) E) (L bZ))) (N Jm (N Ju (N JH (L vY) E) (L rW)) (N JB (L JM) (L aq)))) (N HH (N ae (N Js (N JG (L aH) E) (L ae)) (N Jz (N ae (L sC) E) (L r6))) (N Jp (N Jw (N Ot (L qb) E) (L pZ)) (N JC (L OA) (L qa)))))
abbrev aeC:=N boot_o_0 aeA aeB
abbrev aeD:=N adX (N boot_o_7 (N HJ (N ae (N JD (L sd) (L sY)) (N bZ (L ae) (L ae))) (N ae (N ae (L ae) (L AB)) (N p9 (L wg) E))) (N HK (N Jt (N ae (L vW) (L Az)) (N aq (L sI) (L wF))) (N ae (N Ox (L sD) (L ae)) (N r8 (L ae) E)))) (N ae (N aq (N ae (N ae (L sy) (L aH)) (N OC (L wb) (L ae))) (N Jy (N ae (L qg) (L ae)) (N aH (L wo) E))) (N Jo (N ae (N JI (L vZ) (L adY)) (N pW (L wc) (L tw))) (N ae (N JN (L ae) (L AH)) (N p_ (L sR) E))))
abbrev aeE:=N boot_o_5 (N boot_o_9 (N Jj (N Jq (N aH (L sf) (L wx)) (N OB (L sE) (L AK))) (N HQ (N Ov (L qc) (L aH)) (N rY (L wj) E))) (N HL (N aH (N HV (L vX) (L ae)) (N ae (L sL) (L tm))) (N JA (N JL (L aH) (L wD)) (N ae (L sP) E)))) (N HG (N Jl (N HN (N JF (L bZ) (L ae)) (N rV (L sG) (L sZ))) (N aH (N JJ (L qi) (L AE)) (N ae (L aq) E))) (N aH (N Jv (N aH (L aq) (L wB)) (N pY (L ae) (L wG))) (N HS (N Oz (L v9) (L aH)) (N r_ (L sV) E))))
abbrev aeF:=N boot_o_4 (N boot_o_8 (N aH (N aq (N bZ (L se) (L wu)) (N aH (L aq) (L AJ))) (N HP (N Ou (L sA) (L bc)) (N rX (L ae) E))) (N iT (N bZ (N HU (L ae) (L wy)) (N pV (L sJ) (L s_))) (N aq (N JK (L ae) (L wC)) (N r9 (L wt) E)))) (N XW (N Jk (N HM (N aq (L vV) (L Ay)) (N rT (L sF) (L aq))) (N bZ (N aq (L qh) (L aq)) (N rZ (L ae) E))) (N bZ (N aq (N bZ (L ae) (L wA)) (N pX (L we) (L tD))) (N HR (N JO (L v8) (L bc)) (N ae (L sU) E))))
abbrev aeG:=N boot_o_6 (N boot_o_10 (N ae (N Jr (N JE (L sj) (L ae)) (N ae (L ae) (L AL))) (N Jx (N Ow (L qe) (L AD)) (N bZ (L wm) E))) (N Jm (N Ju (N JH (L vY) (L wz)) (N rW (L sM) (L tu))) (N JB (N JM (L v5) (L AG)) (N aq (L sQ) E)))) (N HH (N ae (N Js (N JG (L aH) (L aq)) (N ae (L sH) (L ae))) (N Jz (N ae (L sC) (L AF)) (N r6 (L sO) E))) (N Jp (N Jw (N Ot (L qb) (L AA)) (N pZ (L aH) (L wH))) (N JC (N OA (L v_) (L AI)) (N qa (L sX) E))))
abbrev aeH:=N boot_o_0 (N boot_o_1 aeD aeE) (N boot_o_2 aeF aeG)
abbrev aeI:=N adZ (N boot_o_7 (N HJ (N ae (N JD (N sd (L JP) E) (N sY (L Bb) E)) (N bZ (N ae (L AZ) E) (L ae))) (N ae (N ae (N ae (L aH) E) (L AB)) (N p9 (N wg (L wO) E) (L bc)))) (N HK (N Jt (N ae (N vW (L DQ) E) (L Az)) (N aq (N sI (L A4) E) (L wF))) (N ae (N Ox (N sD (L AU) E) (L ae)) (N r8 (N ae (L ae) E) (L wI))))) (N ae (N aq (N ae (N ae (N sy (L aq) E) (N aH (L Bc) E)) (N OC (N wb (L A1) E) (L ae))) (N Jy (N ae (N qg (L DZ) E) (L ae)) (N aH (N wo (L A7) E) (L aq)))) (N Jo (N ae (N JI (N vZ (L DU) E) (L Rx)) (N pW (N wc (L ae) E) (L tw))) (N ae (N JN (N ae (L AW) E) (L AH)) (N p_ (N sR (L ae) E) (L bc)))))
abbrev aeJ:=N boot_o_5 (N boot_o_9 (N Jj (N Jq (N aH (N sf (L JR) E) (N wx (L wW) E)) (N OB (N sE (L bc) E) (L AK))) (N HQ (N Ov (N qc (L ae) E) (L aH)) (N rY (N wj (L wR) E) (L AM)))) (N HL (N aH (N HV (N vX (L DS) E) (L ae)) (N ae (N sL (L aq) E) (L tm))) (N JA (N JL (N aH (L D3) E) (L wD)) (N ae (N sP (L A_) E) (L AQ))))) (N HG (N Jl (N HN (N JF (N bZ (L ae) E) (N ae (L Be) E)) (N rV (N sG (L A2) E) (L sZ))) (N aH (N JJ (N qi (L ae) E) (L AE)) (N ae (N aq (L aH) E) (L AO)))) (N aH (N Jv (N aH (N aq (L DW) E) (L wB)) (N pY (N ae (L wM) E) (L wG))) (N HS (N Oz (N v9 (L AY) E) (L aH)) (N r_ (N sV (L wU) E) (L AS)))))
abbrev aeK:=N boot_o_4 (N boot_o_8 (N aH (N aq (N bZ (N se (L JQ) E) (N wu (L wV) E)) (N aH (N aq (L A0) E) (L AJ))) (N HP (N Ou (N sA (L DX) E) (L bc)) (N rX (N ae (L wQ) E) (L aH)))) (N iT (N bZ (N HU (N ae (L DR) E) (L wy)) (N pV (N sJ (L ae) E) (L s_))) (N aq (N JK (N ae (L ae) E) (L wC)) (N r9 (N wt (L A9) E) (L wJ))))) (N XY (N Jk (N HM (N aq (N vV (L DP) E) (N Ay (L Bd) E)) (N rT (N sF (L ae) E) (L aq))) (N bZ (N aq (N qh (L D0) E) (L aq)) (N rZ (N ae (L bc) E) (L AN)))) (N bZ (N aq (N bZ (N ae (L DV) E) (L wA)) (N pX (N we (L A5) E) (L tD))) (N HR (N JO (N v8 (L AX) E) (L bc)) (N ae (N sU (L aq) E) (L aH)))))
abbrev aeL:=N boot_o_6 (N boot_o_10 (N ae (N Jr (N JE (N sj (L ae) E) (N ae (L wX) E)) (N ae (N ae (L aH) E) (L AL))) (N Jx (N Ow (N qe (L DY) E) (L AD)) (N bZ (N wm (L A6) E) (L ae)))) (N Jm (N Ju (N JH (N vY (L DT) E) (L wz)) (N rW (N sM (L wL) E) (L tu))) (N JB (N JM (N v5 (L AV) E) (L AG)) (N aq (N sQ (L Ba) E) (L AR))))) (N HH (N ae (N Js (N JG (N aH (L JS) E) (N aq (L Bf) E)) (N ae (N sH (L A3) E) (L ae))) (N Jz (N ae (N sC (L aq) E) (L AF)) (N r6 (N sO (L A8) E) (L ae)))) (N Jp (N Jw (N Ot (N qb (L bc) E) (L AA)) (N pZ (N aH (L wN) E) (L wH))) (N JC (N OA (N v_ (L wK) E) (L AI)) (N qa (N sX (L ae) E) (L ae)))))
abbrev aeM:=N boot_o_0 (N boot_o_1 aeI aeJ) (N boot_o_2 aeK aeL)
abbrev aal:=N sd (L JP) (L J4)
abbrev aam:=N vW (L DQ) (L ae)
abbrev aeN:=N boot_o_7 (N HJ (N ae (N JD aal (N sY (L Bb) E)) (N bZ (N ae (L AZ) E) (N ae (L J1) E))) (N ae (N ae (N ae (L aH) E) (N AB (L D4) E)) (N p9 (N wg (L wO) E) (N bc (L Bl) E)))) (N HK (N Jt (N ae aam (N Az (L bc) E)) (N aq (N sI (L A4) E) (N wF (L Ea) E))) (N ae (N Ox (N sD (L AU) E) (N ae (L aq) E)) (N r8 (N ae (L ae) E) (N wI (L ae) E))))
abbrev aan:=N vZ (L DU) (L J9)
abbrev aeO:=N ae (N aq (N ae (N ae (N sy (L aq) (L ae)) (N aH (L Bc) E)) (N OC (N wb (L A1) E) (N ae (L J3) E))) (N Jy (N ae (N qg (L DZ) E) (N ae (L ae) E)) (N aH (N wo (L A7) E) (N aq (L Ed) E)))) (N Jo (N ae (N JI aan (N lL (L aq) E)) (N pW (N wc (L ae) E) (N tw (L ae) E))) (N ae (N JN (N ae (L AW) E) (N AH (L D6) E)) (N p_ (N sR (L ae) E) (N bc (L ae) E))))
abbrev aao:=N sf (L JR) (L aH)
abbrev aap:=N vX (L DS) (L El)
abbrev aeP:=N boot_o_9 (N Jj (N Jq (N aH aao (N wx (L wW) E)) (N OB (N sE (L bc) E) (N AK (L bf) E))) (N HQ (N Ov (N qc (L ae) E) (N aH (L JW) E)) (N rY (N wj (L wR) E) (N AM (L Bo) E)))) (N HL (N aH (N HV aap (N ae (L JT) E)) (N ae (N sL (L aq) E) (N tm (L aq) E))) (N JA (N JL (N aH (L D3) E) (N wD (L J0) E)) (N ae (N sP (L A_) E) (N AQ (L Eg) E))))
abbrev aeQ:=N HG (N Jl (N HN (N JF (N bZ (L ae) (L Ej)) (N ae (L Be) E)) (N rV (N sG (L A2) E) (N sZ (L D9) E))) (N aH (N JJ (N qi (L ae) E) (N AE (L JY) E)) (N ae (N aq (L aH) E) (N AO (L aH) E)))) (N aH (N Jv (N aH (N aq (L DW) E) (N wB (L JV) E)) (N pY (N ae (L wM) E) (N wG (L Bj) E))) (N HS (N Oz (N v9 (L AY) E) (N aH (L D7) E)) (N r_ (N sV (L wU) E) (N AS (L Bq) E))))
abbrev aaq:=N se (L JQ) (L bf)
abbrev aar:=N ae (L DR) (L Ek)
abbrev aeR:=N boot_o_8 (N aH (N aq (N bZ aaq (N wu (L wV) E)) (N aH (N aq (L A0) E) (N AJ (L J2) E))) (N HP (N Ou (N sA (L DX) E) (N bc (L D5) E)) (N rX (N ae (L wQ) E) (N aH (L Bm) E)))) (N iT (N bZ (N HU aar (N wy (L aH) E)) (N pV (N sJ (L ae) E) (N s_ (L ae) E))) (N aq (N JK (N ae (L ae) E) (N wC (L JZ) E)) (N r9 (N wt (L A9) E) (N wJ (L aq) E))))
abbrev aas:=N vV (L DP) (L aq)
abbrev aeS:=N XZ (N Jk (N HM (N aq aas (N Ay (L Bd) E)) (N rT (N sF (L ae) E) (N aq (L ae) E))) (N bZ (N aq (N qh (L D0) E) (N aq (L aH) E)) (N rZ (N ae (L bc) E) (N AN (L bf) E)))) (N bZ (N aq (N bZ (N ae (L DV) E) (N wA (L JU) E)) (N pX (N we (L A5) E) (N tD (L Eb) E))) (N HR (N JO (N v8 (L AX) E) (N bc (L ad1) E)) (N ae (N sU (L aq) E) (N aH (L Bp) E))))
abbrev aat:=N sj (L ae) (L J5)
abbrev aau:=N vY (L DT) (L J8)
abbrev aeT:=N boot_o_10 (N ae (N Jr (N JE aat (N ae (L wX) E)) (N ae (N ae (L aH) E) (N AL (L aH) E))) (N Jx (N Ow (N qe (L DY) E) (N AD (L JX) E)) (N bZ (N wm (L A6) E) (N ae (L Ec) E)))) (N Jm (N Ju (N JH aau (N wz (L ae) E)) (N rW (N sM (L wL) E) (N tu (L Bg) E))) (N JB (N JM (N v5 (L AV) E) (N AG (L ae) E)) (N aq (N sQ (L Ba) E) (N AR (L Eh) E))))
abbrev aav:=N aH (L JS) (L J7)
abbrev aaw:=N HH (N ae (N Js (N JG aav (N aq (L Bf) E)) (N ae (N sH (L A3) E) (N ae (L D_) E))) (N Jz (N ae (N sC (L aq) E) (N AF (L ae) E)) (N r6 (N sO (L A8) E) (N ae (L Ef) E)))) (N Jp (N Jw (N Ot (N qb (L bc) E) (N AA (L ae) E)) (N pZ (N aH (L wN) E) (N wH (L Bk) E))) (N JC (N OA (N v_ (L wK) E) (N AI (L D8) E)) (N qa (N sX (L ae) E) (N ae (L Ei) E))))
abbrev aax:=N boot_o_0 (N boot_o_1 (N ad0 aeN aeO) (N boot_o_5 aeP aeQ)) (N boot_o_2 (N boot_o_4 aeR aeS) (N boot_o_6 aeT aaw))
abbrev OD:=N ae (L J1) (L KU)
abbrev OE:=N AB (L D4) (L RC)
abbrev OF:=N Az (L bc) (L KC)
abbrev aay:=N boot_o_7 (N HJ (N ae (N JD aal (N sY (L Bb) (L aH))) (N bZ (N ae (L AZ) (L ae)) OD)) (N ae (N ae (N ae (L aH) (L ae)) OE) (N p9 (N wg (L wO) (L Kq)) (N bc (L Bl) E)))) (N HK (N Jt (N ae aam OF) (N aq (N sI (L A4) (L Et)) (N wF (L Ea) E))) (N ae (N Ox (N sD (L AU) (L Ke)) (N ae (L aq) (L KO))) (N r8 (N ae (L ae) (L Ey)) (N wI (L ae) E))))
abbrev OG:=N aH (L Bc) (L Rz)
abbrev OH:=N ae (L J3) (L RI)
abbrev OI:=N lL (L aq) (L KG)
abbrev OJ:=N AH (L D6) (L ae)
abbrev aaz:=N ae (N aq (N ae (N ae (N sy (L aq) (L ae)) OG) (N OC (N wb (L A1) (L Km)) OH)) (N Jy (N ae (N qg (L DZ) (L ae)) (N ae (L ae) (L KN))) (N aH (N wo (L A7) (L aq)) (N aq (L Ed) E)))) (N Jo (N ae (N JI aan OI) (N pW (N wc (L ae) (L bf)) (N tw (L ae) E))) (N ae (N JN (N ae (L AW) (L ae)) OJ) (N p_ (N sR (L ae) (L EC)) (N bc (L ae) E))))
abbrev OL:=N AK (L bf) (L KY)
abbrev OM:=N aH (L JW) (L bf)
abbrev ON:=N ae (L JT) (L RB)
abbrev OO:=N wD (L J0) (L aq)
abbrev aaA:=N boot_o_9 (N Jj (N Jq (N aH aao (N wx (L wW) (L ae))) (N OB (N sE (L bc) (L Eo)) OL)) (N HQ (N Ov (N qc (L ae) (L Ka)) OM) (N rY (N wj (L wR) (L Ks)) (N AM (L Bo) E)))) (N HL (N aH (N HV aap ON) (N ae (N sL (L aq) (L Kn)) (N tm (L aq) E))) (N JA (N JL (N aH (L D3) (L aH)) OO) (N ae (N sP (L A_) (L EA)) (N AQ (L Eg) E))))
abbrev OP:=N AE (L JY) (L RE)
abbrev OQ:=N wB (L JV) (L KJ)
abbrev OR:=N aH (L D7) (L KR)
abbrev aaB:=N HG (N Jl (N HN (N JF (N bZ (L ae) (L Ej)) (N ae (L Be) (L ae))) (N rV (N sG (L A2) (L Er)) (N sZ (L D9) E))) (N aH (N JJ (N qi (L ae) (L En)) OP) (N ae (N aq (L aH) (L ae)) (N AO (L aH) E)))) (N aH (N Jv (N aH (N aq (L DW) (L aH)) OQ) (N pY (N ae (L wM) (L Kp)) (N wG (L Bj) E))) (N HS (N Oz (N v9 (L AY) (L Kh)) OR) (N r_ (N sV (L wU) (L Kw)) (N AS (L Bq) E))))
abbrev OS:=N AJ (L J2) (L KW)
abbrev OT:=N bc (L D5) (L RD)
abbrev OU:=N wC (L JZ) (L ae)
abbrev aaC:=N boot_o_8 (N aH (N aq (N bZ aaq (N wu (L wV) (L Kz))) (N aH (N aq (L A0) (L aq)) OS)) (N HP (N Ou (N sA (L DX) (L aq)) OT) (N rX (N ae (L wQ) (L Kr)) (N aH (L Bm) E)))) (N iT (N bZ (N HU aar (N wy (L aH) (L ae))) (N pV (N sJ (L ae) (L Eu)) (N s_ (L ae) E))) (N aq (N JK (N ae (L ae) (L bf)) OU) (N r9 (N wt (L A9) (L Ez)) (N wJ (L aq) E))))
abbrev OV:=N Ay (L Bd) (L RA)
abbrev OW:=N wA (L JU) (L KI)
abbrev aaD:=N X0 (N Jk (N HM (N aq aas OV) (N rT (N sF (L ae) (L Ep)) (N aq (L ae) E))) (N bZ (N aq (N qh (L D0) (L Em)) (N aq (L aH) (L ae))) (N rZ (N ae (L bc) (L Ew)) (N AN (L bf) E)))) (N bZ (N aq (N bZ (N ae (L DV) (L bf)) OW) (N pX (N we (L A5) (L aH)) (N tD (L Eb) E))) (N HR (N JO (N v8 (L AX) (L Kg)) (N bc (L Ry) (L KQ))) (N ae (N sU (L aq) (L Kv)) (N aH (L Bp) E))))
abbrev OX:=N AL (L aH) (L RH)
abbrev OY:=N AD (L JX) (L aH)
abbrev OZ:=N wz (L ae) (L KD)
abbrev O0:=N AG (L ae) (L KP)
abbrev aaE:=N boot_o_10 (N ae (N Jr (N JE aat (N ae (L wX) (L KA))) (N ae (N ae (L aH) (L ae)) OX)) (N Jx (N Ow (N qe (L DY) (L Kc)) OY) (N bZ (N wm (L A6) (L ae)) (N ae (L Ec) E)))) (N Jm (N Ju (N JH aau OZ) (N rW (N sM (L wL) (L Ko)) (N tu (L Bg) E))) (N JB (N JM (N v5 (L AV) (L Kf)) O0) (N aq (N sQ (L Ba) (L EB)) (N AR (L Eh) E))))
abbrev O1:=N AF (L ae) (L RG)
abbrev O2:=N AA (L ae) (L KL)
abbrev O3:=N AI (L D8) (L KS)
abbrev aaF:=N HH (N ae (N Js (N JG aav (N aq (L Bf) (L aq))) (N ae (N sH (L A3) (L Es)) (N ae (L D_) E))) (N Jz (N ae (N sC (L aq) (L Kd)) O1) (N r6 (N sO (L A8) (L Ku)) (N ae (L Ef) E)))) (N Jp (N Jw (N Ot (N qb (L bc) (L J_)) O2) (N pZ (N aH (L wN) (L ae)) (N wH (L Bk) E))) (N JC (N OA (N v_ (L wK) (L Kl)) O3) (N qa (N sX (L ae) (L bf)) (N ae (L Ei) E))))
abbrev aaG:=N boot_o_0 (N boot_o_1 (N ad2 aay aaz) (N boot_o_5 aaA aaB)) (N boot_o_2 (N boot_o_4 aaC aaD) (N boot_o_6 aaE aaF))
abbrev aaH:=N boot_o_7 (N HJ (N ae (N JD (N sd (N JP (L aq) E) (L J4)) (N sY (N Bb (L ae) E) (L aH))) (N bZ (N ae (N AZ (L R7) E) (L ae)) OD)) (N ae (N ae (N ae (N aH (L X8) E) (L ae)) OE) (N p9 (N wg (N wO (L aq) E) (L Kq)) (N bc (L Bl) (L RN))))) (N HK (N Jt (N ae (N vW (N DQ (L R0) E) (L ae)) OF) (N aq (N sI (N A4 (L R_) E) (L Et)) (N wF (L Ea) (L ae)))) (N ae (N Ox (N sD (N AU (L R4) E) (L Ke)) (N ae (L aq) (L KO))) (N r8 (N ae (N ae (L Lf) E) (L Ey)) (N wI (L ae) (L bf)))))
abbrev aaI:=N ae (N aq (N ae (N ae (N sy (N aq (L K5) E) (L ae)) OG) (N OC (N wb (N A1 (L R9) E) (L Km)) OH)) (N Jy (N ae (N qg (N DZ (L R1) E) (L ae)) (N ae (L ae) (L KN))) (N aH (N wo (N A7 (L Ld) E) (L aq)) (N aq (L Ed) (L K3))))) (N Jo (N ae (N JI (N vZ (N DU (L aH) E) (L J9)) OI) (N pW (N wc (N ae (L Sb) E) (L bf)) (N tw (L ae) (L ae)))) (N ae (N JN (N ae (N AW (L Yc) E) (L ae)) OJ) (N p_ (N sR (N ae (L Lh) E) (L EC)) (N bc (L ae) (L RT)))))
abbrev aaJ:=N boot_o_9 (N Jj (N Jq (N aH (N sf (N JR (L ae) E) (L aH)) (N wx (N wW (L Lj) E) (L ae))) (N OB (N sE (N bc (L aq) E) (L Eo)) OL)) (N HQ (N Ov (N qc (N ae (L ae) E) (L Ka)) OM) (N rY (N wj (N wR (L ae) E) (L Ks)) (N AM (L Bo) (L K1))))) (N HL (N aH (N HV (N vX (N DS (L X5) E) (L El)) ON) (N ae (N sL (N aq (L ae) E) (L Kn)) (N tm (L aq) (L RL)))) (N JA (N JL (N aH (N D3 (L R5) E) (L aH)) OO) (N ae (N sP (N A_ (L Se) E) (L EA)) (N AQ (L Eg) (L RS)))))
abbrev aaK:=N HG (N Jl (N HN (N JF (N bZ (N ae (L K6) E) (L Ej)) (N ae (L Be) (L ae))) (N rV (N sG (N A2 (L K8) E) (L Er)) (N sZ (L D9) (L aH)))) (N aH (N JJ (N qi (N ae (L Yb) E) (L En)) OP) (N ae (N aq (N aH (L ae) E) (L ae)) (N AO (L aH) (L RO))))) (N aH (N Jv (N aH (N aq (N DW (L ae) E) (L aH)) OQ) (N pY (N ae (N wM (L La) E) (L Kp)) (N wG (L Bj) (L KZ)))) (N HS (N Oz (N v9 (N AY (L bf) E) (L Kh)) OR) (N r_ (N sV (N wU (L aq) E) (L Kw)) (N AS (L Bq) (L RV)))))
abbrev aaL:=N boot_o_8 (N aH (N aq (N bZ (N se (N JQ (L RW) E) (L bf)) (N wu (N wV (L Sf) E) (L Kz))) (N aH (N aq (N A0 (L ae) E) (L aq)) OS)) (N HP (N Ou (N sA (N DX (L X_) E) (L aq)) OT) (N rX (N ae (N wQ (L Lb) E) (L Kr)) (N aH (L Bm) (L K0))))) (N iT (N bZ (N HU (N ae (N DR (L X4) E) (L Ek)) (N wy (L aH) (L ae))) (N pV (N sJ (N ae (L Sa) E) (L Eu)) (N s_ (L ae) (L RK)))) (N aq (N JK (N ae (N ae (L K7) E) (L bf)) OU) (N r9 (N wt (N A9 (L ae) E) (L Ez)) (N wJ (L aq) (L aH)))))
abbrev aaM:=N X3 (N Jk (N HM (N aq (N vV (N DP (L RY) E) (L aq)) OV) (N rT (N sF (N ae (L ae) E) (L Ep)) (N aq (L ae) (L bf)))) (N bZ (N aq (N qh (N D0 (L ae) E) (L Em)) (N aq (L aH) (L ae))) (N rZ (N ae (N bc (L Le) E) (L Ew)) (N AN (L bf) (L K4))))) (N bZ (N aq (N bZ (N ae (N DV (L X6) E) (L bf)) OW) (N pX (N we (N A5 (L K_) E) (L aH)) (N tD (L Eb) (L aq)))) (N HR (N JO (N v8 (N AX (L Yd) E) (L Kg)) (N bc (L qj) (L KQ))) (N ae (N sU (N aq (L ae) E) (L Kv)) (N aH (L Bp) (L RU)))))
abbrev aaN:=N boot_o_10 (N ae (N Jr (N JE (N sj (N ae (L RX) E) (L J5)) (N ae (N wX (L Ll) E) (L KA))) (N ae (N ae (N aH (L R8) E) (L ae)) OX)) (N Jx (N Ow (N qe (N DY (L aq) E) (L Kc)) OY) (N bZ (N wm (N A6 (L Sd) E) (L ae)) (N ae (L Ec) (L K2))))) (N Jm (N Ju (N JH (N vY (N DT (L bf) E) (L J8)) OZ) (N rW (N sM (N wL (L aq) E) (L Ko)) (N tu (L Bg) (L RM)))) (N JB (N JM (N v5 (N AV (L R6) E) (L Kf)) O0) (N aq (N sQ (N Ba (L Lg) E) (L EB)) (N AR (L Eh) (L ae)))))
abbrev aaO:=N HH (N ae (N Js (N JG (N aH (N JS (L RZ) E) (L J7)) (N aq (L Bf) (L aq))) (N ae (N sH (N A3 (L K9) E) (L Es)) (N ae (L D_) (L RJ)))) (N Jz (N ae (N sC (N aq (L R3) E) (L Kd)) O1) (N r6 (N sO (N A8 (L aq) E) (L Ku)) (N ae (L Ef) (L RQ))))) (N Jp (N Jw (N Ot (N qb (N bc (L X7) E) (L J_)) O2) (N pZ (N aH (N wN (L ae) E) (L ae)) (N wH (L Bk) (L ae)))) (N JC (N OA (N v_ (N wK (L aH) E) (L Kl)) O3) (N qa (N sX (N ae (L Li) E) (L bf)) (N ae (L Ei) (L ae)))))
abbrev aaP:=N boot_o_0 (N boot_o_1 (N ad3 aaH aaI) (N boot_o_5 aaJ aaK)) (N boot_o_2 (N boot_o_4 aaL aaM) (N boot_o_6 aaN aaO))
abbrev O4:=N JP (L aq) (L ad5)
abbrev O5:=N aH (L X8) (L YT)
abbrev aaQ:=N HJ (N ae (N JD (N sd O4 (N J4 (L SN) E)) (N sY (N Bb (L ae) E) (N aH (L Tp) E))) (N bZ (N ae (N AZ (L R7) E) (N ae (L Yw) E)) (N ae (N J1 (L ae) E) (N KU (L ae) E)))) (N ae (N ae (N ae O5 (N ae (L Yr) E)) (N AB (N D4 (L Sl) E) (N RC (L Tz) E))) (N p9 (N wg (N wO (L aq) E) (N Kq (L Te) E)) (N bc (N Bl (L Ym) E) (N RN (L T9) E))))
abbrev O6:=N DQ (L R0) (L YO)
abbrev O7:=N AU (L R4) (L ae)
abbrev aaR:=N HK (N Jt (N ae (N vW O6 (N ae (L SS) E)) (N Az (N bc (L Yg) E) (N KC (L Tu) E))) (N aq (N sI (N A4 (L R_) E) (N Et (L S9) E)) (N wF (N Ea (L ae) E) (N ae (L aq) E)))) (N ae (N Ox (N sD O7 (N Ke (L ae) E)) (N ae (N aq (L Sq) E) (N KO (L TL) E))) (N r8 (N ae (N ae (L Lf) E) (N Ey (L ae) E)) (N wI (N ae (L SI) E) (N bf (L ae) E))))
abbrev O8:=N DZ (L R1) (L ae)
abbrev aaS:=N aq (N ae (N ae (N sy (N aq (L K5) (L aq)) (N ae (L SO) E)) (N aH (N Bc (L ae) E) (N Rz (L YB) E))) (N OC (N wb (N A1 (L R9) E) (N Km (L aq) E)) (N ae (N J3 (L Sx) E) (N RI (L YH) E)))) (N Jy (N ae (N qg O8 (N ae (L Yu) E)) (N ae (N ae (L Sn) E) (N KN (L TH) E))) (N aH (N wo (N A7 (L Ld) E) (N aq (L ae) E)) (N aq (N Ed (L aq) E) (N K3 (L Ua) E))))
abbrev O9:=N DU (L aH) (L YR)
abbrev O_:=N AW (L Yc) (L ad9)
abbrev aaT:=N Jo (N ae (N JI (N vZ O9 (N J9 (L SX) E)) (N lL (N aq (L aq) E) (N KG (L Tw) E))) (N pW (N wc (N ae (L Sb) E) (N bf (L Tc) E)) (N tw (N ae (L ae) E) (N ae (L TY) E)))) (N ae (N JN (N ae O_ (N ae (L ae) E)) (N AH (N D6 (L ae) E) (N ae (L ae) E))) (N p_ (N sR (N ae (L Lh) E) (N EC (L YA) E)) (N bc (N ae (L SK) E) (N RT (L ae) E))))
abbrev Pa:=N JR (L ae) (L YM)
abbrev aaU:=N Jj (N Jq (N aH (N sf Pa (N aH (L aq) E)) (N wx (N wW (L Lj) E) (N ae (L Tr) E))) (N OB (N sE (N bc (L aq) E) (N Eo (L S7) E)) (N AK (N bf (L Yk) E) (N KY (L TR) E)))) (N HQ (N Ov (N qc (N ae (L ae) (L aq)) (N Ka (L Ys) E)) (N aH (N JW (L ae) E) (N bf (L ae) E))) (N rY (N wj (N wR (L ae) E) (N Ks (L aq) E)) (N AM (N Bo (L SG) E) (N K1 (L YJ) E))))
abbrev Pb:=N DS (L X5) (L ae)
abbrev Pc:=N D3 (L R5) (L YX)
abbrev aaV:=N HL (N aH (N HV (N vX Pb (N El (L Yq) E)) (N ae (N JT (L Sj) E) (N RB (L YD) E))) (N ae (N sL (N aq (L ae) E) (N Kn (L ae) E)) (N tm (N aq (L Sz) E) (N RL (L ae) E)))) (N JA (N JL (N aH Pc (N aH (L S3) E)) (N wD (N J0 (L aq) E) (N aq (L aq) E))) (N ae (N sP (N A_ (L Se) E) (N EA (L Ti) E)) (N AQ (N Eg (L ae) E) (N RS (L Uc) E))))
abbrev Pd:=N ae (L Yb) (L YV)
abbrev aaW:=N Jl (N HN (N JF (N bZ (N ae (L K6) (L ae)) (N Ej (L ae) E)) (N ae (N Be (L Sh) E) (N ae (L ae) E))) (N rV (N sG (N A2 (L K8) E) (N Er (L ae) E)) (N sZ (N D9 (L aq) E) (N aH (L TV) E)))) (N aH (N JJ (N qi Pd (N En (L aq) E)) (N AE (N JY (L Yi) E) (N RE (L YF) E))) (N ae (N aq (N aH (L ae) E) (N ae (L Tg) E)) (N AO (N aH (L ae) E) (N RO (L aq) E))))
abbrev Pe:=N DW (L ae) (L ad7)
abbrev Ph:=N AY (L bf) (L Y0)
abbrev aaX:=N aH (N Jv (N aH (N aq Pe (N aH (L ae) E)) (N wB (N JV (L ae) E) (N KJ (L aq) E))) (N pY (N ae (N wM (L La) E) (N Kp (L Yy) E)) (N wG (N Bj (L SD) E) (N KZ (L ae) E)))) (N HS (N Oz (N v9 Ph (N Kh (L S5) E)) (N aH (N D7 (L Su) E) (N KR (L TN) E))) (N r_ (N sV (N wU (L aq) E) (N Kw (L Tn) E)) (N AS (N Bq (L Yo) E) (N RV (L Ue) E))))
abbrev Pj:=N JQ (L RW) (L YL)
abbrev Pk:=N DX (L X_) (L ae)
abbrev aaY:=N aH (N aq (N bZ (N se Pj (N bf (L ae) E)) (N wu (N wV (L Sf) E) (N Kz (L Tq) E))) (N aH (N aq (N A0 (L ae) E) (N aq (L S6) E)) (N AJ (N J2 (L aq) E) (N KW (L aq) E)))) (N HP (N Ou (N sA Pk (N aq (L ae) E)) (N bc (N D5 (L Sm) E) (N RD (L TF) E))) (N rX (N ae (N wQ (L Lb) E) (N Kr (L ae) E)) (N aH (N Bm (L SE) E) (N K0 (L ae) E))))
abbrev Pn:=N DR (L X4) (L YQ)
abbrev aaZ:=N iT (N bZ (N HU (N ae Pn (N Ek (L ae) E)) (N wy (N aH (L Si) E) (N ae (L ae) E))) (N pV (N sJ (N ae (L Sa) E) (N Eu (L S_) E)) (N s_ (N ae (L Yl) E) (N RK (L TX) E)))) (N aq (N JK (N ae (N ae (L K7) (L aq)) (N bf (L Yv) E)) (N wC (N JZ (L ae) E) (N ae (L ae) E))) (N r9 (N wt (N A9 (L ae) E) (N Ez (L aq) E)) (N wJ (N aq (L SJ) E) (N aH (L YK) E))))
abbrev Po:=N DP (L RY) (L YN)
abbrev Pp:=N D0 (L ae) (L ad8)
abbrev aa0:=N Jk (N HM (N aq (N vV Po (N aq (L SQ) E)) (N Ay (N Bd (L aq) E) (N RA (L YC) E))) (N rT (N sF (N ae (L ae) E) (N Ep (L S8) E)) (N aq (N ae (L ae) E) (N bf (L TU) E)))) (N bZ (N aq (N qh Pp (N Em (L ae) E)) (N aq (N aH (L ae) E) (N ae (L ae) E))) (N rZ (N ae (N bc (L Le) E) (N Ew (L Yz) E)) (N AN (N bf (L SH) E) (N K4 (L ae) E))))
abbrev Pq:=N DV (L X6) (L ae)
abbrev Pu:=N AX (L Yd) (L YZ)
abbrev aa1:=N bZ (N aq (N bZ (N ae Pq (N bf (L SY) E)) (N wA (N JU (L Sk) E) (N KI (L ae) E))) (N pX (N we (N A5 (L K_) E) (N aH (L ae) E)) (N tD (N Eb (L aq) E) (N aq (L TZ) E)))) (N HR (N JO (N v8 Pu (N Kg (L aq) E)) (N bc (N qj (L Yj) E) (N KQ (L YG) E))) (N ae (N sU (N aq (L ae) E) (N Kv (L Tj) E)) (N aH (N Bp (L ae) E) (N RU (L aq) E))))
abbrev Pw:=N DY (L aq) (L YU)
abbrev aa2:=N ae (N Jr (N JE (N sj (N ae (L RX) (L ae)) (N J5 (L Yp) E)) (N ae (N wX (L Ll) E) (N KA (L Tt) E))) (N ae (N ae (N aH (L R8) E) (N ae (L ae) E)) (N AL (N aH (L Sw) E) (N RH (L ae) E)))) (N Jx (N Ow (N qe Pw (N Kc (L Yt) E)) (N AD (N JX (L aq) E) (N aH (L aq) E))) (N bZ (N wm (N A6 (L Sd) E) (N ae (L Tf) E)) (N ae (N Ec (L ae) E) (N K2 (L T_) E))))
abbrev Px:=N DT (L bf) (L aq)
abbrev Py:=N AV (L R6) (L ae)
abbrev aa3:=N Jm (N Ju (N JH (N vY Px (N J8 (L SW) E)) (N wz (N ae (L ae) E) (N KD (L Tv) E))) (N rW (N sM (N wL (L aq) E) (N Ko (L aq) E)) (N tu (N Bg (L SA) E) (N RM (L YI) E)))) (N JB (N JM (N v5 Py (N Kf (L S4) E)) (N AG (N ae (L Ss) E) (N KP (L TM) E))) (N aq (N sQ (N Ba (L Lg) E) (N EB (L ae) E)) (N AR (N Eh (L aq) E) (N ae (L Ud) E))))
abbrev Pz:=N JS (L RZ) (L ad6)
abbrev PB:=N aq (L R3) (L YW)
abbrev aa4:=N ae (N Js (N JG (N aH Pz (N J7 (L aq) E)) (N aq (N Bf (L ae) E) (N aq (L aq) E))) (N ae (N sH (N A3 (L K9) E) (N Es (L Yx) E)) (N ae (N D_ (L Sy) E) (N RJ (L ae) E)))) (N Jz (N ae (N sC PB (N Kd (L S2) E)) (N AF (N ae (L So) E) (N RG (L TJ) E))) (N r6 (N sO (N A8 (L aq) E) (N Ku (L Th) E)) (N ae (N Ef (L Yn) E) (N RQ (L Ub) E))))
abbrev PD:=N bc (L X7) (L YS)
abbrev aa5:=N Jp (N Jw (N Ot (N qb PD (N J_ (L aH) E)) (N AA (N ae (L Yh) E) (N KL (L YE) E))) (N pZ (N aH (N wN (L ae) E) (N ae (L Td) E)) (N wH (N Bk (L ae) E) (N ae (L aq) E)))) (N JC (N OA (N v_ (N wK (L aH) E) (N Kl (L ae) E)) (N AI (N D8 (L Sv) E) (N KS (L TQ) E))) (N qa (N sX (N ae (L Li) E) (N bf (L To) E)) (N ae (N Ei (L SM) E) (N ae (L ae) E))))
abbrev aa6:=N boot_o_0 (N boot_o_1 (N ad4 (N boot_o_7 aaQ aaR) (N ae aaS aaT)) (N boot_o_5 (N boot_o_9 aaU aaV) (N HG aaW aaX))) (N boot_o_2 (N boot_o_4 (N boot_o_8 aaY aaZ) (N Ye aa0 aa1)) (N boot_o_6 (N boot_o_10 aa2 aa3) (N HH aa4 aa5)))
abbrev aa7:=N HJ (N ae (N JD (N sd O4 (N J4 (L SN) (L ae))) (N sY (N Bb (L ae) (L Zi)) (N aH (L Tp) (L aq)))) (N bZ (N ae (N AZ (L R7) (L aq)) (N ae (L Yw) (L ae))) (N ae (N J1 (L ae) (L aei)) (N KU (L ae) E)))) (N ae (N ae (N ae O5 (N ae (L Yr) (L ZR))) (N AB (N D4 (L Sl) (L ae)) (N RC (L Tz) (L aaj)))) (N p9 (N wg (N wO (L aq) (L ae)) (N Kq (L Te) (L Z7))) (N bc (N Bl (L Ym) (L ZE)) (N RN (L T9) E))))
abbrev aa8:=N HK (N Jt (N ae (N vW O6 (N ae (L SS) (L aeo))) (N Az (N bc (L Yg) (L Zm)) (N KC (L Tu) (L aag)))) (N aq (N sI (N A4 (L R_) (L Y9)) (N Et (L S9) (L aq))) (N wF (N Ea (L ae) (L Zz)) (N ae (L aq) E)))) (N ae (N Ox (N sD O7 (N Ke (L ae) (L ZV))) (N ae (N aq (L Sq) (L ae)) (N KO (L TL) E))) (N r8 (N ae (N ae (L Lf) (L aec)) (N Ey (L ae) (L Z_))) (N wI (N ae (L SI) (L ae)) (N bf (L ae) E))))
abbrev aa9:=N aq (N ae (N ae (N sy (N aq (L K5) (L aq)) (N ae (L SO) (L ae))) (N aH (N Bc (L ae) (L Zk)) (N Rz (L YB) (L aae)))) (N OC (N wb (N A1 (L R9) (L Y7)) (N Km (L aq) (L aes))) (N ae (N J3 (L Sx) (L aq)) (N RI (L YH) E)))) (N Jy (N ae (N qg O8 (N ae (L Yu) (L ZT))) (N ae (N ae (L Sn) (L Zr)) (N KN (L TH) E))) (N aH (N wo (N A7 (L Ld) (L ae)) (N aq (L ae) (L Z9))) (N aq (N Ed (L aq) (L ae)) (N K3 (L Ua) E))))
abbrev aa_:=N Jo (N ae (N JI (N vZ O9 (N J9 (L SX) (L aq))) (N lL (N aq (L aq) (L ae)) (N KG (L Tw) (L aai)))) (N pW (N wc (N ae (L Sb) (L Za)) (N bf (L Tc) (L Z5))) (N tw (N ae (L ae) (L ZC)) (N ae (L TY) E)))) (N ae (N JN (N ae O_ (N ae (L ae) (L ae))) (N AH (N D6 (L ae) (L ae)) (N ae (L ae) E))) (N p_ (N sR (N ae (L Lh) (L aq)) (N EC (L YA) (L aew))) (N bc (N ae (L SK) (L ZJ)) (N RT (L ae) E))))
abbrev aba:=N Jj (N Jq (N aH (N sf Pa (N aH (L aq) (L ZL))) (N wx (N wW (L Lj) (L ae)) (N ae (L Tr) (L ae)))) (N OB (N sE (N bc (L aq) (L ae)) (N Eo (L S7) (L ZZ))) (N AK (N bf (L Yk) (L Zx)) (N KY (L TR) E)))) (N HQ (N Ov (N qc (N ae (L ae) (L aq)) (N Ka (L Ys) (L ae))) (N aH (N JW (L ae) (L aeg)) (N bf (L ae) E))) (N rY (N wj (N wR (L ae) (L Zc)) (N Ks (L aq) (L aeu))) (N AM (N Bo (L SG) (L aq)) (N K1 (L YJ) E))))
abbrev abb:=N HL (N aH (N HV (N vX Pb (N El (L Yq) (L ZP))) (N ae (N JT (L Sj) (L aq)) (N RB (L YD) (L aey)))) (N ae (N sL (N aq (L ae) (L aea)) (N Kn (L ae) (L ae))) (N tm (N aq (L Sz) (L ae)) (N RL (L ae) E)))) (N JA (N JL (N aH Pc (N aH (L S3) (L aq))) (N wD (N J0 (L aq) (L Zt)) (N aq (L aq) E))) (N ae (N sP (N A_ (L Se) (L Zg)) (N EA (L Ti) (L ae))) (N AQ (N Eg (L ae) (L aem)) (N RS (L Uc) E))))
abbrev abc:=N Jl (N HN (N JF (N bZ (N ae (L K6) (L ae)) (N Ej (L ae) (L ZN))) (N ae (N Be (L Sh) (L aee)) (N ae (L ae) (L ae)))) (N rV (N sG (N A2 (L K8) (L ae)) (N Er (L ae) (L Z3))) (N sZ (N D9 (L aq) (L ae)) (N aH (L TV) E)))) (N aH (N JJ (N qi Pd (N En (L aq) (L aeq))) (N AE (N JY (L Yi) (L aq)) (N RE (L YF) E))) (N ae (N aq (N aH (L ae) (L Ze)) (N ae (L Tg) (L aq))) (N AO (N aH (L ae) (L ZG)) (N RO (L aq) E))))
abbrev abd:=N aH (N Jv (N aH (N aq Pe (N aH (L ae) (L ae))) (N wB (N JV (L ae) (L Zo)) (N KJ (L aq) (L aq)))) (N pY (N ae (N wM (L La) (L aq)) (N Kp (L Yy) (L ae))) (N wG (N Bj (L SD) (L aek)) (N KZ (L ae) E)))) (N HS (N Oz (N v9 Ph (N Kh (L S5) (L ZX))) (N aH (N D7 (L Su) (L Zv)) (N KR (L TN) E))) (N r_ (N sV (N wU (L aq) (L ae)) (N Kw (L Tn) (L aac))) (N AS (N Bq (L Yo) (L aq)) (N RV (L Ue) E))))
abbrev abe:=N aH (N aq (N bZ (N se Pj (N bf (L ae) (L aen))) (N wu (N wV (L Sf) (L Zj)) (N Kz (L Tq) (L aad)))) (N aH (N aq (N A0 (L ae) (L Y6)) (N aq (L S6) (L aq))) (N AJ (N J2 (L aq) (L Zw)) (N KW (L aq) E)))) (N HP (N Ou (N sA Pk (N aq (L ae) (L ZS))) (N bc (N D5 (L Sm) (L aq)) (N RD (L TF) (L aak)))) (N rX (N ae (N wQ (L Lb) (L aeb)) (N Kr (L ae) (L ae))) (N aH (N Bm (L SE) (L ae)) (N K0 (L ae) E))))
abbrev abf:=N iT (N bZ (N HU (N ae Pn (N Ek (L ae) (L ZO))) (N wy (N aH (L Si) (L ae)) (N ae (L ae) (L ae)))) (N pV (N sJ (N ae (L Sa) (L ae)) (N Eu (L S_) (L Z4))) (N s_ (N ae (L Yl) (L ZA)) (N RK (L TX) E)))) (N aq (N JK (N ae (N ae (L K7) (L aq)) (N bf (L Yv) (L ae))) (N wC (N JZ (L ae) (L aeh)) (N ae (L ae) E))) (N r9 (N wt (N A9 (L ae) (L Zf)) (N Ez (L aq) (L aaa))) (N wJ (N aq (L SJ) (L aq)) (N aH (L YK) E))))
abbrev abg:=N Jk (N HM (N aq (N vV Po (N aq (L SQ) (L aq))) (N Ay (N Bd (L aq) (L ae)) (N RA (L YC) (L aaf)))) (N rT (N sF (N ae (L ae) (L Y8)) (N Ep (L S8) (L Z2))) (N aq (N ae (L ae) (L Zy)) (N bf (L TU) E)))) (N bZ (N aq (N qh Pp (N Em (L ae) (L ae))) (N aq (N aH (L ae) (L ae)) (N ae (L ae) E))) (N rZ (N ae (N bc (L Le) (L aq)) (N Ew (L Yz) (L ae))) (N AN (N bf (L SH) (L ael)) (N K4 (L ae) E))))
abbrev abh:=N bZ (N aq (N bZ (N ae Pq (N bf (L SY) (L ZQ))) (N wA (N JU (L Sk) (L aef)) (N KI (L ae) (L ae)))) (N pX (N we (N A5 (L K_) (L ae)) (N aH (L ae) (L Z6))) (N tD (N Eb (L aq) (L ae)) (N aq (L TZ) E)))) (N HR (N JO (N v8 Pu (N Kg (L aq) (L aer))) (N bc (N qj (L Yj) (L aq)) (N KQ (L YG) E))) (N ae (N sU (N aq (L ae) (L Zh)) (N Kv (L Tj) (L aab))) (N aH (N Bp (L ae) (L ae)) (N RU (L aq) E))))
abbrev abi:=N ae (N Jr (N JE (N sj (N ae (L RX) (L ae)) (N J5 (L Yp) (L ZM))) (N ae (N wX (L Ll) (L aq)) (N KA (L Tt) (L aex)))) (N ae (N ae (N aH (L R8) (L ad_)) (N ae (L ae) (L ae))) (N AL (N aH (L Sw) (L ae)) (N RH (L ae) E)))) (N Jx (N Ow (N qe Pw (N Kc (L Yt) (L aq))) (N AD (N JX (L aq) (L Zq)) (N aH (L aq) E))) (N bZ (N wm (N A6 (L Sd) (L Zd)) (N ae (L Tf) (L Z8))) (N ae (N Ec (L ae) (L ZF)) (N K2 (L T_) E))))
abbrev abj:=N Jm (N Ju (N JH (N vY Px (N J8 (L SW) (L ae))) (N wz (N ae (L ae) (L Zn)) (N KD (L Tv) (L aah)))) (N rW (N sM (N wL (L aq) (L Y_)) (N Ko (L aq) (L aet))) (N tu (N Bg (L SA) (L aq)) (N RM (L YI) E)))) (N JB (N JM (N v5 Py (N Kf (L S4) (L ZW))) (N AG (N ae (L Ss) (L Zu)) (N KP (L TM) E))) (N aq (N sQ (N Ba (L Lg) (L ae)) (N EB (L ae) (L aq))) (N AR (N Eh (L aq) (L ZI)) (N ae (L Ud) E))))
abbrev abk:=N ae (N Js (N JG (N aH Pz (N J7 (L aq) (L ae))) (N aq (N Bf (L ae) (L Zl)) (N aq (L aq) (L aq)))) (N ae (N sH (N A3 (L K9) (L aq)) (N Es (L Yx) (L ae))) (N ae (N D_ (L Sy) (L aej)) (N RJ (L ae) E)))) (N Jz (N ae (N sC PB (N Kd (L S2) (L ZU))) (N AF (N ae (L So) (L Zs)) (N RG (L TJ) E))) (N r6 (N sO (N A8 (L aq) (L ae)) (N Ku (L Th) (L aev))) (N ae (N Ef (L Yn) (L ZH)) (N RQ (L Ub) E))))
abbrev abl:=N Jp (N Jw (N Ot (N qb PD (N J_ (L aH) (L aep))) (N AA (N ae (L Yh) (L Zp)) (N KL (L YE) (L aez)))) (N pZ (N aH (N wN (L ae) (L Zb)) (N ae (L Td) (L aq))) (N wH (N Bk (L ae) (L ZD)) (N ae (L aq) E)))) (N JC (N OA (N v_ (N wK (L aH) (L ae)) (N Kl (L ae) (L ZY))) (N AI (N D8 (L Sv) (L ae)) (N KS (L TQ) E))) (N qa (N sX (N ae (L Li) (L aed)) (N bf (L To) (L ae))) (N ae (N Ei (L SM) (L ZK)) (N ae (L ae) E))))
abbrev PF:=N boot_o_0 (N boot_o_1 (N Y4 (N boot_o_7 aa7 aa8) (N ae aa9 aa_)) (N boot_o_5 (N boot_o_9 aba abb) (N HG abc abd))) (N boot_o_2 (N boot_o_4 (N boot_o_8 abe abf) (N Y5 abg abh)) (N boot_o_6 (N boot_o_10 abi abj) (N HH abk abl)))
abbrev lf:Life:=⟨[],[],[],0,[],[],false,#[],[],0,false,false,false,0,[2000,10,10],false,0,true,[],[],0,false⟩
abbrev TA (w:World) (os:OsState):SharedT:=⟨t14 w.params,15,lf,⟨[]⟩,⟨0,0,0,0⟩,187,os⟩
abbrev T0 (w:World) (os:OsState):SharedT:=⟨t90 w.params,76,lf,⟨[]⟩,⟨0,0,0,0⟩,271,os⟩
abbrev T1 (w:World) (os:OsState):SharedT:=⟨aeC w.params,152,lf,⟨[]⟩,⟨0,0,0,0⟩,375,os⟩
abbrev T2 (w:World) (os:OsState):SharedT:=⟨aeH w.params,239,lf,⟨[]⟩,⟨0,0,0,0⟩,496,os⟩
abbrev T3 (w:World) (os:OsState):SharedT:=⟨aeM w.params,327,lf,⟨[]⟩,⟨0,0,0,0⟩,616,os⟩
abbrev T4 (w:World) (os:OsState):SharedT:=⟨aax w.params,396,lf,⟨[]⟩,⟨0,0,0,0⟩,709,os⟩
abbrev T5 (w:World) (os:OsState):SharedT:=⟨aaG w.params,484,lf,⟨[]⟩,⟨0,0,0,0⟩,831,os⟩
abbrev T6 (w:World) (os:OsState):SharedT:=⟨aaP w.params,579,lf,⟨[]⟩,⟨0,0,0,0⟩,979,os⟩
abbrev T7 (w:World) (os:OsState):SharedT:=⟨aa6 w.params,798,lf,⟨[]⟩,⟨0,0,0,0⟩,1271,os⟩
abbrev T8 (w:World) (os:OsState):SharedT:=⟨PF w.params,977,lf,⟨[]⟩,⟨0,0,0,0⟩,1489,os⟩
abbrev bE:List Stmt:=behindTheImports pw
abbrev nv:Env:={ scope:=pw.main.scope,locals:=mainNs,globals:=mainNs,cells:=[],code:=(r 13),frame:=some 14 }
abbrev cE:Code:=.body bE nv
abbrev BF:List Frame:=[topFrame ⟨0,0,0,0⟩]
abbrev an:Option Value:=(some (r 6))
abbrev abm:List Stmt:=(bE.drop 0).take 6
abbrev abn:List Stmt:=(bE.drop 6).take 5
abbrev abo:List Stmt:=(bE.drop 11).take 5
abbrev abp:List Stmt:=(bE.drop 16).take 5
abbrev abq:List Stmt:=(bE.drop 21).take 5
abbrev abr:List Stmt:=(bE.drop 26).take 5
abbrev abt:List Stmt:=(bE.drop 31).take 19
abbrev abu:List Stmt:=(bE.drop 50).take 34
abbrev abv:List Stmt:=(bE.drop 84).take 33
abbrev S0 (w:World) (os:OsState):Shared:=⟨boot_heap w.params,Array.mk [],boot_drawn,boot_toks,os⟩
abbrev th0:Thread:=piecesOf abm nv cE ⟨0,0,0,0⟩ BF
abbrev th1:Thread:=piecesOf abn nv cE ⟨10,0,11,8⟩ BF
abbrev th2:Thread:=piecesOf abo nv cE ⟨29,0,29,8⟩ BF
abbrev th3:Thread:=piecesOf abp nv cE ⟨43,0,46,28⟩ BF
abbrev th4:Thread:=piecesOf abq nv cE ⟨63,0,66,26⟩ BF
abbrev th5:Thread:=piecesOf abr nv cE ⟨77,0,78,8⟩ BF
abbrev th6:Thread:=piecesOf abt nv cE ⟨95,0,99,24⟩ BF
abbrev th7:Thread:=piecesOf abu nv cE ⟨135,0,146,31⟩ BF
abbrev th8:Thread:=piecesOf abv nv cE ⟨343,0,348,43⟩ BF
abbrev thA:Thread:=⟨denote treeTable cE,cE,⟨0,0,0,0⟩,BF⟩
abbrev thB:Thread:=blockOf bE nv cE ⟨0,0,0,0⟩ BF
abbrev thF:Thread:=⟨doneF .next,cE,⟨522,0,530,91⟩,BF⟩
noncomputable abbrev as:List Addr:=[2,3,15,22,23,24,25,28,35,36,37,40,47,48,49,52,59,60,61,64,71,72,73,76,83,85,86,88,89,90,91,92,95,102,104,105,107,108,109,110,111,114,121,123,124,126,127,128,129,130,133,140,142,143,145,146,147,148,149,159,161,162,164,165,166,167,168,169,170,180,182,183,185,186,187,188,189,190,191,201,202,203,204,205,208,215,216,217,220,227,229,230,232,233,234,235,236,239,246,247,248,251,258,260,261,263,264,265,266,267,270,277,279,280,282,283,284,285,286,289,296,298,299,301,302,303,304,305,308,315,317,318,320,321,322,323,324,327,334,335,336,346,347,348,349,350,353,360,362,363,365,366,367,368,369,372,379,380,381,384,391,392,393,396,403,404,405,408,415,417,418,420,421,422,423,424,427,434,436,437,439,440,441,442,443,446,453,455,456,458,459,460,461,462,465,472,474,475,477,478,479,480,481,484,491,493,494,496,497,498,499,500,503,510,512,513,515,516,517,518,519,522,529,531,532,534,535,536,537,538,541,548,549,550,553,556,557,558,560,561,563,564,565,567,568,570,571,572,574,575,577,578,579,581,582,584,585,586,588,589,591,592,593,595,596,598,599,600,602,603,605,606,607,610,611,612,614,615,617,618,619,621,622,624,625,626,628,629,631,632,633,635,636,638,639,640,643,644,645,647,648,650,651,652,660,662,663,665,666,667,669,670,672,673,674,676,677,679,680,681,683,684,686,687,688,690,691,693,694,695,697,698,700,701,702,703,704,705,706,709,711,712,714,715,716,719,720,721,723,724,726,727,728,730,731,733,734,735,737,738,740,741,742,744,745,747,748,749,751,752,754,755,756,758,759,761,762,763,765,766,768,769,770,772,773,775,776,777,779,780,782,783,784,786,787,789,790,791,793,794,796,797,798,800,801,803,804,805,807,808,810,811,812,814,815,817,818,819,821,822,824,825,826,828,829,831,832,833,835,836,838,839,840,842,843,845,846,847,850,851,852,854,855,857,858,859,861,862,864,865,866,868,869,871,872,873,875,876,878,879,880,882,883,885,886,887,890,891,892,894,895,897,898,899,901,902,904,905,906,908,909,911,912,913,915,916,918,919,920,922,923,925,926,927,929,930,932,933,934,936,937,939,940,941,943,944,946,947,948,951,952,953,956,957,958,960,961,963,964,965,967,968,970,971,972,975,976]
abbrev K (P:Params):Frag:=as.zip ([boot_o_2,Y4,HJ,ae,HK,iT,HL,bZ,ae,HM,HN,bZ,ae,HP,HQ,bZ,ae,HR,HS,bZ,ae,HU,HV,bZ,ae,JJ,ae,JK,JL,JM,JN,JO,bZ,ae,pV,ae,pW,pX,pY,pZ,p9,bZ,ae,p_,ae,qa,sd,se,sf,sj,bZ,ae,qb,ae,qc,qe,qg,qh,qi,ae,sE,ae,sF,sG,sH,sI,sJ,sL,sM,ae,sO,ae,sP,sQ,sR,sU,sV,sX,sY,ae,wz,lL,wA,wB,bc,ae,wC,wD,bc,ae,sZ,ae,s_,tm,tu,tw,tD,bc,ae,wI,wJ,bc,ae,DP,ae,DQ,DR,DS,DT,DU,bc,ae,AU,ae,AV,AW,AX,AY,wK,bc,ae,wL,ae,wM,wN,wO,wQ,wR,bc,ae,wU,ae,wV,wW,wX,Bc,Bd,bc,ae,D4,D5,ae,D6,qj,D7,D8,bf,ae,Bg,ae,Bj,Bk,Bl,Bm,Bo,bf,ae,Bp,Bq,bf,ae,Ek,El,bf,ae,Em,En,bf,ae,Eo,ae,Ep,Er,Es,Et,Eu,bf,ae,Ew,ae,Ey,Ez,EA,EB,EC,bf,ae,KC,ae,KD,KG,KI,KJ,KL,bf,ae,KP,ae,KR,KS,KU,KW,KY,bf,ae,KZ,ae,K0,K1,K2,K3,K4,bf,ae,RW,ae,K5,RY,K6,RZ,R0,bf,ae,R1,ae,R3,R4,K7,R5,R6,bf,ae,K8,K9,ae,K_,La,ae,Lb,ae,Ld,Le,ae,Lf,ae,Lg,Lh,ae,Li,ae,Lj,Ll,ae,Sh,ae,Si,Sj,ae,Sk,ae,Sl,Sm,ae,Sn,ae,So,Sq,ae,Ss,ae,Su,Sv,ae,Sw,Sx,ae,Sy,ae,Sz,SA,ae,SD,ae,SE,SG,ae,SH,ae,SI,SJ,ae,SK,ae,SM,SN,ae,SO,SQ,ae,SS,ae,SW,SX,SY,ae,S2,ae,S3,S4,ae,S5,ae,S6,S7,ae,S8,ae,S9,S_,ae,Tc,ae,Td,Te,ae,Tf,ae,Tg,Th,ae,Ti,ae,Tj,Tn,To,Tp,Tq,Tr,Tt,ae,Tu,ae,Tv,Tw,ae,Tz,TF,ae,TH,ae,TJ,TL,ae,TM,ae,TN,TQ,ae,TR,ae,TU,TV,ae,TX,ae,TY,TZ,ae,T9,ae,T_,Ua,ae,Ub,ae,Uc,Ud,ae,Ue,ae,YL,YM,ae,YN,ae,YO,YQ,ae,YR,ae,YS,YT,ae,YU,ae,YV,YW,ae,YX,ae,YZ,Y0,ae,Y6,ae,Y7,Y8,ae,Y9,ae,Y_,Za,ae,Zb,ae,Zc,Zd,ae,Ze,ae,Zf,Zg,ae,Zh,ae,Zi,Zj,ae,Zk,ae,Zl,Zm,ae,Zn,ae,Zo,Zp,ae,Zq,Zr,ae,Zs,ae,Zt,Zu,ae,Zv,ae,Zw,Zx,ae,Zy,ae,Zz,ZA,ae,ZC,ae,ZD,ZE,ae,ZF,ae,ZG,ZH,ae,ZI,ZJ,ae,ZK,ae,ZL,ZM,ae,ZN,ae,ZO,ZP,ae,ZQ,ae,ZR,ZS,ae,ZT,ae,ZU,ZV,ae,ZW,ae,ZX,ZY,ae,ZZ,ae,Z2,Z3,ae,Z4,ae,Z5,Z6,ae,Z7,ae,Z8,Z9,ae,Z_,aaa,ae,aab,aac,ae,aad,ae,aae,aaf,ae,aag,ae,aah,aai,ae,aaj,aak].map fun o=>o P)
abbrev vw:Program:={ pw with main:={ pw.main with body:=([1,2,3,4,5,6,7,8,9,11,12,13,14,15,16,17,18,19,20,21,22,23,24,25,26,27,28,29,30,31,32,33,34,36,37,38,39,40,42,43,44,45,46,47,48,49,50,51,52,53,54,55,56,57,58,59,60,62,63,64,65,66,67,68,69,70,71,72,73,74,75,76,77,78,79,80,81,82,83,84,85,87,89,90,91,92,93,95,96,97,98,99,100,102,103,105,106,107,108,109,110,111,112,113,114,115,116]:List Nat).map top } }
theorem pre:∀ w:World,(fun os=>topGo treeTable pw w 11 an 12 (S0 w os) (topStub pw))=fun os=>some ((TA w os).abs,thA):=by
 exact fun w=>by kernel_rfl
theorem blk:∀ w:World,(fun os=>segRun treeTable pw w 11 an 1 1 (TA w os).abs thB)=fun os=>some (Flow.next,(TA w os).abs,cE,(⟨0,0,0,0⟩:Pos)):=by
 exact fun w=>by kernel_rfl
theorem g0:∀ w:World,(fun os=>segRunT treeTable pw w 11 an 1 1048 (TA w os) th0)=fun os=>some (Flow.next,T0 w os,cE,(⟨10,0,11,8⟩:Pos)):=by
 rewrite [PySem.W.Fast.te10110043849684766642]
 exact fun w=>by kernel_rfl
theorem g1:∀ w:World,(fun os=>segRunT treeTable pw w 11 an 1 992 (T0 w os) th1)=fun os=>some (Flow.next,T1 w os,cE,(⟨29,0,29,8⟩:Pos)):=by
 rewrite [PySem.W.Fast.te10110043849684766642]
 exact fun w=>by kernel_rfl
theorem g2:∀ w:World,(fun os=>segRunT treeTable pw w 11 an 1 1095 (T1 w os) th2)=fun os=>some (Flow.next,T2 w os,cE,(⟨43,0,46,28⟩:Pos)):=by
 rewrite [PySem.W.Fast.te10110043849684766642]
 exact fun w=>by kernel_rfl
theorem g3:∀ w:World,(fun os=>segRunT treeTable pw w 11 an 1 1198 (T2 w os) th3)=fun os=>some (Flow.next,T3 w os,cE,(⟨63,0,66,26⟩:Pos)):=by
 rewrite [PySem.W.Fast.te10110043849684766642]
 exact fun w=>by kernel_rfl
theorem g4:∀ w:World,(fun os=>segRunT treeTable pw w 11 an 1 1075 (T3 w os) th4)=fun os=>some (Flow.next,T4 w os,cE,(⟨77,0,78,8⟩:Pos)):=by
 rewrite [PySem.W.Fast.te10110043849684766642]
 exact fun w=>by kernel_rfl
theorem g5:∀ w:World,(fun os=>segRunT treeTable pw w 11 an 1 1200 (T4 w os) th5)=fun os=>some (Flow.next,T5 w os,cE,(⟨95,0,99,24⟩:Pos)):=by
 rewrite [PySem.W.Fast.te10110043849684766642]
 exact fun w=>by kernel_rfl
theorem g6:∀ w:World,(fun os=>segRunT treeTable pw w 11 an 1 1169 (T5 w os) th6)=fun os=>some (Flow.next,T6 w os,cE,(⟨135,0,146,31⟩:Pos)):=by
 rewrite [PySem.W.Fast.te10110043849684766642]
 exact fun w=>by kernel_rfl
theorem g7:∀ w:World,(fun os=>segRunT treeTable pw w 11 an 1 1193 (T6 w os) th7)=fun os=>some (Flow.next,T7 w os,cE,(⟨343,0,348,43⟩:Pos)):=by
 rewrite [PySem.W.Fast.te10110043849684766642]
 exact fun w=>by kernel_rfl
theorem g8:∀ w:World,(fun os=>segRunT treeTable pw w 11 an 1 845 (T7 w os) th8)=fun os=>some (Flow.next,T8 w os,cE,(⟨522,0,530,91⟩:Pos)):=by
 rewrite [PySem.W.Fast.te10110043849684766642]
 exact fun w=>by kernel_rfl
theorem fin:∀ w:World,(fun os=>topRun treeTable pw w 11 an 2 (T8 w os).abs thF)=fun os=>some (T8 w os).abs:=by
 exact fun w=>by kernel_rfl
theorem chn (w:World) (os:OsState):∀ l,l=(abm++(abn++(abo++(abp++(abq++(abr++(abt++(abu++(abv++[])))))))))->topRun treeTable pw w 11 an (1048+(992+(1095+(1198+(1075+(1200+(1169+(1193+(845+2))))))))) (TA w os).abs (restOf l nv cE ⟨0,0,0,0⟩ BF)=some (T8 w os).abs:=fun l e=>by
 rw [e]
 exact piece_app (segRun_of (congrFun (g0 w) os)) (piece_app (segRun_of (congrFun (g1 w) os)) (piece_app (segRun_of (congrFun (g2 w) os)) (piece_app (segRun_of (congrFun (g3 w) os)) (piece_app (segRun_of (congrFun (g4 w) os)) (piece_app (segRun_of (congrFun (g5 w) os)) (piece_app (segRun_of (congrFun (g6 w) os)) (piece_app (segRun_of (congrFun (g7 w) os)) (piece_app (segRun_of (congrFun (g8 w) os)) (congrFun (fin w) os)))))))))
theorem run (w:World) (os:OsState):topRun treeTable pw w 11 an (12+(1+(1048+(992+(1095+(1198+(1075+(1200+(1169+(1193+(845+2))))))))))) (S0 w os) (topStub pw)=some (T8 w os).abs:=go_top (congrFun (pre w) os) (piece_block (congrFun (blk w) os) (chn w os bE (by kernel_rfl)))
theorem WD:∀ P,as=(K P).map (·.1):=fun _=>by kernel_rfl
abbrev H:Hook:=kHook K as WD
abbrev H1 (P:Params):Heap:=absHeap (PF P) 977 lf
abbrev SF (w:World) (os:OsState):Shared:=⟨H1 w.params,Array.mk [],⟨0,0,0,0⟩,1489,os⟩
abbrev Xt (s:Shared):Bool:=xlAt vw [] s&&recOk (RowW.records (OpenRow.toRowW (OpenLaw.row PySem.Challenge.rw_rowblade_k74_what_is_not_woven))) s
theorem opn:∀ w:World,(fencedOpening treeTable pw w 19738).map (fun s=>(s.heap,s.gens,s.drawn,s.toks))=some (boot_heap w.params,Array.mk [],boot_drawn,boot_toks):=boot_open (by kernel_rfl) (by decide) (fun s=>by kernel_rfl)
theorem siz:∀ w:World,((boot_heap w.params).isNs mainGlobals&&(Array.mk []:Array GenState).size == 0,(boot_heap w.params).objs.size,(boot_heap w.params).nsMap mainGlobals "__annotations__")=(true,11,an):=fun w=>by kernel_rfl
theorem lk1:∀ w:World,(fun os=>(staticsOk (importedModules pw.main.body) (boot_heap w.params) (H1 w.params)&&namesBound pw (H1 w.params)&&gensDone (SF w os)&&laidKept (boot_heap w.params) (H1 w.params)))=fun _=>true:=fun w=>by kernel_rfl
theorem q1:∀ w:World,(fun os=>PyProof.Rows.seen (Co (fun x=>x.name) (N5 vw)) (PyProof.Rows.ownsOf vw) [] { heap:=(SF w os).heap,drawn:=(SF w os).drawn,toks:=(SF w os).toks,os:=(SF w os).os })=fun _=>PyProof.Rows.expectedOf vw:=fun w=>by kernel_rfl
theorem q2:∀ w:World,(fun os=>(SF w os).heap.bltView)=fun _=>bltViewBooted:=fun w=>by kernel_rfl
theorem b1:∀ w:World,(fun os=>(SF w os).heap.keysOk (looseW vw []) (Co (fun x=>x.name) (N5 vw)) (Co (fun x=>x.fst) (PyProof.Rows.litsOf vw)) (Co (fun x=>x.name) (PyProof.Rows.clssOf vw (looseW vw []))))=fun _=>true:=fun w=>by kernel_rfl
theorem b2:∀ w:World,(fun os=>(SF w os).heap.accountedOkI (importedModules pw.main.body))=fun _=>true:=fun w=>by kernel_rfl
theorem b3:∀ w:World,(fun os=>(SF w os).heap.isNs mainGlobals)=fun _=>true:=fun w=>by kernel_rfl
theorem b4:∀ w:World,(fun os=>(SF w os).heap.isNs builtinsNs)=fun _=>true:=fun w=>by kernel_rfl
theorem b5:∀ w:World,(fun os=>PyProof.Rows.tablesOk vw (SF w os).heap)=fun _=>true:=fun w=>by kernel_rfl
theorem b6:∀ w:World,(fun os=>Xt (SF w os))=fun _=>true:=fun w=>by kernel_rfl
theorem q4:∀ w:World,(fun os=>PyProof.Rows.tabsOk vw (SF w os))=fun _=>true:=fun w=>by kernel_rfl
theorem q5:∀ w:World,(fun os=>pinSeenD vw (N6 vw) (SF w os))=fun _=>pinGoodD (N6 vw):=fun w=>by kernel_rfl
theorem q6:∀ w:World,(fun os=>PyProof.Rows.plainSeenE vw (looseW vw []) (SF w os))=fun _=>PyProof.Rows.plainGoodE vw (looseW vw []):=fun w=>by kernel_rfl
theorem q7:∀ w:World,(fun os=>PyProof.Rows.plainSeenD vw [] (SF w os))=fun _=>PyProof.Rows.plainGoodD vw []:=fun w=>by kernel_rfl
theorem q8:∀ w:World,(fun os=>wideSeen vw (SF w os))=fun _=>wideGood vw:=fun w=>by kernel_rfl
theorem q9:∀ w:World,(fun os=>clsSeenW vw [] (SF w os))=fun _=>clsGoodW vw []:=fun w=>by kernel_rfl
theorem lk2:∀ w:World,(fun os=>openSeen vw [] (importedModules pw.main.body) Xt true (SF w os))=fun _=>openGood vw []:=fun w=>funext fun os=>looks_pair (congrFun (q1 w) os) (looks_pair (congrFun (q2 w) os) (looks_pair (by
 show (_&&_&&_&&_&&_&&_&&_)=true
 rw [congrFun (b1 w) os,congrFun (b2 w) os,congrFun (b3 w) os,congrFun (b4 w) os,congrFun (b5 w) os,congrFun (b6 w) os];rfl) (looks_pair (congrFun (q4 w) os) (looks_pair (congrFun (q5 w) os) (looks_pair (congrFun (q6 w) os) (looks_pair (congrFun (q7 w) os) (looks_pair (congrFun (q8 w) os) (congrFun (q9 w) os))))))))
theorem lk3:∀ w:World,(fun os=>Hook.obs H (SF w os))=fun _=>Hook.val H w:=fun w=>by kernel_rfl
theorem left:LeftO pw vw [] Xt (Hook.obs H) (Hook.val H) 19738:=LeftO.of_pieces (H₁:=H1) (gs₁:=Array.mk []) (d₁:=⟨0,0,0,0⟩) (k₁:=1489) opn siz run (by decide) fun w=>funext fun os=>looks_pair (congrFun (lk1 w) os) (looks_pair (congrFun (lk2 w) os) (congrFun (lk3 w) os))
end KH
end
namespace L2
open PySem PySem.Spec PyProof.Rows
section
variable {κ:Type} [DecidableEq κ]
def jM (aW:List (κ × V)) (k:κ):Option V:=(aW.find? fun kv=>decide (kv.1=k)).map (·.2)
def putK (aW:List (κ × V)) (k:κ) (v:V):List (κ × V):=
 if (aW.any fun kv=>decide (kv.1=k))=true then aW.map (fun kv=>if kv.1=k then (kv.1,v) else kv) else aW++[(k,v)]
theorem iU {p:κ × V}{r:List (κ × V)}{k:κ}(e:p.1=k):jM (p::r) k=some p.2:=by simp [jM,Ab,e]
theorem iV {p:κ × V}{r:List (κ × V)}{k:κ}(e:¬ p.1=k):jM (p::r) k=jM r k:=by simp [jM,Ab,e]
theorem lM (k:κ):∀ aW:List (κ × V),(aW.any fun kv=>decide (kv.1=k))=(jM aW k).isSome
 | []=>rfl
 | p::r=>by
  rw [kG]
  by_cases e:p.1=k
  ·simp only [iU e,decide_eq_true e,Bool.true_or,Option.isSome_some]
  ·rw [iV e,decide_eq_false e,Bool.false_or];exact lM k r
theorem ki (aW:List (κ × V)) (k:κ) (v:V):(putK aW k v).length<=aW.length+1:=by
 unfold putK
 split
 ·rw [dg];omega
 ·rw [bL,dq,dD];omega
theorem iJ.fJ {o:Option V}{u:Option Value}(r:iJ o u):o.isSome=u.isSome:=by
 cases o with
 | none=>cases u with
  | none=>rfl
  | some _=>exact (show False from r).elim
 | some _=>cases u with
  | none=>exact (show False from r).elim
  | some _=>rfl
theorem KV.val {aW:List (κ × V)}{vs:List (κ × Value)}(r:KV aW vs) (k:κ):iJ (jM aW k) (valueAt vs k):=by
 unfold KV at r
 induction r with
 | nil=>exact True.intro
 | @cons p q ps qs h t ih=>
  obtain ⟨h1,h2⟩:=h
  by_cases e:p.1=k
  ·have e':q.1=k:=h1.symm.trans e
   have b:valueAt (q::qs) k=some q.2:=by simp [valueAt,Ab,e']
   rw [iU e,b];exact h2
  ·have e':¬ q.1=k:=fun z=>e (h1.trans z)
   have b:valueAt (q::qs) k=valueAt qs k:=by simp [valueAt,Ab,e']
   rw [iV e,b];exact ih
theorem KV.any {aW:List (κ × V)}{vs:List (κ × Value)}(r:KV aW vs) (k:κ):(aW.any fun kv=>decide (kv.1=k))=vs.any fun kv=>decide (kv.1=k):=by
 unfold KV at r
 induction r with
 | nil=>rfl
 | cons h t ih=>rw [kG,kG,ih,h.1]
theorem KV.Ug {aW:List (κ × V)}{vs:List (κ × Value)}(r:KV aW vs) (k:κ) {y:V}{u:Value}(ry:RelV y u) :
  KV (aW.map fun kv=>if kv.1=k then (kv.1,y) else kv) (vs.map fun kv=>if kv.1=k then (kv.1,u) else kv):=by
 unfold KV at r ⊢
 induction r with
 | nil=>exact .nil
 | @cons p q ps qs h t ih=>
  rw [gi,gi]
  refine .cons ?_ ih
  obtain ⟨h1,h2⟩:=h
  by_cases e:p.1=k
  ·rw [if_pos e,if_pos (h1.symm.trans e)];exact ⟨h1,ry⟩
  ·rw [if_neg e,if_neg (fun z=>e (h1.trans z))];exact ⟨h1,h2⟩
theorem KV.put {aW:List (κ × V)}{vs:List (κ × Value)}(r:KV aW vs) (k:κ) {y:V}{u:Value}(ry:RelV y u):KV (putK aW k y) (stored vs k u):=by
 unfold putK stored
 rw [r.any k]
 by_cases e:(vs.any fun kv=>decide (kv.1=k))=true
 ·rw [if_pos e,if_pos e];exact r.Ug k ry
 ·rw [if_neg e,if_neg e];exact Paired.snoc r ⟨rfl,ry⟩
theorem KV.length {aW:List (κ × V)}{vs:List (κ × Value)}(r:KV aW vs):aW.length=vs.length:=Paired.length r
end
theorem yx {P:Program}{w:World}{k:Key}{u:Value}(r:RelV (kV k) u):(b9 P w).is k u=true:=by
 cases k with
 | inl i=>obtain ⟨t,e⟩:=(show ∃ t,u=Value.int i t from r);subst e;exact rL P w i t
 | inr x=>obtain ⟨t,e⟩:=(show ∃ t,u=Value.str x t from r);subst e;exact rM P w x t
theorem oq {P:Program}{w:World}:∀ {ks:List Key}{us:List Value},Vals (ks.map kV) us->ItemsAre (b9 P w) ks us
 | [],_,r=>by rw [Cv] at r;cases r;exact .nil
 | k::ks,_,r=>by
  rw [gi] at r
  cases r with
  | cons h t=>exact .cons (yx h) (oq t)
abbrev KT (H:Hp):List (List Key × V)->List (List Key × Addr × Value)->Prop:=Paired fun p q=>p.1=q.1/\H q.2.1=some (.tup (p.1.map kV))/\RelV p.2 q.2.2
theorem KT.val {H:Hp}{aW:List (List Key × V)}{xs:List (List Key × Addr × Value)}(r:KT H aW xs) (k:List Key):iJ (jM aW k) ((atKey xs k).map (·.2)):=by
 induction r with
 | nil=>exact True.intro
 | @cons p q ps qs h t ih=>
  obtain ⟨h1,_,h2⟩:=h
  by_cases e:p.1=k
  ·have e':q.1=k:=h1.symm.trans e
   have b:atKey (q::qs) k=some q.2:=by simp [atKey,Ab,e']
   rw [iU e,b];exact h2
  ·have e':¬ q.1=k:=fun z=>e (h1.trans z)
   have b:atKey (q::qs) k=atKey qs k:=by simp [atKey,Ab,e']
   rw [iV e,b];exact ih
theorem KT.Ug {H:Hp}{aW:List (List Key × V)}{xs:List (List Key × Addr × Value)}(r:KT H aW xs) (k:List Key) {y:V}{u:Value}(ry:RelV y u) :
  KT H (aW.map fun kv=>if kv.1=k then (kv.1,y) else kv) (xs.map (putAt k u)):=by
 induction r with
 | nil=>exact .nil
 | @cons p q ps qs h t ih=>
  rw [gi,gi]
  refine .cons ?_ ih
  obtain ⟨h1,h2,h3⟩:=h
  unfold putAt
  by_cases e:p.1=k
  ·rw [if_pos e,if_pos (h1.symm.trans e)];exact ⟨h1,h2,ry⟩
  ·rw [if_neg e,if_neg (fun z=>e (h1.trans z))];exact ⟨h1,h2,h3⟩
theorem KT.put {H:Hp}{aW:List (List Key × V)}{xs:List (List Key × Addr × Value)}(r:KT H aW xs) (k:List Key) {b:Addr}{y:V}{u:Value}(hb:H b=some (.tup (k.map kV))) (ry:RelV y u) :
  KT H (putK aW k y) (storedH xs k b u):=by
 have e:(aW.any fun kv=>decide (kv.1=k))=(atKey xs k).isSome:=by
  rw [lM,(r.val k).fJ,CW]
 unfold putK storedH
 rw [e]
 by_cases q:(atKey xs k).isSome=true
 ·rw [if_pos q,if_pos q];exact r.Ug k ry
 ·rw [if_neg q,if_neg q];exact Paired.snoc r ⟨rfl,hb,ry⟩
theorem KT.keeps {H H':Hp}{aW:List (List Key × V)}{xs:List (List Key × Addr × Value)}(r:KT H aW xs) (ht:∀ b ys,H b=some (.tup ys)->H' b=some (.tup ys)):KT H' aW xs:=
 Paired.QM r fun _ _ z=>⟨z.1,ht _ _ z.2.1,z.2.2⟩
variable {a:Addr}{A:Around}{X:Cx}{H:Hp}{aa:c9}{s:Shared}{σ:St}{y:V}{u:Value}{E:Value->Shared->Prop}
section
variable {P:Program}{w:World}{h:Heap}
theorem PH {u:HO}(ok:ik P w H h) (e:Rd H a u):bO P w H h a u:=e.ok ok
theorem ED {aW:List (Key × V)}(ok:ik P w H h) (e:Rd H a (.dK aW)):aW.length<=sizeLine/\(a == sysModules)=false/\∃ vs,KV aW vs/\h.DictOf (b9 P w) a vs:=
 show bO P w H h a (.dK aW) from PH ok e
theorem abw {aW:List (Key × V)}(ok:ik P w H h) (e:H a=some (.dK aW)):aW.length<=sizeLine/\(a == sysModules)=false/\∃ vs,KV aW vs/\h.DictOf (b9 P w) a vs:=ED ok (.inl e)
theorem qk {ks:List Key}(ok:ik P w H h) (e:H a=some (.tup (ks.map kV))):(tupleKind (b9 P w)).is h ks a:=by
 obtain ⟨_,its,r,o,h1,h2,n,h3⟩:=(show bO P w H h a (.tup (ks.map kV)) from ok a _ e)
 exact ⟨o,its.toArray,n,h1,h2,h3,by simpa using oq r⟩
theorem EE {aW:List (List Key × V)}(ok:ik P w H h) (e:Rd H a (.dT aW)):aW.length<=sizeLine/\(a == sysModules)=false /\
  ∃ xs,KT H aW xs/\h.DictOfH (tupleKind (b9 P w)) a xs:=by
 obtain ⟨z,y,xs,r,o,es,ep,h1,h2,h3,h4,h5⟩:=(show bO P w H h a (.dT aW) from PH ok e)
 refine ⟨z,y,xs,r,o,es,ep,h1,h2,h3,h4,fun x hx=>?_,h5⟩
 have all:∀ {l:List (List Key × V)} {m:List (List Key × Addr × Value)},KT H l m->∀ x∈m,(tupleKind (b9 P w)).is h x.1 x.2.1:=by
  intro l m q
  induction q with
  | nil=>intro x hx;exact nomatch hx
  | @cons p q ps qs hq t ih=>
   intro x hx
   rcases fB.mp hx with e | hx
   ·subst e
    exact qk ok (by rw [<- hq.1];exact hq.2.1)
   ·exact ih x hx
 exact all r x hx
theorem abx {aW:List (List Key × V)}(ok:ik P w H h) (e:H a=some (.dT aW)):aW.length<=sizeLine/\(a == sysModules)=false /\
  ∃ xs,KT H aW xs/\h.DictOfH (tupleKind (b9 P w)) a xs:=EE ok (.inl e)
end
def EF (H:Hp) (a:Addr) (y:V) (r:Option V):Prop:=
 (∃ aW k,Rd H a (.dK aW)/\y=kV k/\r=jM aW k)\/∃ aW k b,Rd H a (.dT aW)/\y=.ref b/\H b=some (.tup (k.map kV))/\r=jM aW k
def Lm (H:Hp) (a:Addr) (y v:V) (H':Hp):Prop:=
 (∃ aW k,H a=some (.dK aW)/\y=kV k/\aW.length<sizeLine/\H'=upd H a (.dK (putK aW k v))) \/
 ∃ aW k b,H a=some (.dT aW)/\y=.ref b/\H b=some (.tup (k.map kV))/\aW.length<sizeLine/\H'=upd H a (.dT (putK aW k v))
theorem EF.k {H:Hp}{a:Addr}{aW:List (Key × V)}{k:Key}(e:H a=some (.dK aW)):EF H a (kV k) (jM aW k):=.inl ⟨aW,k,.inl e,rfl,rfl⟩
theorem Lm.k {H:Hp}{a:Addr}{aW:List (Key × V)}{k:Key}{v:V}(e:H a=some (.dK aW)) (hl:aW.length<sizeLine):Lm H a (kV k) v (upd H a (.dK (putK aW k v))):=.inl ⟨aW,k,e,rfl,hl,rfl⟩
section
variable {v:V}{r:Value}{o:Option V}
theorem Inv.big (I:Inv X aa σ H s):sysModules<s.heap.objs.size:=by
 have h:mainGlobals<s.heap.objs.size:=(I.mod.glob.keeps I.bk).lt
 exact Nat.lt_trans (by decide) h
theorem aeU {Q:Value->Shared->Prop}(hu:A.units+1<cLine) (I:Inv X aa σ H s) (g:EF H a y o) (ry:RelV y u) (h:∀ s',Inv X aa σ H s'->Q (.bool o.isSome) s') :
  wpAny (model X.prog X.w) A (compareOp .In u (.ref a)) Q E s:=by
 rcases g with ⟨aW,k,e,ey,l⟩ | ⟨aW,k,b,e,ey,eb,l⟩
 ·subst ey
  obtain ⟨z,hd,vs,rel,dd⟩:=ED I.bG e
  refine wpAny_in_of (yx ry) hd dd.mapOf ?_
  rw [<- (rel.val k).fJ,<- l]
  exact h _ (I.tok _)
 ·subst ey
  cases (show u=Value.ref b from ry)
  obtain ⟨z,hd,xs,rel,dd⟩:=EE I.bG e
  refine wpAny_in_heap (tupleKind_room_in1 hu) (qk I.bG eb) hd dd ?_
  have q:=(rel.val k).fJ
  rw [CW] at q
  rw [<- q,<- l]
  exact h _ (I.tok _)
theorem Ln {Q:Value->Shared->Prop}(hu:A.units+1<cLine) (I:Inv X aa σ H s) (g:EF H a y o) (ry:RelV y u) (h:∀ s',Inv X aa σ H s'->Q (.bool (!o.isSome)) s') :
  wpAny (model X.prog X.w) A (compareOp .NotIn u (.ref a)) Q E s:=by
 rcases g with ⟨aW,k,e,ey,l⟩ | ⟨aW,k,b,e,ey,eb,l⟩
 ·subst ey
  obtain ⟨z,hd,vs,rel,dd⟩:=ED I.bG e
  refine wpAny_notIn_of (yx ry) hd dd.mapOf ?_
  rw [<- (rel.val k).fJ,<- l]
  exact h _ (I.tok _)
 ·subst ey
  cases (show u=Value.ref b from ry)
  obtain ⟨z,hd,xs,rel,dd⟩:=EE I.bG e
  refine wpAny_notIn_heap (tupleKind_room_in1 hu) (qk I.bG eb) hd dd ?_
  have q:=(rel.val k).fJ
  rw [CW] at q
  rw [<- q,<- l]
  exact h _ (I.tok _)
theorem yy {h':Heap}{t':Nat}{ob:HO}(I:Inv X aa σ H s) (mu:W3 (H a)) (hs:Heap.SameBut a s.heap h') (he:∃ q,h'.get? a=some q) (new:bO X.prog X.w (upd H a ob) h' a ob) :
  Inv X aa σ (upd H a ob) { s with heap:=h',toks:=t' }:=
 I.write (x:=a) (e:=a) mu (.inl rfl) (fun b q hb z=>(hs.2 b hb).trans z) he new
theorem Uh {P:Program}{w:World}{H':Hp}{h':Heap}{aW:List (Key × V)}{vs:List (Key × Value)}(z:aW.length<=sizeLine) (hd:(a == sysModules)=false) (rel:KV aW vs) (dd:h'.DictOf (b9 P w) a vs) :
  bO P w H' h' a (.dK aW):=⟨z,hd,vs,rel,dd⟩
theorem Br {H':Hp}{Q:Unit->Shared->Prop}(hu:A.units+1<cLine) (I:Inv X aa σ H s) (g:Lm H a y v H') (ry:RelV y u) (rv:RelV v r) (h:∀ s',Inv X aa σ H' s'->Q () s') :
  wpAny (model X.prog X.w) A (setItem (.ref a) u r) Q E s:=by
 rcases g with ⟨aW,k,e,ey,l,eH⟩ | ⟨aW,k,b,e,ey,eb,l,eH⟩
 ·subst ey eH
  obtain ⟨z,hd,vs,rel,dd⟩:=abw I.bG e
  have hz:vs.length<=sizeLine:=by rw [<- rel.length];exact z
  have hl:(putK aW k v).length<=sizeLine:=by have:=ki aW k v;omega
  refine wpAny_setItem_pairs (hsz:=hz) (yx ry) dd fun h' dd' hs=>h _ ?_
  have he:∃ q,h'.get? a=some q:=let ⟨q,_,_,hq,_⟩:=dd';⟨q,hq⟩
  exact yy I (by rw [e];exact True.intro) hs he (Uh hl hd (rel.put k rv) dd')
 ·subst ey eH
  cases (show u=Value.ref b from ry)
  obtain ⟨z,hd,xs,rel,dd⟩:=abx I.bG e
  have hz:xs.length<=sizeLine:=by rw [<- Paired.length rel];exact z
  have hl:(putK aW k v).length<=sizeLine:=by have:=ki aW k v;omega
  refine wpAny_setItem_heap (hsz:=hz) (tupleKind_room_in1 hu) (qk I.bG eb) dd fun h' dd' hs=>h _ ?_
  obtain ⟨q,es,ep,hq,h2,h3,h4,_,h5⟩:=dd'
  refine yy I (by rw [e];exact True.intro) hs ⟨q,hq⟩ ⟨hl,hd,_,(rel.put k eb rv).keeps fun c ys ec=>?_,q,es,ep,hq,h2,h3,h4,h5⟩
  rw [ao (W2 ec e (fun z=>nomatch z))]
  exact ec
end
section
variable {aW:List (Key × V)}{k:Key}
end
def aby (td ty tv:TE):TS:=fun D σ H=>tv σ H fun v H1=>td σ H1 fun x H2=>ty σ H2 fun y H3=>∃ a H4,x=.ref a/\Lm H3 a y v H4/\D.nx σ H4
section
variable {o i e value:Expr}{pos cu ir:Pos}{td ty tv:TE}
theorem Lo (hu:X.A.units+1<cLine) (ho:PE X o td) (hi:PE X i ty) (hv:PE X value tv) (hs:swapsWith value (some (.Subscript o i cu)) pos.line X.env=pure false) :
  PS X (.Assign [.Subscript o i cu] value pos) (aby td ty tv):=by
 intro aa s σ H D I h
 refine wpAny_Assign_Subscript (b7 (hv aa s σ H _ I h) fun r s1 ⟨v,H1,I1,rv,q1⟩=>b7 (ho aa s1 σ H1 _ I1 q1) fun u s2 ⟨x,H2,I2,rx,q2⟩=>b7 (hi aa s2 σ H2 _ I2 q2) fun iv s3 ⟨y,H3,I3,ry,a,H4,ex,g,q3⟩=>?_) hs
 subst ex
 obtain rfl:u=Value.ref a:=rx
 exact Br hu I3 g ry rv fun s4 I4=>⟨σ,H4,I4,q3⟩
end
theorem EG {P:Program}{w:World}{H:Hp}(h:Heap) (hb:sysModules<h.objs.size):bO P w H (h.push { cls:=.type "dict", data:=.dict #[] }) h.objs.size (.dK []):=
 ⟨iI _,beq_eq_false_iff_ne.mpr (Ne.symm (dh hb)),[],.nil,Heap.DictOf.new h⟩
def Ui:TE:=fun _ H Q=>∀ p,H p=none->Q (.ref p) (upd H p (.dK []))
section
variable {pos:Pos}
theorem EH:PE X (.Dict [] [] pos) Ui:=fun aa s σ H Q I h=>
 wpAny_Dict_empty ⟨.ref s.heap.objs.size,_,I.laid (a:=s.heap.objs.size) (o:=.dK []) (t':=s.toks) (fun _ _ q=>Heap.get?_push_of_some _ q) (dU _) (EG s.heap I.big),rfl,h _ (I.bG.fresh (dU _))⟩
end
section
variable {d:V}{r:Value}{o:Option V}
end
section
variable {o e f:Expr}{cP cQ:Pos}{td ty tx:TE}
end
section
variable {aW:List (Key × V)}
end
section
end
end L2
namespace Pf
def gc:List Nat->List Nat->List Nat
 | seen,[]=>seen
 | seen,c::l=>gc (if c∈seen then seen else c::seen) l
end Pf
namespace L2
open PySem PySem.Spec PyProof.Rows
section
variable {prog:Program}{w:World}
def gD (seen:List Nat) (k:Str):Bool:=seen.any fun c=>decide (k=⟨#[c]⟩)
theorem iW {A:Around}{R:Result->Shared->Prop}{I S:Addr}{x:Str}{t:Tok}(hh:A.in1.handled=none) (gC:I≠S) (hb:x.cps.size+1<scanBound) :
  ∀ (l:List Nat) (i:Nat) (seen:List Nat) (s:Shared),x.cps.toList.drop i=l->seen.length<=i->i<=x.cps.size->s.heap.IsStrIter I "str_ascii_iterator" x t i->Heap.SetOf (strKind prog w) s.heap S (gD seen) seen.length ->
   (∀ (h':Heap) (tk:Nat),(∀ b o,b≠S->b≠I->s.heap.get? b=some o->h'.get? b=some o)->Heap.SetOf (strKind prog w) h' S (gD (Pf.gc seen l)) (Pf.gc seen l).length->R (.ok (.ret .none)) { s with heap:=h',toks:=tk }) ->
   codeAny (model prog w) A (Code.builtin "set.update.loop" { pos:=[.ref S,.ref I] }) R s
 | [],i,seen,s,hl,hsn,hi,hit,tF,h=>by
  refine codeAny_builtin F.entry_set_update_loop ?_
  rw [Around.under_plainId F.plain_set_update_loop]
  have hx:x.cps[i]?=none:=by
   have:=List.drop_eq_nil_iff.mp hl
   rw [Array.length_toList] at this
   exact Array.getElem?_eq_none (by omega)
  refine wpAny_bind (wpAny_pyNext_ascii_end hh hit hx fun h' he=>?_)
  refine wpAny_pure ?_
  refine h h' s.toks (fun b o _ hbI hg=>he b o hbI hg) ?_
  obtain ⟨o,es,ep,tb,e1,e2⟩:=tF
  exact ⟨o,es,ep,tb,he _ _ (Ne.symm gC) e1,e2⟩
 | c::l,i,seen,s,hl,hsn,hi,hit,tF,h=>by
  refine codeAny_builtin F.entry_set_update_loop ?_
  rw [Around.under_plainId F.plain_set_update_loop]
  have HD:x.cps.toList[i]?=some c:=by
   have:=congrArg (fun q=>q[0]?) hl
   simpa using this
  have hx:x.cps[i]?=some c:=by simpa using HD
  have fF:i<x.cps.size:=(Array.getElem?_eq_some_iff.mp hx).1
  refine wpAny_bind (wpAny_pyNext_ascii_item hit hx fun h1 aeV sb1=>?_)
  have abz:Heap.SetOf (strKind prog w) h1 S (gD seen) seen.length:=by
   obtain ⟨o,es,ep,tb,e1,e2⟩:=tF
   exact ⟨o,es,ep,tb,(sb1.2 S (Ne.symm gC)).trans e1,e2⟩
  refine wpAny_bind (wpAny_holding (wpAny_holding (wpAny_bind ((strKind prog w).pyHash (k:=⟨#[c]⟩) (strKind_is prog w ⟨#[c]⟩ _) ?_))))
  refine wpAny_setAddHashed_of (strKind_is prog w ⟨#[c]⟩ _) rfl abz (by omega) fun h2 sb2 abA=>?_
  refine wpAny_pure ⟨plainId_quiet F.plain_set_update_loop _,?_⟩
  have abB:gD seen ⟨#[c]⟩=decide (c∈seen):=by
   unfold gD
   rw [Ir]
   simp
  have aeW:h2.IsStrIter I "str_ascii_iterator" x t (i+1):=by
   obtain ⟨o,e1,e2⟩:=aeV
   exact ⟨o,(sb2.2 I gC).trans e1,e2⟩
  refine iW hh gC hb l (i+1) (if c∈seen then seen else c::seen) _ ?_ ?_ (by omega) aeW ?_ fun h' tk hk Ax=>?_
  ·have:=congrArg List.tail hl
   rw [List.tail_drop] at this
   exact this
  ·split
   ·omega
   ·simp;omega
  ·refine SetOf_congr abA (fun k=>?_) ?_
   ·by_cases hc:c∈seen
    ·rw [if_pos hc]
     unfold gD
     rw [Ir]
     simp only [CM,Cp,decide_eq_true_eq]
     constructor
     ·rintro (z | z)
      ·exact z
      ·exact ⟨c,hc,z⟩
     ·exact fun z=>.inl z
    ·rw [if_neg hc]
     unfold gD
     rw [kG,Bool.or_comm]
   ·rw [abB]
    by_cases hc:c∈seen
    ·rw [decide_eq_true hc,if_pos rfl,if_pos hc]
    ·rw [decide_eq_false hc,if_neg d_,if_neg hc];rfl
  ·exact h h' tk (fun b o hbS hbI hg=>hk b o hbS hbI ((sb2.2 b hbS).trans ((sb1.2 b hbI).trans hg))) Ax
theorem qm {A:Around}{E:Value->Shared->Prop}{s:Shared}{x:Str}{t:Tok}{Q:Value->Shared->Prop}(hh:A.handled=none) (ha:x.cps.all (· < 128)=true) (hb:x.cps.size+1<scanBound)
  (h:∀ h' tk,(∀ b o,s.heap.get? b=some o->h'.get? b=some o)->Heap.SetOf (strKind prog w) h' s.heap.objs.size (gD (Pf.gc [] x.cps.toList)) (Pf.gc [] x.cps.toList).length->Q (.ref s.heap.objs.size) { s with heap:=h',toks:=tk }) :
  wpAny (model prog w) A (call (.type "set") [.str x t]) Q E s:=by
 obtain ⟨hp,g,d,tk0,os⟩:=s
 obtain ⟨c,tl,hm⟩:=F.called_set.mro
 refine wpAny_call (codeAny_of_tree ?_)
 refine wpAny_pure ⟨Code.quiet_builtin _ (by decide +kernel),codeAny_builtin F.entry_type_call ?_⟩
 rw [Around.under_plain (weight_type_call_type _ _ _) rfl]
 unfold Builtin.«type.__call__»
 dsimp only
 refine wpAny_ite_false ?_ ?_
 ·rw [F.called_set.notType];rfl
 refine wpAny_ite_false ?_ ?_
 ·rw [F.called_set.canCreate];rfl
 refine wpAny_bind (wpAny_of_eq (F.typeCall_set_1 _) ?_)
 refine wpAny_bind (wpAny_of_eq hm ?_)
 refine wpAny_ite_false rfl ?_
 refine wpAny_bind (wpAny_of_eq F.called_set.made ?_)
 refine wpAny_bind (wpAny_pure ?_)
 refine wpAny_bind (wpAny_holding (wpAny_call (codeAny_mono (code_set_new_1 (E:=fun _ _=>False) (Q₁:=fun v s'=>∃ led,v=.ref hp.objs.size/\s'=⟨hp.push { cls:=.type "set", data:=.set #[] 0 (SetTable.fresh 0 0 led) },g,d,tk0,os⟩) (.str x t) fun led=>⟨led,rfl,rfl⟩) ?_)))
 intro r s1 hr
 cases r with
 | error e=>exact hr.elim
 | ok f=>
  cases f with
  | next=>exact hr.elim
  | brk=>exact hr.elim
  | cont=>exact hr.elim
  | ret v=>
   obtain ⟨led,rfl,rfl⟩:=hr
   have hg:=Heap.get?_push_size hp (o:={ cls:=.type "set", data:=.set #[] 0 (SetTable.fresh 0 0 led) }) rfl
   have hT:Shared.TypeIs ⟨hp.push { cls:=.type "set", data:=.set #[] 0 (SetTable.fresh 0 0 led) },g,d,tk0,os⟩ (.ref hp.objs.size) "set" := ⟨_,hg,rfl⟩
   refine wpAny_bind (wpAny_isInstance hT F.called_set.sub ?_)
   refine wpAny_ite_false rfl ?_
   refine wpAny_bind (wpAny_holding ?_)
   unfold callSpecial?
   refine wpAny_bind (wpAny_specialOf hT F.called_set.init.lookup ?_)
   dsimp only
   refine wpAny_holding (wpAny_bind (wpAny_of_eq (F.called_set.init.bind _) ?_))
   dsimp only
   refine wpAny_bind (wpAny_call (codeAny_call_builtin F.called_set.init.plain F.entry_set_init (check_set_init_1 hT ?_)))
   have afT:=F.sub_str_set
   have afU:=F.sub_str_frozenset
   wp_walk using wpAny_pyIter_ascii ha
   have hz:(hp.push { cls:=.type "set", data:=.set #[] 0 (SetTable.fresh 0 0 led) }).objs.size=hp.objs.size+1:=Heap.size_push ..
   refine iW (A:=A.in1.in1) (x:=x) (t:=t) (show A.in1.in1.in1.handled=none from hh) ?_ hb x.cps.toList 0 [] _ Ac (iI _) (iI _) ?_ ?_ fun h' tk hk hs=>?_
   ·show (hp.push _).objs.size≠hp.objs.size
    rw [hz];omega
   ·exact ⟨_,Heap.get?_push_size _ rfl,rfl,rfl⟩
   ·refine SetOf_congr ((setObjOf_fresh led).setOf (Heap.get?_push_of_some _ hg) (by decide)) (fun _=>rfl) rfl
   ·refine wpAny_pure (wpAny_pure (wpAny_pure (wpAny_ite_false rfl (wpAny_pure ?_))))
    refine h h' tk (fun b o EI=>?_) hs
    have fF:b<hp.objs.size:=Heap.lt_size EI
    refine hk b o (dh fF) ?_ (Heap.get?_push_of_some _ (Heap.get?_push_of_some _ EI))
    show b≠(hp.push _).objs.size
    rw [hz];exact dh (C3 fF)
end
section
variable {X:Cx}{a:Expr}{p p1 pos kK:Pos}{ta:TE}
theorem Bs (hc:X.calm=true) (hml:X.mg "len" = none) (hms:X.mg "set" = none) (ha:PE X a ta) (hgl:Gl X "len" := by rfl) (hgs:Gl X "set" := by rfl)
  (hs:starEach [a] X.env=(false,eval a X.env)::starEach [] X.env:=by rfl) (hpl:(backTo kK (starEach [] X.env)).any (·.1)=false:=by rfl)
  (vK:starEach [.Call (.Name "set" p1) [a] [] kK] X.env=(false,eval (.Call (.Name "set" p1) [a] [] kK) X.env)::starEach [] X.env:=by rfl) (aeX:(backTo pos (starEach [] X.env)).any (·.1)=false:=by rfl) :
  PE X (.Call (.Name "len" p) [.Call (.Name "set" p1) [a] [] kK] [] pos) (fun σ H Q=>ta σ H fun v H1=>∃ z:Str,v=.str z/\z.cps.all (· < 128)=true/\z.cps.size+1<scanBound/\Q (.int ((Pf.gc [] z.cps.toList).length:Nat)) H1):=by
 intro aa s σ H Q I h
 have inner:wpAny (model X.prog X.w) X.A (eval (.Call (.Name "set" p1) [a] [] kK) X.env) (fun u s'=>∃ (D:Addr) (n:Nat) (S:Str->Bool) (H1:Hp),u=.ref D/\Inv X aa σ H1 s'/\Heap.SetOf (strKind X.prog X.w) s'.heap D S n/\n<scanBound/\Q (.int (n:Nat)) H1) X.xe s:=by
  have hA:=(bj ha cZ hs) kK aa s σ H (fun vs H1=>∃ z:Str,vs=[.str z]/\z.cps.all (· < 128)=true/\z.cps.size+1<scanBound/\Q (.int ((Pf.gc [] z.cps.toList).length:Nat)) H1) I (by
   show ta σ H _
   exact cast (congrArg (ta σ H) (funext fun v=>funext fun H1=>propext ⟨fun ⟨z,e,q⟩=>⟨z,by rw [e],q⟩,fun ⟨z,e,q⟩=>⟨z,(by cases e;rfl),q⟩⟩)) h)
  refine wpAny_Call_Name_kw (il I hgs hms PyProof.Rows.boot_set (C7 (b7 hA fun us s1 ⟨vs,H1,I1,r1,q1⟩=>?_) hs hpl))
  obtain ⟨z,rfl,hz1,hz2,q⟩:=q1
  obtain ⟨u,rfl,⟨t,rfl⟩⟩:=r1.one
  refine qm (I1.ok.hd hc) hz1 hz2 fun h' tk hk tF=>?_
  have fF:(Pf.gc [] z.cps.toList).length<scanBound:=by
   obtain ⟨o,es,ep,tb,_,_,_,_,_,e6,_,e8⟩:=tF
   omega
  exact ⟨_,_,_,H1,rfl,I1.kept (t':=tk) hk,tF,fF,q⟩
 refine wpAny_Call_Name_kw (il I hgl hml PySem.boot_len (N4 ?_ vK aeX))
 rw [vK]
 refine Calls.spliced_cons (b7 inner fun u s1 zz=>?_)
 obtain ⟨D,n,S,H1,e,I1,tF,fF,q⟩:=zz
 subst e
 refine wpAny_pure ?_
 obtain ⟨o,es,ep,tb,e1,e2,e3,e4,e5,e6,e7,e8⟩:=tF
 have hsb:scanBound=4096:=rfl
 refine call_len_set e1 e2 e3 e7 (by omega) ⟨.int (n:Nat),H1,I1.kept (t':=s1.toks+1+1) (fun _ _ z=>z),⟨s1.toks+1,?_⟩,q⟩
 rw [e8]
end
end L2
namespace PySem
open Sem (wp)
open AutoSeq1 (wpAny_loadPart')
section
variable {prog:Program}{w:World}{A:Around}{E:Value->Shared->Prop}{s:Shared}
set_option maxHeartbeats 4000000 in
theorem gE (l:Addr) (items:Array Value) (n:Nat) (dO:Option Addr) (sl:Array (Option Value)) (t:Tok) :
  Meets (Builtin.«enumerate.__new__» ⟨[.type "enumerate", .ref l],[(Str.ofString "start", .int 1 t)]⟩) (fun _ R s=>s.heap.get? l=some { cls:=.type "list", dict:=dO,data:=.seq items n,slots:=sl } /\
   R (.ok (.ret (.ref (s.heap.push { cls:=.type "list_iterator", data:=.fields #[.ref l,.int 0 0] }).objs.size)))
    { s with heap:=(s.heap.push { cls:=.type "list_iterator", data:=.fields #[.ref l,.int 0 0] }).push { cls:=.type "enumerate", data:=.fields #[.none,.bool false,.ref s.heap.objs.size,rawInt 1,.none,.none] } }):=
 .of_wp fun prog w A R s h=>by
  obtain ⟨hp,g,d,tk,os⟩:=s;obtain ⟨hl,h⟩:=h
  have aeY:=sub_enumerate
  have hL:Heap.IsList (Shared.heap ⟨hp,g,d,tk,os⟩) l items:=⟨_,hl,rfl,n,rfl⟩
  wp_walk using wpAny_loadPart' hl
  refine wpAny_stack_any fun st=>wpAny_pure ?_
  split
  ·rename_i c _ _ _ _ _
   cases (c == Value.type "enumerate")
   ·wp_walk using wpAny_loadPart' hl,wpAny_pyIter_list hL
    exact ⟨_,rfl,h⟩
   ·wp_walk using wpAny_loadPart' hl,wpAny_pyIter_list hL
    exact ⟨_,rfl,h⟩
  ·wp_walk using wpAny_loadPart' hl,wpAny_pyIter_list hL
   exact ⟨_,rfl,h⟩
theorem iu {T newId:String}{self:Value}{rest:List Value}{kw:List (Str × Value)}(hl:typeLookup (.type T) "__init__" = pure (some (.builtin "object.__init__")))
  (hm:Bind.madeBy (.type T)=pure (some newId)) (gC:(some newId != some "object.__new__")=true) :
  Meets (Builtin.«object.__init__» ⟨self::rest,kw⟩) (fun _ R s=>s.TypeIs self T/\R (.ok (.ret .none)) s):=by
 refine Meets.of_wp fun prog w A R s hs=>?_
 obtain ⟨hT,hq⟩:=hs
 cases rest with
 | nil=>
  cases kw with
  | nil=>exact wpAny_pure ⟨_,rfl,hq⟩
  | cons a kw=>
   repeat (any_goals (first | assumption | wp_step))
   exact ⟨_,rfl,hq⟩
 | cons a rest=>
  repeat (any_goals (first | assumption | wp_step))
  exact ⟨_,rfl,hq⟩
theorem gF (a b:Value):checkTypeCall "enumerate" ⟨[a],[(Str.ofString "start", b)]⟩=pure ():=by kernel_rfl
theorem gZ (a b:Value):checkBuiltinCall "enumerate.__new__" ⟨[.type "enumerate", a],[(Str.ofString "start", b)]⟩=pure ():=by kernel_rfl
theorem tG (o a b:Value):argsOk "object.__init__" ⟨[o,a],[(Str.ofString "start", b)]⟩:=by
 unfold argsOk;rw [signature?_of (id := "object.__init__") (n:=['_','_','t','i','n','i','_','_']) (o:=['t','c','e','j','b','o']) (by kernel_rfl) F.owner_object];kernel_rfl
set_option maxHeartbeats 4000000 in
theorem jN {l:Addr}{items:Array Value}{t:Tok}{Q:Value->Shared->Prop}(hL:s.heap.IsList l items)
  (h:∀ h',IsEnum h' (s.heap.objs.size+1) s.heap.objs.size 1 .none->h'.IsListIter s.heap.objs.size l 0->h'.objs.size=s.heap.objs.size+2 ->
   (∀ b o,s.heap.get? b=some o->h'.get? b=some o)->Q (.ref (s.heap.objs.size+1)) { s with heap:=h' }) :
  wpAny (model prog w) A (call (.type "enumerate") [.ref l] [(Str.ofString "start", .int 1 t)]) Q E s:=by
 obtain ⟨⟨c,dO,dt,sl⟩,hl,hc,n,hd⟩:=hL
 replace hc:c=.type "list" := hc
 replace hd:dt=.seq items n:=hd
 subst hc hd
 have ft:=F.called_enumerate
 obtain ⟨c,tl,afZ⟩:=ft.mro
 have afV:=ft.made
 have aeY:=ft.sub
 have hct:=gF (.ref l) (.int 1 t)
 have hcn:=gZ (.ref l) (.int 1 t)
 refine wpAny_call (codeAny_of_tree ?_)
 show wpAny _ _ (callAny (.type "enumerate") _) _ _ _
 refine wpAny_pure ⟨Code.quiet_builtin _ (by decide +kernel),codeAny_builtin F.entry_type_call ?_⟩
 rw [Around.under_plain (weight_type_call_type "enumerate" _ _) (units_type_call_type "enumerate" _ _)]
 have h1:=ft.notType
 have h2:=ft.canCreate
 repeat (any_goals (first | assumption | wp_step))
 have hz:(s.heap.push { cls:=.type "list_iterator", data:=.fields #[.ref l,.int 0 0] }).objs.size=s.heap.objs.size+1:=Heap.size_push ..
 have he:IsEnum ((s.heap.push { cls:=.type "list_iterator", data:=.fields #[.ref l,.int 0 0] }).push
   { cls:=.type "enumerate", data:=.fields #[.none,.bool false,.ref s.heap.objs.size,rawInt 1,.none,.none] }) (s.heap.objs.size+1) s.heap.objs.size 1 .none:=by
  have:=Heap.get?_push_size (s.heap.push { cls:=.type "list_iterator", data:=.fields #[.ref l,.int 0 0] })
   (o:={ cls:=.type "enumerate", data:=.fields #[.none,.bool false,.ref s.heap.objs.size,rawInt 1,.none,.none] }) rfl
  rw [hz] at this;exact this
 have fin:=h _ he ⟨_,Heap.get?_push_of_some _ (Heap.get?_push_size _ rfl),rfl,rfl⟩ (by rw [Heap.size_push,hz]) fun b o x=>Heap.get?_push_of_some _ (Heap.get?_push_of_some _ x)
 refine codeAny_mono (codeAny_call_builtin ft.plain F.entry_enumerate_new (wpAny_of_eq hcn (gE l items n dO sl t prog w A.in1 (wants (fun obj s₁=>s₁.TypeIs obj "enumerate" /\ Q obj s₁) E) s ⟨hl,?_⟩))) fun r s₁ hr=>?_
 ·show _/\_
  rw [hz]
  exact ⟨⟨_,he,rfl⟩,fin⟩
 cases r with
 | error e=>exact hr
 | ok fl=>
  cases fl with
  | ret obj=>
   obtain ⟨hT,hq⟩:=hr
   have hli:=ft.init.lookup
   have hbi:=ft.init.bind obj
   repeat (any_goals (first | assumption | wp_step))
   refine codeAny_mono (codeAny_call_builtin ft.init.plain F.entry_object_init (ft.init.check _ _ _ _ _ _ _ _ hT (tG _ _ _) (iu ft.init.lookup ft.made (by decide) prog w A.in1 (wants (fun r s₂=>r=.none/\Q obj s₂) E) s₁ ⟨hT,rfl,hq⟩))) fun r₂ s₂ hr₂=>?_
   cases r₂ with
   | error e=>exact hr₂
   | ok fl₂=>
    cases fl₂ with
    | ret r=>
     obtain ⟨rfl,hq⟩:=hr₂
     repeat (any_goals (first | assumption | wp_step))
    | _=>exact hr₂.elim
  | _=>exact hr.elim
end
end PySem
namespace L2
open PySem PySem.Spec PyProof.Rows
theorem EJ {prog:Program}{w:World}{A:Around}{it:Addr}{fp:List Addr}{n:Nat}{P:Nat->Value->Prop}{St:Nat->Heap->Prop}(D:Draws prog w A it fp n P St) (m:Nat):Draws prog w A it fp (m+n) (fun j x=>∃ i,j=m+i/\P i x) (fun j h=>∃ i,j=m+i/\St i h) where
 live:=fun _ h ⟨i,_,st⟩=>D.live i h st
 frame:=fun _ h h' ⟨i,e,st⟩ k=>⟨i,e,D.frame i h h' st k⟩
 item:=fun j s Q E hj ⟨i,e,st⟩ hQ=>D.item i s Q E (by omega) st fun x h' tk p Dk sb=>hQ x h' tk ⟨i,e,p⟩ ⟨i+1,by omega,Dk⟩ sb
 done:=fun s Q E ⟨i,e,st⟩ hE=>by
  have:i=n:=by omega
  subst this
  exact D.done s Q E st hE
def abC (K:bg) (m:Nat) (l:Addr) (xs:List V):It:=
 ⟨fun i H=>i<xs.length/\cY K H l xs,fun i H v H'=>∃ p x,H p=none/\xs[i]?=some x/\v=.ref p/\H'=upd H p (.tup [.int ((m+i:Nat):Int),x]),fun i H=>i=xs.length/\cY K H l xs⟩
theorem lN {P:Program}{w:World}{K:bg}{elts:List Expr}{x1:Nat}{pos:Pos}{l e it:Addr}{xs:List V}{m:Nat}(hei:e≠it) (hle:l≠e) (hli:l≠it) :
  Turn P w K (.Tuple elts x1 pos) (abC K m l xs) [e,it] e (fun i h=>(∃ old,IsEnum h e it ((m+i:Nat):Int) old)/\h.IsListIter it l i) where
 mem:=by simp
 obj:=fun i h st b hb=>by
  obtain ⟨⟨old,he⟩,o1,e1,_,d1⟩:=st
  simp only [fB,jG,or_false] at hb
  rcases hb with rfl | rfl
  ·exact ⟨_,he,fun v q=>by cases q⟩
  ·exact ⟨o1,e1,fun v q=>by rw [d1] at q;cases q⟩
 keep:=fun i h h' st k=>by
  obtain ⟨⟨old,he⟩,h1⟩:=st
  exact ⟨⟨old,k e (by simp) _ he⟩,h1.at fun o q=>k it (by simp) o q⟩
 item:=by
  intro X hP hw hK hc i aa s σ H E I hf st hg
  subst hP hw hK
  obtain ⟨hi,hq⟩:=hg
  obtain ⟨⟨old,he⟩,h1⟩:=st
  obtain ⟨its,rv,pl,hsz⟩:=I.list hq
  obtain ⟨u,hu,ru⟩:=rv.get (cX hi)
  have hil:i<its.toArray.size:=by rw [bQ,<- rv.length];exact hi
  have D:=EJ (Draws.list (prog:=X.prog) (w:=X.w) (A:=X.A.in1) (I.ok.hd hc) it l hli its.toArray) m
  refine wpAny_pyNext_enum_itemD (n:=m+its.toArray.size) D he ⟨i,rfl,h1,pl.isList⟩ (by omega) hei (by simp only [fB,jG,or_false,not_or];exact ⟨hei,Ne.symm hle⟩) fun x h' tk px a1 a2 a3 a4 kk=>?_
  obtain ⟨i',ei,px⟩:=px
  have:i'=i:=by omega
  subst this
  have hx:x=u:=by
   rw [List.getElem?_toArray,hu] at px
   exact (nC.inj px).symm
  subst hx
  obtain ⟨i2,ei2,a2,_⟩:=a2
  have:i2=i'+1:=by omega
  subst this
  refine ⟨.ref s.heap.objs.size,rfl,?_⟩
  refine wpAny_letOwnedTupleGo_enum (s:={ s with heap:=h',toks:=tk+1 }) a1 fun HW b1 b2=>?_
  have lt:∀ {d o},s.heap.get? d=some o->s.heap.objs.size≠d:=fun e=>Iv (Heap.lt_size e)
  have fpn:∀ b∈[e,it],s.heap.objs.size≠b:=fun b hb=>by
   obtain ⟨o1,e1,_⟩:=h1
   simp only [fB,jG,or_false] at hb
   rcases hb with rfl | rfl
   ·exact lt he
   ·exact lt e1
  have keep:∀ b o,b ∉ [e,it]->s.heap.get? b=some o->HW.get? b=some o:=fun b o hb q=>by
   simp only [fB,jG,or_false,not_or] at hb
   exact (b2.2 b hb.1).trans (kk b o hb.1 hb.2 q)
  have hn:H s.heap.objs.size=none:=I.bG.fresh (dU _)
  have hT:HW.get? s.heap.objs.size=some { cls:=.type "tuple", data:=.seq #[.int ((m+i':Nat):Int) tk,x] }:=(b2.2 _ (lt he)).trans a3
  have abD:IsTup HW s.heap.objs.size ([.int ((m+i':Nat):Int) tk,x]:List Value).toArray:=⟨_,hT,rfl,0,rfl⟩
  have nfp:∀ b v,H b=some v->b ∉ [e,it]:=fun b v q hb=>by rw [(hf b hb).1] at q;cases q
  have I1:Inv X aa σ (upd H s.heap.objs.size (.tup [.int ((m+i':Nat):Int),xs[i']])) { s with heap:=HW,toks:=tk+1 }:=by
   refine I.step (g':=s.gens) (d':=s.drawn) (t':=tk+1) (ch:=[e,it]) (fun b hb=>⟨(hf b hb).2.2.2.1,(hf b hb).2.1,(hf b hb).2.2.2.2.1,(hf b hb).2.2.2.2.2⟩) (fun b o _ _ hb e _=>keep b o hb e) (fun b o _ _ hb e _=>⟨o.slots,keep b o hb e⟩)
    (fun b o hb e n=>by rw [ao (Ne.symm (lt e))];exact n) (fun b o hb e=>⟨o,keep b o hb e⟩) (fun b ys e=>by rw [ao (aM e hn)];exact e) (fun b o v e=>by rw [ao (aM e hn)];exact e)
    (fun b ps e=>⟨#[],by rw [ao (aM e hn),e];simp⟩) (fun m hm=>?_) ?_ I.bare
   ·obtain ⟨o,es,ep,ho,r⟩:=hm
    exact ⟨o,es,ep,keep _ o (fun hb=>(hf _ hb).2.1 rfl) ho,r⟩
   ·intro b v e
    by_cases hb:b=s.heap.objs.size
    ·subst hb
     rw [ak] at e
     cases e
     exact ⟨by show 2<=sizeLine;decide,_,.cons ⟨_,rfl⟩ (.cons ru .nil),abD⟩
    ·rw [ao hb] at e
     refine (I.bG b v e).pC (fun c o hc q=>keep c o ?_ q) (fun c q=>by rw [ao (aM q hn)];exact q) fun c ys q=>by rw [ao (aM q hn)];exact q
     rcases hc with rfl | hc
     ·exact nfp c v e
     ·exact nfp c _ hc
  have eN:((m+i':Nat):Int)+1=((m+(i'+1):Nat):Int):=by omega
  refine ⟨.ref s.heap.objs.size,_,I1,rfl,⟨_,_,hn,cX hi,rfl,rfl⟩,⟨⟨x,eN ▸ b1⟩,a2.at fun o q=>(b2.2 it hei.symm).trans q⟩,fun b hb=>?_⟩
  rw [ao (Ne.symm (fpn b hb))];exact (hf b hb).1
 done:=by
  intro X hP hw hK hc i aa s σ H E I hf st hg
  subst hP hw hK
  obtain ⟨hi,hq⟩:=hg
  obtain ⟨⟨old,he⟩,h1⟩:=st
  obtain ⟨its,rv,pl,hsz⟩:=I.list hq
  have hl:=rv.length
  have D:=EJ (Draws.list (prog:=X.prog) (w:=X.w) (A:=X.A.in1) (I.ok.hd hc) it l hli its.toArray) m
  refine wpAny_pyNext_enum_endD (n:=m+its.toArray.size) D he ⟨i,by rw [bQ];omega,h1,pl.isList⟩ fun h' kk=>⟨rfl,?_⟩
  have nfp:∀ b v,H b=some v->b ∉ [e,it]:=fun b v q hb=>by rw [(hf b hb).1] at q;cases q
  have keep:∀ b o,b ∉ [e,it]->s.heap.get? b=some o->h'.get? b=some o:=fun b o hb q=>by
   simp only [fB,jG,or_false,not_or] at hb
   exact kk b o hb.2 q
  refine I.step (g':=s.gens) (d':=s.drawn) (t':=s.toks) (ch:=[e,it]) (fun b hb=>⟨(hf b hb).2.2.2.1,(hf b hb).2.1,(hf b hb).2.2.2.2.1,(hf b hb).2.2.2.2.2⟩) (fun b o _ _ hb e _=>keep b o hb e) (fun b o _ _ hb e _=>⟨o.slots,keep b o hb e⟩)
   (fun b o hb e n=>n) (fun b o hb e=>⟨o,keep b o hb e⟩) (fun _ _ e=>e) (fun _ _ _ e=>e) (fun b ps e=>⟨#[],by rw [e];simp⟩) (fun m hm=>?_) (fun b v e=>?_) I.bare
  ·obtain ⟨o,es,ep,ho,r⟩:=hm
   exact ⟨o,es,ep,keep _ o (fun hb=>(hf _ hb).2.1 rfl) ho,r⟩
  ·refine (I.bG b v e).pC (fun c o hc q=>keep c o ?_ q) (fun _ q=>q) fun _ _ q=>q
   rcases hc with rfl | hc
   ·exact nfp c v e
   ·exact nfp c _ hc
 self:=fun _ _ _ _ _ st h=>by obtain ⟨⟨old,he⟩,_⟩:=st;exact wpAny_pyIter_enum he h
section
variable {X:Cx}
def Uj (K:bg) (m:Nat) (ta:TA):TI:=fun σ H R=>ta σ H fun vs H1=>∃ l xs,vs=[.ref l]/\cY K H1 l xs/\R (abC K m l xs) H1
theorem abE {a:Expr}{ta:TA}{elts:List Expr}{x1:Nat}{ir p pos:Pos}(hg:Gl X "enumerate") (hm:X.mg "enumerate" = none) (ha:PA X [a] ta) (hs:starEach [a] X.env=[(false,eval a X.env)]) :
  PI X (.Tuple elts x1 ir) (.Call (.Name "enumerate" p) [a] [] pos) (Uj X.K 0 ta):=by
 intro aa s σ H R I h
 refine Call_ (il I hg hm N7 (C7 (b7 (ha pos aa s σ H _ I h) fun us s1 ⟨vs,H1,I1,r1,q1⟩=>?_) (by rw [hs];rfl) rfl))
 obtain ⟨l,xs,e,hq,q⟩:=q1
 subst e
 obtain ⟨u,rfl,rx⟩:=vals1 r1
 cases rx
 obtain ⟨its,rv,pl,hz⟩:=I1.list hq
 refine call_enumerate_list pl.isList fun h' a1 a2 _ kk=>wpAny_pyIter_enum (s:={ s1 with heap:=h' }) a1 ?_
 have ll:l<s1.heap.objs.size:=let ⟨_,e,_⟩:=pl.isList;Heap.lt_size e
 refine ⟨s1.heap.objs.size+1,_,_,_,H1,rfl,I1.kept (t':=s1.toks) kk,lN (l:=l) (it:=s1.heap.objs.size) (Iv (Ad _)) (dh (C3 ll)) (dh ll),⟨⟨_,a1⟩,a2⟩,fun b hb=>?_,q⟩
 have EI:s1.heap.objs.size<=b:=by
  simp only [fB,jG,or_false] at hb
  rcases hb with rfl | rfl
  ·exact CY _ _
  ·exact dU _
 exact I1.Ah EI (I1.bG.fresh EI)
theorem Uk {a:Expr}{ta:TA}{elts:List Expr}{x1 k1:Nat}{ir p pos p1 kp:Pos}(hg:Gl X "enumerate") (hm:X.mg "enumerate" = none) (ha:PA X [a] ta) (hs:starEach [a] X.env=[(false,eval a X.env)]) :
  PI X (.Tuple elts x1 ir) (.Call (.Name "enumerate" p) [a] [⟨some (Str.ofString "start"),.Constant (.int 1) k1 p1,kp⟩] pos) (Uj X.K 1 ta):=by
 intro aa s σ H R I h
 refine wpAny_Call_Name_kw (il I hg hm N7 ?_)
 refine PySem.W.callWith_of (P:=fun _=>True) (by rw [hs];rfl) (fun h _=>⟨.machine,.inr (.inl rfl),.now⟩) ?_
 refine PyProof.Rows.evalArgs_kw2 rfl (b7 (ha pos aa s σ H _ I h) fun us s1 ⟨vs,H1,I1,r1,q1⟩=>?_) hs
 show wpAny _ _ (evalAll [(do let v <- eval (.Constant (.int 1) k1 p1) X.env;standAt pos;pure v)]) _ _ s1
 refine wpAny_evalAll_cons (wpAny_bind (wpAny_Constant_int (wpAny_bind (wpAny_standAt (wpAny_pure (wpAny_evalAll_nil ⟨trivial,?_⟩))))))
 obtain ⟨l,xs,e,hq,q⟩:=q1
 subst e
 obtain ⟨u,rfl,rx⟩:=vals1 r1
 cases rx
 have I2:Inv X aa σ H1 { s1 with toks:=s1.toks+1 }:=I1.tok _
 obtain ⟨its,rv,pl,hz⟩:=I2.list hq
 show wpAny _ _ (call (.type "enumerate") [.ref l] [(Str.ofString "start", .int 1 s1.toks)]) _ _ { s1 with toks:=s1.toks+1 }
 refine jN pl.isList fun h' a1 a2 _ kk=>wpAny_pyIter_enum (s:={ s1 with heap:=h',toks:=s1.toks+1 }) a1 ?_
 have ll:l<s1.heap.objs.size:=let ⟨_,e,_⟩:=pl.isList;Heap.lt_size e
 refine ⟨s1.heap.objs.size+1,_,_,_,H1,rfl,I2.kept (t':=s1.toks+1) kk,lN (m:=1) (l:=l) (it:=s1.heap.objs.size) (Iv (Ad _)) (dh (C3 ll)) (dh ll),⟨⟨_,a1⟩,a2⟩,fun b hb=>?_,q⟩
 have EI:s1.heap.objs.size<=b:=by
  simp only [fB,jG,or_false] at hb
  rcases hb with rfl | rfl
  ·exact CY _ _
  ·exact dU _
 exact I2.Ah EI (I2.bG.fresh EI)
end
end L2
namespace D
inductive Ky where
 | i (n:Int) | s (l:List Nat)
 deriving DecidableEq
inductive T where
 | non | bl (b:Bool) | int (i:Int) | str (l:List Nat) | tup (xs:List T) | lst (xs:List T)
 | scr (ns:List Int)
 | obj (c:Nat) (fs:List T)
 | own (k:Nat)
 | dO (ks:List Ky) (vs:List T)
inductive C where
 | val (t:T) | ol (ts:List T) | od (ks:List Ky) (vs:List T)
 | yg (t:T)
structure Ob where
 c:Nat
 fs:List C
structure S where
 r:List (Option C)
 m:List Ob
inductive Res (α:Type) where
 | ok (a:α) | bad
 | exc (c:Nat) (fs:List T) (s:S)
noncomputable def Res.bind {α β:Type}(x:Res α) (f:α->Res β):Res β:=match x with
 | .ok a=>f a
 | .bad=>.bad
 | .exc c fs s=>.exc c fs s
theorem af {α β:Type}{x:Res α}{f:α->Res β}{b:β}(h:x.bind f=.ok b):∃ a,x=.ok a/\f a=.ok b:=by
 cases x with
 | ok a=>exact ⟨a,rfl,h⟩
 | bad=>cases h
 | exc c fs s=>cases h
noncomputable def cT {α:Type}:Option α->Res α
 | some a=>.ok a
 | none=>.bad
theorem au {α:Type}{o:Option α}{a:α}(h:cT o=.ok a):o=some a:=by
 cases o with
 | none=>cases h
 | some b=>cases h;rfl
noncomputable def gd {α:Type}(p:Prop) [Decidable p] (x:α):Option α:=if p then some x else none
theorem bH {α:Type}{p:Prop} [Decidable p] {x a:α}(h:gd p x=some a):p/\x=a:=by
 unfold gd at h
 split at h
 ·rename_i q;cases h;exact ⟨q,rfl⟩
 ·cases h
abbrev FE:=S->Res (T × S)
abbrev FT:=S->Res (Bool × S)
abbrev FL:=S->Res (List T × S)
inductive Out where
 | nx | rt (t:T) | bk | ct
abbrev FS:=S->Res (Out × S)
abbrev Fn:=List T->List Ob->Res (T × List Ob)
def abF:T->T->Option T
 | .int i,.int j=>some (.int (i+j))
 | .str a,.str b=>gd (a.length+b.length<=1000000) (.str (a++b))
 | .lst a,.lst b=>gd (a.length+b.length<=1000000) (.lst (a++b))
 | _,_=>none
def abG:T->T->Option T
 | .int i,.int j=>gd (((-(2 ^ 64)<i/\i<2 ^ 64)\/(-(2 ^ 64)<j/\j<2 ^ 64))\/(i.natAbs.log2<2000000/\j.natAbs.log2<2000000)) (.int (i*j))
 | .lst a,.int k=>gd (k<1000000/\-1000000<k/\a.length*k.toNat<=1000000) (.lst (dJ k.toNat a).flatten)
 | .str a,.int k=>gd (2<=k/\k<1000000/\a≠[]/\a.length*k.toNat<=1000000) (.str (dJ k.toNat a).flatten)
 | _,_=>none
def abH:T->T->Option T
 | .int i,.int j=>gd (0<j/\j<1073741824) (.int (i/j))
 | _,_=>none
def abI:T->T->Option T
 | .int i,.int j=>gd (0<j) (.int (i % j))
 | _,_=>none
def nL:T->Option T
 | .int i=>some (.int (-i))
 | _=>none
def EK (f:Int->Int->Bool):T->T->Option T
 | .int i,.int j=>some (.bl (f i j))
 | _,_=>none
mutual
noncomputable def eqT:T->T->Bool
 | .non,.non=>true
 | .bl a,.bl b=>a == b
 | .int a,.int b=>decide (a=b)
 | .bl a,.int b=>decide ((if a then 1 else 0:Int)=b)
 | .int a,.bl b=>decide (a=(if b then 1 else 0:Int))
 | .str a,.str b=>decide (a=b)
 | .tup a,.tup b=>gG a b
 | .lst a,.lst b=>gG a b
 | .scr a,.scr b=>decide (a=b)
 | .obj c a,.obj d b=>decide (c=d)&&gG a b
 | .own a,.own b=>decide (a=b)
 | .dO ks a,.dO ls b=>decide (ks=ls)&&gG a b
 | _,_=>false
noncomputable def gG:List T->List T->Bool
 | [],[]=>true
 | a::as,b::bs=>eqT a b&&gG as bs
 | _,_=>false
end
mutual
theorem tH:∀ t:T,eqT t t=true
 | .non=>rfl
 | .bl b=>by cases b<;>rfl
 | .int i=>decide_eq_true rfl
 | .str l=>decide_eq_true rfl
 | .tup xs=>fK xs
 | .lst xs=>fK xs
 | .scr ns=>decide_eq_true rfl
 | .obj c xs=>by
  show (decide (c=c)&&gG xs xs)=true
  rw [decide_eq_true rfl,fK xs];rfl
 | .own k=>decide_eq_true rfl
 | .dO ks xs=>by
  show (decide (ks=ks)&&gG xs xs)=true
  rw [decide_eq_true rfl,fK xs];rfl
theorem fK:∀ ts:List T,gG ts ts=true
 | []=>rfl
 | t::ts=>by
  show (eqT t t&&gG ts ts)=true
  rw [tH t,fK ts];rfl
end
def bI:T->Bool
 | .bl _=>true
 | .int _=>true
 | .str _=>true
 | .non=>true
 | _=>false
def all2 (p:T->T->Bool):List T->List T->Bool
 | a::as,b::bs=>p a b&&all2 p as bs
 | _,_=>true
def shape:Nat->T->T->Bool
 | n+1,.tup as,.tup bs=>all2 (shape n) as bs
 | n+1,.lst as,.lst bs=>all2 (shape n) as bs
 | _,a,b=>bI a&&bI b
def eqD:T->T->Option T:=fun a b=>gd (shape 5 a b=true) (.bl (eqT a b))
def neD:T->T->Option T:=fun a b=>gd (shape 5 a b=true) (.bl (!eqT a b))
def Ul:T->Bool
 | .non=>true
 | _=>false
def qo (x:T):T->Option T
 | .non=>some (.bl (Ul x))
 | .bl b=>(match x with
  | .bl a=>some (.bl (a == b))
  | _=>none)
 | _=>none
def Um:T->T->Option Bool
 | .str [c],.str l=>some (decide (c∈l))
 | x,.tup ys=>gd (bI x=true/\ys.all bI=true) (ys.any fun y=>eqT y x)
 | x,.lst ys=>gd (bI x=true/\ys.all bI=true) (ys.any fun y=>eqT y x)
 | _,_=>none
def inD:T->T->Option T:=fun x y=>(Um x y).map .bl
def Uo:T->T->Option T:=fun x y=>(Um x y).map fun b=>.bl (!b)
noncomputable def atT {α:Type}(xs:List α) (i:Int):Option α:=if 0<=i then (if i<xs.length then xs[i.toNat]? else none) else if -(xs.length:Int)<=i then xs[(i+xs.length).toNat]? else none
def abJ (ks:List Ky) (vs:List T) (k:Ky):Option T:=match ks,vs with
 | a::ks,v::vs=>if a=k then some v else abJ ks vs k
 | _,_=>none
def putK:List Ky->List T->Ky->T->List Ky × List T
 | a::ks,v::vs,k,t=>if a=k then (a::ks,t::vs) else let p:=putK ks vs k t;(a::p.1,v::p.2)
 | _,_,k,t=>([k],[t])
def EL:T->Option Ky
 | .int i=>some (.i i)
 | .str l=>some (.s l)
 | _=>none
def ixD:T->T->Option T
 | .lst xs,.int i=>atT xs i
 | .tup xs,.int i=>atT xs i
 | .str l,.int i=>(atT l i).map fun c=>.str [c]
 | .scr ns,.int i=>(atT ns i).map .int
 | .dO ks vs,x=>(EL x).bind (abJ ks vs)
 | _,_=>none
def gH:T->Option T
 | .str l=>some (.int l.length)
 | .tup xs=>some (.int xs.length)
 | .lst xs=>some (.int xs.length)
 | .scr ns=>some (.int ns.length)
 | .dO ks _=>some (.int ks.length)
 | _=>none
def dX (n d:Nat):Option Int->Nat
 | none=>d
 | some v=>if v<0 then (v+(n:Int)).toNat else min v.toNat n
noncomputable def ba {α:Type}(xs:List α) (lo hi:Option Int):List α:=(xs.drop (dX xs.length 0 lo)).take (dX xs.length xs.length hi-dX xs.length 0 lo)
def rB (lo hi:Option Int):T->Option T
 | .str l=>some (.str (ba l lo hi))
 | .lst l=>some (.lst (ba l lo hi))
 | .scr ns=>some (.lst ((ba ns lo hi).map .int))
 | _=>none
def Lp:T->Option Bool
 | .bl b=>some b
 | .lst ts=>some (!ts.isEmpty)
 | _=>none
noncomputable def strsOf:List T->Option (List (List Nat))
 | []=>some []
 | .str l::ts=>(strsOf ts).map (l::·)
 | _=>none
noncomputable def a8 (sep:List Nat):List (List Nat)->List Nat
 | []=>[]
 | [a]=>a
 | a::b::r=>a++sep++a8 sep (b::r)
def yz:T->T->Option T
 | .str sep,.lst ts=>(strsOf ts).bind fun ys=>gd ((ys.map (·.length)).sum+ys.length*sep.length<=1000000) (.str (a8 sep ys))
 | _,_=>none
noncomputable def pre (s l:List Nat):Bool:=decide (s.length<=l.length)&&(l.take s.length == s)
noncomputable def HX (s l:List Nat):Bool:=decide (s.length<=l.length)&&(l.drop (l.length-s.length) == s)
def boolsOf:List T->Option (List Bool)
 | []=>some []
 | .bl b::ts=>(boolsOf ts).map (b::·)
 | _=>none
def Up:T->Option T
 | .lst ts=>(boolsOf ts).map fun bs=>.bl (bs.all id)
 | _=>none
def Lq:T->Option T
 | .lst ts=>(boolsOf ts).map fun bs=>.bl (bs.any id)
 | _=>none
def PJ:T->Option T
 | .lst a=>some (.lst a)
 | .tup a=>some (.lst a)
 | _=>none
def bw:FE:=fun _=>.bad
def cF (t:T):FE:=fun s=>.ok (t,s)
def iE (s:S) (i:Nat) (c:C):S:={ s with r:=s.r.set i (some c) }
noncomputable def vF (i:Nat):FE:=fun s=>match s.r[i]? with
 | some (some (.val t))=>.ok (t,s)
 | some (some (.ol ts))=>.ok (.lst ts,iE s i (.val (.lst ts)))
 | some (some (.od ks ts))=>.ok (.dO ks ts,iE s i (.val (.dO ks ts)))
 | _=>.bad
def b8 (g:T->Option T) (a:FE):FE:=fun s=>(a s).bind fun p=>(cT (g p.1)).bind fun t=>.ok (t,p.2)
def cz (g:T->T->Option T) (a b:FE):FE:=fun s=>(a s).bind fun p=>(b p.2).bind fun q=>(cT (g p.1 q.1)).bind fun t=>.ok (t,q.2)
def cA:FL:=fun s=>.ok ([],s)
def cj (a:FE) (r:FL):FL:=fun s=>(a s).bind fun p=>(r p.2).bind fun q=>.ok (p.1::q.1,q.2)
def iX:FL:=fun _=>.bad
def bC (g:List T->Option T) (a:FL):FE:=fun s=>(a s).bind fun p=>(cT (g p.1)).bind fun t=>.ok (t,p.2)
def lO (ts:List T):Option T:=gd (ts.length<=1000) (.tup ts)
def eO (ts:List T):Option T:=gd (ts.length<=1000) (.lst ts)
def nM:FT:=fun _=>.bad
def tB (a:FE):FT:=fun s=>(a s).bind fun p=>(cT (Lp p.1)).bind fun b=>.ok (b,p.2)
def iY (a b:FT):FT:=fun s=>(a s).bind fun p=>if p.1 then b p.2 else .ok (false,p.2)
def nu (a b:FT):FT:=fun s=>(a s).bind fun p=>if p.1 then .ok (true,p.2) else b p.2
def c_ (a:FT):FT:=fun s=>(a s).bind fun p=>.ok (!p.1,p.2)
def cC:FT:=fun s=>.ok (true,s)
def Uq:T->Option Bool
 | .bl b=>some b
 | _=>none
def jO (a b:FE):FE:=fun s=>(a s).bind fun p=>(cT (Uq p.1)).bind fun k=>if k then b p.2 else .ok (.bl false,p.2)
def Ur (a b:FE):FE:=fun s=>(a s).bind fun p=>(cT (Uq p.1)).bind fun k=>if k then .ok (.bl true,p.2) else b p.2
def wY (a:FE):FE:=fun s=>(a s).bind fun p=>(cT (Uq p.1)).bind fun k=>.ok (.bl (!k),p.2)
def rC (c:FT) (a b:FE):FE:=fun s=>(c s).bind fun p=>if p.1 then a p.2 else b p.2
abbrev FO:=S->Res (Option Int × S)
def ny:FO:=fun s=>.ok (none,s)
def PK:T->Option Int
 | .int i=>some i
 | _=>none
def g9 (a:FE):FO:=fun s=>(a s).bind fun p=>(cT (PK p.1)).bind fun i=>.ok (some i,p.2)
def jC (a:FE) (lo hi:FO):FE:=fun s=>(a s).bind fun p=>(lo p.2).bind fun q=>(hi q.2).bind fun z=>(cT (rB q.1 z.1 p.1)).bind fun t=>.ok (t,z.2)
def iZ:Option (Option C)->Option (List T)
 | some (some (.ol ts))=>some ts
 | _=>none
def i6 (i:Nat):FE:=fun s=>(cT (iZ s.r[i]?)).bind fun ts=>.ok (.int ts.length,s)
def EM (i:Nat) (b:FE):FE:=fun s=>(cT (iZ s.r[i]?)).bind fun _=>(b s).bind fun p=>(cT (iZ p.2.r[i]?)).bind fun ts=>(cT (ixD (.lst ts) p.1)).bind fun t=>.ok (t,p.2)
def EN (tab:List (List Nat)) (c f:Nat):Option Nat:=(tab[c]?).bind fun ns=>ns.idxOf? f
def aE (tab:List (List Nat)) (f:Nat) (a:FE):FE:=fun s=>(a s).bind fun p=>match p.1 with
 | .obj c fs=>(cT ((EN tab c f).bind fun j=>fs[j]?)).bind fun t=>.ok (t,p.2)
 | .own k=>(cT ((p.2.m[k]?).bind fun ob=>(EN tab ob.c f).bind fun j=>ob.fs[j]?)).bind fun c=>(match c with
  | .val t=>.ok (t,p.2)
  | _=>.bad)
 | _=>.bad
def c5 (c n:Nat) (fl:FL):FE:=fun s=>(fl s).bind fun p=>if p.1.length=n then .ok (.obj c p.1,p.2) else .bad
def Bt (c:Nat) (g:Fn) (fl:FL):FE:=fun s=>(fl s).bind fun p=>match g (.own p.2.m.length::p.1) (p.2.m++[⟨c,[]⟩]) with
 | .ok (.non,m')=>.ok (.own p.2.m.length,{ p.2 with m:=m' })
 | .exc c fs s'=>.exc c fs { p.2 with m:=s'.m }
 | _=>.bad
def Us (c:Nat):T->Option T
 | .lst ts=>some (.obj c [.lst ts])
 | _=>none
def ah (g:Fn) (ds:List T) (fl:FL):FE:=fun s=>(fl s).bind fun p=>match g (p.1++ds) p.2.m with
 | .ok q=>.ok (q.1,{ p.2 with m:=q.2 })
 | .bad=>.bad
 | .exc c fs s'=>.exc c fs { p.2 with m:=s'.m }
def aJ (g:Nat->Option Fn) (o:FE) (fl:FL):FE:=fun s=>(o s).bind fun p=>match p.1 with
 | .own k=>(cT ((p.2.m[k]?).bind fun ob=>g ob.c)).bind fun h=>ah h [] (fun s=>(fl s).bind fun q=>.ok (.own k::q.1,q.2)) p.2
 | .obj c fs=>(cT (g c)).bind fun h=>ah h [] (fun s=>(fl s).bind fun q=>.ok (.obj c fs::q.1,q.2)) p.2
 | _=>.bad
def itD:T->Option (List T)
 | .lst ts=>some ts
 | .tup ts=>some ts
 | .str l=>some (l.map fun c=>.str [c])
 | .scr ns=>some (ns.map .int)
 | _=>none
def h_ (a:FE):FL:=fun s=>(a s).bind fun p=>(cT (itD p.1)).bind fun ts=>.ok (ts,p.2)
def gI:Int->List T->List T
 | _,[]=>[]
 | n,t::ts=>.tup [.int n,t]::gI (n+1) ts
def abK (n:Int):T->Option (List T)
 | .lst ts=>some (gI n ts)
 | _=>none
def lP (n:Int) (a:FE):FL:=fun s=>(a s).bind fun p=>(cT (abK n p.1)).bind fun ts=>.ok (ts,p.2)
abbrev FG:=T->List (Option C)->Option (List (Option C))
def setG (i:Nat):FG:=fun t r=>some (r.set i (some (.val t)))
def ou:List Nat->List T->List (Option C)->Option (List (Option C))
 | [],[],r=>some r
 | i::is,t::ts,r=>ou is ts (r.set i (some (.val t)))
 | _,_,_=>none
def ia (is:List Nat):FG:=fun t r=>match t with
 | .tup ts=>ou is ts r
 | _=>none
def Lr (r:List (Option C)) (j:Nat):List (Option C):=match r[j]? with
 | some (some (.ol ts))=>r.set j (some (.val (.lst ts)))
 | _=>r
def kL:List Nat->List (Option C)->List (Option C)
 | [],r=>r
 | j::js,r=>kL js (Lr r j)
def gJ (k:Nat) (js:List Nat) (r:List (Option C)):List (Option C):=dJ k none++js.map fun j=>match r[j]? with
 | some (some (.val t))=>some (.val t)
 | _=>none
def cM (g:FG) (c:FT) (e:FE) (b:List (Option C)):List T->List Ob->Res (List T × List Ob)
 | [],m=>.ok ([],m)
 | t::ts,m=>(cT (g t b)).bind fun b1=>(c ⟨b1,m⟩).bind fun p=>if p.1 then (e p.2).bind fun q=>(cM g c e b ts q.2.m).bind fun z=>.ok (q.1::z.1,z.2) else cM g c e b ts p.2.m
def bo (src:FL) (k:Nat) (js:List Nat) (g:FG) (c:FT) (e:FE):FL:=fun s=>(src s).bind fun p=>if p.1.length<=1000000 then
  (cM g c e (gJ k js (kL js p.2.r)) p.1 p.2.m).bind fun q=>.ok (q.1,⟨kL js p.2.r,q.2⟩) else .bad
def c6 (fl:FL):FE:=fun s=>(fl s).bind fun p=>.ok (.lst p.1,p.2)
def aG:FS:=fun s=>.ok (.nx,s)
def br:FS:=fun _=>.bad
def aj (a b:FS):FS:=fun s=>(a s).bind fun p=>match p.1 with
 | .nx=>b p.2
 | o=>.ok (o,p.2)
def aV (i:Nat) (a:FE):FS:=fun s=>(a s).bind fun p=>.ok (.nx,iE p.2 i (.val p.1))
def i7 (i:Nat) (a:FL):FS:=fun s=>(a s).bind fun p=>.ok (.nx,iE p.2 i (.ol p.1))
def Bu (g:FG) (a:FE):FS:=fun s=>(a s).bind fun p=>(cT (g p.1 p.2.r)).bind fun r=>.ok (.nx,{ p.2 with r:=r })
def av (a:FE):FS:=fun s=>(a s).bind fun p=>.ok (.rt p.1,p.2)
def cU (a:FE):FS:=fun s=>(a s).bind fun p=>.ok (.nx,p.2)
def bu (c:FT) (a b:FS):FS:=fun s=>(c s).bind fun p=>if p.1 then a p.2 else b p.2
def abL:FS:=fun s=>.ok (.bk,s)
def abM:FS:=fun s=>.ok (.ct,s)
def i8 (i:Nat) (a:FE):FS:=fun s=>(cT (iZ s.r[i]?)).bind fun _=>(a s).bind fun p=>(cT (iZ p.2.r[i]?)).bind fun ts=>(cT (gd (ts.length<1000000) ts)).bind fun ts=>.ok (.nx,iE p.2 i (.ol (ts++[p.1])))
def dM (i:Nat) (b a:FE):FS:=fun s=>(a s).bind fun p=>(cT (iZ p.2.r[i]?)).bind fun _=>(b p.2).bind fun q=>(cT (iZ q.2.r[i]?)).bind fun ts=>(cT (PK q.1)).bind fun j=>(cT (gd (0<=j/\j<ts.length) (ts.set j.toNat p.1))).bind fun us=>.ok (.nx,iE q.2 i (.ol us))
def EO (g:T->T->Option T) (i:Nat) (a:FE):FS:=fun s=>match s.r[i]? with
 | some (some (.val x))=>(a s).bind fun p=>(cT (g x p.1)).bind fun t=>.ok (.nx,iE p.2 i (.val t))
 | _=>.bad
def setAt (fs:List C) (j:Nat) (c:C):Option (List C):=if j<fs.length then some (fs.set j c) else if j=fs.length then some (fs++[c]) else none
def PL (tab:List (List Nat)) (f:Nat) (c:C) (ob:Ob):Option Ob:=(EN tab ob.c f).bind fun j=>(setAt ob.fs j c).map fun fs=>⟨ob.c,fs⟩
def i9 (tab:List (List Nat)) (f:Nat) (o a:FE):FS:=fun s=>(a s).bind fun p=>(o p.2).bind fun q=>match q.1 with
 | .own k=>(cT ((q.2.m[k]?).bind (PL tab f (.val p.1)))).bind fun ob=>.ok (.nx,{ q.2 with m:=q.2.m.set k ob })
 | _=>.bad
def fL (g:FG) (b:FS):List T->FS
 | [],s=>.ok (.nx,s)
 | t::ts,s=>(cT (g t s.r)).bind fun r=>(b ⟨r,s.m⟩).bind fun p=>match p.1 with
  | .nx=>fL g b ts p.2
  | .ct=>fL g b ts p.2
  | .bk=>.ok (.nx,p.2)
  | .rt t=>.ok (.rt t,p.2)
def tK (src:FL) (g:FG) (b:FS):FS:=fun s=>(src s).bind fun p=>fL g b p.1 p.2
def bV (c:FT) (b:FS):Nat->FS
 | 0,_=>.bad
 | n+1,s=>(c s).bind fun p=>if p.1 then (b p.2).bind fun q=>(match q.1 with
  | .nx=>bV c b n q.2
  | .ct=>bV c b n q.2
  | .bk=>.ok (.nx,q.2)
  | .rt t=>.ok (.rt t,q.2)) else .ok (.nx,p.2)
def qp (n:Nat) (c:FT) (b:FS):FS:=bV c b n
def aQ (np n:Nat) (b:FS):Fn:=fun ts m=>if ts.length=np then (b ⟨ts.map (fun t=>some (.val t))++dJ (n-ts.length) none,m⟩).bind fun p=>match p.1 with
 | .rt t=>.ok (t,p.2.m)
 | .nx=>.ok (.non,p.2.m)
 | _=>.bad else .bad
mutual
def noOwn:T->Bool
 | .own _=>false
 | .tup xs=>aF xs
 | .lst xs=>aF xs
 | .obj _ xs=>aF xs
 | .dO _ xs=>aF xs
 | _=>true
def aF:List T->Bool
 | []=>true
 | t::ts=>noOwn t&&aF ts
end
noncomputable def aO (g:Fn):Fn:=fun ts m=>if aF ts=true then (match g ts [] with
 | .ok q=>if noOwn q.1=true then .ok (q.1,m) else .bad
 | .bad=>.bad
 | .exc c fs s=>if aF fs=true then .exc c fs ⟨s.r,m⟩ else .bad) else .bad
end D
namespace D
open PySem L2
abbrev SV (l:List Nat):V:=.str ⟨l.toArray⟩
structure KT where
 K:bg
 P:Program
 w:World
 cn:List Str
 fn:List (List Str)
def gj (B:KT) (c:Nat) (C:Addr) (ns:List Str):Prop:=∃ n,B.cn[c]?=some n/\B.fn[c]?=some ns/\ns.Nodup/\lh B.K mainGlobals n=some (some (.ref C))
theorem gj.eq {B:KT}{c:Nat}{C C':Addr}{ns HZ:List Str}(h:gj B c C ns) (h':gj B c C' HZ):C=C'/\ns=HZ:=by
 obtain ⟨n,a,b,_,d⟩:=h
 obtain ⟨n',a',b',_,d'⟩:=h'
 rw [a] at a';cases a'
 rw [b] at b';cases b'
 rw [d] at d';cases d'
 exact ⟨rfl,rfl⟩
def lQ:Ky->Key
 | .i n=>.inl n
 | .s l=>.inr ⟨l.toArray⟩
inductive jP where
 | loc (i:Nat) | ob (k:Nat) | fld (k j:Nat)
 deriving DecidableEq
structure G where
 HF:Hp
 o:Addr->Option jP
 al:List Addr
mutual
def Rep (B:KT) (al:List Addr) (H:Hp):T->V->Prop
 | .non,v=>v=.non
 | .bl b,v=>v=.bl b
 | .int i,v=>v=.int i
 | .str l,v=>v=SV l/\l.length<=1000000
 | .tup ts,v=>∃ a vs,v=.ref a/\j_ B.K H a vs/\aA B al H ts vs
 | .lst ts,v=>∃ a vs,v=.ref a/\H a=some (.lst vs)/\aA B al H ts vs
 | .scr ns,v=>∃ a,v=.ref a/\cY B.K H a (ns.map V.int)
 | .obj c ts,v=>∃ a C dx ns vs,v=.ref a/\gj B c C ns/\H a=some (.ins C dx (ns.zip vs))/\vs.length<=ns.length/\H dx=some (.own a)/\aA B al H ts vs
 | .own k,v=>∃ a,v=.ref a/\al[k]?=some a
 | .dO ks ts,v=>∃ a vs,v=.ref a/\H a=some (.dK ((ks.map lQ).zip vs))/\ks.length=vs.length/\aA B al H ts vs
def aA (B:KT) (al:List Addr) (H:Hp):List T->List V->Prop
 | [],vs=>vs=[]
 | t::ts,vs=>∃ v r,vs=v::r/\Rep B al H t v/\aA B al H ts r
end
theorem bP {K:bg}{H H':Hp}(s:aP H H') {a:Addr}{xs:List V}(q:j_ K H a xs):j_ K H' a xs:=by
 rcases q with (q | ⟨o,q⟩) | q
 ·exact .inl (.inl (s _ _ q))
 ·exact .inl (.inr ⟨o,s _ _ q⟩)
 ·exact .inr q
theorem kU {α:Type}{l m:List α}(p:l <+: m) {k:Nat}{a:α}(h:l[k]?=some a):m[k]?=some a:=by
 obtain ⟨r,rfl⟩:=p
 rw [iH (du.mp h).1];exact h
variable {X:Cx}{a b c e:Expr}{fa fb fc:FE}{g g':G}{H H':Hp}{B:KT}{p pos:Pos}{s s':S}{σ:St}
variable {al Ls:List Addr}{HF eW:Hp}
mutual
theorem Rep.mv (p:al <+: Ls) (s:aP H H'):∀ {t:T}{v:V},Rep B al H t v->Rep B Ls H' t v
 | .non,_,h=>h
 | .bl _,_,h=>h
 | .int _,_,h=>h
 | .str _,_,h=>h
 | .tup ts,_,h=>by
  obtain ⟨a,vs,e,q,r⟩:=h
  exact ⟨a,vs,e,bP s q,aA.mv p s r⟩
 | .lst ts,_,h=>by
  obtain ⟨a,vs,e,q,r⟩:=h
  exact ⟨a,vs,e,s _ _ q,aA.mv p s r⟩
 | .scr ns,_,h=>by
  obtain ⟨a,e,q⟩:=h
  exact ⟨a,e,s.seq q⟩
 | .obj c ts,_,h=>by
  obtain ⟨a,C,dx,ns,vs,e,z,q,l,q2,r⟩:=h
  exact ⟨a,C,dx,ns,vs,e,z,s _ _ q,l,s _ _ q2,aA.mv p s r⟩
 | .own k,_,h=>by
  obtain ⟨a,e,q⟩:=h
  exact ⟨a,e,kU p q⟩
 | .dO ks ts,_,h=>by
  obtain ⟨a,vs,e,q,l,r⟩:=h
  exact ⟨a,vs,e,s _ _ q,l,aA.mv p s r⟩
theorem aA.mv (p:al <+: Ls) (s:aP H H'):∀ {ts:List T}{vs:List V},aA B al H ts vs->aA B Ls H' ts vs
 | [],_,h=>h
 | t::ts,_,h=>by
  obtain ⟨v,r,e,h1,h2⟩:=h
  exact ⟨v,r,e,Rep.mv p s h1,aA.mv p s h2⟩
end
theorem Rep.same (s:aP H H') {t:T}{v:V}(h:Rep B al H t v):Rep B al H' t v:=h.mv eM s
theorem aA.same (s:aP H H') {t:List T}{v:List V}(h:aA B al H t v):aA B al H' t v:=h.mv eM s
theorem aA.len:∀ {ts:List T}{vs:List V},aA B al H ts vs->ts.length=vs.length
 | [],_,h=>by cases (show _=[] from h);rfl
 | t::ts,_,h=>by
  obtain ⟨v,r,rfl,_,h2⟩:=h
  simp [aA.len h2]
theorem aA.get:∀ {ts:List T}{vs:List V},aA B al H ts vs->∀ {i:Nat}{t:T},ts[i]?=some t->∃ v,vs[i]?=some v/\Rep B al H t v
 | [],_,_,_,_,e=>by simp at e
 | t::ts,_,h,0,_,e=>by
  obtain ⟨v,r,rfl,h1,_⟩:=h
  simp at e;subst e
  exact ⟨v,rfl,h1⟩
 | t::ts,_,h,i+1,_,e=>by
  obtain ⟨v,r,rfl,_,h2⟩:=h
  obtain ⟨v',e',h'⟩:=aA.get h2 (i:=i) (by simpa using e)
  exact ⟨v',by simpa using e',h'⟩
theorem aA.Bv:∀ {ts:List T}{vs:List V},aA B al H ts vs->∀ {i:Nat}{v:V},vs[i]?=some v->∃ t,ts[i]?=some t/\Rep B al H t v
 | [],_,h,_,_,e=>by have h:_=[]:=h;subst h;simp at e
 | t::ts,_,h,0,_,e=>by
  obtain ⟨v,r,rfl,h1,_⟩:=h
  simp at e;subst e
  exact ⟨t,rfl,h1⟩
 | t::ts,_,h,i+1,_,e=>by
  obtain ⟨v,r,rfl,_,h2⟩:=h
  obtain ⟨t',e',h'⟩:=aA.Bv h2 (i:=i) (by simpa using e)
  exact ⟨t',by simpa using e',h'⟩
theorem aA.app:∀ {ts us:List T}{vs ws:List V},aA B al H ts vs->aA B al H us ws->aA B al H (ts++us) (vs++ws)
 | [],_,_,_,h,h'=>by have h:_=[]:=h;subst h;exact h'
 | t::ts,_,_,_,h,h'=>by
  obtain ⟨v,r,rfl,h1,h2⟩:=h
  exact ⟨v,_,rfl,h1,h2.app h'⟩
theorem aA.drop:∀ {ts:List T}{vs:List V}(n:Nat),aA B al H ts vs->aA B al H (ts.drop n) (vs.drop n)
 | ts,vs,0,h=>by simpa using h
 | [],_,n+1,h=>by have h:_=[]:=h;subst h;rfl
 | t::ts,_,n+1,h=>by
  obtain ⟨v,r,rfl,_,h2⟩:=h
  simpa using h2.drop n
theorem aA.take:∀ {ts:List T}{vs:List V}(n:Nat),aA B al H ts vs->aA B al H (ts.take n) (vs.take n)
 | ts,vs,0,h=>by simp [aA]
 | [],_,n+1,h=>by have h:_=[]:=h;subst h;rfl
 | t::ts,_,n+1,h=>by
  obtain ⟨v,r,rfl,h1,h2⟩:=h
  exact ⟨v,r.take n,rfl,h1,h2.take n⟩
theorem aA.flat {ts:List T}{vs:List V}(h:aA B al H ts vs):∀ n:Nat,aA B al H (dJ n ts).flatten (dJ n vs).flatten
 | 0=>rfl
 | n+1=>by
  rw [vv,vv,z_,z_]
  exact h.app (h.flat n)
theorem aA.one {t:T}{v:V}(q:Rep B al H t v):aA B al H [t] [v]:=⟨v,[],rfl,q,rfl⟩
theorem aA.ints:∀ ns:List Int,aA B al H (ns.map T.int) (ns.map V.int)
 | []=>rfl
 | n::ns=>⟨_,_,rfl,rfl,aA.ints ns⟩
theorem aA.signs:∀ l:List Nat,aA B al H (l.map fun c=>T.str [c]) (l.map fun c=>V.str ⟨#[c]⟩)
 | []=>rfl
 | c::l=>⟨_,_,rfl,⟨rfl,by simp⟩,aA.signs l⟩
mutual
theorem Rep.no:∀ {t:T}{v:V},noOwn t=true->Rep B al H t v->Rep B Ls H t v
 | .non,_,_,h=>h
 | .bl _,_,_,h=>h
 | .int _,_,_,h=>h
 | .str _,_,_,h=>h
 | .tup ts,_,n,h=>by
  obtain ⟨a,vs,e,q,r⟩:=h
  exact ⟨a,vs,e,q,aA.no n r⟩
 | .lst ts,_,n,h=>by
  obtain ⟨a,vs,e,q,r⟩:=h
  exact ⟨a,vs,e,q,aA.no n r⟩
 | .scr ns,_,_,h=>h
 | .obj c ts,_,n,h=>by
  obtain ⟨a,C,dx,ns,vs,e,z,q,l,q2,r⟩:=h
  exact ⟨a,C,dx,ns,vs,e,z,q,l,q2,aA.no n r⟩
 | .own k,_,n,h=>by cases n
 | .dO ks ts,_,n,h=>by
  obtain ⟨a,vs,e,q,l,r⟩:=h
  exact ⟨a,vs,e,q,l,aA.no n r⟩
theorem aA.no:∀ {ts:List T}{vs:List V},aF ts=true->aA B al H ts vs->aA B Ls H ts vs
 | [],_,_,h=>h
 | t::ts,_,n,h=>by
  obtain ⟨v,r,e,h1,h2⟩:=h
  have n:(noOwn t&&aF ts)=true:=n
  rw [cy] at n
  exact ⟨v,r,e,Rep.no n.1 h1,aA.no n.2 h2⟩
end
structure Gr (HF H eW H':Hp):Prop where
 fr:aP HF eW
 sub:aP eW H'
 rest:∀ b o,H b=some o->HF b=none->H' b=some o/\eW b=none
theorem Gr.refl {HF H:Hp}(s:aP HF H):Gr HF H HF H:=⟨aP.refl _,s,fun _ _ h n=>⟨h,n⟩⟩
theorem Gr.trans {HF H HF1 H1 HF2 H2:Hp}(a:Gr HF H HF1 H1) (b:Gr HF1 H1 HF2 H2):Gr HF H HF2 H2:=
 ⟨a.fr.trans b.fr,b.sub,fun c o h n=>let ⟨h1,n1⟩:=a.rest c o h n;b.rest c o h1 n1⟩
theorem Gr.same {HF H eW H':Hp}(s:aP HF H) (a:Gr HF H eW H'):aP H H':=fun b o h=>by
 cases e:HF b with
 | none=>exact (a.rest b o h e).1
 | some u=>
  have:=s b u e
  rw [h] at this;cases this
  exact a.sub _ _ (a.fr _ _ e)
theorem aS {H:Hp}{p:Addr}{o:HO}(h:H p=none):aP H (upd H p o):=fun b u e=>by rw [ao (aM e h)];exact e
theorem Gr.new {HF H:Hp}(s:aP HF H) {p:Addr}{o:HO}(h:H p=none):Gr HF H (upd HF p o) (upd H p o):=by
 have hf:HF p=none:=s.free h
 refine ⟨aS hf,fun b u e=>?_,fun b u e n=>?_⟩
 ·by_cases hb:b=p
  ·subst hb;rw [ak] at e ⊢;exact e
  ·rw [ao hb] at e ⊢;exact s _ _ e
 ·have hb:b≠p:=aM e h
  rw [ao hb,ao hb];exact ⟨e,n⟩
theorem Gr.nN {HF H:Hp}(s:aP HF H) {p:Addr}{o:HO}(h:H p=none):Gr HF H HF (upd H p o):=
 ⟨aP.refl _,s.trans (aS h),fun b u e n=>⟨aS h _ _ e,n⟩⟩
def bJ (B:KT) (g:G) (H:Hp) (p:jP):C->V->Prop
 | .val t,v=>Rep B g.al g.HF t v
 | .ol ts,v=>∃ l vs,v=.ref l/\g.o l=some p/\H l=some (.lst vs)/\aA B g.al g.HF ts vs
 | .od ks ts,v=>∃ l vs,v=.ref l/\g.o l=some p/\H l=some (.dK ((ks.map lQ).zip vs))/\ks.length=vs.length/\aA B g.al g.HF ts vs
 | .yg t,v=>∃ HY:Hp,(∀ b u,HY b=some u->g.o b=some p/\H b=some u)/\Rep B [] HY t v
structure Lu (B:KT) (g:G) (H:Hp) (k:Nat) (ob:Ob) (a C dx:Addr) (ns:List Str) (vs:List V):Prop where
 al:g.al[k]?=some a
 o:g.o a=some (.ob k)
 cl:gj B ob.c C ns
 h:H a=some (.ins C dx (ns.zip vs))
 le:vs.length<=ns.length
 ln:vs.length=ob.fs.length
 f:∀ j c,ob.fs[j]?=some c->∃ v,vs[j]?=some v/\bJ B g H (.fld k j) c v
structure BxR (B:KT) (g:G) (H:Hp) (k:Nat) (ob:Ob) (a:Addr) (vs:List V) (ts:List T):Prop where
 al:g.al[k]?=some a
 o:g.o a=some (.ob k)
 nc:B.cn[ob.c]?=none
 nf:B.fn[ob.c]?=none
 fs:ob.fs=[.ol ts]
 h:H a=some (.lst vs)
 r:aA B g.al g.HF ts vs
def Ut (B:KT) (g:G) (H:Hp) (k:Nat) (ob:Ob):Prop:=(∃ a C dx ns vs,Lu B g H k ob a C dx ns vs)\/∃ a vs ts,BxR B g H k ob a vs ts
structure dw (B:KT) (g:G) (H:Hp) (m:List Ob):Prop where
 sub:aP g.HF H
 live:∀ b p,g.o b=some p->g.HF b=none/\∃ u,H b=some u
 len:m.length=g.al.length
 at_:∀ k ob,m[k]?=some ob->Ut B g H k ob
structure lR (B:KT) (g:G) (H:Hp) (σ:St) (r:List (Option C)):Prop where
 len:r.length=σ.length
 at_:∀ i c,r[i]?=some (some c)->∃ v,σ[i]?=some (some v)/\bJ B g H (.loc i) c v
structure SR (B:KT) (g:G) (H:Hp) (σ:St) (s:S):Prop where
 st:dw B g H s.m
 lc:lR B g H σ s.r
structure dz (g:G) (H:Hp) (g':G) (H':Hp):Prop where
 fr:aP g.HF g'.HF
 pre:g.al <+: g'.al
 rest:∀ b u,H b=some u->g.HF b=none->g.o b=none->H' b=some u/\g'.HF b=none/\g'.o b=none
 there:∀ b,H' b=none->H b=none
variable {g1 g2:G}{H1 H2:Hp}
theorem dz.refl:dz g H g H:=⟨aP.refl _,eM,fun _ _ h n o=>⟨h,n,o⟩,fun _ h=>h⟩
theorem dz.trans (a:dz g H g1 H1) (b:dz g1 H1 g2 H2):dz g H g2 H2:=
 ⟨a.fr.trans b.fr,a.pre.trans b.pre,fun c u h n o=>let ⟨h1,n1,o1⟩:=a.rest c u h n o;b.rest c u h1 n1 o1,fun c h=>a.there c (b.there c h)⟩
abbrev G.grow (g:G) (eW:Hp):G:={ g with HF:=eW }
theorem bJ.grow (gr:Gr g.HF H eW H') (lv:∀ b p,g.o b=some p->g.HF b=none/\∃ u,H b=some u) {p:jP}:∀ {c:C}{v:V},bJ B g H p c v->bJ B (g.grow eW) H' p c v
 | .val t,v,h=>h.same gr.fr
 | .ol ts,v,h=>by
  obtain ⟨l,vs,e,o,q,r⟩:=h
  exact ⟨l,vs,e,o,(gr.rest l _ q (lv l p o).1).1,r.same gr.fr⟩
 | .od ks ts,v,h=>by
  obtain ⟨l,vs,e,o,q,n,r⟩:=h
  exact ⟨l,vs,e,o,(gr.rest l _ q (lv l p o).1).1,n,r.same gr.fr⟩
 | .yg t,v,h=>by
  obtain ⟨HY,h1,r⟩:=h
  exact ⟨HY,fun b u e=>let ⟨h2,h3⟩:=h1 b u e;⟨h2,(gr.rest b u h3 (lv b p h2).1).1⟩,r⟩
theorem Lu.grow {k:Nat}{ob:Ob}{a C dx:Addr}{ns:List Str}{vs:List V}(x:Lu B g H k ob a C dx ns vs) (gr:Gr g.HF H eW H') (lv:∀ b p,g.o b=some p->g.HF b=none/\∃ u,H b=some u):Lu B (g.grow eW) H' k ob a C dx ns vs:=
 ⟨x.al,x.o,x.cl,(gr.rest _ _ x.h (lv _ _ x.o).1).1,x.le,x.ln,fun j c e=>let ⟨v,h1,h2⟩:=x.f j c e;⟨v,h1,h2.grow gr lv⟩⟩
theorem Ut.grow {k:Nat}{ob:Ob}(x:Ut B g H k ob) (gr:Gr g.HF H eW H') (lv:∀ b p,g.o b=some p->g.HF b=none/\∃ u,H b=some u):Ut B (g.grow eW) H' k ob:=by
 rcases x with ⟨a,C,dx,ns,vs,y⟩ | ⟨a,vs,ts,y⟩
 ·exact .inl ⟨a,C,dx,ns,vs,y.grow gr lv⟩
 ·exact .inr ⟨a,vs,ts,y.al,y.o,y.nc,y.nf,y.fs,(gr.rest _ _ y.h (lv _ _ y.o).1).1,y.r.same gr.fr⟩
theorem dw.grow {m:List Ob}(x:dw B g H m) (gr:Gr g.HF H eW H'):dw B (g.grow eW) H' m:=
 ⟨gr.sub,fun b p e=>by
  obtain ⟨h1,u,h2⟩:=x.live b p e
  obtain ⟨h3,h4⟩:=gr.rest b u h2 h1
  exact ⟨h4,u,h3⟩,x.len,fun k ob e=>(x.at_ k ob e).grow gr x.live⟩
theorem SR.grow (x:SR B g H σ s) (gr:Gr g.HF H eW H'):SR B (g.grow eW) H' σ s:=
 ⟨x.st.grow gr,x.lc.len,fun i c e=>let ⟨v,h1,h2⟩:=x.lc.at_ i c e;⟨v,h1,h2.grow gr x.st.live⟩⟩
theorem SR.sub (x:SR B g H σ s):aP g.HF H:=x.st.sub
theorem Gr.free (gr:Gr HF H eW H') (sm:aP HF H) {b:Addr}(h:H' b=none):H b=none:=(gr.same sm).free h
theorem SR.nz (x:SR B g H σ s) (gr:Gr g.HF H eW H'):dz g H (g.grow eW) H':=
 ⟨gr.fr,eM,fun b u h n o=>let ⟨h1,h2⟩:=gr.rest b u h n;⟨h1,h2,o⟩,fun b h=>gr.free x.sub h⟩
variable {m:List Ob}
theorem bJ.mv {p:jP}(fr:aP g.HF g'.HF) (pre:g.al <+: g'.al) (k:∀ l,g.o l=some p->g'.o l=some p/\H' l=H l):∀ {c:C}{v:V},bJ B g H p c v->bJ B g' H' p c v
 | .val t,v,h=>Rep.mv pre fr h
 | .ol ts,v,h=>by
  obtain ⟨l,vs,e,o,q,r⟩:=h
  obtain ⟨o',h'⟩:=k l o
  exact ⟨l,vs,e,o',h'.trans q,r.mv pre fr⟩
 | .od ks ts,v,h=>by
  obtain ⟨l,vs,e,o,q,n,r⟩:=h
  obtain ⟨o',h'⟩:=k l o
  exact ⟨l,vs,e,o',h'.trans q,n,r.mv pre fr⟩
 | .yg t,v,h=>by
  obtain ⟨HY,h1,r⟩:=h
  exact ⟨HY,fun b u e=>let ⟨h2,h3⟩:=h1 b u e;let ⟨h4,h5⟩:=k b h2;⟨h4,h5.trans h3⟩,r⟩
theorem Lu.mv {k:Nat}{ob:Ob}{a C dx:Addr}{ns:List Str}{vs:List V}(x:Lu B g H k ob a C dx ns vs) (fr:aP g.HF g'.HF) (pre:g.al <+: g'.al) (kk:∀ l p,g.o l=some p->(p=.ob k\/∃ j,p=.fld k j)->g'.o l=some p/\H' l=H l):Lu B g' H' k ob a C dx ns vs:=by
 obtain ⟨o',h'⟩:=kk a _ x.o (.inl rfl)
 exact ⟨kU pre x.al,o',x.cl,h'.trans x.h,x.le,x.ln,fun j c e=>let ⟨v,h1,h2⟩:=x.f j c e;⟨v,h1,h2.mv fr pre fun l z=>kk l _ z (.inr ⟨j,rfl⟩)⟩⟩
theorem Ut.mv {k:Nat}{ob:Ob}(x:Ut B g H k ob) (fr:aP g.HF g'.HF) (pre:g.al <+: g'.al) (kk:∀ l p,g.o l=some p->(p=.ob k\/∃ j,p=.fld k j)->g'.o l=some p/\H' l=H l):Ut B g' H' k ob:=by
 rcases x with ⟨a,C,dx,ns,vs,y⟩ | ⟨a,vs,ts,y⟩
 ·exact .inl ⟨a,C,dx,ns,vs,y.mv fr pre kk⟩
 ·obtain ⟨o',h'⟩:=kk a _ y.o (.inl rfl)
  exact .inr ⟨a,vs,ts,kU pre y.al,o',y.nc,y.nf,y.fs,h'.trans y.h,y.r.mv pre fr⟩
theorem dw.mv (x:dw B g H m) (sub:aP g'.HF H') (live:∀ b p,g'.o b=some p->g'.HF b=none/\∃ u,H' b=some u) (fr:aP g.HF g'.HF) (eal:g'.al=g.al) (kk:∀ l p,g.o l=some p->(∀ i,p≠.loc i)->g'.o l=some p/\H' l=H l):dw B g' H' m:=
 ⟨sub,live,by rw [eal];exact x.len,fun k ob e=>(x.at_ k ob e).mv fr (by rw [eal];exact eM) fun l p h q=>kk l p h (by
  rcases q with q | ⟨j,q⟩
  ·subst q;exact fun i z=>by cases z
  ·subst q;exact fun i z=>by cases z)⟩
theorem lR.set {r:List (Option C)}{i:Nat}{v:V}{c:C}(x:lR B g H σ r) (q:bJ B g' H' (.loc i) c v) (kk:∀ j c v,j≠i->bJ B g H (.loc j) c v->bJ B g' H' (.loc j) c v):lR B g' H' (σ.set i (some v)) (r.set i (some c)):=by
 refine ⟨by rw [ic,ic];exact x.len,fun j d h=>?_⟩
 by_cases hj:i=j
 ·subst hj
  have fF:i<r.length:=by have:=(du.mp h).1;rw [ic] at this;exact this
  rw [gq fF] at h
  cases h
  exact ⟨v,gq (by rw [<- x.len];exact fF),q⟩
 ·rw [gh hj] at h
  obtain ⟨w,h1,h2⟩:=x.at_ j d h
  exact ⟨w,by rw [gh hj];exact h1,kk j d w (Ne.symm hj) h2⟩
theorem SR.set (x:SR B g H σ s) {i:Nat}{t:T}{v:V}(r:Rep B g.al g.HF t v):SR B g H (σ.set i (some v)) (iE s i (.val t)):=
 ⟨x.st,x.lc.set r fun _ _ _ _ h=>h⟩
def G.iK (g:G) (l:Addr) (o:HO):G:={ g with HF:=upd g.HF l o,o:=fun b=>if b=l then none else g.o b }
theorem tL {p q:jP}{l:Addr}{o:HO}(hl:g.o l=some p) (hf:g.HF l=none) (hq:q≠p) {c:C}{v:V}(h:bJ B g H q c v):bJ B (g.iK l o) H q c v:=
 bJ.mv (g':=g.iK l o) (aS hf) eM (fun b hb=>by
  have:b≠l:=fun e=>hq (by rw [e,hl] at hb;cases hb;rfl)
  exact ⟨by show (if b=l then none else g.o b)=_;rw [if_neg this];exact hb,rfl⟩) h
theorem yC {p:jP}{l:Addr}{o:HO}(hl:g.o l=some p) (hf:g.HF l=none):dz g H (g.iK l o) H:=
 ⟨aS hf,eM,fun b u h n z=>by
  have:b≠l:=fun e=>by rw [e,hl] at z;cases z
  exact ⟨h,by show upd g.HF l o b=none;rw [ao this];exact n,by show (if b=l then none else g.o b)=none;rw [if_neg this];exact z⟩,fun _ h=>h⟩
theorem yD {i:Nat}{l:Addr}{o:HO}(x:dw B g H m) (hl:g.o l=some (.loc i)) (hh:H l=some o):dw B (g.iK l o) H m:=by
 have hf:=(x.live l _ hl).1
 refine x.mv (fun b u e=>?_) (fun b p e=>?_) (aS hf) rfl fun b p hb hp=>?_
 ·have e:upd g.HF l o b=some u:=e
  by_cases hb:b=l
  ·subst hb;rw [ak] at e;cases e;exact hh
  ·rw [ao hb] at e;exact x.sub _ _ e
 ·have e:(if b=l then none else g.o b)=some p:=e
  by_cases hb:b=l
  ·rw [if_pos hb] at e;cases e
  ·rw [if_neg hb] at e
   obtain ⟨h1,h2⟩:=x.live b p e
   exact ⟨by show upd g.HF l o b=none;rw [ao hb];exact h1,h2⟩
 ·have:b≠l:=fun e=>hp i (by rw [e,hl] at hb;cases hb;rfl)
  exact ⟨by show (if b=l then none else g.o b)=_;rw [if_neg this];exact hb,rfl⟩
theorem SR.iK (x:SR B g H σ s) {i:Nat}{ts:List T}(h:s.r[i]?=some (some (.ol ts))):∃ g' v,dz g H g' H/\SR B g' H σ (iE s i (.val (.lst ts)))/\σ[i]?=some (some v)/\Rep B g'.al g'.HF (.lst ts) v:=by
 obtain ⟨v,h1,l,vs,rfl,ho,hh,r⟩:=x.lc.at_ i _ h
 have hf:=(x.st.live l _ ho).1
 have rp:Rep B (g.iK l (.lst vs)).al (g.iK l (.lst vs)).HF (.lst ts) (.ref l):=⟨l,vs,rfl,ak,r.mv eM (aS hf)⟩
 refine ⟨g.iK l (.lst vs),.ref l,yC ho hf,⟨yD x.st ho hh,?_⟩,h1,rp⟩
 have:=x.lc.set (i:=i) (v:=.ref l) (c:=.val (.lst ts)) rp fun j c v hj q=>tL (q:=.loc j) ho hf (fun z=>hj (by cases z;rfl)) q
 have es:σ.set i (some (.ref l))=σ:=by
  apply Iq
  intro j
  by_cases hj:i=j
  ·subst hj
   rw [gq (du.mp h1).1,h1]
  ·rw [gh hj]
 rw [es] at this
 exact this
theorem SR.aeZ (x:SR B g H σ s) {i:Nat}{ks:List Ky}{ts:List T}(h:s.r[i]?=some (some (.od ks ts))):∃ g' v,dz g H g' H/\SR B g' H σ (iE s i (.val (.dO ks ts)))/\σ[i]?=some (some v)/\Rep B g'.al g'.HF (.dO ks ts) v:=by
 obtain ⟨v,h1,l,vs,rfl,ho,hh,hl,r⟩:=x.lc.at_ i _ h
 have hf:=(x.st.live l _ ho).1
 have rp:Rep B (g.iK l (.dK ((ks.map lQ).zip vs))).al (g.iK l (.dK ((ks.map lQ).zip vs))).HF (.dO ks ts) (.ref l):=⟨l,vs,rfl,ak,hl,r.mv eM (aS hf)⟩
 refine ⟨g.iK l (.dK ((ks.map lQ).zip vs)),.ref l,yC ho hf,⟨yD x.st ho hh,?_⟩,h1,rp⟩
 have:=x.lc.set (i:=i) (v:=.ref l) (c:=.val (.dO ks ts)) rp fun j c v hj q=>tL (q:=.loc j) ho hf (fun z=>hj (by cases z;rfl)) q
 have es:σ.set i (some (.ref l))=σ:=by
  apply Iq
  intro j
  by_cases hj:i=j
  ·subst hj
   rw [gq (du.mp h1).1,h1]
  ·rw [gh hj]
 rw [es] at this
 exact this
def G.own (g:G) (l:Addr) (p:jP):G:={ g with o:=fun b=>if b=l then some p else g.o b }
theorem tM {p q:jP}{l:Addr}(hn:g.o l=none) {c:C}{v:V}(h:bJ B g H q c v):bJ B (g.own l p) H q c v:=
 bJ.mv (g:=g) (g':=g.own l p) (aP.refl g.HF) eM (fun b hb=>by
  have:b≠l:=fun e=>by rw [e,hn] at hb;cases hb
  exact ⟨by show (if b=l then some p else g.o b)=_;rw [if_neg this];exact hb,rfl⟩) h
theorem yE {p:jP}{l:Addr}{u:HO}(x:dw B g H m) (hn:g.o l=none) (hf:g.HF l=none) (hh:H l=some u):dw B (g.own l p) H m:=by
 refine x.mv x.sub (fun b q e=>?_) (aP.refl _) rfl fun b q hb hp=>?_
 ·have e:(if b=l then some p else g.o b)=some q:=e
  by_cases hb:b=l
  ·subst hb;exact ⟨hf,u,hh⟩
  ·rw [if_neg hb] at e;exact x.live b q e
 ·have:b≠l:=fun e=>by rw [e,hn] at hb;cases hb
  exact ⟨by show (if b=l then some p else g.o b)=_;rw [if_neg this];exact hb,rfl⟩
theorem SR.own (x:SR B g H σ s) {i:Nat}{l:Addr}{ts:List T}{vs:List V}(hn:g.o l=none) (hf:g.HF l=none) (hh:H l=some (.lst vs)) (r:aA B g.al g.HF ts vs):SR B (g.own l (.loc i)) H (σ.set i (some (.ref l))) (iE s i (.ol ts)):=
 ⟨yE x.st hn hf hh,x.lc.set (c:=.ol ts) ⟨l,vs,rfl,by show (if l=l then some (jP.loc i) else g.o l)=_;rw [if_pos rfl],hh,r⟩ fun j c v hj q=>tM hn q⟩
theorem SR.ae0 (x:SR B g H σ s) {i:Nat}{l:Addr}{ks:List Ky}{ts:List T}{vs:List V}(hn:g.o l=none) (hf:g.HF l=none) (hh:H l=some (.dK ((ks.map lQ).zip vs))) (hk:ks.length=vs.length) (r:aA B g.al g.HF ts vs):SR B (g.own l (.loc i)) H (σ.set i (some (.ref l))) (iE s i (.od ks ts)):=
 ⟨yE x.st hn hf hh,x.lc.set (c:=.od ks ts) ⟨l,vs,rfl,by show (if l=l then some (jP.loc i) else g.o l)=_;rw [if_pos rfl],hh,hk,r⟩ fun j c v hj q=>tM hn q⟩
theorem yF {l:Addr}{i:Nat}{u:HO}(x:dw B g H m) (ho:g.o l=some (.loc i)):dw B g (upd H l u) m:=by
 have hf:=(x.live l _ ho).1
 refine x.mv (fun b w e=>?_) (fun b q e=>?_) (aP.refl _) rfl fun b q hb hp=>?_
 ·have:b≠l:=fun z=>by rw [z,hf] at e;cases e
  rw [ao this];exact x.sub _ _ e
 ·obtain ⟨h1,w,h2⟩:=x.live b q e
  by_cases hb:b=l
  ·exact ⟨h1,u,by rw [hb,ak]⟩
  ·exact ⟨h1,w,by rw [ao hb];exact h2⟩
 ·have:b≠l:=fun e=>hp i (by rw [e,ho] at hb;cases hb;rfl)
  exact ⟨hb,by rw [ao this]⟩
theorem qq {l:Addr}{p:jP}{u:HO}(ho:g.o l=some p):dz g H g (upd H l u):=
 ⟨aP.refl _,eM,fun b w h n z=>by
  have:b≠l:=fun e=>by rw [e,ho] at z;cases z
  exact ⟨by rw [ao this];exact h,n,z⟩,fun b h=>by
  by_cases hb:b=l
  ·subst hb;rw [ak] at h;cases h
  ·rw [ao hb] at h;exact h⟩
theorem SR.chg (x:SR B g H σ s) {i:Nat}{ts ts':List T}{l:Addr}{vs':List V}(h:s.r[i]?=some (some (.ol ts))) (hσ:σ[i]?=some (some (.ref l))) (r:aA B g.al g.HF ts' vs'):SR B g (upd H l (.lst vs')) σ (iE s i (.ol ts'))/\dz g H g (upd H l (.lst vs')):=by
 obtain ⟨v,h1,l',vs,rfl,ho,hh,r0⟩:=x.lc.at_ i _ h
 rw [hσ] at h1;cases h1
 refine ⟨⟨yF x.st ho,?_⟩,qq ho⟩
 have:=x.lc.set (g':=g) (H':=upd H l (.lst vs')) (i:=i) (v:=.ref l) (c:=.ol ts') ⟨l,vs',rfl,ho,ak,r⟩ fun j c v hj q=>q.mv (aP.refl _) eM fun b hb=>by
  have:b≠l:=fun e=>hj (by rw [e,ho] at hb;cases hb;rfl)
  exact ⟨hb,ao this⟩
 have es:σ.set i (some (.ref l))=σ:=by
  apply Iq
  intro j
  by_cases hj:i=j
  ·subst hj
   rw [gq (du.mp hσ).1,hσ]
  ·rw [gh hj]
 rw [es] at this
 exact this
theorem SR.ae1 (x:SR B g H σ s) {i:Nat}{ks WE:List Ky}{ts ts':List T}{l:Addr}{vs':List V}(h:s.r[i]?=some (some (.od ks ts))) (hσ:σ[i]?=some (some (.ref l))) (hk:WE.length=vs'.length) (r:aA B g.al g.HF ts' vs'):SR B g (upd H l (.dK ((WE.map lQ).zip vs'))) σ (iE s i (.od WE ts'))/\dz g H g (upd H l (.dK ((WE.map lQ).zip vs'))):=by
 obtain ⟨v,h1,l',vs,rfl,ho,hh,WG,r0⟩:=x.lc.at_ i _ h
 rw [hσ] at h1;cases h1
 refine ⟨⟨yF x.st ho,?_⟩,qq ho⟩
 have:=x.lc.set (g':=g) (H':=upd H l (.dK ((WE.map lQ).zip vs'))) (i:=i) (v:=.ref l) (c:=.od WE ts') ⟨l,vs',rfl,ho,ak,hk,r⟩ fun j c v hj q=>q.mv (aP.refl _) eM fun b hb=>by
  have:b≠l:=fun e=>hj (by rw [e,ho] at hb;cases hb;rfl)
  exact ⟨hb,ao this⟩
 have es:σ.set i (some (.ref l))=σ:=by
  apply Iq
  intro j
  by_cases hj:i=j
  ·subst hj
   rw [gq (du.mp hσ).1,hσ]
  ·rw [gh hj]
 rw [es] at this
 exact this
def abN:Option jP->Option jP
 | some (.loc _)=>none
 | x=>x
def G.ai (g:G):G:={ g with o:=fun b=>abN (g.o b) }
theorem Bw {q:Option jP}{p:jP}:abN q=some p ↔ q=some p/\∀ i,p≠.loc i:=by
 cases q with
 | none=>exact ⟨fun h=>(by cases h),fun h=>(by cases h.1)⟩
 | some q=>
  cases q with
  | loc i=>exact ⟨fun h=>(by cases h),fun h=>(by obtain ⟨h,n⟩:=h;cases h;exact absurd rfl (n i))⟩
  | ob k=>exact ⟨fun h=>(by cases h;exact ⟨rfl,fun i z=>(by cases z)⟩),fun h=>h.1⟩
  | fld k j=>exact ⟨fun h=>(by cases h;exact ⟨rfl,fun i z=>(by cases z)⟩),fun h=>h.1⟩
theorem i_ {b:Addr}{p:jP}:g.ai.o b=some p ↔ g.o b=some p/\∀ i,p≠.loc i:=Bw
theorem dw.ai (x:dw B g H m):dw B g.ai H m:=
 x.mv x.sub (fun b p e=>x.live b p (i_.mp e).1) (aP.refl _) rfl fun l p h n=>⟨i_.mpr ⟨h,n⟩,rfl⟩
def bkP:Option jP->Option jP->Option jP
 | some (.loc i),_=>some (.loc i)
 | _,y=>y
def G.back (g g':G):G:={ g' with o:=fun b=>bkP (g.o b) (g'.o b) }
theorem ER {b:Addr}{i:Nat}(h:g.o b=some (.loc i)):(G.back g g').o b=some (.loc i):=by
 show bkP (g.o b) (g'.o b)=_
 rw [h];rfl
theorem lS {b:Addr}(h:∀ i,g.o b≠some (.loc i)):(G.back g g').o b=g'.o b:=by
 show bkP (g.o b) (g'.o b)=_
 cases q:g.o b with
 | none=>rfl
 | some p=>cases p with
  | loc i=>exact absurd q (h i)
  | ob k=>rfl
  | fld k j=>rfl
theorem SR.back (x:SR B g H σ s) {m':List Ob}(p:dz g.ai H g' H') (y:dw B g' H' m'):dz g H (G.back g g') H'/\SR B (G.back g g') H' σ { s with m:=m' }:=by
 have keep:∀ l i,g.o l=some (.loc i)->H' l=H l/\g'.HF l=none/\g'.o l=none:=fun l i e=>by
  obtain ⟨h1,u,h2⟩:=x.st.live l _ e
  have h3:g.ai.o l=none:=by
   cases q:g.ai.o l with
   | none=>rfl
   | some p=>obtain ⟨a,b⟩:=i_.mp q;rw [e] at a;cases a;exact absurd rfl (b i)
  obtain ⟨h4,h5,h6⟩:=p.rest l u h2 h1 h3
  exact ⟨h4.trans h2.symm,h5,h6⟩
 have ae2:∀ l q,g'.o l=some q->∀ i,g.o l≠some (.loc i):=fun l q e i z=>by rw [(keep l i z).2.2] at e;cases e
 refine ⟨⟨p.fr,p.pre,fun b u h n z=>?_,p.there⟩,⟨⟨y.sub,fun b q e=>?_,y.len,fun k ob e=>?_⟩,x.lc.len,fun i c e=>?_⟩⟩
 ·have h3:g.ai.o b=none:=by
   cases q:g.ai.o b with
   | none=>rfl
   | some p=>rw [(i_.mp q).1] at z;cases z
  obtain ⟨h4,h5,h6⟩:=p.rest b u h n h3
  exact ⟨h4,h5,(lS fun i w=>by rw [z] at w;cases w).trans h6⟩
 ·by_cases hl:∃ i,g.o b=some (.loc i)
  ·obtain ⟨i,hl⟩:=hl
   obtain ⟨h1,u,h2⟩:=x.st.live b _ hl
   obtain ⟨h4,h5,_⟩:=keep b i hl
   exact ⟨h5,u,h4.trans h2⟩
  ·rw [lS fun i w=>hl ⟨i,w⟩] at e
   exact y.live b q e
 ·exact (y.at_ k ob e).mv (aP.refl _) eM fun l q h _=>⟨(lS (ae2 l q h)).trans h,rfl⟩
 ·obtain ⟨v,h1,h2⟩:=x.lc.at_ i c e
  exact ⟨v,h1,bJ.mv (g:=g) (g':=G.back g g') p.fr p.pre (fun l o=>⟨ER o,(keep l i o).1⟩) h2⟩
variable {es:List Expr}{fl:FL}{ft fu:FT}
abbrev KTb:=List Str × List (List Str)
def _root_.L2.Cx.kt (X:Cx) (t:KTb):KT:=⟨X.K,X.prog,X.w,t.1,t.2⟩
def tE (B:KT) (f:FE):TE:=fun σ H Q=>∃ g s t s',SR B g H σ s/\f s=.ok (t,s')/\∀ v g' H',dz g H g' H'->SR B g' H' σ s'->Rep B g'.al g'.HF t v->Q v H'
def tA (B:KT) (f:FL):TA:=fun σ H Q=>∃ g s ts s',SR B g H σ s/\f s=.ok (ts,s')/\∀ vs g' H',dz g H g' H'->SR B g' H' σ s'->aA B g'.al g'.HF ts vs->Q vs H'
def tT (B:KT) (f:FT):TT:=fun σ H Q=>∃ g s k s',SR B g H σ s/\f s=.ok (k,s')/\∀ g' H',dz g H g' H'->SR B g' H' σ s'->Q k H'
def tP (B:KT) (f:FO):TO:=fun σ H Q=>∃ g s k s',SR B g H σ s/\f s=.ok (k,s')/\∀ g' H',dz g H g' H'->SR B g' H' σ s'->Q k H'
def tO (B:KT) (f:FL):TE:=fun σ H Q=>∃ g s ts s',SR B g H σ s/\f s=.ok (ts,s')/\∀ l vs g' H',dz g H g' H'->SR B g' H' σ s'->H l=none->g'.HF l=none->g'.o l=none->H' l=some (.lst vs)->aA B g'.al g'.HF ts vs->Q (.ref l) H'
theorem a9 {t t':TE}(h:PE X e t) (i:∀ σ H Q,t' σ H Q->t σ H Q):PE X e t':=fun aa s σ H Q I q=>h aa s σ H Q I (i σ H Q q)
theorem ES {t t':TT}(h:PT X e t) (i:∀ σ H Q,t' σ H Q->t σ H Q):PT X e t':=fun aa s σ H Q I q=>h aa s σ H Q I (i σ H Q q)
theorem PM {t t':TT}(h:PW X e t) (i:∀ σ H Q,t' σ H Q->t σ H Q):PW X e t':=fun wh aa s σ H Q I q=>h wh aa s σ H Q I (i σ H Q q)
theorem yG {es:List Expr}{t t':TA}(h:PA X es t) (i:∀ σ H Q,t' σ H Q->t σ H Q):PA X es t':=fun po aa s σ H Q I q=>h po aa s σ H Q I (i σ H Q q)
theorem c8 {st:Stmt}{t t':TS}(h:PS X st t) (i:∀ D σ H,t' D σ H->t D σ H):PS X st t':=fun aa s σ H D I q=>h aa s σ H D I (i D σ H q)
theorem lT {st:List Stmt}{t t':TS}(h:fD X st t) (i:∀ D σ H,t' D σ H->t D σ H):fD X st t':=fun aa s σ H D I q=>h aa s σ H D I (i D σ H q)
theorem PN {e:Option Expr}{t t':TO}(h:PO X e t) (i:∀ σ H Q,t' σ H Q->t σ H Q):PO X e t':=fun aa s σ H Q I q=>h aa s σ H Q I (i σ H Q q)
theorem yH {tg:Expr}{t t':TI}(h:PI X tg e t) (i:∀ σ H Rh,t' σ H Rh->t σ H Rh):PI X tg e t':=fun aa s σ H Rh I q=>h aa s σ H Rh I (i σ H Rh q)
theorem aT:PE X e (tE B bw):=fun _ _ _ _ _ _ ⟨_,_,_,_,_,h,_⟩=>by cases h
theorem iy:PT X e (tT B nM):=fun _ _ _ _ _ _ ⟨_,_,_,_,_,h,_⟩=>by cases h
theorem gK:PE X e (tO B iX):=fun _ _ _ _ _ _ ⟨_,_,_,_,_,h,_⟩=>by cases h
theorem gT {t:T}{v:V}(h:PE X e (tC v)) (r:∀ al H,Rep B al H t v):PE X e (tE B (cF t)):=a9 h fun σ H Q z=>by
 obtain ⟨g,s,t',s',x,h,k⟩:=z
 cases h
 exact k v g H .refl x (r _ _)
theorem ET {i:Nat}{x:Str}(hN:X.N[i]?=some x) (hv:nq X.env.scope x) (hd:a_ x) (fH:e_ x):PE X (.Name x pos) (tE B (vF i)):=by
 refine a9 (bS hN hv hd fH) fun σ H Q zz=>?_
 obtain ⟨g,s,t,s',x,h,k⟩:=zz
 unfold vF at h
 split at h
 ·rename_i t' hr
  cases h
  obtain ⟨v,h1,h2⟩:=x.lc.at_ i _ hr
  exact ⟨v,h1,k v g H .refl x h2⟩
 ·rename_i ts hr
  cases h
  obtain ⟨g',v,p,y,h1,r⟩:=x.iK hr
  exact ⟨v,h1,k v g' H p y r⟩
 ·rename_i ks ts hr
  cases h
  obtain ⟨g',v,p,y,h1,r⟩:=x.aeZ hr
  exact ⟨v,h1,k v g' H p y r⟩
 ·cases h
def L1 (X:Cx) (f:T->Option T) (r:V->Hp->VK->Prop):Prop:=∀ (B:KT) (_:B.K=X.K) (al:List Addr) (HF H:Hp) (x:V) (t tx:T) (Q:VK),aP HF H->Rep B al HF tx x->f tx=some t->(∀ v eW H',Gr HF H eW H'->Rep B al eW t v->Q v H')->r x H Q
def rD (X:Cx) (f:T->T->Option T) (r:R2):Prop:=∀ (B:KT) (_:B.K=X.K) (al:List Addr) (HF H:Hp) (x y:V) (t tx ty:T) (Q:VK),aP HF H->Rep B al HF tx x->Rep B al HF ty y->f tx ty=some t->(∀ v eW H',Gr HF H eW H'->Rep B al eW t v->Q v H')->r x y H Q
def LN (X:Cx) (f:List T->Option T) (r:List V->Hp->VK->Prop):Prop:=∀ (B:KT) (_:B.K=X.K) (al:List Addr) (HF H:Hp) (xs:List V) (t:T) (ts:List T) (Q:VK),aP HF H->aA B al HF ts xs->f ts=some t->(∀ v eW H',Gr HF H eW H'->Rep B al eW t v->Q v H')->r xs H Q
theorem EU {f:T->Option T}{r:V->Hp->VK->Prop}(hB:B.K=X.K) (hr:L1 X f r):∀ σ H Q,tE B (b8 f fa) σ H Q->tUn r (tE B fa) σ H Q:=by
 rintro σ H Q ⟨g,s,t,s',x,h,k⟩
 obtain ⟨⟨tx,s1⟩,h1,h⟩:=af h
 obtain ⟨t',h2,h⟩:=af h
 cases h
 exact ⟨g,s,tx,s1,x,h1,fun v g1 H1 p1 x1 r1=>hr B hB g1.al g1.HF H1 v _ tx Q x1.sub r1 (au h2) fun u eW H' gr r2=>k u (g1.grow eW) H' (p1.trans (x1.nz gr)) (x1.grow gr) r2⟩
theorem ja {f:T->T->Option T}{r:R2}(hB:B.K=X.K) (hr:rD X f r):∀ σ H Q,tE B (cz f fa fb) σ H Q->HA r (tE B fa) (tE B fb) σ H Q:=by
 rintro σ H Q ⟨g,s,t,s',x,h,k⟩
 obtain ⟨⟨tx,s1⟩,h1,h⟩:=af h
 obtain ⟨⟨ty,s2⟩,h2,h⟩:=af h
 obtain ⟨t',h3,h⟩:=af h
 cases h
 exact ⟨g,s,tx,s1,x,h1,fun v g1 H1 p1 x1 r1=>⟨g1,s1,ty,s2,x1,h2,fun w g2 H2 p2 x2 r2=>
  hr B hB g2.al g2.HF H2 v w _ tx ty Q x2.sub (r1.mv p2.pre p2.fr) r2 (au h3) fun u eW H' gr r3=>k u (g2.grow eW) H' ((p1.trans p2).trans (x2.nz gr)) (x2.grow gr) r3⟩⟩
theorem PQ {f:List T->Option T}{r:List V->Hp->VK->Prop}(hB:B.K=X.K) (hr:LN X f r):∀ σ H Q,tE B (bC f fl) σ H Q->tCB r (tA B fl) σ H Q:=by
 rintro σ H Q ⟨g,s,t,s',x,h,k⟩
 obtain ⟨⟨ts,s1⟩,h1,h⟩:=af h
 obtain ⟨t',h2,h⟩:=af h
 cases h
 exact ⟨g,s,ts,s1,x,h1,fun vs g1 H1 p1 x1 r1=>hr B hB g1.al g1.HF H1 vs _ ts Q x1.sub r1 (au h2) fun u eW H' gr r2=>k u (g1.grow eW) H' (p1.trans (x1.nz gr)) (x1.grow gr) r2⟩
theorem wZ:PA X [] (tA B cA):=yG cZ fun σ H Q z=>by
 obtain ⟨g,s,t,s',x,h,k⟩:=z
 cases h
 exact k [] g H .refl x rfl
theorem qr (ha:PE X e (tE B fa)) (hr:PA X es (tA B fl)) (hs:starEach (e::es) X.env=(false,eval e X.env)::starEach es X.env):PA X (e::es) (tA B (cj fa fl)):=yG (bj ha hr hs) fun σ H Q z=>by
 obtain ⟨g,s,t,s',x,h,k⟩:=z
 obtain ⟨⟨tx,s1⟩,h1,h⟩:=af h
 obtain ⟨⟨ty,s2⟩,h2,h⟩:=af h
 cases h
 exact ⟨g,s,tx,s1,x,h1,fun v g1 H1 p1 x1 r1=>⟨g1,s1,ty,s2,x1,h2,fun w g2 H2 p2 x2 r2=>k (v::w) g2 H2 (p1.trans p2) x2 ⟨v,w,rfl,r1.mv p2.pre p2.fr,r2⟩⟩⟩
theorem w_ {n:Nat}(h:n<=1000):n<=sizeLine:=by rw [sizeLine_eq];omega
theorem abO {x1}(h:PA X es (tA B fl)):PE X (.Tuple es x1 pos) (tE B (bC lO fl)):=a9 (Dr h) fun σ H Q z=>by
 obtain ⟨g,s,t,s',x,h,k⟩:=z
 obtain ⟨⟨ts,s1⟩,h1,h⟩:=af h
 obtain ⟨t',h2,h⟩:=af h
 cases h
 obtain ⟨z,rfl⟩:=bH (au h2)
 refine ⟨g,s,ts,s1,x,h1,fun vs g1 H1 p1 x1 r1=>⟨w_ (by rw [<- r1.len];exact z),fun q hq=>?_⟩⟩
 have gr:=Gr.new (o:=.tup vs) x1.sub hq
 exact k _ _ _ (p1.trans (x1.nz gr)) (x1.grow gr) ⟨q,vs,rfl,.inl (.inl ak),r1.same gr.fr⟩
theorem abP (h:PA X es (tA B fl)):PE X (.List es pos) (tE B (bC eO fl)):=a9 (lG h) fun σ H Q z=>by
 obtain ⟨g,s,t,s',x,h,k⟩:=z
 obtain ⟨⟨ts,s1⟩,h1,h⟩:=af h
 obtain ⟨t',h2,h⟩:=af h
 cases h
 obtain ⟨z,rfl⟩:=bH (au h2)
 refine ⟨g,s,ts,s1,x,h1,fun vs g1 H1 p1 x1 r1=>⟨w_ (by rw [<- r1.len];exact z),fun q hq=>?_⟩⟩
 have gr:=Gr.new (o:=.lst vs) x1.sub hq
 exact k _ _ _ (p1.trans (x1.nz gr)) (x1.grow gr) ⟨q,vs,rfl,ak,r1.same gr.fr⟩
def tN (fl:FL):FL:=fun s=>(fl s).bind fun p=>if p.1.length<=1000 then .ok p else .bad
theorem nN {l:Addr}{u:HO}(x:SR B g H σ s) (h:H l=none):Gr g.HF H g.HF (upd H l u)/\g.HF l=none/\g.o l=none:=by
 refine ⟨.nN x.sub h,x.sub.free h,?_⟩
 cases q:g.o l with
 | none=>rfl
 | some p=>obtain ⟨_,u,z⟩:=x.st.live l p q;rw [h] at z;cases z
theorem Uu (h:PA X es (tA B fl)):PE X (.List es pos) (tO B (tN fl)):=a9 (lG h) fun σ H Q z=>by
 obtain ⟨g,s,t,s',x,h,k⟩:=z
 obtain ⟨⟨ts,s1⟩,h1,h⟩:=af h
 dsimp only at h
 split at h
 ·rename_i z
  cases h
  refine ⟨g,s,_,_,x,h1,fun vs g1 H1 p1 x1 r1=>⟨w_ (by rw [<- r1.len];exact z),fun q hq=>?_⟩⟩
  obtain ⟨gr,n1,n2⟩:=nN (u:=.lst vs) x1 hq
  exact k q vs _ _ (p1.trans (x1.nz gr)) (x1.grow gr) (p1.there q hq) n1 n2 ak r1
 ·cases h
theorem SR.xf {l:Addr}{u:HO}(x:SR B g H σ s) (hf:g.HF l=none) (ho:g.o l=none) (hh:H l=some u):SR B (g.grow (upd g.HF l u)) H σ s:=by
 have sl:∀ p c v,bJ B g H p c v->bJ B (g.grow (upd g.HF l u)) H p c v:=fun p c v h=>bJ.mv (g:=g) (g':=g.grow (upd g.HF l u)) (aS hf) eM (fun _ q=>⟨q,rfl⟩) h
 refine ⟨x.st.mv (fun b w e=>?_) (fun b p e=>?_) (aS hf) rfl fun _ _ q _=>⟨q,rfl⟩,x.lc.len,fun i c e=>let ⟨v,h1,h2⟩:=x.lc.at_ i c e;⟨v,h1,sl _ _ _ h2⟩⟩
 ·have e:upd g.HF l u b=some w:=e
  by_cases hb:b=l
  ·subst hb;rw [ak] at e;cases e;exact hh
  ·rw [ao hb] at e;exact x.sub _ _ e
 ·obtain ⟨h1,h2⟩:=x.st.live b p e
  have:b≠l:=fun z=>by subst z;rw [show g.o b=some p from e] at ho;cases ho
  exact ⟨by show upd g.HF l u b=none;rw [ao this];exact h1,h2⟩
theorem dz.xf {g1:G}{H1:Hp}{l:Addr}{u:HO}(p:dz g H g1 H1) (h0:H l=none) (hf:g1.HF l=none):dz g H (g1.grow (upd g1.HF l u)) H1:=
 ⟨p.fr.trans (aS hf),p.pre,fun b w h n z=>by
  obtain ⟨a,b',c⟩:=p.rest b w h n z
  have:b≠l:=aM h h0
  exact ⟨a,by show upd g1.HF l u b=none;rw [ao this];exact b',c⟩,p.there⟩
theorem EV (h:PE X e (tO B fl)):PE X e (tE B (c6 fl)):=a9 h fun σ H Q z=>by
 obtain ⟨g,s,t,s',x,h,k⟩:=z
 obtain ⟨⟨ts,s1⟩,h1,h⟩:=af h
 cases h
 refine ⟨g,s,_,_,x,h1,fun l vs g1 H1 p1 x1 h0 n1 n2 hl r1=>?_⟩
 exact k _ _ H1 (p1.xf h0 n1) (x1.xf n1 n2 hl) ⟨l,vs,rfl,ak,r1.same (aS n1)⟩
theorem Uv (ha:PT X a (tT B ft)):PW X (.BoolOp .And [a] pos) (tT B ft):=IC ha
theorem abQ (ha:PT X a (tT B ft)):PW X (.BoolOp .Or [a] pos) (tT B ft):=QQ ha
theorem abR {rest:List Expr}(ha:PT X a (tT B ft)) (hb:PW X (.BoolOp .And (b::rest) pos) (tT B fu)):PW X (.BoolOp .And (a::b::rest) pos) (tT B (iY ft fu)):=PM (QR ha hb) fun σ H Q z=>by
 obtain ⟨g,s,t,s',x,h,k⟩:=z
 obtain ⟨⟨d,s1⟩,h1,h⟩:=af h
 refine ⟨g,s,d,s1,x,h1,fun g1 H1 p1 x1=>?_⟩
 cases d with
 | true=>exact pU ⟨g1,s1,_,_,x1,h,fun g2 H2 p2 x2=>k g2 H2 (p1.trans p2) x2⟩
 | false=>cases h;exact nI (k g1 H1 p1 x1)
theorem ae3 {rest:List Expr}(ha:PT X a (tT B ft)) (hb:PW X (.BoolOp .Or (b::rest) pos) (tT B fu)):PW X (.BoolOp .Or (a::b::rest) pos) (tT B (nu ft fu)):=PM (W8 ha hb) fun σ H Q z=>by
 obtain ⟨g,s,t,s',x,h,k⟩:=z
 obtain ⟨⟨d,s1⟩,h1,h⟩:=af h
 refine ⟨g,s,d,s1,x,h1,fun g1 H1 p1 x1=>?_⟩
 cases d with
 | true=>cases h;exact pU (k g1 H1 p1 x1)
 | false=>exact nI ⟨g1,s1,_,_,x1,h,fun g2 H2 p2 x2=>k g2 H2 (p1.trans p2) x2⟩
theorem abS (ha:PT X a (tT B ft)):PT X (.UnaryOp .Not a pos) (tT B (c_ ft)):=ES (QT ha) fun σ H Q z=>by
 obtain ⟨g,s,t,s',x,h,k⟩:=z
 obtain ⟨⟨d,s1⟩,h1,h⟩:=af h
 cases h
 exact ⟨g,s,d,s1,x,h1,fun g1 H1 p1 x1=>k g1 H1 p1 x1⟩
theorem kW {t:T}{k:Bool}(h:Uq t=some k):t=.bl k:=by
 cases t<;>first | (cases h;done) | (cases h;rfl)
theorem EW {op}(ha:PE X a (tE B fa)):PE X (.BoolOp op [a] pos) (tE B fa):=QU ha
theorem Uw {rest:List Expr}(ha:PE X a (tE B fa)) (hb:PE X (.BoolOp .And (b::rest) pos) (tE B fb)):PE X (.BoolOp .And (a::b::rest) pos) (tE B (jO fa fb)):=a9 (QV ha hb) fun σ H Q z=>by
 obtain ⟨g,s,t,s',x,h,k⟩:=z
 obtain ⟨⟨d,s1⟩,h1,h⟩:=af h
 obtain ⟨d',h2,h⟩:=af h
 cases kW (au h2)
 refine ⟨g,s,_,s1,x,h1,fun v g1 H1 p1 x1 r1=>⟨d',r1,?_⟩⟩
 cases d' with
 | true=>exact pU ⟨g1,s1,_,_,x1,h,fun w g2 H2 p2 x2 r2=>k w g2 H2 (p1.trans p2) x2 r2⟩
 | false=>cases h;exact nI (k _ g1 H1 p1 x1 rfl)
theorem abT {rest:List Expr}(ha:PE X a (tE B fa)) (hb:PE X (.BoolOp .Or (b::rest) pos) (tE B fb)):PE X (.BoolOp .Or (a::b::rest) pos) (tE B (Ur fa fb)):=a9 (Xa ha hb) fun σ H Q z=>by
 obtain ⟨g,s,t,s',x,h,k⟩:=z
 obtain ⟨⟨d,s1⟩,h1,h⟩:=af h
 obtain ⟨d',h2,h⟩:=af h
 cases kW (au h2)
 refine ⟨g,s,_,s1,x,h1,fun v g1 H1 p1 x1 r1=>⟨d',r1,?_⟩⟩
 cases d' with
 | true=>cases h;exact pU (k _ g1 H1 p1 x1 rfl)
 | false=>exact nI ⟨g1,s1,_,_,x1,h,fun w g2 H2 p2 x2 r2=>k w g2 H2 (p1.trans p2) x2 r2⟩
theorem Ux (ha:PE X a (tE B fa)):PE X (.UnaryOp .Not a pos) (tE B (wY fa)):=a9 (QW ha) fun σ H Q z=>by
 obtain ⟨g,s,t,s',x,h,k⟩:=z
 obtain ⟨⟨d,s1⟩,h1,h⟩:=af h
 obtain ⟨d',h2,h⟩:=af h
 cases kW (au h2)
 cases h
 exact ⟨g,s,_,s1,x,h1,fun v g1 H1 p1 x1 r1=>⟨d',r1,k _ g1 H1 p1 x1 rfl⟩⟩
theorem abU (hc:PT X c (tT B ft)) (ha:PE X a (tE B fa)) (hb:PE X b (tE B fb)):PE X (.IfExp c a b pos) (tE B (rC ft fa fb)):=a9 (Dd hc ha hb) fun σ H Q z=>by
 obtain ⟨g,s,t,s',x,h,k⟩:=z
 obtain ⟨⟨d,s1⟩,h1,h⟩:=af h
 refine ⟨g,s,d,s1,x,h1,fun g1 H1 p1 x1=>?_⟩
 cases d with
 | true=>exact pU ⟨g1,s1,_,_,x1,h,fun w g2 H2 p2 x2 r2=>k w g2 H2 (p1.trans p2) x2 r2⟩
 | false=>exact nI ⟨g1,s1,_,_,x1,h,fun w g2 H2 p2 x2 r2=>k w g2 H2 (p1.trans p2) x2 r2⟩
theorem EY {al:List Addr}{HF:Hp}{t:T}{k:Bool}{v:V}(h:Lp t=some k) (sm:aP HF H) (r:Rep B al HF t v):Rf B.K v H k:=by
 cases t<;>first | (cases h;done) | skip
 ·cases h;cases r;rfl
 ·cases h
  obtain ⟨a,vs,rfl,q,rr⟩:=r
  refine .inl ⟨vs,cY.of (sm _ _ q),?_⟩
  have:=rr.len
  rename_i xs
  cases xs<;>cases vs<;>first | rfl | (cases this)
theorem PR (ha:PE X a (tE B fa)) (hB:B.K=X.K) (he:∀ gb,isTrue a X.env gb=(do let v <- gb;standAt a.pos;holding [v] (truthy v))):PT X a (tT B (tB fa)):=ES (Dl ha he) fun σ H Q z=>by
 obtain ⟨g,s,t,s',x,h,k⟩:=z
 obtain ⟨⟨d,s1⟩,h1,h⟩:=af h
 obtain ⟨d',h2,h⟩:=af h
 cases h
 exact ⟨g,s,_,s1,x,h1,fun v g1 H1 p1 x1 r1=>⟨_,hB ▸ EY (au h2) x1.sub r1,k g1 H1 p1 x1⟩⟩
section
theorem eQ (l:List Nat):(⟨l.toArray⟩:Str).length=l.length:=by show l.toArray.size=_;simp
theorem szS {l:List Nat}(h:l.length<=1000000):(⟨l.toArray⟩:Str).length<=sizeLine:=by rw [eQ,sizeLine_eq];omega
theorem Uy (a b:List Nat):(⟨a.toArray⟩:Str)++⟨b.toArray⟩=⟨(a++b).toArray⟩:=by
 show (⟨a.toArray++b.toArray⟩:Str)=_
 simp
def PU:R2:=fun x y H Q=>HB (fun i j=>.int (i+j)) x y H Q\/(∃ i j,x=.str i/\y=.str j/\i.length+j.length<=sizeLine/\Q (.str (i++j)) H)\/XI x y H Q
theorem Lv:fW X (binaryOp .Add) PU:=Q9.or (vI.or vU)
theorem abV:rD X abF PU:=fun B hB al HF H x y t tx ty Q sm rx ry h k=>by
 cases tx<;>first | (cases h;done) | (cases ty<;>first | (cases h;done) | skip)
 ·cases h;exact .inl ⟨_,_,rx,ry,k _ HF H (.refl sm) rfl⟩
 ·obtain ⟨c,rfl⟩:=bH h
  obtain ⟨rfl,_⟩:=rx
  obtain ⟨rfl,_⟩:=ry
  refine .inr (.inl ⟨_,_,rfl,rfl,?_,?_⟩)
  ·rw [eQ,eQ,sizeLine_eq];omega
  ·rw [Uy]
   exact k _ HF H (.refl sm) ⟨rfl,by rw [bL];omega⟩
 ·obtain ⟨c,rfl⟩:=bH h
  obtain ⟨l,xs,rfl,q,r⟩:=rx
  obtain ⟨m,ys,rfl,q',r'⟩:=ry
  refine .inr (.inr ⟨l,m,xs,ys,rfl,rfl,sm _ _ q,sm _ _ q',by rw [<- r.len,<- r'.len,sizeLine_eq];omega,fun p hp=>?_⟩)
  have gr:=Gr.new (o:=.lst (xs++ys)) sm hp
  exact k _ _ _ gr ⟨p,_,rfl,ak,(r.app r').same gr.fr⟩
theorem ae4 {f:T->T->Option T}{gg:Int->Int->V}{G:Int->Int->T}(hf:∀ tx ty t,f tx ty=some t->∃ i j,tx=.int i/\ty=.int j/\t=G i j) (hg:∀ B al i j H,Rep B al H (G i j) (gg i j)):rD X f (HB gg):=fun B hB al HF H x y t tx ty Q sm rx ry h k=>by
 obtain ⟨i,j,rfl,rfl,rfl⟩:=hf _ _ _ h
 exact ⟨i,j,rx,ry,k _ HF H (.refl sm) (hg B al i j HF)⟩
theorem PV {f:T->T->Option T}{gg:Int->Int->V}{G:Int->Int->T}{C:Int->Int->Prop}(hf:∀ tx ty t,f tx ty=some t->∃ i j,tx=.int i/\ty=.int j/\t=G i j/\C i j) (hg:∀ B al i j H,Rep B al H (G i j) (gg i j)):rD X f (rI C gg):=fun B hB al HF H x y t tx ty Q sm rx ry h k=>by
 obtain ⟨i,j,rfl,rfl,rfl,c⟩:=hf _ _ _ h
 exact ⟨i,j,rx,ry,c,k _ HF H (.refl sm) (hg B al i j HF)⟩
theorem abW:rD X abH (rI Xk fun i j=>.int (i/j)):=PV (G:=fun i j=>.int (i/j)) (fun tx ty t h=>by
 cases tx<;>first | (cases h;done) | (cases ty<;>first | (cases h;done) | (obtain ⟨c,rfl⟩:=bH h;exact ⟨_,_,rfl,rfl,rfl,c⟩))) fun _ _ _ _ _=>rfl
theorem abX:rD X abI (rI (fun _ j=>0<j) fun i j=>.int (i % j)):=PV (G:=fun i j=>.int (i % j)) (fun tx ty t h=>by
 cases tx<;>first | (cases h;done) | (cases ty<;>first | (cases h;done) | (obtain ⟨c,rfl⟩:=bH h;exact ⟨_,_,rfl,rfl,rfl,c⟩))) fun _ _ _ _ _=>rfl
def yI (i j:Int):Prop:=Q8 i j\/(i.natAbs.log2<2000000/\j.natAbs.log2<2000000)
theorem ow {i:Int}(h:i.natAbs.log2<2000000):Builtin.Int.intBits i<=2000000:=by
 unfold Builtin.Int.intBits
 split
 ·omega
 ·omega
theorem yI.ok {i j:Int}(h:yI i j):IntMulOk i j:=by
 rcases h with h | ⟨h1,h2⟩
 ·exact h.ok
 ·have a:=ow h1
  have b:=ow h2
  intro q
  rw [cy] at q
  have c:=of_decide_eq_true (show decide (((Builtin.Int.intBits i:Nat):Int)+(Builtin.Int.intBits j:Nat) > (bitsLine:Nat))=true from q.2)
  have d:(bitsLine:Nat)=134217728:=rfl
  omega
theorem Lw:fW X (binaryOp .Mult) (rI yI fun i j=>.int (i*j)):=opI fun _ _ _ _ _ _ _ hc q=>PyProof.Rows.mul_int q hc.ok
def PX:R2:=fun x y H Q=>rI yI (fun i j=>.int (i*j)) x y H Q\/XM x y H Q
theorem Lx:fW X (binaryOp .Mult) PX:=Lw.or Rq
def PY:T->T->Option T
 | .int i,.int j=>abG (.int i) (.int j)
 | .lst a,.int k=>abG (.lst a) (.int k)
 | _,_=>none
theorem abY:rD X PY PX:=fun B hB al HF H x y t tx ty Q sm rx ry h k=>by
 cases tx<;>first | (cases h;done) | (cases ty<;>first | (cases h;done) | skip)
 ·obtain ⟨c,rfl⟩:=bH h
  exact .inl ⟨_,_,rx,ry,c,k _ HF H (.refl sm) rfl⟩
 ·obtain ⟨c,rfl⟩:=bH h
  obtain ⟨l,xs,rfl,q,r⟩:=rx
  refine .inr ⟨l,_,xs,rfl,ry,sm _ _ q,by omega,by omega,by rw [<- r.len,sizeLine_eq];omega,fun p hp=>?_⟩
  exact k _ _ _ (Gr.new sm hp) ⟨p,_,rfl,ak,(r.flat _).same (aS (sm.free hp))⟩
def fj:Operator->T->T->Option T
 | .Add=>abF
 | .Mult=>PY
 | .FloorDiv=>abH
 | .Mod=>abI
 | _=>fun _ _=>none
theorem abZ (hB:B.K=X.K) (op:Operator) (ha:PE X a (tE B fa)) (hb:PE X b (tE B fb)):PE X (.BinOp a op b pos) (tE B (cz (fj op) fa fb)):=by
 have no:∀ f:T->T->Option T,(∀ x y,f x y=none)->PE X (.BinOp a op b pos) (tE B (cz f fa fb)):=fun f hf _ _ _ _ _ _ z=>by
  obtain ⟨_,_,_,_,_,h,_⟩:=z
  obtain ⟨⟨tx,s1⟩,h1,h⟩:=af h
  obtain ⟨⟨ty,s2⟩,h2,h⟩:=af h
  obtain ⟨t',h3,h⟩:=af h
  rw [hf] at h3
  cases h3
 cases op
 case Add=>exact a9 (nY Lv ha hb) (ja hB abV)
 case Mult=>exact a9 (nY Lx ha hb) (ja hB abY)
 case FloorDiv=>exact a9 (nY IK ha hb) (ja hB abW)
 case Mod=>exact a9 (nY Q_ ha hb) (ja hB abX)
 all_goals exact no _ fun _ _=>rfl
theorem ab0 (hB:B.K=X.K) (ha:PE X a (tE B fa)):PE X (.UnaryOp .USub a pos) (tE B (b8 nL fa)):=
 a9 (Xj Ra ha) (EU hB fun B hB al HF H x t tx Q sm rx h k=>by
  cases tx<;>first | (cases h;done) | skip
  cases h
  exact ⟨_,rx,k _ HF H (.refl sm) rfl⟩)
end
section
theorem dj {B:KT}{al:List Addr}{H:Hp}{t:T}{v:V}(h:Rep B al H t v) (f:bI t=true):dC v=true:=by
 cases t with
 | non=>cases (show v=.non from h);rfl
 | bl b=>cases (show v=.bl b from h);rfl
 | int i=>cases (show v=.int i from h);rfl
 | str l=>obtain ⟨rfl,_⟩:=h;rfl
 | tup _=>cases f
 | lst _=>cases f
 | scr _=>cases f
 | obj _ _=>cases f
 | own _=>cases f
 | dO _ _=>cases f
theorem str_beq (l m:List Nat):((⟨l.toArray⟩:Str) == ⟨m.toArray⟩)=decide (l=m):=by
 by_cases h:l=m
 ·subst h;simp
 ·rw [decide_eq_false h,beq_eq_false_iff_ne]
  intro e
  injection e with e
  exact h (by simpa using e)
theorem jb {B:KT}{al:List Addr}{H:Hp}{t u:T}{v w:V}(h:Rep B al H t v) (h':Rep B al H u w) (f:bI t=true) (f':bI u=true):DB v w=eqT t u:=by
 cases t with
 | tup _=>cases f
 | lst _=>cases f
 | scr _=>cases f
 | obj _ _=>cases f
 | own _=>cases f
 | dO _ _=>cases f
 | non=>
  cases (show v=.non from h)
  cases u with
  | tup _=>cases f'
  | lst _=>cases f'
  | scr _=>cases f'
  | obj _ _=>cases f'
  | own _=>cases f'
  | dO _ _=>cases f'
  | non=>cases (show w=.non from h');rfl
  | bl b=>cases (show w=.bl b from h');rfl
  | int i=>cases (show w=.int i from h');rfl
  | str l=>obtain ⟨rfl,_⟩:=h';rfl
 | bl b0=>
  cases (show v=.bl b0 from h)
  cases u with
  | tup _=>cases f'
  | lst _=>cases f'
  | scr _=>cases f'
  | obj _ _=>cases f'
  | own _=>cases f'
  | dO _ _=>cases f'
  | non=>cases (show w=.non from h');rfl
  | bl b=>cases (show w=.bl b from h');rfl
  | int i=>
   cases (show w=.int i from h')
   show ((if b0 then 1 else 0) == i)=decide ((if b0 then 1 else 0:Int)=i)
   rw [CQ]
  | str l=>obtain ⟨rfl,_⟩:=h';rfl
 | int i0=>
  cases (show v=.int i0 from h)
  cases u with
  | tup _=>cases f'
  | lst _=>cases f'
  | scr _=>cases f'
  | obj _ _=>cases f'
  | own _=>cases f'
  | dO _ _=>cases f'
  | non=>cases (show w=.non from h');rfl
  | bl b=>
   cases (show w=.bl b from h')
   show (i0 == (if b then 1 else 0))=decide (i0=(if b then 1 else 0:Int))
   rw [CQ]
  | int i=>
   cases (show w=.int i from h')
   show (i0 == i)=decide (i0=i)
   rw [CQ]
  | str l=>obtain ⟨rfl,_⟩:=h';rfl
 | str l0=>
  obtain ⟨rfl,_⟩:=h
  cases u with
  | tup _=>cases f'
  | lst _=>cases f'
  | scr _=>cases f'
  | obj _ _=>cases f'
  | own _=>cases f'
  | dO _ _=>cases f'
  | non=>cases (show w=.non from h');rfl
  | bl b=>cases (show w=.bl b from h');rfl
  | int i=>cases (show w=.int i from h');rfl
  | str l=>obtain ⟨rfl,_⟩:=h';exact str_beq _ _
theorem jc {aa:c9}{σ:St}{H HF:Hp}{s:Shared}{a:Addr}{vs:List V}(I:Inv X aa σ H s) (sm:aP HF H) (h:j_ X.K HF a vs):∃ its:List Value,Vals vs its/\s.heap.IsTuple a its.toArray:=by
 obtain ⟨its,r,ht,hz⟩:=I.tuple (xs:=vs) (bP sm h)
 exact ⟨its,r,ht⟩
theorem jd {aa:c9}{σ:St}{H HF:Hp}{s:Shared}{a:Addr}{vs:List V}(I:Inv X aa σ H s) (sm:aP HF H) (h:HF a=some (.lst vs)):∃ its:List Value,Vals vs its/\s.heap.IsList a its.toArray:=by
 obtain ⟨its,r,p,hz⟩:=I.list (cY.of (sm _ _ h))
 exact ⟨its,r,p.isList⟩
theorem EZ {v:V}(f:dC v=true):DB v v=true:=by
 cases v<;>first | (cases f;done) | rfl | (show (_ == _)=true;exact beq_self_eq_true _)
theorem E1 (t u:T):shape 0 t u=(bI t&&bI u):=rfl
theorem yJ {al:List Addr}(hB:B.K=X.K) {aa:c9}{σ:St}{H HF:Hp}{s:Shared}(I:Inv X aa σ H s) (sm:aP HF H) (n:Nat):∀ {t u:T}{v:V},Rep B al HF t v->Rep B al HF u v->shape n t u=true->eqT t u=true:=by
 have flat:∀ {t u:T} {v:V},Rep B al HF t v->Rep B al HF u v->(bI t&&bI u)=true->eqT t u=true:=fun h h' f=>by
  obtain ⟨f1,f2⟩:=vz.mp f
  rw [<- jb h h' f1 f2]
  exact EZ (dj h f1)
 induction n with
 | zero=>exact fun {t u v} h h' sh=>flat h h' ((E1 t u).symm.trans sh)
 | succ n ih=>
  intro t u v h h' sh
  have items:∀ {ts us:List T} {vs:List V},aA B al HF ts vs->aA B al HF us vs->all2 (shape n) ts us=true->gG ts us=true:=by
   intro ts
   induction ts with
   | nil=>intro us vs h h' _;cases (show vs=[] from h);cases us with
    | nil=>rfl
    | cons u us=>obtain ⟨_,_,e,_⟩:=h';cases e
   | cons t ts iht=>intro us vs h h' sh;cases us with
    | nil=>obtain ⟨_,_,e,_⟩:=h;cases (show vs=[] from h');cases e
    | cons u us=>
     obtain ⟨v,r,rfl,h1,h2⟩:=h
     obtain ⟨v',r',e,h1',HW⟩:=h'
     cases e
     obtain ⟨sh1,sh2⟩:=vz.mp (show (shape n t u&&all2 (shape n) ts us)=true from sh)
     show (eqT t u&&gG ts us)=true
     rw [ih h1 h1' sh1,iht h2 HW sh2];rfl
  cases t with
  | tup ts=>
   cases u with
   | tup us=>
    obtain ⟨a,vs,rfl,q,r⟩:=h
    obtain ⟨a',vs',e,q',r'⟩:=h'
    cases e
    have ev:=I.nX (bP sm (hB ▸ q)) (bP sm (hB ▸ q'))
    subst ev
    exact items r r' sh
   | _=>exact flat h h' sh
  | lst ts=>
   cases u with
   | lst us=>
    obtain ⟨a,vs,rfl,q,r⟩:=h
    obtain ⟨a',vs',e,q',r'⟩:=h'
    cases e
    rw [q] at q';cases q'
    exact items r r' sh
   | _=>exact flat h h' sh
  | _=>exact flat h h' (by cases u<;>exact sh)
theorem tQ {p:T->T->Bool}:∀ {as bs:List T},all2 p as bs=true->∀ {j:Nat}{a b:T},as[j]?=some a->bs[j]?=some b->p a b=true
 | a::as,b::bs,h,0,_,_,e1,e2=>by
  simp at e1 e2;subst e1 e2
  exact (vz.mp h).1
 | a::as,b::bs,h,j+1,_,_,e1,e2=>tQ (vz.mp h).2 (j:=j) (by simpa using e1) (by simpa using e2)
 | [],_,_,_,_,_,e1,_=>by simp at e1
 | _::_,[],_,_,_,_,_,e2=>by simp at e2
theorem eE:∀ (xs ys:List T),((pe (min xs.length ys.length)).all (fun j=>eqT (xs.getD j .non) (ys.getD j .non))&&xs.length == ys.length)=gG xs ys
 | [],[]=>rfl
 | [],_::_=>by simp [gG]
 | _::_,[]=>by simp [gG]
 | x::xs,y::ys=>by
  have ih:=eE xs ys
  rw [dq,dq,Nat.succ_min_succ,Cw,eL,Cy]
  have e:(xs.length+1 == ys.length+1)=(xs.length == ys.length):=by
   by_cases h:xs.length=ys.length<;>simp [h]
  rw [e]
  show ((eqT x y&&(pe (min xs.length ys.length)).all fun j=>eqT (xs.getD j .non) (ys.getD j .non))&&_)=(eqT x y&&gG xs ys)
  rw [<- ih,Bool.and_assoc]
theorem lU:∀ {xs ys:List T},xs.length≠ys.length->gG xs ys=false
 | [],[],h=>absurd rfl h
 | [],_::_,_=>rfl
 | _::_,[],_=>rfl
 | x::xs,y::ys,h=>by
  show (eqT x y&&gG xs ys)=false
  rw [lU (fun e=>h (by simp [e])),Iu]
theorem in1_units (A:Around):A.in1.units=A.units+1:=rfl
theorem je {al:List Addr}{HF:Hp}{A:Around}{s:Shared}{ts us:List T}{vs ws:List V}{its its':List Value}{n:Nat}(r:aA B al HF ts vs) (r':aA B al HF us ws) (rv:Vals vs its) (yK:Vals ws its') (sh:all2 (shape n) ts us=true)
  (ih:∀ {t u:T} {v w:V} {x y:Value},Rep B al HF t v->Rep B al HF u w->RelV v x->RelV w y->shape n t u=true->SeqAt.EqAt A s x y (eqT t u)) :
  ∀ j (h1:j<its.toArray.size) (h2:j<its'.toArray.size),SeqAt.EqAt A s its.toArray[j] its'.toArray[j] ((fun j=>eqT (ts.getD j .non) (us.getD j .non)) j):=by
 intro j h1 h2
 have l1:=rv.length
 have l2:=yK.length
 have l3:=r.len
 have l4:=r'.len
 have h1':j<ts.length:=by rw [l3,l1];simpa using h1
 have HW:j<us.length:=by rw [l4,l2];simpa using h2
 obtain ⟨v,e1,q1⟩:=r.get (cX h1')
 obtain ⟨w,e2,q2⟩:=r'.get (cX HW)
 obtain ⟨x,e3,q3⟩:=rv.get e1
 obtain ⟨y,e4,q4⟩:=yK.get e2
 have q5:its.toArray[j]=x:=by
  obtain ⟨_,z⟩:=du.mp e3
  simpa using z
 have q6:its'.toArray[j]=y:=by
  obtain ⟨_,z⟩:=du.mp e4
  simpa using z
 rw [q5,q6]
 have g1:ts.getD j .non=ts[j]:=by rw [kH,cX h1'];rfl
 have g2:us.getD j .non=us[j]:=by rw [kH,cX HW];rfl
 show SeqAt.EqAt A s x y (eqT (ts.getD j .non) (us.getD j .non))
 rw [g1,g2]
 exact ih q1 q2 q3 q4 (tQ sh (cX h1') (cX HW))
theorem Ly {al:List Addr}(hB:B.K=X.K) {aa:c9}{σ:St}{H HF:Hp}{s:Shared}(I:Inv X aa σ H s) (sm:aP HF H) (n:Nat):∀ (A:Around) {t u:T}{v w:V}{x y:Value},A.units+n<cLine->Rep B al HF t v->Rep B al HF u w->RelV v x->RelV w y->shape n t u=true->SeqAt.EqAt A s x y (eqT t u):=by
 induction n with
 | zero=>
  intro A t u v w x y hu rt ru rx ry sh
  have sh:=(E1 t u).symm.trans sh
  obtain ⟨f1,f2⟩:=vz.mp sh
  rw [<- jb rt ru f1 f2]
  exact vR rx ry (dj rt f1) (dj ru f2)
 | succ n ih=>
  intro A t u v w x y hu rt ru rx ry sh
  have flat:(bI t&&bI u)=true->SeqAt.EqAt A s x y (eqT t u):=fun sh=>by
   obtain ⟨f1,f2⟩:=vz.mp sh
   rw [<- jb rt ru f1 f2]
   exact vR rx ry (dj rt f1) (dj ru f2)
  cases t with
  | tup ts=>
   cases u with
   | tup us=>
    obtain ⟨a,vs,rfl,q,r⟩:=id rt
    obtain ⟨b,ws,rfl,q',r'⟩:=id ru
    cases rx
    cases ry
    by_cases hab:a=b
    ·subst hab
     rw [yJ hB I sm (n+1) rt ru sh]
     exact SeqAt.EqAt.same _
    obtain ⟨its,rv,ht⟩:=jc I sm (hB ▸ q)
    obtain ⟨its',yK,B0⟩:=jc I sm (hB ▸ q')
    have z:=SeqAt.RcAt.tuples ht B0 (C4 (CY _ _) hu) (je (A:=A.in1) r r' rv yK sh (fun a b c d e=>ih A.in1 (by rw [in1_units];omega) a b c d e))
    rw [bQ,bQ,<- rv.length,<- yK.length,<- r.len,<- r'.len,eE] at z
    exact .of_refs hab z
   | _=>exact flat sh
  | lst ts=>
   cases u with
   | lst us=>
    obtain ⟨a,vs,rfl,q,r⟩:=id rt
    obtain ⟨b,ws,rfl,q',r'⟩:=id ru
    cases rx
    cases ry
    by_cases hab:a=b
    ·subst hab
     rw [yJ hB I sm (n+1) rt ru sh]
     exact SeqAt.EqAt.same _
    obtain ⟨its,rv,ht⟩:=jd I sm q
    obtain ⟨its',yK,B0⟩:=jd I sm q'
    have l1:=rv.length
    have l2:=yK.length
    have l3:=r.len
    have l4:=r'.len
    by_cases hsz:ts.length=us.length
    ·have z:=SeqAt.RcAt.lists ht B0 (by rw [bQ,bQ];omega) (C4 (CY _ _) hu) (je (A:=A.in1) r r' rv yK sh (fun a b c d e=>ih A.in1 (by rw [in1_units];omega) a b c d e))
     have e:=eE ts us
     rw [<- hsz,N1,beq_self_eq_true,NU] at e
     rw [bQ,<- l1,<- l3,e] at z
     exact .of_refs hab z
    ·have z:=SeqAt.RcAt.lists_lengths (s:=s) (A:=A) ht B0 (by rw [bQ,bQ,bne_iff_ne];omega) (C4 (CY _ _) hu)
     rw [<- lU hsz] at z
     exact .of_refs hab z
   | _=>exact flat sh
  | _=>exact flat (by cases u<;>exact sh)
theorem Lz {al:List Addr}{HF:Hp}{A:Around}{s:Shared}{t u:T}{v w:V}{x y:Value}(rt:Rep B al HF t v) (ru:Rep B al HF u w) (rx:RelV v x) (ry:RelV w y) (f1:bI t=true) (f2:bI u=true):SeqAt.RcAt A s x y (eqT t u)/\SeqAt.RcNeAt A s x y (!eqT t u):=by
 rw [<- jb rt ru f1 f2]
 have g1:=dj rt f1
 have g2:=dj ru f2
 cases v with
 | non=>
  cases rx
  cases w with
  | non=>cases ry;exact ⟨SeqAt.RcAt.none_none,SeqAt.RcNeAt.none_none⟩
  | bl b=>cases ry;exact ⟨SeqAt.RcAt.none_bool b,SeqAt.RcNeAt.none_bool b⟩
  | int b=>obtain ⟨t,rfl⟩:=ry;exact ⟨SeqAt.RcAt.none_int b t,SeqAt.RcNeAt.none_int b t⟩
  | str b=>obtain ⟨t,rfl⟩:=ry;exact ⟨SeqAt.RcAt.none_str b t,SeqAt.RcNeAt.none_str b t⟩
  | _=>exact absurd (show false=true from g2) d_
 | bl a=>
  cases rx
  cases w with
  | non=>cases ry;exact ⟨SeqAt.RcAt.bool_none a,SeqAt.RcNeAt.bool_none a⟩
  | bl b=>cases ry;exact ⟨SeqAt.RcAt.bool_bool a b,SeqAt.RcNeAt.bool_bool a b⟩
  | int b=>obtain ⟨t,rfl⟩:=ry;exact ⟨SeqAt.RcAt.bool_int a b t,SeqAt.RcNeAt.bool_int a b t⟩
  | str b=>obtain ⟨t,rfl⟩:=ry;exact ⟨SeqAt.RcAt.bool_str a b t,SeqAt.RcNeAt.bool_str a b t⟩
  | _=>exact absurd (show false=true from g2) d_
 | int a=>
  obtain ⟨t',rfl⟩:=rx
  cases w with
  | non=>cases ry;exact ⟨SeqAt.RcAt.int_none a t',SeqAt.RcNeAt.int_none a t'⟩
  | bl b=>cases ry;exact ⟨SeqAt.RcAt.int_bool a t' b,SeqAt.RcNeAt.int_bool a t' b⟩
  | int b=>obtain ⟨t,rfl⟩:=ry;exact ⟨SeqAt.RcAt.int_int a t' b t,SeqAt.RcNeAt.int_int a t' b t⟩
  | str b=>obtain ⟨t,rfl⟩:=ry;exact ⟨SeqAt.RcAt.int_str a t' b t,SeqAt.RcNeAt.int_str a t' b t⟩
  | _=>exact absurd (show false=true from g2) d_
 | str a=>
  obtain ⟨t',rfl⟩:=rx
  cases w with
  | non=>cases ry;exact ⟨SeqAt.RcAt.str_none a t',SeqAt.RcNeAt.str_none a t'⟩
  | bl b=>cases ry;exact ⟨SeqAt.RcAt.str_bool a t' b,SeqAt.RcNeAt.str_bool a t' b⟩
  | int b=>obtain ⟨t,rfl⟩:=ry;exact ⟨SeqAt.RcAt.str_int a t' b t,SeqAt.RcNeAt.str_int a t' b t⟩
  | str b=>obtain ⟨t,rfl⟩:=ry;exact ⟨SeqAt.RcAt.str_str a t' b t,SeqAt.RcNeAt.str_str a t' b t⟩
  | _=>exact absurd (show false=true from g2) d_
 | _=>exact absurd (show false=true from g1) d_
theorem E2 {al:List Addr}(hB:B.K=X.K) {aa:c9}{σ:St}{H HF:Hp}{s:Shared}(I:Inv X aa σ H s) (sm:aP HF H) (A:Around) {t u:T}{v w:V}{x y:Value}(hu:A.units+6<cLine) (rt:Rep B al HF t v) (ru:Rep B al HF u w) (rx:RelV v x) (ry:RelV w y) (sh:shape 5 t u=true) :
  SeqAt.RcAt A s x y (eqT t u)/\SeqAt.RcNeAt A s x y (!eqT t u):=by
 have flat:(bI t&&bI u)=true->SeqAt.RcAt A s x y (eqT t u)/\SeqAt.RcNeAt A s x y (!eqT t u):=fun sh=>by
  obtain ⟨f1,f2⟩:=vz.mp sh
  exact Lz rt ru rx ry f1 f2
 have WH:A.units<cLine:=by omega
 have dp:=fun {t u:T} {v w:V} {x y:Value} (a:Rep B al HF t v) (b:Rep B al HF u w) (c:RelV v x) (d:RelV w y) (e:shape 4 t u=true)=>Ly hB I sm 4 A.in1 (by rw [in1_units];omega) a b c d e
 cases t with
 | tup ts=>
  cases u with
  | tup us=>
   obtain ⟨a,vs,rfl,q,r⟩:=id rt
   obtain ⟨b,ws,rfl,q',r'⟩:=id ru
   cases rx
   cases ry
   obtain ⟨its,rv,ht⟩:=jc I sm (hB ▸ q)
   obtain ⟨its',yK,B0⟩:=jc I sm (hB ▸ q')
   have it:=je (A:=A.in1) (s:=s) r r' rv yK sh dp
   have z:=SeqAt.RcAt.tuples ht B0 WH it
   have z2:=SeqAt.RcNeAt.tuples ht B0 WH it
   rw [bQ,bQ,<- rv.length,<- yK.length,<- r.len,<- r'.len,eE] at z z2
   exact ⟨z,z2⟩
  | _=>exact flat sh
 | lst ts=>
  cases u with
  | lst us=>
   obtain ⟨a,vs,rfl,q,r⟩:=id rt
   obtain ⟨b,ws,rfl,q',r'⟩:=id ru
   cases rx
   cases ry
   obtain ⟨its,rv,ht⟩:=jd I sm q
   obtain ⟨its',yK,B0⟩:=jd I sm q'
   have l1:=rv.length
   have l2:=yK.length
   have l3:=r.len
   have l4:=r'.len
   by_cases hsz:ts.length=us.length
   ·have it:=je (A:=A.in1) (s:=s) r r' rv yK sh dp
    have hs:its.toArray.size=its'.toArray.size:=by rw [bQ,bQ];omega
    have z:=SeqAt.RcAt.lists ht B0 hs WH it
    have z2:=SeqAt.RcNeAt.lists ht B0 hs WH it
    have e:=eE ts us
    rw [<- hsz,N1,beq_self_eq_true,NU] at e
    rw [bQ,<- l1,<- l3,e] at z z2
    exact ⟨z,z2⟩
   ·have hs:(its.toArray.size != its'.toArray.size)=true:=by rw [bQ,bQ,bne_iff_ne];omega
    have z:=SeqAt.RcAt.lists_lengths (s:=s) (A:=A) ht B0 hs WH
    have z2:=SeqAt.RcNeAt.lists_lengths (s:=s) (A:=A) ht B0 hs WH
    have e:eqT (.lst ts) (.lst us)=false:=lU hsz
    rw [e]
    exact ⟨z,z2⟩
  | _=>exact flat sh
 | _=>exact flat (by cases u<;>exact sh)
theorem Uz (hu:X.A.units+6<cLine):fW X (compareOp .Eq) (fun x y H Q=>∃ B al HF t u,B.K=X.K/\aP HF H/\Rep B al HF t x/\Rep B al HF u y/\shape 5 t u=true/\Q (.bl (eqT t u)) H):=by
 intro aa s σ H x y v u Q I rx ry h
 obtain ⟨B,al,HF,t,u',hB,sm,rt,ru,sh,q⟩:=h
 exact (E2 hB I sm X.A hu rt ru rx ry sh).1 _ _ _ _ (jJ I q rfl)
theorem UA (hu:X.A.units+6<cLine):fW X (compareOp .NotEq) (fun x y H Q=>∃ B al HF t u,B.K=X.K/\aP HF H/\Rep B al HF t x/\Rep B al HF u y/\shape 5 t u=true/\Q (.bl (!eqT t u)) H):=by
 intro aa s σ H x y v u Q I rx ry h
 obtain ⟨B,al,HF,t,u',hB,sm,rt,ru,sh,q⟩:=h
 exact (E2 hB I sm X.A hu rt ru rx ry sh).2 _ _ _ _ (jJ I q rfl)
theorem E3:fW X (compareOp .Is) (fun x y H Q=>∃ a b,x=.bl a/\y=.bl b/\Q (.bl (a == b)) H):=by
 intro aa s σ H x y v u Q I rx ry h
 obtain ⟨a,b,rfl,rfl,q⟩:=h
 cases rx
 cases ry
 exact PyProof.Rows.is_bool (jJ I q rfl)
theorem tR {B:KT}{al:List Addr}{H:Hp}:∀ {ts:List T}{vs:List V},aA B al H ts vs->ts.all bI=true->vs.all dC=true
 | [],_,h,_=>by cases (show _=[] from h);rfl
 | t::ts,_,h,f=>by
  obtain ⟨v,r,rfl,h1,h2⟩:=h
  rw [eL,cy] at f
  rw [eL,dj h1 f.1,tR h2 f.2];rfl
theorem any_eq {B:KT}{al:List Addr}{H:Hp}{x:T}{xv:V}(hx:Rep B al H x xv) (fx:bI x=true):∀ {ts:List T}{vs:List V},aA B al H ts vs->ts.all bI=true->(vs.any fun y=>DB y xv)=ts.any fun y=>eqT y x
 | [],_,h,_=>by cases (show _=[] from h);rfl
 | t::ts,_,h,f=>by
  obtain ⟨v,r,rfl,h1,h2⟩:=h
  rw [eL,cy] at f
  rw [kG,kG,jb h1 hx f.1 fx,any_eq hx fx h2 f.2]
theorem xg {α:Type}(xs:List α) (i:Int):atT xs i=DA xs i:=by
 unfold atT DA Rk
 by_cases h0:0<=i
 ·rw [if_pos h0,if_pos h0]
  by_cases h1:i<xs.length
  ·rw [if_pos h1,if_pos h1];rfl
  ·rw [if_neg h1,if_neg h1];rfl
 ·rw [if_neg h0,if_neg h0]
  by_cases h1:-(xs.length:Int)<=i
  ·rw [if_pos h1,if_pos h1];rfl
  ·rw [if_neg h1,if_neg h1];rfl
theorem qt {B:KT}{al:List Addr}{H:Hp}{ts:List T}{vs:List V}{i:Int}{t:T}(r:aA B al H ts vs) (h:atT ts i=some t):∃ v,DA vs i=some v/\Rep B al H t v:=by
 rw [xg] at h
 unfold DA at h ⊢
 rw [<- r.len]
 cases e:Rk ts.length i with
 | none=>rw [e] at h;cases h
 | some j=>
  rw [e] at h
  exact r.get h
end
section
variable {p2:Pos}{flo fhi:FO}{elo ehi:Option Expr}
theorem UB {al:List Addr}{H:Hp}{t:T}{v:V}(h:Rep B al H t v):decide (v=.non)=Ul t:=by
 cases t with
 | non=>cases (show v=.non from h);rfl
 | bl b=>cases (show v=.bl b from h);rfl
 | int i=>cases (show v=.int i from h);rfl
 | str l=>obtain ⟨rfl,_⟩:=h;rfl
 | tup ts=>obtain ⟨a,vs,rfl,_⟩:=h;rfl
 | lst ts=>obtain ⟨a,vs,rfl,_⟩:=h;rfl
 | scr ts=>obtain ⟨a,rfl,_⟩:=h;rfl
 | obj _ _=>obtain ⟨a,_,_,_,_,rfl,_⟩:=h;rfl
 | own _=>obtain ⟨a,rfl,_⟩:=h;rfl
 | dO _ _=>obtain ⟨a,xs,rfl,_⟩:=h;rfl
def rIs:R2:=fun x y H Q=>(y=.non/\Q (.bl (decide (x=.non))) H)\/∃ a b,x=.bl a/\y=.bl b/\Q (.bl (a == b)) H
theorem LA {tx ty t:T}(h:qo tx ty=some t):(ty=.non/\t=.bl (Ul tx))\/∃ a b,tx=.bl a/\ty=.bl b/\t=.bl (a == b):=by
 cases ty<;>first | (cases h;done) | (cases h;exact .inl ⟨rfl,rfl⟩) | (cases tx<;>first | (cases h;done) | (cases h;exact .inr ⟨_,_,rfl,rfl,rfl⟩))
theorem ae5:rD X qo rIs:=fun B hB al HF H x y t tx ty Q sm rx ry h k=>by
 rcases LA h with ⟨rfl,rfl⟩ | ⟨a,b,rfl,rfl,rfl⟩
 ·exact .inl ⟨ry,by rw [UB rx];exact k _ HF H (.refl sm) rfl⟩
 ·exact .inr ⟨a,b,rx,ry,k _ HF H (.refl sm) rfl⟩
def tU (K:bg) (neg:Bool):R2:=fun x y H Q=>(∃ i j,x=.str i/\y=.str j/\Q (.bl (if neg then (!(!(Builtin.Str.occurrences j i 0 j.length 1).isEmpty)) else (!(Builtin.Str.occurrences j i 0 j.length 1).isEmpty))) H)\/rIn K neg x y H Q
theorem E4:fW X (compareOp .In) (tU X.K false):=Ak.or Ar
theorem yL:fW X (compareOp .NotIn) (tU X.K true):=pK.or pS
theorem LB {tx ty:T}{k:Bool}(h:Um tx ty=some k):(∃ c l,tx=.str [c]/\ty=.str l/\k=decide (c∈l))\/((∃ ys,(ty=.tup ys\/ty=.lst ys)/\(bI tx=true/\ys.all bI=true)/\k=ys.any fun y=>eqT y tx)):=by
 cases ty with
 | str l=>
  cases tx with
  | str m=>match m with
   | []=>cases h
   | [c]=>cases h;exact .inl ⟨c,l,rfl,rfl,rfl⟩
   | _::_::_=>cases h
  | _=>cases h
 | tup ys=>
  have h:gd (bI tx=true/\ys.all bI=true) (ys.any fun y=>eqT y tx)=some k:=by
   cases tx with
   | str m=>match m with
    | []=>exact h
    | [c]=>exact h
    | _::_::_=>exact h
   | _=>exact h
  obtain ⟨c,rfl⟩:=bH h
  exact .inr ⟨ys,.inl rfl,c,rfl⟩
 | lst ys=>
  have h:gd (bI tx=true/\ys.all bI=true) (ys.any fun y=>eqT y tx)=some k:=by
   cases tx with
   | str m=>match m with
    | []=>exact h
    | [c]=>exact h
    | _::_::_=>exact h
   | _=>exact h
  obtain ⟨c,rfl⟩:=bH h
  exact .inr ⟨ys,.inr rfl,c,rfl⟩
 | _=>
  cases tx with
  | str m=>match m with
   | []=>cases h
   | [c]=>cases h
   | _::_::_=>cases h
  | _=>cases h
theorem E5 {neg:Bool}{B:KT}(hB:B.K=X.K) {al:List Addr}{HF H:Hp}{x y:V}{tx ty:T}{k:Bool}{Q:VK}(sm:aP HF H) (rx:Rep B al HF tx x) (ry:Rep B al HF ty y) (h:Um tx ty=some k) (q:Q (.bl (if neg then !k else k)) H):tU X.K neg x y H Q:=by
 rcases LB h with ⟨c,l,rfl,rfl,rfl⟩ | ⟨ys,hy,⟨f1,f2⟩,rfl⟩
 ·obtain ⟨rfl,_⟩:=rx
  obtain ⟨rfl,_⟩:=ry
  refine .inl ⟨_,_,rfl,rfl,?_⟩
  have e:(!(Builtin.Str.occurrences ⟨l.toArray⟩ ⟨#[c]⟩ 0 (⟨l.toArray⟩:Str).length 1).isEmpty)=decide (c∈l):=StrLaws.found_one ..
  have e':(!(Builtin.Str.occurrences (⟨l.toArray⟩:Str) ⟨[c].toArray⟩ 0 (⟨l.toArray⟩:Str).length 1).isEmpty)=decide (c∈l):=e
  rw [e']
  exact q
 ·right
  have main:∀ a vs,y=.ref a->(cY X.K H a vs\/j_ X.K H a vs)->aA B al HF ys vs->rIn X.K neg x y H Q:=fun a vs ey sq r=>by
   refine ⟨a,vs,ey,sq,dj rx f1,tR r f2,?_⟩
   unfold inV
   rw [any_eq rx f1 r f2]
   exact q
  rcases hy with rfl | rfl
  ·obtain ⟨a,vs,rfl,q1,r⟩:=ry
   exact main a vs rfl (.inr (hB ▸ bP sm q1)) r
  ·obtain ⟨a,vs,rfl,q1,r⟩:=ry
   exact main a vs rfl (.inl (cY.of (sm _ _ q1))) r
theorem ae6:rD X inD (tU X.K false):=fun B hB al HF H x y t tx ty Q sm rx ry h k=>by
 unfold inD at h
 cases e:Um tx ty with
 | none=>rw [e] at h;cases h
 | some d=>rw [e] at h;cases h;exact E5 hB sm rx ry e (k _ HF H (.refl sm) rfl)
theorem ab1:rD X Uo (tU X.K true):=fun B hB al HF H x y t tx ty Q sm rx ry h k=>by
 unfold Uo at h
 cases e:Um tx ty with
 | none=>rw [e] at h;cases h
 | some d=>rw [e] at h;cases h;exact E5 hB sm rx ry e (k _ HF H (.refl sm) rfl)
def ab2 (X:Cx) (neg:Bool):R2:=fun x y H Q=>∃ B al HF t u,B.K=X.K/\aP HF H/\Rep B al HF t x/\Rep B al HF u y/\shape 5 t u=true/\Q (.bl (if neg then !eqT t u else eqT t u)) H
theorem ae7:rD X eqD (ab2 X false):=fun B hB al HF H x y t tx ty Q sm rx ry h k=>by
 obtain ⟨c,rfl⟩:=bH h
 exact ⟨B,al,HF,tx,ty,hB,sm,rx,ry,c,k _ HF H (.refl sm) rfl⟩
theorem ae8:rD X neD (ab2 X true):=fun B hB al HF H x y t tx ty Q sm rx ry h k=>by
 obtain ⟨c,rfl⟩:=bH h
 exact ⟨B,al,HF,tx,ty,hB,sm,rx,ry,c,k _ HF H (.refl sm) rfl⟩
theorem yM (f:Int->Int->Bool):rD X (EK f) (HB fun i j=>.bl (f i j)):=ae4 (G:=fun i j=>.bl (f i j)) (fun tx ty t h=>by
 cases tx<;>first | (cases h;done) | (cases ty<;>first | (cases h;done) | (cases h;exact ⟨_,_,rfl,rfl,rfl⟩))) fun _ _ _ _ _=>rfl
def LC:CmpOp->T->T->Option T
 | .Eq=>eqD
 | .NotEq=>neD
 | .Lt=>EK fun i j=>decide (i<j)
 | .LtE=>EK fun i j=>decide (i<=j)
 | .Gt=>EK fun i j=>decide (j<i)
 | .GtE=>EK fun i j=>decide (j<=i)
 | .Is=>qo
 | .IsNot=>fun _ _=>none
 | .In=>inD
 | .NotIn=>Uo
theorem UC {op:CmpOp}{k:Nat}(hr:bB k X.A):∃ r,fW X (compareOp op) r/\rD X (LC op) r:=by
 have hu:X.A.units+6<cLine:=by have:=hr.units;omega
 cases op
 case Eq=>exact ⟨_,Uz hu,ae7⟩
 case NotEq=>exact ⟨_,UA hu,ae8⟩
 case Lt=>exact ⟨_,Xl,yM _⟩
 case LtE=>exact ⟨_,Xm,yM _⟩
 case Gt=>exact ⟨_,Xn,yM _⟩
 case GtE=>exact ⟨_,Xo,yM _⟩
 case Is=>exact ⟨_,Rb.or E3,ae5⟩
 case IsNot=>exact ⟨fun _ _ _ _=>False,fun _ _ _ _ _ _ _ _ _ _ _ _ z=>z.elim,fun _ _ _ _ _ _ _ _ _ _ _ _ _ _ h=>by cases h⟩
 case In=>exact ⟨_,E4,ae6⟩
 case NotIn=>exact ⟨_,yL,ab1⟩
def cD (a:FE):FT:=fun s=>(a s).bind fun p=>(cT (Uq p.1)).bind fun b=>.ok (b,p.2)
theorem PZ {f:FE}{σ:St}{H:Hp}{Q:Bool->Hp->Prop}(h:tT B (cD f) σ H Q):tE B f σ H (fun x H'=>∃ k,x=.bl k/\Q k H'):=by
 obtain ⟨g,s,t,s',x,h,k⟩:=h
 obtain ⟨⟨d,s1⟩,h1,h⟩:=af h
 obtain ⟨d',h2,h⟩:=af h
 cases kW (au h2)
 cases h
 exact ⟨g,s,_,s1,x,h1,fun v g1 H1 p1 x1 r1=>⟨_,r1,k g1 H1 p1 x1⟩⟩
def jf:T->T->Option T
 | .dO _ _,_=>none
 | x,y=>ixD x y
theorem E6 {tx ty t:T}(h:jf tx ty=some t):∃ i,ty=.int i/\((∃ xs,(tx=.lst xs\/tx=.tup xs)/\atT xs i=some t)\/(∃ l c,tx=.str l/\atT l i=some c/\t=.str [c])\/∃ ns n,tx=.scr ns/\atT ns i=some n/\t=.int n):=by
 cases tx<;>first | (cases h;done) | (cases ty<;>first | (cases h;done) | skip)
 ·rename_i l i
  have h:(atT l i).map (fun c=>T.str [c])=some t:=h
  cases e:atT l i with
  | none=>rw [e] at h;cases h
  | some c=>rw [e] at h;cases h;exact ⟨i,rfl,.inr (.inl ⟨l,c,rfl,e,rfl⟩)⟩
 ·exact ⟨_,rfl,.inl ⟨_,.inr rfl,h⟩⟩
 ·exact ⟨_,rfl,.inl ⟨_,.inl rfl,h⟩⟩
 ·rename_i l i
  have h:(atT l i).map T.int=some t:=h
  cases e:atT l i with
  | none=>rw [e] at h;cases h
  | some c=>rw [e] at h;cases h;exact ⟨i,rfl,.inr (.inr ⟨l,c,rfl,e,rfl⟩)⟩
theorem UD {α β:Type}(f:α->β) {l:List α}{i:Int}{c:α}(h:atT l i=some c):DA (l.map f) i=some (f c):=by
 rw [xg] at h
 unfold DA at h ⊢
 rw [dg]
 cases e:Rk l.length i with
 | none=>rw [e] at h;cases h
 | some j=>
  rw [e] at h
  show (Co f _)[j]?=_
  rw [gu,show _[j]?=some c from h]
  rfl
theorem ae9:rD X jf (rIx X.K):=fun B hB al HF H x y t tx ty Q sm rx ry h k=>by
 obtain ⟨i,rfl,⟨xs,hx | hx,e⟩ | ⟨l,c,rfl,e,rfl⟩ | ⟨ns,n,rfl,e,rfl⟩⟩:=E6 h
 ·subst hx
  obtain ⟨p,vs,rfl,q,r⟩:=rx
  obtain ⟨v,e,rv⟩:=qt r e
  exact .inl ⟨p,vs,_,v,rfl,ry,cY.of (sm _ _ q),e,k v HF H (.refl sm) rv⟩
 ·subst hx
  obtain ⟨p,vs,rfl,q,r⟩:=rx
  obtain ⟨v,e,rv⟩:=qt r e
  exact .inr (.inl ⟨p,vs,_,v,rfl,ry,hB ▸ bP sm q,e,k v HF H (.refl sm) rv⟩)
 ·obtain ⟨rfl,hz⟩:=rx
  refine .inr (.inr ⟨_,_,c,rfl,ry,szS hz,?_,k _ HF H (.refl sm) ⟨rfl,by simp⟩⟩)
  rw [<- xg];exact e
 ·obtain ⟨p,rfl,q⟩:=rx
  exact .inl ⟨p,_,_,.int n,rfl,ry,hB ▸ sm.seq q,UD V.int e,k _ HF H (.refl sm) rfl⟩
theorem ab3 (hB:B.K=X.K) (ha:PE X a (tE B fa)) (hb:PE X b (tE B fb)) (hs:iP b):PE X (.Subscript a b pos) (tE B (cz jf fa fb)):=a9 (Oo Rn ha hb hs) (ja hB ae9)
end
end D
namespace L2
open PySem PySem.Spec PyProof.Rows
section
variable {X:Cx}
theorem oz:∀ (ls:List Str) (t:Nat),Vals (ls.map V.str) (strsFrom t ls)
 | [],_=>.nil
 | x::ls,t=>.cons ⟨_,rfl⟩ (oz ls (t+1))
theorem E7:Aq X "str.split" (fun x vs H Q=>∃ a b,x=.str a/\vs=[.str b]/\(b.length == 0)=false/\a.length<=sizeLine/\(Txt.split a b).length<=sizeLine/\∀ l,H l=none->Q (.ref l) (upd H l (.lst ((Txt.split a b).map V.str)))):=by
 intro aa s σ H x vs v us Q I rx rv h
 obtain ⟨a,b,rfl,rfl,hb,ha,hz,q⟩:=h
 obtain ⟨t,rfl⟩:=rx
 obtain ⟨u,rfl,⟨t',rfl⟩⟩:=rv.one
 unfold Txt.split at hz q
 by_cases c1:(decide (a.length<b.length) || decide (Builtin.Str.strKind a<Builtin.Str.strKind b))=true
 ·rw [if_pos c1] at hz q
  refine call_meets F.slot_str_split (typeIs_str s a t) F.entry_str_split (F.args_str_split_2 _ _) (meets_str_split_cannot_occur a b t t' c1) ?_
  exact ⟨.ref s.heap.objs.size,_,I.As (t':=s.toks) (ys:=[V.str a]) (.cons ⟨_,rfl⟩ .nil) hz,rfl,q _ I.fresh⟩
 ·rw [if_neg c1] at hz q
  have c1':(decide (a.length<b.length) || decide (Builtin.Str.strKind a<Builtin.Str.strKind b))=false:=by
   rcases NV (decide (a.length<b.length) || decide (Builtin.Str.strKind a<Builtin.Str.strKind b)) with z | z
   ·exact absurd z c1
   ·exact z
  by_cases c2:(Builtin.Str.occurrences a b 0 a.length (a.length+1)).isEmpty=true
  ·rw [if_pos c2] at hz q
   refine call_meets F.slot_str_split (typeIs_str s a t) F.entry_str_split (F.args_str_split_2 _ _) (meets_str_split_not_found a b t t' c1' hb c2) ?_
   exact ⟨.ref s.heap.objs.size,_,I.As (t':=s.toks) (ys:=[V.str a]) (.cons ⟨_,rfl⟩ .nil) hz,rfl,q _ I.fresh⟩
  ·rw [if_neg c2] at hz q
   have c2':(Builtin.Str.occurrences a b 0 a.length (a.length+1)).isEmpty=false:=by
    rcases NV (Builtin.Str.occurrences a b 0 a.length (a.length+1)).isEmpty with z | z
    ·exact absurd z c2
    ·exact z
   refine call_meets F.slot_str_split (typeIs_str s a t) F.entry_str_split (F.args_str_split_2 _ _) (meets_str_split_sep a b t t' c1' hb c2' ha hz) ?_
   exact ⟨.ref s.heap.objs.size,_,I.As (oz _ _) (by rw [dg];exact hz),rfl,q _ I.fresh⟩
end
section
variable {X:Cx}
theorem E8:Aq X "str.find" (fun x vs H Q=>∃ a b,x=.str a/\vs=[.str b]/\Q (.int (Txt.find a b)) H):=by
 intro aa s σ H x vs v us Q I rx rv h
 obtain ⟨a,b,rfl,rfl,q⟩:=h
 obtain ⟨t,rfl⟩:=rx
 obtain ⟨u,rfl,⟨t',rfl⟩⟩:=rv.one
 exact SC.find ⟨.int _,H,I.tok _,⟨_,rfl⟩,q⟩
end
end L2
namespace D
open PySem L2
variable {X:Cx}{env:Env}{a b c e o tg:Expr}{fa fb fc fo:FE}{fl:FL}{g g':G}{H H':Hp}{B:KT}{es:List Expr}{cP cQ p pos:Pos}{s s':S}{σ:St}{x y:Str}
section
variable {p2:Pos}{flo fhi:FO}{elo ehi:Option Expr}
theorem E9 (lo hi:Option Int) (n:Nat):Builtin.Str.strSliceIndices lo hi 1 n=Builtin.Str.strSliceIndices (some ((D.dX n 0 lo:Nat):Int)) (some ((D.dX n n hi:Nat):Int)) 1 n:=by
 have c:∀ v:Int,max 0 (min (if v<0 then v+(n:Int) else v) (n:Int))=((if v<0 then (v+(n:Int)).toNat else min v.toNat n:Nat):Int):=fun v=>by
  by_cases hv:v<0
  ·rw [if_pos hv,if_pos hv];omega
  ·rw [if_neg hv,if_neg hv];omega
 have d:∀ m:Nat,m<=n->max 0 (min (if ((m:Nat):Int)<0 then ((m:Nat):Int)+(n:Int) else ((m:Nat):Int)) (n:Int))=((m:Nat):Int):=fun m hm=>by
  rw [if_neg (by omega)];omega
 have l1:D.dX n 0 lo<=n:=by
  cases lo with
  | none=>exact iI _
  | some v=>show (if v<0 then (v+(n:Int)).toNat else min v.toNat n)<=n;split<;>omega
 have l2:D.dX n n hi<=n:=by
  cases hi with
  | none=>exact dU _
  | some v=>show (if v<0 then (v+(n:Int)).toNat else min v.toNat n)<=n;split<;>omega
 unfold Builtin.Str.strSliceIndices
 simp only [show ((1:Int) > 0) from by decide,if_true]
 rw [d _ l1,d _ l2]
 congr 1
 ·cases lo with
  | none=>rfl
  | some v=>exact c v
 ·cases hi with
  | none=>rfl
  | some v=>exact c v
theorem E_ (n d:Nat) (hd:d<=n) (o:Option Int):D.dX n d o<=n:=by
 cases o with
 | none=>exact hd
 | some v=>show (if v<0 then (v+(n:Int)).toNat else min v.toNat n)<=n;split<;>omega
theorem cut_str (l:List Nat) (lo hi:Option Int):Txt.slice ⟨l.toArray⟩ lo hi=⟨(ba l lo hi).toArray⟩:=by
 have e0:Txt.slice ⟨l.toArray⟩ lo hi=StrLaws.sliceText ⟨l.toArray⟩ lo hi:=rfl
 have e1:StrLaws.sliceText ⟨l.toArray⟩ lo hi=StrLaws.sliceText ⟨l.toArray⟩ (some ((D.dX l.length 0 lo:Nat):Int)) (some ((D.dX l.length l.length hi:Nat):Int)):=by
  unfold StrLaws.sliceText
  rw [eQ,E9]
 rw [e0,e1]
 have h2:=E_ l.length l.length (dU _) hi
 by_cases hab:D.dX l.length 0 lo<=D.dX l.length l.length hi
 ·rw [StrLaws.sliceText_nat _ hab (by rw [eQ];exact h2)]
  rfl
 ·have h1:=E_ l.length 0 (iI _) lo
  have e3:ba l lo hi=[]:=by
   unfold ba
   rw [show D.dX l.length l.length hi-D.dX l.length 0 lo=0 by omega,List.take_zero]
  rw [e3]
  have e4:Builtin.Str.strSliceIndices (some ((D.dX l.length 0 lo:Nat):Int)) (some ((D.dX l.length l.length hi:Nat):Int)) 1 l.length=[]:=by
   have d:∀ m:Nat,m<=l.length->max 0 (min (if ((m:Nat):Int)<0 then ((m:Nat):Int)+(l.length:Int) else ((m:Nat):Int)) (l.length:Int))=((m:Nat):Int):=fun m hm=>by
    rw [if_neg (by omega)];omega
   unfold Builtin.Str.strSliceIndices
   simp only [show ((1:Int) > 0) from by decide,if_true]
   rw [d _ h1,d _ h2]
   simp only [sliceRange]
   rw [if_pos (by decide),if_neg (by omega)]
   rfl
  unfold StrLaws.sliceText
  rw [eQ,e4]
  rw [if_neg (by simp;omega)]
  rfl
theorem Fb {α:Type}(l:List α) (lo hi:Option Int):(ba l lo hi).length<=l.length:=by
 unfold ba
 rw [ph,vt]
 omega
theorem yN (xs:List V) (lo hi:Option Int):Ao xs lo hi=ba xs lo hi:=by
 have e:∀ (n d:Nat) (o:Option Int),HT.dX n d o=D.dX n d o:=fun n d o=>by cases o<;>rfl
 unfold Ao ba
 rw [e,e]
theorem aA.cut {B:KT}{al:List Addr}{H:Hp}{ts:List T}{vs:List V}(r:aA B al H ts vs) (lo hi:Option Int):aA B al H (ba ts lo hi) (ba vs lo hi):=by
 unfold ba
 rw [r.len]
 exact (r.drop _).take _
theorem kX {α β:Type}(f:α->β) (l:List α) (lo hi:Option Int):(ba l lo hi).map f=ba (l.map f) lo hi:=by
 unfold ba
 rw [dg,Cz,CA]
theorem tW {B:KT}{al:List Addr}{H:Hp}:∀ {ts:List T}{vs:List V}{ls:List (List Nat)},aA B al H ts vs->strsOf ts=some ls->vs=(ls.map fun l=>(⟨l.toArray⟩:Str)).map V.str
 | [],_,_,h,e=>by cases (show _=[] from h);cases e;rfl
 | t::ts,_,ls,h,e=>by
  obtain ⟨v,r,rfl,h1,h2⟩:=h
  cases t<;>first | (cases e;done) | skip
  rename_i l
  have e:(strsOf ts).map (l::·)=some ls:=e
  cases e':strsOf ts with
  | none=>rw [e'] at e;cases e
  | some ms=>
   rw [e'] at e;cases e
   obtain ⟨rfl,_⟩:=h1
   rw [tW h2 e']
   rfl
theorem join_eq (sep:List Nat):∀ ls:List (List Nat),Str.join ⟨sep.toArray⟩ (ls.map fun l=>(⟨l.toArray⟩:Str))=⟨(a8 sep ls).toArray⟩
 | []=>rfl
 | [c]=>rfl
 | c::d::r=>by
  have ih:=join_eq sep (d::r)
  show (⟨c.toArray⟩:Str)++⟨sep.toArray⟩++Str.join ⟨sep.toArray⟩ ((d::r).map fun l=>(⟨l.toArray⟩:Str))=⟨(c++sep++a8 sep (d::r)).toArray⟩
  rw [ih,Uy,Uy]
theorem oB (sep:List Nat):∀ ls:List (List Nat),(a8 sep ls).length<=(ls.map (·.length)).sum+ls.length*sep.length
 | []=>by simp [a8]
 | [c]=>by simp [a8]
 | c::d::r=>by
  have ih:=oB sep (d::r)
  show (c++sep++a8 sep (d::r)).length<=_
  rw [bL,bL,gi,List.sum_cons,dq,NZ]
  omega
theorem Fc (ls:List (List Nat)):((ls.map fun l=>(⟨l.toArray⟩:Str)).map (·.length))=ls.map (·.length):=by
 rw [rH]
 apply CF
 intro l _
 exact eQ l
theorem UE (l s:List Nat):Txt.startswith ⟨l.toArray⟩ ⟨s.toArray⟩=pre s l:=by
 unfold Txt.startswith pre
 rw [StrLaws.subAt_eq]
 show (decide (0+(⟨s.toArray⟩:Str).length<=l.toArray.size)&&((l.drop 0).take (⟨s.toArray⟩:Str).length == s))=_
 rw [eQ,bQ,yj,Ac]
theorem UG (l s:List Nat):Txt.endswith ⟨l.toArray⟩ ⟨s.toArray⟩=HX s l:=by
 unfold Txt.endswith HX
 rw [StrLaws.subAt_eq,eQ,eQ]
 show (decide (0+s.length<=l.length)&&((l.drop (l.length-s.length)).take s.length == s))=_
 rw [yj]
 by_cases h:s.length<=l.length
 ·rw [decide_eq_true h,CS,CS]
  rw [yd (by rw [vt];omega)]
 ·rw [decide_eq_false h,CO,CO]
theorem jQ {B:KT}{al:List Addr}{H:Hp}:∀ {ts:List T}{vs:List V}{ks:List Bool},aA B al H ts vs->boolsOf ts=some ks->vs=ks.map V.bl
 | [],_,_,h,e=>by cases (show _=[] from h);cases e;rfl
 | t::ts,_,ls,h,e=>by
  obtain ⟨v,r,rfl,h1,h2⟩:=h
  cases t<;>first | (cases e;done) | skip
  rename_i l
  have e:(boolsOf ts).map (l::·)=some ls:=e
  cases e':boolsOf ts with
  | none=>rw [e'] at e;cases e
  | some ms=>
   rw [e'] at e;cases e
   cases (show v=.bl l from h1)
   rw [jQ h2 e']
   rfl
def tY (tn T:String):Option Bool:=if (Value.type tn == Value.type T)=true then some true else if PySem.W.kitMeta T=true then (fastBuiltinMro tn).map (·.contains (Value.type T)) else none
theorem jR (K:bg) {tn T:String}{b:Bool}(h:tY tn T=some b):gp K (.type tn) (.type T)=some b:=h
structure iz (T:String):Prop where
 non:tY "NoneType" T=some false
 bl:tY "bool" T=some (T == "bool" || T == "int")
 int:tY "int" T=some (T == "int")
 str:tY "str" T=some (T == "str")
 tup:tY "tuple" T=some (T == "tuple")
 lst:tY "list" T=some (T == "list")
 dic:tY "dict" T=some (T == "dict")
theorem UH:iz "int" := by constructor<;>decide +kernel
theorem LD:iz "bool" := by constructor<;>decide +kernel
theorem UI:iz "str" := by constructor<;>decide +kernel
theorem Fd:iz "tuple" := by constructor<;>decide +kernel
theorem LF:iz "list" := by constructor<;>decide +kernel
def aZ (c:Nat):List Nat->List (List Nat)
 | []=>[[]]
 | d::l=>if d=c then []::aZ c l else match aZ c l with
  | p::r=>(d::p)::r
  | []=>[[d]]
theorem iA {c:Nat}:∀ {p:List Nat},c ∉ p->aZ c p=[p]
 | [],_=>rfl
 | d::p,h=>by
  have hd:d≠c:=fun e=>h (by rw [e];exact eK ..)
  have hp:c ∉ p:=fun e=>h (fG _ e)
  unfold aZ
  rw [if_neg hd,iA hp]
theorem lV {c:Nat}(l:List Nat):∀ {p:List Nat},c ∉ p->aZ c (p++[c]++l)=p::aZ c l
 | [],_=>by
  show aZ c (c::l)=_
  rw [aZ,if_pos rfl]
 | d::p,h=>by
  have hd:d≠c:=fun e=>h (by rw [e];exact eK ..)
  have hp:c ∉ p:=fun e=>h (fG _ e)
  show aZ c (d::(p++[c]++l))=_
  rw [aZ,if_neg hd,lV l hp]
theorem kj {c:Nat}:∀ {ls:List (List Nat)},ls≠[]->(∀ p∈ls,c ∉ p)->aZ c (a8 [c] ls)=ls
 | [],h,_=>absurd rfl h
 | [p],_,h=>iA (h p (eK ..))
 | p::q::r,_,h=>by
  show aZ c (p++[c]++a8 [c] (q::r))=_
  rw [lV _ (h p (eK ..)),kj (by simp) fun x hx=>h x (fG _ hx)]
theorem split_len (x y:Str):(Txt.split x y).length<=x.length+2:=by
 unfold Txt.split
 split
 ·simp
 ·split
  ·simp
  ·rw [length_partsBetween]
   have:=StrLaws.occ_length_le x y 0 x.length (x.length+1)
   omega
theorem Ff (x y:Str):Txt.split x y≠[]:=by
 unfold Txt.split
 split
 ·simp
 ·split
  ·simp
  ·intro e
   have:=length_partsBetween x (Builtin.Str.occurrences x y 0 x.length (x.length+1)) y.length
   rw [e] at this
   simp at this
theorem Fg (a:List Nat) (c:Nat):Txt.split ⟨a.toArray⟩ ⟨#[c]⟩=(aZ c a).map fun l=>(⟨l.toArray⟩:Str):=by
 obtain ⟨L,hL⟩:∃ L:List (List Nat),L=(Txt.split ⟨a.toArray⟩ ⟨#[c]⟩).map fun p=>p.cps.toList:=⟨_,rfl⟩
 have e1:Txt.split ⟨a.toArray⟩ ⟨#[c]⟩=L.map fun l=>(⟨l.toArray⟩:Str):=by
  rw [hL,rH]
  conv=>lhs;rw [<- List.map_id (Txt.split ⟨a.toArray⟩ ⟨#[c]⟩)]
  apply CF
  intro p _
  show p=(⟨p.cps.toList.toArray⟩:Str)
  rw [Array.toArray_toList]
 have gC:L≠[]:=by
  rw [hL]
  intro e
  exact Ff _ _ (NJ.mp e)
 have nW:∀ p∈L,c ∉ p:=by
  rw [hL]
  intro p hp
  obtain ⟨q,hq,rfl⟩:=jH.mp hp
  exact StrLaws.split_free _ c q hq
 have hj:=StrLaws.join_split ⟨a.toArray⟩ ⟨#[c]⟩
 rw [e1,show (⟨#[c]⟩:Str)=⟨([c]:List Nat).toArray⟩ from rfl,join_eq] at hj
 have hj2:a8 [c] L=a:=by
  injection hj with hj
  simpa using hj
 rw [e1,<- hj2,kj gC nW]
theorem oF {B:KT}{al:List Addr}{H:Hp}:∀ {ls:List (List Nat)},(∀ l∈ls,l.length<=1000000)->aA B al H (ls.map T.str) (ls.map fun l=>SV l)
 | [],_=>rfl
 | l::ls,h=>⟨_,_,rfl,⟨rfl,h l (eK ..)⟩,oF fun x hx=>h x (fG _ hx)⟩
theorem jg (c:Nat):∀ (a:List Nat),∀ l∈aZ c a,l.length<=a.length
 | [],l,h=>by
  rw [ie.mp h];simp
 | d::a,l,h=>by
  have ih:=jg c a
  rw [aZ] at h
  split at h
  ·rcases fB.mp h with e | e
   ·rw [e];simp
   ·have:=ih l e;simp;omega
  ·split at h
   ·rename_i p r hpr
    rcases fB.mp h with e | e
    ·have:=ih p (by rw [hpr];exact eK ..)
     rw [e];simp;omega
    ·have:=ih l (by rw [hpr];exact fG _ e)
     simp;omega
   ·rw [ie.mp h];simp
theorem ab4:PO X none (tP B ny):=PN IX fun σ H Q z=>by
 obtain ⟨g,s,t,s',x,h,k⟩:=z
 cases h
 exact k g H .refl x
theorem LH {t:T}{i:Int}(h:PK t=some i):t=.int i:=by
 cases t<;>first | (cases h;done) | (cases h;rfl)
theorem ab5 (ha:PE X a (tE B fa)):PO X (some a) (tP B (g9 fa)):=PN (IY ha) fun σ H Q z=>by
 obtain ⟨g,s,t,s',x,h,k⟩:=z
 obtain ⟨⟨d,s1⟩,h1,h⟩:=af h
 obtain ⟨i,h2,h⟩:=af h
 cases LH (au h2)
 cases h
 exact ⟨g,s,_,s1,x,h1,fun v g1 H1 p1 x1 r1=>⟨_,r1,k g1 H1 p1 x1⟩⟩
def ae_ (K:bg):V->Option Int->Option Int->Hp->VK->Prop:=fun x lo hi H Q=>(∃ z,x=.str z/\z.length<=sizeLine/\Q (.str (Txt.slice z lo hi)) H)\/XE K x lo hi H Q
theorem afa:Om X (ae_ X.K):=Rw.or Ja
theorem afb (hB:B.K=X.K) (ha:PE X a (tE B fa)) (hl:PO X elo (tP B flo)) (hh:PO X ehi (tP B fhi)):PE X (.Subscript a (.Slice elo ehi none p2) pos) (tE B (jC fa flo fhi)):=by
 refine a9 (Dz afa ha hl hh) fun σ H Q zz=>?_
 obtain ⟨g,s,t,s',x,h,k⟩:=zz
 obtain ⟨⟨tx,s1⟩,h1,h⟩:=af h
 obtain ⟨⟨lo,s2⟩,h2,h⟩:=af h
 obtain ⟨⟨hi,s3⟩,h3,h⟩:=af h
 obtain ⟨t',h4,h⟩:=af h
 cases h
 have h4:rB lo hi tx=some _:=au h4
 refine ⟨g,s,_,s1,x,h1,fun v g1 H1 p1 x1 r1=>⟨g1,s1,_,s2,x1,h2,fun g2 H2 p2 x2=>⟨g2,s2,_,_,x2,h3,fun g3 H3 p3 x3=>?_⟩⟩⟩
 have r3:=(r1.mv p2.pre p2.fr).mv p3.pre p3.fr
 have pp:=(p1.trans p2).trans p3
 cases tx<;>first | (cases h4;done) | skip
 ·cases h4
  obtain ⟨rfl,hz⟩:=r3
  refine .inl ⟨_,rfl,szS hz,?_⟩
  rw [cut_str]
  exact k _ g3 H3 pp x3 ⟨rfl,ig (Fb _ _ _) hz⟩
 ·cases h4
  obtain ⟨a,vs,rfl,q,r⟩:=r3
  refine .inr ⟨a,vs,rfl,cY.of (x3.sub _ _ q),fun l hl=>?_⟩
  rw [yN]
  have gr:=Gr.new (o:=.lst (ba vs lo hi)) x3.sub hl
  exact k _ _ _ (pp.trans (x3.nz gr)) (x3.grow gr) ⟨l,_,rfl,ak,(r.cut _ _).same gr.fr⟩
 ·cases h4
  obtain ⟨a,rfl,q⟩:=r3
  refine .inr ⟨a,_,rfl,hB ▸ x3.sub.seq q,fun l hl=>?_⟩
  rw [yN,<- kX]
  exact k _ _ _ (pp.trans (x3.nz (Gr.new x3.sub hl))) (x3.grow (Gr.new x3.sub hl)) ⟨l,_,rfl,ak,aA.ints _⟩
end
section
def noStar:Expr->Bool
 | .Starred _ _=>false
 | _=>true
theorem aB (h:noStar e=true):starEach (e::es) env=(false,eval e env)::starEach es env:=by
 cases e<;>first | rfl | (cases h)
theorem cV:∀ {es:List Expr},es.all noStar=true->(backTo pos (starEach es env)).any (·.1)=false
 | [],_=>rfl
 | e::es,h=>by
  rw [eL,cy] at h
  rw [aB h.1]
  show (false || (backTo pos (starEach es env)).any (·.1))=false
  rw [cV h.2];rfl
theorem lW:∀ {es:List Expr},es.all noStar=true->(backTo pos (starEach es env)).all (fun x=>!x.1)=true
 | [],_=>rfl
 | e::es,h=>by
  rw [eL,cy] at h
  rw [aB h.1]
  show (true&&(backTo pos (starEach es env)).all (fun x=>!x.1))=true
  rw [lW h.2];rfl
theorem vp (h:(e::es).all noStar=true) (hl:es.length<29):((backTo cQ (starEach (e::es) env)).all (fun x=>!x.1)&&(backToKw cQ (keywordEach [] env)).all (fun x=>x.1.isSome)
   && decide ((e::es).length+([]:List Keyword).length+(if ([]:List Keyword).isEmpty then 0 else 1)<30))=true:=by
 rw [lW h,cy]
 exact ⟨rfl,decide_eq_true (show es.length+1+0+0<30 by omega)⟩
def dE:Expr->Bool
 | .Call (.Name _ _) [] [] _=>false
 | _=>true
theorem jh {f:Str}{gb:Sem Value}(h:dE o=true):attributeBase o f env gb=gb:=by
 unfold attributeBase
 split
 ·cases h
 ·rfl
def LM (X:Cx) (f:List Nat->List T->Option T) (r:V->List V->Hp->VK->Prop):Prop:=∀ (B:KT) (_:B.K=X.K) (al:List Addr) (HF H:Hp) (l:List Nat) (xs:List V) (t:T) (ts:List T) (Q:VK),aP HF H->l.length<=1000000->aA B al HF ts xs->f l ts=some t->(∀ v eW H',Gr HF H eW H'->Rep B al eW t v->Q v H')->r (SV l) xs H Q
def LI:T->Option (List Nat)
 | .str l=>some l
 | _=>none
def jD (f:List Nat->List T->Option T) (o:FE) (fl:FL):FE:=fun s=>(o s).bind fun p=>(cT (LI p.1)).bind fun l=>(fl p.2).bind fun q=>(cT (f l q.1)).bind fun t=>.ok (t,q.2)
theorem Fi {t:T}{l:List Nat}(h:LI t=some l):t=.str l:=by
 cases t<;>first | (cases h;done) | (cases h;rfl)
theorem afc {f:List Nat->List T->Option T}{r:V->List V->Hp->VK->Prop}(hB:B.K=X.K) (hr:LM X f r):∀ σ H Q,tE B (jD f fo fl) σ H Q->tBM X.K "str" r (tE B fo) (tA B fl) σ H Q:=by
 rintro σ H Q ⟨g,s,t,s',x,h,k⟩
 obtain ⟨⟨tx,s1⟩,h1,h⟩:=af h
 obtain ⟨l,h2,h⟩:=af h
 obtain ⟨⟨ts,s2⟩,h3,h⟩:=af h
 obtain ⟨t',h4,h⟩:=af h
 cases h
 cases Fi (au h2)
 refine ⟨g,s,_,s1,x,h1,fun v g1 H1 p1 x1 r1=>?_⟩
 obtain ⟨rfl,hz⟩:=r1
 exact ⟨rfl,g1,s1,_,_,x1,h3,fun vs g2 H2 p2 x2 r2=>hr B hB g2.al g2.HF H2 l vs _ ts Q x2.sub hz r2 (au h4) fun u eW H' gr r3=>k u (g2.grow eW) H' ((p1.trans p2).trans (x2.nz gr)) (x2.grow gr) r3⟩
def rE (l:List Nat):List T->Option T
 | [.str s]=>some (.bl (pre s l))
 | _=>none
def WI (l:List Nat):List T->Option T
 | [.str s]=>some (.bl (HX s l))
 | _=>none
def joinM (l:List Nat):List T->Option T
 | [t]=>yz (.str l) t
 | _=>none
def splitM (l:List Nat):List T->Option T
 | [.str [c]]=>gd (l.length<=100000) (.lst ((aZ c l).map .str))
 | _=>none
open PySem.Spec PyProof.Rows in
def lX (l:List Nat):List T->Option T
 | [.str s]=>some (.int (Txt.find ⟨l.toArray⟩ ⟨s.toArray⟩))
 | [.str s,.int i]=>some (.int (Txt.find3 ⟨l.toArray⟩ ⟨s.toArray⟩ i))
 | _=>none
theorem ck {al:List Addr}{H:Hp}{t:T}{xs:List V}(r:aA B al H [t] xs):∃ v,xs=[v]/\Rep B al H t v:=by
 obtain ⟨v,w,rfl,h,e⟩:=r
 cases (show w=[] from e)
 exact ⟨v,rfl,h⟩
theorem LJ {al:List Addr}{H:Hp}{t u:T}{xs:List V}(r:aA B al H [t,u] xs):∃ v w,xs=[v,w]/\Rep B al H t v/\Rep B al H u w:=by
 obtain ⟨v,ws,rfl,h,e⟩:=r
 obtain ⟨w,rfl,h'⟩:=ck e
 exact ⟨v,w,rfl,h,h'⟩
theorem afd:LM X rE (fun x vs H Q=>∃ a b,x=.str a/\vs=[.str b]/\Q (.bl (Txt.startswith a b)) H):=fun B hB al HF H l xs t ts Q sm hz r h k=>by
 match ts,h with
 | [.str s],h=>
  cases h
  obtain ⟨v,rfl,rfl,_⟩:=ck r
  refine ⟨_,_,rfl,rfl,?_⟩
  rw [UE]
  exact k _ HF H (.refl sm) rfl
theorem afe:LM X WI (fun x vs H Q=>∃ a b,x=.str a/\vs=[.str b]/\Q (.bl (Txt.endswith a b)) H):=fun B hB al HF H l xs t ts Q sm hz r h k=>by
 match ts,h with
 | [.str s],h=>
  cases h
  obtain ⟨v,rfl,rfl,_⟩:=ck r
  refine ⟨_,_,rfl,rfl,?_⟩
  rw [UG]
  exact k _ HF H (.refl sm) rfl
theorem UJ:LM X joinM (fun x vs H Q=>∃ sep l ys,x=.str sep/\vs=[.ref l]/\cY X.K H l (ys.map V.str)/\(ys.map (·.length)).sum+ys.length*sep.length<=16777216/\Q (.str (Str.join sep ys)) H):=fun B hB al HF H l xs t ts Q sm hz r h k=>by
 match ts,h with
 | [u],h=>
  obtain ⟨v,rfl,ru⟩:=ck r
  have h:yz (.str l) u=some t:=h
  cases u with
  | lst us=>
   have h:(strsOf us).bind (fun ys=>gd ((ys.map (·.length)).sum+ys.length*l.length<=1000000) (T.str (a8 l ys)))=some t:=h
   obtain ⟨ls,h1,h⟩:=cJ.mp h
   obtain ⟨z,rfl⟩:=bH h
   obtain ⟨a,vs,rfl,q,r⟩:=ru
   have e:=tW r h1
   subst e
   refine ⟨_,a,_,rfl,rfl,cY.of (sm _ _ q),?_,?_⟩
   ·rw [Fc,dg,eQ];omega
   ·rw [join_eq]
    exact k _ HF H (.refl sm) ⟨rfl,ig (oB _ _) z⟩
  | _=>cases h
theorem m_find:LM X lX (fun x vs H Q=>(∃ a b,x=.str a/\vs=[.str b]/\Q (.int (Txt.find a b)) H)\/∃ a b i,x=.str a/\vs=[.str b,.int i]/\Q (.int (Txt.find3 a b i)) H):=fun B hB al HF H l xs t ts Q sm hz r h k=>by
 match ts,h with
 | [.str s],h=>
  cases h
  obtain ⟨v,rfl,rfl,_⟩:=ck r
  exact .inl ⟨_,_,rfl,rfl,k _ HF H (.refl sm) rfl⟩
 | [.str s,.int i],h=>
  cases h
  obtain ⟨v,w,rfl,⟨rfl,_⟩,rfl⟩:=LJ r
  exact .inr ⟨_,_,_,rfl,rfl,k _ HF H (.refl sm) rfl⟩
theorem m_split:LM X splitM (fun x vs H Q=>∃ a b,x=.str a/\vs=[.str b]/\(b.length == 0)=false/\a.length<=sizeLine/\(Txt.split a b).length<=sizeLine/\∀ l,H l=none->Q (.ref l) (upd H l (.lst ((Txt.split a b).map V.str)))):=fun B hB al HF H l xs t ts Q sm hz r h k=>by
 match ts,h with
 | [.str [c]],h=>
  obtain ⟨z,rfl⟩:=bH h
  obtain ⟨v,rfl,rfl,_⟩:=ck r
  have hsl:=split_len ⟨l.toArray⟩ ⟨([c]:List Nat).toArray⟩
  rw [eQ] at hsl
  refine ⟨_,_,rfl,rfl,rfl,by rw [eQ,sizeLine_eq];omega,by rw [sizeLine_eq];omega,fun q hq=>?_⟩
  have e:(Txt.split ⟨l.toArray⟩ ⟨([c]:List Nat).toArray⟩).map V.str=(aZ c l).map fun l=>SV l:=by
   rw [show (⟨([c]:List Nat).toArray⟩:Str)=⟨#[c]⟩ from rfl,Fg,rH];rfl
  rw [e]
  refine k _ _ _ (Gr.new sm hq) ⟨q,_,rfl,ak,oF fun m hm=>?_⟩
  have:=jg c l m hm
  omega
 | [.str []],h=>cases h
 | [.str (_::_::_)],h=>cases h
theorem Aq.or {id:String}{r r':V->List V->Hp->VK->Prop}(h:Aq X id r) (h':Aq X id r'):Aq X id (fun x vs H Q=>r x vs H Q\/r' x vs H Q):=fun aa s σ H x vs v us Q I rx rv q=>by
 rcases q with q | q
 ·exact h aa s σ H x vs v us Q I rx rv q
 ·exact h' aa s σ H x vs v us Q I rx rv q
structure SMt (X:Cx) (n:Str) (f:List Nat->List T->Option T):Prop where
 ex:∃ id r,Slot "str" n id/\typeOf (.builtin id)=pure (.type "method_descriptor")/\Aq X id r/\LM X f r
theorem ab6 {n:Str}{f:List Nat->List T->Option T}(M:SMt X n f) (hB:B.K=X.K) (ho:PE X o (tE B fo)) (ha:PA X (e::es) (tA B fl)) (hb:dE o=true) (hs:(e::es).all noStar=true) (hl:es.length<29) (lH:(cP.endLine == cQ.line)=true) :
  PE X (.Call (.Attribute o n cP) (e::es) [] cQ) (tE B (jD f fo fl)):=by
 obtain ⟨id,r,h1,h2,h3,h4⟩:=M.ex
 have Ax:=hs
 rw [eL,cy] at Ax
 exact a9 (DE PySem.F.plainAttrs_str h1 h2 h3 ho ha (jh hb) (vp hs hl) lH (aB Ax.1) (cV Ax.2)) (afc hB h4)
def xh:List (Str × (List Nat->List T->Option T)):=[("startswith", rE),("endswith", WI),("join", joinM),("split", splitM),("find", lX)]
theorem UK:∀ p∈xh,SMt X p.1 p.2:=by
 intro p h
 simp only [xh,fB,jG,or_false] at h
 rcases h with rfl | rfl | rfl | rfl | rfl
 ·exact ⟨_,_,PySem.F.slot_str_startswith,PySem.F.type_str_startswith,nK,afd⟩
 ·exact ⟨_,_,PySem.F.slot_str_endswith,PySem.F.type_str_endswith,rQ,afe⟩
 ·exact ⟨_,_,PySem.F.slot_str_join,PySem.F.type_str_join,Ji,UJ⟩
 ·exact ⟨_,_,PySem.F.slot_str_split,PySem.F.type_str_split,E7,m_split⟩
 ·exact ⟨_,_,PySem.F.slot_str_find,PySem.F.type_str_find,Aq.or E8 DM,m_find⟩
end
section
def bq:List T->Option T
 | [t]=>(match t with
  | .dO _ _=>none
  | t=>gH t)
 | _=>none
theorem ab7:LN X bq (fun xs H Q=>∃ x n,xs=[x]/\Xq X.K x H n/\Q (.int n) H):=fun B hB al HF H xs t ts Q sm r h k=>by
 match ts,h with
 | [tx],h=>
  obtain ⟨v,rfl,rx⟩:=ck r
  cases tx<;>first | (cases h;done) | skip
  ·cases h
   obtain ⟨rfl,hz⟩:=rx
   exact ⟨_,_,rfl,⟨szS hz,(eQ _).symm⟩,k _ HF H (.refl sm) rfl⟩
  ·cases h
   obtain ⟨a,vs,rfl,q,r⟩:=rx
   exact ⟨_,_,rfl,.inr ⟨vs,hB ▸ bP sm q,r.len⟩,k _ HF H (.refl sm) rfl⟩
  ·cases h
   obtain ⟨a,vs,rfl,q,r⟩:=rx
   exact ⟨_,_,rfl,.inl ⟨vs,cY.of (sm _ _ q),r.len⟩,k _ HF H (.refl sm) rfl⟩
  ·cases h
   obtain ⟨a,rfl,q⟩:=rx
   exact ⟨_,_,rfl,.inl ⟨_,hB ▸ sm.seq q,(dg _).symm⟩,k _ HF H (.refl sm) rfl⟩
def qu:List T->Option T
 | [t]=>Up t
 | _=>none
def jS:List T->Option T
 | [t]=>Lq t
 | _=>none
theorem ab8:LN X qu (fun xs H Q=>∃ (p:Addr) (ks:List Bool),xs=[.ref p]/\cY X.K H p (ks.map V.bl)/\Q (.bl (ks.all id)) H):=fun B hB al HF H xs t ts Q sm r h k=>by
 match ts,h with
 | [tx],h=>
  obtain ⟨v,rfl,rx⟩:=ck r
  have h:Up tx=some t:=h
  cases tx with
  | lst us=>
   obtain ⟨ks,h1,h⟩:=cK.mp (show (boolsOf us).map _=some t from h)
   obtain ⟨a,vs,rfl,q,r⟩:=rx
   have e:=jQ r h1
   subst e h
   exact ⟨a,ks,rfl,cY.of (sm _ _ q),k _ HF H (.refl sm) rfl⟩
  | _=>cases h
theorem ab9:LN X jS (fun xs H Q=>∃ (p:Addr) (ks:List Bool),xs=[.ref p]/\cY X.K H p (ks.map V.bl)/\Q (.bl (ks.any id)) H):=fun B hB al HF H xs t ts Q sm r h k=>by
 match ts,h with
 | [tx],h=>
  obtain ⟨v,rfl,rx⟩:=ck r
  have h:Lq tx=some t:=h
  cases tx with
  | lst us=>
   obtain ⟨ks,h1,h⟩:=cK.mp (show (boolsOf us).map _=some t from h)
   obtain ⟨a,vs,rfl,q,r⟩:=rx
   have e:=jQ r h1
   subst e h
   exact ⟨a,ks,rfl,cY.of (sm _ _ q),k _ HF H (.refl sm) rfl⟩
  | _=>cases h
def fM (i:Int):List Nat:=(toString i).toList.map Char.toNat
def strN:List T->Option T
 | [.int i]=>gd (i.natAbs.log2<1920/\(fM i).length<=1000000) (.str (fM i))
 | _=>none
theorem ab_:LN X strN (fun xs H Q=>∃ i,xs=[.int i]/\i.natAbs.log2<1920/\Q (.str (toString i)) H):=fun B hB al HF H xs t ts Q sm r h k=>by
 match ts,h with
 | [.int i],h=>
  obtain ⟨v,rfl,rx⟩:=ck r
  obtain ⟨⟨h1,h2⟩,rfl⟩:=bH h
  cases rx
  refine ⟨i,rfl,h1,k _ HF H (.refl sm) ⟨?_,h2⟩⟩
  show V.str (Str.ofString (toString i))=_
  rw [Str.ofString_eq_toList]
  rfl
def Fj:List T->Option T
 | [.str l]=>(PySem.intText? ⟨l.toArray⟩).bind fun n=>gd (l.length<=640) (.int n)
 | [.bl b]=>some (.int (if b then 1 else 0))
 | _=>none
abbrev aca:List V->Hp->VK->Prop:=fun xs H Q=>(∃ y n,xs=[.str y]/\PySem.intText? y=some n/\y.length<=640/\Q (.int n) H)\/∃ b,xs=[.bl b]/\Q (.int (if b then 1 else 0)) H
theorem Bx:er X (.type "int") aca:=by
 intro aa s σ H xs us Q I r h
 rcases h with ⟨y,n,rfl,hn,hl,q⟩ | ⟨b,rfl,q⟩
 ·obtain ⟨u,rfl,t,rfl⟩:=vals1 r
  exact PySem.W.KIN.call_text hn hl ⟨.int n,H,I.tok _,⟨_,rfl⟩,q⟩
 ·obtain ⟨u,rfl,e⟩:=vals1 r
  cases (show u=Value.bool b from e)
  exact PySem.call_int_bool ⟨.int (if b then 1 else 0),H,I.tok _,⟨_,rfl⟩,q⟩
theorem acb:LN X Fj aca:=fun B hB al HF H xs t ts Q sm r h k=>by
 match ts,h with
 | [.str l],h=>
  obtain ⟨v,rfl,rx⟩:=ck r
  obtain ⟨n,h1,h⟩:=cJ.mp h
  obtain ⟨z,rfl⟩:=bH h
  obtain ⟨rfl,_⟩:=rx
  exact .inl ⟨_,n,rfl,h1,by rw [eQ];exact z,k _ HF H (.refl sm) rfl⟩
 | [.bl b],h=>
  obtain ⟨v,rfl,rx⟩:=ck r
  cases h
  cases rx
  exact .inr ⟨b,rfl,k _ HF H (.refl sm) rfl⟩
def P0:List T->Option T
 | [t]=>PJ t
 | _=>none
theorem UL:LN X P0 (fun xs H Q=>∃ p ys,xs=[.ref p]/\(cY X.K H p ys\/j_ X.K H p ys)/\∀ l,H l=none->Q (.ref l) (upd H l (.lst ys))):=fun B hB al HF H xs t ts Q sm r h k=>by
 match ts,h with
 | [tx],h=>
  obtain ⟨v,rfl,rx⟩:=ck r
  have h:PJ tx=some t:=h
  cases tx<;>first | (cases h;done) | skip
  ·cases h
   obtain ⟨l,xs,rfl,q,r⟩:=rx
   exact ⟨l,xs,rfl,.inr (hB ▸ bP sm q),fun p hp=>k _ _ _ (Gr.new sm hp) ⟨p,_,rfl,ak,r.same (aS (sm.free hp))⟩⟩
  ·cases h
   obtain ⟨l,xs,rfl,q,r⟩:=rx
   exact ⟨l,xs,rfl,.inl (cY.of (sm _ _ q)),fun p hp=>k _ _ _ (Gr.new sm hp) ⟨p,_,rfl,ak,r.same (aS (sm.free hp))⟩⟩
structure Blt (X:Cx) (n:Str) (f:List T->Option T):Prop where
 ex:∃ r,LN X f r/\((∃ id,bootBuiltins n=some (.builtin id)/\er X (.builtin id) r)\/∃ ty,bootBuiltins n=some (.type ty)/\er X (.type ty) r)
 nn:n ≠ "__name__"
 nd:a_ n
theorem P1 {f:List T->Option T}(M:Blt X x f) (hB:B.K=X.K) (hg:Gl X x) (hm:X.mg x=none) (ha:PA X (e::es) (tA B fl)) (hs:(e::es).all noStar=true):PE X (.Call (.Name x p) (e::es) [] pos) (tE B (bC f fl)):=by
 obtain ⟨⟨r,h1,h2⟩,nn,nd⟩:=M
 rw [eL,cy] at hs
 rcases h2 with ⟨id,hb,hc⟩ | ⟨ty,hb,hc⟩
 ·exact a9 (dN hc hg hm hb ha nn nd (aB hs.1) (cV hs.2)) (PQ hB h1)
 ·exact a9 (oh hc hg hm hb ha nn nd (aB hs.1) (cV hs.2)) (PQ hB h1)
def xj:List (Str × (List T->Option T)):=[("len", bq),("all", qu),("any", jS),("str", strN),("int", Fj),("list", P0)]
theorem Fo (hc:X.calm=true):∀ p∈xj,Blt X p.1 p.2:=by
 intro p h
 simp only [xj,fB,jG,or_false] at h
 rcases h with rfl | rfl | rfl | rfl | rfl | rfl
 ·exact ⟨⟨_,ab7,.inl ⟨_,PySem.boot_len,lE⟩⟩,by decide,by decide⟩
 ·exact ⟨⟨_,ab8,.inl ⟨_,PyProof.Rows.boot_all,DN hc⟩⟩,by decide,by decide⟩
 ·exact ⟨⟨_,ab9,.inl ⟨_,PyProof.Rows.boot_any,DO hc⟩⟩,by decide,by decide⟩
 ·exact ⟨⟨_,ab_,.inr ⟨_,N8,pL⟩⟩,by decide,by decide⟩
 ·exact ⟨⟨_,acb,.inr ⟨_,N9,Bx⟩⟩,by decide,by decide⟩
 ·exact ⟨⟨_,UL,.inr ⟨_,C8,iR⟩⟩,by decide,by decide⟩
end
structure Pg where
 cn:List Str
 an:List Str
 tab:List (List Nat)
 sub:List (List Nat)
def Pg.fn (P:Pg):List (List Str):=P.tab.map fun l=>l.map fun i=>P.an.getD i Str.empty
structure WJ (K:bg) (mg:Str->Option Value) (n:Str) (ns:List Str) (C:Addr):Prop where
 at_:lh K mainGlobals n=some (some (.ref C))
 gl:mg n=some (.ref C)
 nd:ns.Nodup
 vp:ns.length<=100
 cl:pM K C
 na:∀ f∈ns,eu K C f
 ca:d9 K (.ref C) "__class__" = some (some (.builtin "object.__class__"))
 mo:zX K C (.type "object")=some true
structure qv (K:bg) (mg:Str->Option Value) (P:Pg):Prop where
 cls:∀ (c:Nat) (n:Str) (ns:List Str),P.cn[c]?=some n->P.fn[c]?=some ns->∃ C,WJ K mg n ns C
 sub:∀ (c d:Nat) (n n':Str) (C D:Addr) (l:List Nat),P.cn[c]?=some n->P.cn[d]?=some n'->mg n=some (.ref C)->mg n'=some (.ref D)->P.sub[c]?=some l->gp K (.ref C) (.ref D)=some (decide (d∈l))
 gt:B_ K (.builtin "object.__class__") "__get__" = some (some (.builtin "getset_descriptor.__get__"))/\Ca K (.builtin "object.__class__")=some true
abbrev Pg.kt (P:Pg) (X:Cx):KT:=⟨X.K,X.prog,X.w,P.cn,P.fn⟩
variable {P:Pg}
theorem qv.of (O:qv X.K X.mg P) {c:Nat}{C:Addr}{ns:List Str}(h:gj (P.kt X) c C ns):∃ n,P.cn[c]?=some n/\P.fn[c]?=some ns/\WJ X.K X.mg n ns C:=by
 obtain ⟨n,h1,h2,h3,h4⟩:=h
 obtain ⟨C',F⟩:=O.cls c n ns h1 h2
 have:C=C':=by
  have:=(show lh X.K mainGlobals n=some (some (.ref C)) from h4).symm.trans F.at_
  injection this with this
  injection this with this
  injection this
 subst this
 exact ⟨n,h1,h2,F⟩
theorem iB {f:Str}:∀ {ns:List Str}{vs:List V}{j:Nat},ns.Nodup->ns[j]?=some f->(ns.zip vs).lookup f=vs[j]?
 | [],vs,j,_,h=>by simp at h
 | n::ns,[],j,_,_=>by simp
 | n::ns,v::vs,0,nd,h=>by
  simp at h;subst h
  rw [pj,List.lookup_cons_self];rfl
 | n::ns,v::vs,j+1,nd,h=>by
  simp at h
  have e:(f == n)=false:=beq_eq_false_iff_ne.mpr fun z=>by subst z;exact (kF.mp nd).1 (gv h)
  rw [pj,ib,e]
  simpa using iB (kF.mp nd).2 h
theorem lY {f:Str}:∀ {ns:List Str}{vs:List V},f ∉ ns->(ns.zip vs).lookup f=none
 | [],vs,_=>by simp
 | n::ns,[],_=>by simp
 | n::ns,v::vs,h=>by
  have e:(f == n)=false:=beq_eq_false_iff_ne.mpr fun z=>h (by rw [z];exact eK ..)
  rw [pj,ib,e]
  exact lY fun z=>h (fG _ z)
theorem yO {f:Str}{v:V}:∀ {ns:List Str}{vs:List V}{j:Nat},ns.Nodup->ns[j]?=some f->vs.length<=ns.length->j<vs.length->L2.dM f v (ns.zip vs)=ns.zip (vs.set j v)
 | [],vs,j,_,h,_,_=>by simp at h
 | n::ns,[],j,_,_,_,h=>by simp at h
 | n::ns,w::vs,0,nd,h,_,_=>by
  simp at h;subst h
  show (if n=n then (n,v)::ns.zip vs else (n,w)::L2.dM n v (ns.zip vs))=_
  rw [if_pos rfl];rfl
 | n::ns,w::vs,j+1,nd,h,hl,hj=>by
  simp at h hl hj
  show (if n=f then (n,v)::ns.zip vs else (n,w)::L2.dM f v (ns.zip vs))=_
  rw [if_neg fun z=>(kF.mp nd).1 (by rw [z];exact gv h),yO (kF.mp nd).2 h hl hj]
  rfl
theorem qw {f:Str}{v:V}:∀ {ns:List Str}{vs:List V},ns.Nodup->ns[vs.length]?=some f->L2.dM f v (ns.zip vs)=ns.zip (vs++[v])
 | [],vs,_,h=>by simp at h
 | n::ns,[],nd,h=>by
  simp at h;subst h
  show L2.dM n v []=(n,v)::ns.zip []
  simp [L2.dM]
 | n::ns,w::vs,nd,h=>by
  simp at h
  show (if n=f then (n,v)::ns.zip vs else (n,w)::L2.dM f v (ns.zip vs))=_
  rw [if_neg fun z=>(kF.mp nd).1 (by rw [z];exact gv h),qw (kF.mp nd).2 h]
  rfl
theorem LK {l:List Nat}{f j:Nat}(h:l.idxOf? f=some j):l[j]?=some f:=by
 rw [NK,NL] at h
 obtain ⟨hj,h1,_⟩:=h
 rw [cX hj,eq_of_beq h1]
theorem qy {c f j:Nat}{n:Str}{ns:List Str}(hf:P.an[f]?=some n) (hc:P.fn[c]?=some ns) (h:EN P.tab c f=some j):ns[j]?=some n:=by
 unfold EN at h
 obtain ⟨l,h1,h2⟩:=cJ.mp h
 unfold Pg.fn at hc
 rw [gu,h1] at hc
 cases hc
 rw [gu,LK h2]
 show some (P.an.getD f Str.empty)=_
 rw [kH,hf];rfl
theorem acd (O:qv X.K X.mg P) {f:Nat}{n:Str}(hf:P.an[f]?=some n) (he:PE X e (tE (P.kt X) fa)) (hb:dE e=true):PE X (.Attribute e n pos) (tE (P.kt X) (aE P.tab f fa)):=by
 refine a9 (Ri he (jh hb)) fun σ H Q zz=>?_
 obtain ⟨g,s,t,s',x,h,k⟩:=zz
 obtain ⟨⟨tx,s1⟩,h1,h⟩:=af h
 refine ⟨g,s,_,s1,x,h1,fun v g1 H1 p1 x1 r1=>?_⟩
 cases tx<;>first | (cases h;done) | skip
 ·rename_i c fs
  obtain ⟨u,h2,h⟩:=af h
  cases h
  obtain ⟨j,h3,h4⟩:=cJ.mp (au h2)
  obtain ⟨a,C,dx,ns,vs,rfl,hC,hq,hl,hd,r⟩:=r1
  obtain ⟨m,hm,yu,F⟩:=O.of hC
  have hj:=qy hf yu h3
  obtain ⟨w,hw,I_⟩:=r.get h4
  exact ⟨a,C,dx,_,w,rfl,x1.sub _ _ hq,F.cl,F.na _ (gv hj),by rw [iB F.nd hj,hw],k _ g1 H1 p1 x1 I_⟩
 ·rename_i kk
  obtain ⟨c,h2,h⟩:=af h
  obtain ⟨ob,h3,h4⟩:=cJ.mp (au h2)
  obtain ⟨j,h5,h6⟩:=cJ.mp h4
  obtain ⟨a,rfl,ha⟩:=r1
  rcases x1.st.at_ kk ob h3 with ⟨a',C,dx,ns,vs,Z⟩ | ⟨a',vs,ts,Z⟩
  case inr=>
   rw [Z.fs] at h6
   cases j with
   | zero=>cases h6;cases h
   | succ j=>cases h6
  have:=Z.al.symm.trans ha
  cases this
  obtain ⟨m,hm,yu,F⟩:=O.of Z.cl
  have hj:=qy hf yu h5
  obtain ⟨w,hw,sl⟩:=Z.f j c h6
  cases c with
  | val t'=>
   cases h
   exact ⟨a,C,dx,_,w,rfl,Z.h,F.cl,F.na _ (gv hj),by rw [iB F.nd hj,hw],k _ g1 H1 p1 x1 sl⟩
  | ol ts=>cases h
  | od ks ts=>cases h
  | yg t=>cases h
def tyB (ty:String):T->Option Bool
 | .non=>some false
 | .bl _=>some (ty == "bool" || ty == "int")
 | .int _=>some (ty == "int")
 | .str _=>some (ty == "str")
 | .tup _=>some (ty == "tuple")
 | .lst _=>some (ty == "list")
 | _=>none
def tyD (ty:String):T->Option T:=fun t=>(tyB ty t).map .bl
theorem UM {B:KT}{al:List Addr}{H:Hp}{t:T}{v:V}{Ty:String}{u:Bool}(ka:iz Ty) (r:Rep B al H t v) (h:tyB Ty t=some u):∃ tn,gY B.K H v tn/\gp B.K tn (.type Ty)=some u:=by
 cases t with
 | non=>cases (show v=.non from r);cases h;exact ⟨_,.non,jR B.K ka.non⟩
 | bl b=>cases (show v=.bl b from r);cases h;exact ⟨_,.bl _,jR B.K ka.bl⟩
 | int i=>cases (show v=.int i from r);cases h;exact ⟨_,.int _,jR B.K ka.int⟩
 | str l=>obtain ⟨rfl,_⟩:=r;cases h;exact ⟨_,.str _,jR B.K ka.str⟩
 | tup ts=>obtain ⟨a,vs,rfl,q,_⟩:=r;cases h;exact ⟨_,.tup q,jR B.K ka.tup⟩
 | lst ts=>obtain ⟨a,vs,rfl,q,_⟩:=r;cases h;exact ⟨_,.lst q,jR B.K ka.lst⟩
 | _=>cases h
def tZ:List (Str × String):=[("int", "int"),("bool", "bool"),("str", "str"),("tuple", "tuple"),("list", "list")]
theorem ace:∀ q∈tZ,iz q.2/\bootBuiltins q.1=some (.type q.2)/\q.1 ≠ "__name__" /\ (q.1 == ("__debug__" : Str))=false:=by
 intro p h
 simp only [tZ,fB,jG,or_false] at h
 rcases h with rfl | rfl | rfl | rfl | rfl
 ·exact ⟨UH,N9,by decide,by decide⟩
 ·exact ⟨LD,PyProof.Rows.boot_bool,by decide,by decide⟩
 ·exact ⟨UI,N8,by decide,by decide⟩
 ·exact ⟨Fd,PyProof.Rows.boot_tuple,by decide,by decide⟩
 ·exact ⟨LF,C8,by decide,by decide⟩
theorem UN {B:KT}(hB:B.K=X.K) {ty:String}{py:Pos}(hy:(y,ty)∈tZ) (hm:X.mg "isinstance" = none) (hmt:X.mg y=none) (ha:PE X a (tE B fa)) (hg:Gl X "isinstance") (H0:Gl X y) (hs:noStar a=true) :
  PE X (.Call (.Name "isinstance" p) [a,.Name y py] [] pos) (tE B (b8 (tyD ty) fa)):=by
 obtain ⟨ka,hb,hn,hd⟩:=ace _ hy
 have vK:starEach [Expr.Name y py] X.env=(false,eval (.Name y py) X.env)::starEach [] X.env:=rfl
 refine a9 (dN rR hg hm C6 (bj ha (bj (ym H0 hmt hb (v:=.ty ty) rfl hn hd) cZ vK) (aB hs)) (he:=aB hs) (hpl:=rfl))
  (EU hB (r:=fun x H Q=>∃ x' T' t b,[x,.ty ty]=[x',.ty T']/\gY X.K H x' t/\gp X.K t (.type T')=some b/\Q (.bl b) H) fun B hB al HF H x t tx Q sm rx h k=>?_)
 obtain ⟨u,h1,rfl⟩:=cK.mp h
 obtain ⟨tn,h2,h3⟩:=UM ka (rx.same sm) h1
 exact ⟨x,ty,tn,u,rfl,hB ▸ h2,hB ▸ h3,k _ HF H (.refl sm) rfl⟩
def dc (sub:List (List Nat)) (ds:List Nat):T->Option T
 | .obj c _=>(sub[c]?).map fun l=>.bl (ds.any fun d=>decide (d∈l))
 | _=>none
theorem Fp:er X (.builtin "isinstance") (fun xs H Q=>∃ x D t b,xs=[x,.ref D]/\gY X.K H x t/\gp X.K t (.ref D)=some b/\Q (.bl b) H):=by
 intro aa s σ H xs us Q I r h
 obtain ⟨x,D,t,b,rfl,ty,e,q⟩:=h
 obtain ⟨u,u',rfl,ru,XS⟩:=vals2 r
 cases XS
 exact nZ I ru ty e fun tk=>⟨.bl b,H,I.tok _,rfl,q⟩
theorem acf (O:qv X.K X.mg P) {d:Nat}{py:Pos}(hy:P.cn[d]?=some y) (hm:X.mg "isinstance" = none) (ha:PE X a (tE (P.kt X) fa)) (hg:Gl X "isinstance") (H0:Gl X y) (hs:noStar a=true) (hd:a_ y) (W7:(P.fn[d]?).isSome=true) :
  PE X (.Call (.Name "isinstance" p) [a,.Name y py] [] pos) (tE (P.kt X) (b8 (dc P.sub [d]) fa)):=by
 obtain ⟨ns,yu⟩:=CV.mp W7
 obtain ⟨D,FD⟩:=O.cls d y ns hy yu
 have vK:starEach [Expr.Name y py] X.env=(false,eval (.Name y py) X.env)::starEach [] X.env:=rfl
 refine a9 (dN Fp hg hm C6 (bj ha (bj (kP (v:=.ref D) H0 FD.gl rfl hd) cZ vK) (aB hs)) (he:=aB hs) (hpl:=rfl)) fun σ H Q zz=>?_
 obtain ⟨g,s,t,s',x,h,k⟩:=zz
 obtain ⟨⟨tx,s1⟩,h1,h⟩:=af h
 obtain ⟨t',h2,h⟩:=af h
 cases h
 refine ⟨g,s,_,_,x,h1,fun v g1 H1 p1 x1 r1=>?_⟩
 have h2:=au h2
 cases tx<;>first | (cases h2;done) | skip
 obtain ⟨l,hl,rfl⟩:=cK.mp h2
 obtain ⟨a,C,dx,HZ,vs,rfl,hC,hq,hle,hdx,r⟩:=r1
 obtain ⟨m,hmm,afg,F⟩:=O.of hC
 refine ⟨_,D,_,_,rfl,.ins (x1.sub _ _ hq) F.cl F.ca O.gt.1 O.gt.2 F.mo,O.sub _ d m y C D l hmm hy F.gl FD.gl hl,?_⟩
 have:=k (V.bl (decide (d∈l))) g1 H1 p1 x1 (by show _=V.bl (([d]:List Nat).any fun d=>decide (d∈l));simp)
 exact this
abbrev fP (P:Pg) (K:bg) (Pr:Program) (w:World):KT:=⟨K,Pr,w,P.cn,P.fn⟩
def nA (B:KT) (f:Fn):Sp:=fun vs H Q _=>∃ g ts m t m',dw B g H m/\aA B g.al g.HF ts vs/\f ts m=.ok (t,m')/\∀ v g' H',dz g H g' H'->dw B g' H' m'->Rep B g'.al g'.HF t v->Q v H'
structure DnF (P:Pg) (Pr:Program) (w:World) (K:bg) (mg:Str->Option Value) (base:Heap) (k:Nat) (x:Str) (ds:List T) (f:Fn):Prop where
 ex:∃ (fa:Addr) (fd:FuncData) (ps:List Str) (jB:List Value) (dV:List V),bU Pr w K mg base kh k fa fd ps (nA (fP P K Pr w) f)/\mg x=some (.ref fa)/\k_ K (.ref fa)=true/\Binds K fd ps jB/\Vals dV jB/\∀ al H,aA (fP P K Pr w) al H ds dV
theorem ji {f:Fn}{ds:List T}{t:T}(h:ah f ds fl s=.ok (t,s')):∃ ts s1 m',fl s=.ok (ts,s1)/\f (ts++ds) s1.m=.ok (t,m')/\s'={ s1 with m:=m' }:=by
 obtain ⟨⟨ts,s1⟩,h1,h⟩:=af h
 dsimp only at h
 cases q:f (ts++ds) s1.m with
 | ok r=>rw [q] at h;cases h;exact ⟨ts,s1,r.2,h1,q,rfl⟩
 | bad=>rw [q] at h;cases h
 | exc c fs s2=>rw [q] at h;cases h
theorem t_ {B:KT}{f:Fn}{ts:List T}{t:T}{m':List Ob}{vs:List V}{Q:VK}{E:XK}(x:SR B g H σ s) (r:aA B g.al g.HF ts vs) (h:f ts s.m=.ok (t,m')) (k:∀ v g' H',dz g H g' H'->SR B g' H' σ { s with m:=m' }->Rep B g'.al g'.HF t v->Q v H'):nA B f vs H Q E:=
 ⟨g.ai,ts,s.m,t,m',x.st.ai,r,h,fun v g' H' p y rv=>let ⟨p2,x2⟩:=x.back p y;k v (G.back g g') H' p2 x2 rv⟩
theorem s_call {k j:Nat}{ds:List T}{f:Fn}(D:DnF P X.prog X.w X.K X.mg X.base k x ds f) (hr:bB j X.A) (qz:k<=j) (ha:PA X (e::es) (tA (P.kt X) fl)) (hg:Gl X x) (gA:a_ x) (hs:(e::es).all noStar=true) :
  PE X (.Call (.Name x p) (e::es) [] pos) (tE (P.kt X) (ah f ds fl)):=by
 obtain ⟨ff,fd,ps,jB,dV,F,hm,hk,hb,hd,LL⟩:=D.ex
 rw [eL,cy] at hs
 refine a9 (IS F (hr.mono qz) hg hm hk hb hd lI ha gA (aB hs.1) (cV hs.2)) fun σ H Q zz=>?_
 obtain ⟨g,s,t,s',x,h,k⟩:=zz
 obtain ⟨ts,s1,m',h1,h2,rfl⟩:=ji h
 exact ⟨g,s,ts,s1,x,h1,fun vs g1 H1 p1 x1 r1=>t_ x1 (r1.app (LL _ _)) h2 fun v g' H' p2 x2 rv=>k v g' H' (p1.trans p2) x2 rv⟩
theorem LO {k j:Nat}{ds:List T}{f:Fn}(D:DnF P X.prog X.w X.K X.mg X.base k x ds f) (hr:bB j X.A) (qz:k<=j) (hg:Gl X x) (gA:a_ x) :
  PE X (.Call (.Name x p) [] [] pos) (tE (P.kt X) (ah f ds cA)):=by
 obtain ⟨ff,fd,ps,jB,dV,F,hm,hk,hb,hd,LL⟩:=D.ex
 refine a9 (Dt F (hr.mono qz) hg hm hk hb hd lI gA) fun σ H Q zz=>?_
 obtain ⟨g,s,t,s',x,h,k⟩:=zz
 obtain ⟨ts,s1,m',h1,h2,rfl⟩:=ji h
 cases h1
 exact t_ (E:=E0) (vs:=[]++dV) x (LL _ _) h2 fun v g' H' p2 x2 rv=>k v g' H' p2 x2 rv
structure DnM (P:Pg) (Pr:Program) (w:World) (K:bg) (mg:Str->Option Value) (base:Heap) (k:Nat) (c:Nat) (m:Str) (f:Fn):Prop where
 ex:∃ (C fa:Addr) (fd:FuncData) (ps:List Str) (ns:List Str),gj (fP P K Pr w) c C ns/\pM K C/\Meth K C m fa/\bU Pr w K mg base kh k fa fd ps (nA (fP P K Pr w) f)/\Binds K fd ps []/\m ∉ ns
theorem Fq {ι:Type}{t:ι->TE}{t':TE}{C:ι->Prop}(h:∀ i,C i->PE X e (t i)) (k:∀ σ H Q,t' σ H Q->∃ i,C i/\t i σ H Q):PE X e t':=fun aa s σ H Q I q=>by
 obtain ⟨i,hi,hq⟩:=k σ H Q q
 exact h i hi aa s σ H Q I hq
def Fu (X:Cx) (o:Expr) (m:Str) (cP:Pos) (es:List Expr) (pos:Pos):Prop:=∃ pl,eval (.Call (.Attribute o m cP) es [] pos) X.env=(do
   let ov <- eval o X.env
   standAt cP.atName
   let (f,first) <- holding [ov] (getMethod ov m pl)
   callWith pos f first (backTo pos (starEach es X.env)) (backToKw pos (keywordEach [] X.env)))
theorem ua {gm:Nat->Option Fn}{t:T}(h:aJ gm fo fl s=.ok (t,s')):∃ tx s1 c f ts s2 m',fo s=.ok (tx,s1)/\((∃ k ob,tx=.own k/\s1.m[k]?=some ob/\ob.c=c)\/∃ fs,tx=.obj c fs)/\gm c=some f/\fl s1=.ok (ts,s2)/\f (tx::ts) s2.m=.ok (t,m')/\s'={ s2 with m:=m' }:=by
 obtain ⟨⟨tx,s1⟩,h1,h⟩:=af h
 cases tx<;>first | (cases h;done) | skip
 ·rename_i c fs
  obtain ⟨f,h2,h⟩:=af h
  obtain ⟨us,s2,m',h3,h4,rfl⟩:=ji h
  obtain ⟨⟨ts,s3⟩,h5,h6⟩:=af h3
  cases h6
  rw [dR] at h4
  exact ⟨_,s1,c,f,ts,_,m',h1,.inr ⟨fs,rfl⟩,au h2,h5,h4,rfl⟩
 ·rename_i kk
  obtain ⟨f,h2,h⟩:=af h
  obtain ⟨ob,h7,h8⟩:=cJ.mp (au h2)
  obtain ⟨us,s2,m',h3,h4,rfl⟩:=ji h
  obtain ⟨⟨ts,s3⟩,h5,h6⟩:=af h3
  cases h6
  rw [dR] at h4
  exact ⟨_,s1,ob.c,f,ts,_,m',h1,.inl ⟨kk,ob,rfl,h7,rfl⟩,h8,h5,h4,rfl⟩
theorem Fv {B:KT}{C:Addr}{ns:List Str}{c:Nat}{tx:T}{v:V}(x:SR B g H σ s) (hC:gj B c C ns) (r:Rep B g.al g.HF tx v) (h:(∃ k ob,tx=.own k/\s.m[k]?=some ob/\ob.c=c)\/∃ fs,tx=.obj c fs):∃ a dx vs,v=.ref a/\H a=some (.ins C dx (ns.zip vs)):=by
 rcases h with ⟨k,ob,rfl,h1,rfl⟩ | ⟨fs,rfl⟩
 ·obtain ⟨a,rfl,ha⟩:=r
  rcases x.st.at_ k ob h1 with ⟨a',C',dx,HZ,vs,Z⟩ | ⟨a',vs,ts,Z⟩
  case inr=>
   obtain ⟨n,q,_⟩:=hC
   rw [Z.nc] at q;cases q
  have:=Z.al.symm.trans ha
  cases this
  obtain ⟨rfl,rfl⟩:=Z.cl.eq hC
  exact ⟨a,dx,vs,rfl,Z.h⟩
 ·obtain ⟨a,C',dx,HZ,vs,rfl,hC',hq,_⟩:=r
  obtain ⟨rfl,rfl⟩:=hC'.eq hC
  exact ⟨a,dx,vs,rfl,x.sub _ _ hq⟩
theorem UO {m:Str}{k j:Nat}{gm:Nat->Option Fn}(D:∀ c f,gm c=some f->DnM P X.prog X.w X.K X.mg X.base k c m f) (hr:bB j X.A) (qz:k<=j) (ho:PE X o (tE (P.kt X) fo)) (ha:PA X (e::es) (tA (P.kt X) fl)) (hs:(e::es).all noStar=true) (mc:Fu X o m cP (e::es) pos) :
  PE X (.Call (.Attribute o m cP) (e::es) [] pos) (tE (P.kt X) (aJ gm fo fl)):=by
 obtain ⟨pl,mc⟩:=mc
 rw [eL,cy] at hs
 refine Fq (ι:=Addr × Fn) (C:=fun i=>∃ c fa fd ps ns,gj (P.kt X) c i.1 ns/\gm c=some i.2/\pM X.K i.1/\Meth X.K i.1 m fa/\bU X.prog X.w X.K X.mg X.base kh k fa fd ps (nA (P.kt X) i.2)/\Binds X.K fd ps []/\m ∉ ns)
  (t:=fun i=>yq i.1 m (nA (P.kt X) i.2) [] E0 (tE (P.kt X) fo) (tA (P.kt X) fl)) (fun i ⟨c,fa,fd,ps,ns,hC,_,cl,M,F,hb,_⟩=>IU (pl:=pl) ho cl M F (hr.mono qz) hb .nil lI ha (aB hs.1) (cV hs.2) mc) ?_
 rintro σ H Q ⟨g,s,t,s',x,h,k⟩
 obtain ⟨tx,s1,c,f,ts,s2,m',h1,hc,hf,h3,h4,rfl⟩:=ua h
 obtain ⟨C,fa,fd,ps,ns,hC,cl,M,F,hb,hn⟩:=(D c f hf).ex
 refine ⟨(C,f),⟨c,fa,fd,ps,ns,hC,hf,cl,M,F,hb,hn⟩,g,s,_,s1,x,h1,fun v g1 H1 p1 x1 r1=>?_⟩
 obtain ⟨a,dx,vs,rfl,hi⟩:=Fv x1 hC r1 hc
 refine ⟨a,dx,_,rfl,hi,lY hn,g1,s1,ts,s2,x1,h3,fun us g2 H2 p2 x2 r2=>?_⟩
 show nA _ _ (V.ref a::(us++[])) H2 Q E0
 rw [dR]
 exact t_ (ts:=tx::ts) x2 ⟨_,us,rfl,r1.mv p2.pre p2.fr,r2⟩ h4 fun v g' H' p3 x3 rv=>k v g' H' ((p1.trans p2).trans p3) x3 rv
theorem LP {m:Str}{k j:Nat}{gm:Nat->Option Fn}(D:∀ c f,gm c=some f->DnM P X.prog X.w X.K X.mg X.base k c m f) (hr:bB j X.A) (qz:k<=j) (ho:PE X o (tE (P.kt X) fo)) (mc:Fu X o m cP [] pos) :
  PE X (.Call (.Attribute o m cP) [] [] pos) (tE (P.kt X) (aJ gm fo cA)):=by
 obtain ⟨pl,mc⟩:=mc
 refine Fq (ι:=Addr × Fn) (C:=fun i=>∃ c fa fd ps ns,gj (P.kt X) c i.1 ns/\gm c=some i.2/\pM X.K i.1/\Meth X.K i.1 m fa/\bU X.prog X.w X.K X.mg X.base kh k fa fd ps (nA (P.kt X) i.2)/\Binds X.K fd ps []/\m ∉ ns)
  (t:=fun i=>yq i.1 m (nA (P.kt X) i.2) [] E0 (tE (P.kt X) fo) IQ) (fun i ⟨c,fa,fd,ps,ns,hC,_,cl,M,F,hb,_⟩=>Du (pl:=pl) ho cl M F (hr.mono qz) hb .nil lI mc) ?_
 rintro σ H Q ⟨g,s,t,s',x,h,k⟩
 obtain ⟨tx,s1,c,f,ts,s2,m',h1,hc,hf,h3,h4,rfl⟩:=ua h
 cases h3
 obtain ⟨C,fa,fd,ps,ns,hC,cl,M,F,hb,hn⟩:=(D c f hf).ex
 refine ⟨(C,f),⟨c,fa,fd,ps,ns,hC,hf,cl,M,F,hb,hn⟩,g,s,_,s1,x,h1,fun v g1 H1 p1 x1 r1=>?_⟩
 obtain ⟨a,dx,vs,rfl,hi⟩:=Fv x1 hC r1 hc
 exact ⟨a,dx,_,rfl,hi,lY hn,t_ (E:=E0) (ts:=[tx]) (vs:=[.ref a]) x1 (.one r1) h4 fun v g' H' p3 x3 rv=>k v g' H' (p1.trans p3) x3 rv⟩
def spI (C:Addr) (ns:List Str):Sp:=fun vs H Q _=>∃ x dx args,vs=.ref x::args/\args.length=ns.length/\H x=some (.ins C dx [])/\Q .non (upd H x (.ins C dx (ns.zip args)))
structure DnC (P:Pg) (Pr:Program) (w:World) (K:bg) (mg:Str->Option Value) (base:Heap) (k:Nat) (c n:Nat) (x:Str):Prop where
 ex:∃ (C fi:Addr) (fd:FuncData) (ps:List Str) (ns:List Str),gj (fP P K Pr w) c C ns/\ns.length=n/\mg x=some (.ref C)/\Mk K C fi/\bU Pr w K mg base kh k fi fd ps (spI C ns)/\Binds K fd ps []
theorem yP {B:KT}{c:Nat}{C x dx:Addr}{ns:List Str}{ts:List T}{vs:List V}(X1:SR B g H σ s) (hC:gj B c C ns) (hl:vs.length<=ns.length) (r:aA B g.al g.HF ts vs) (nx:H x=none) (nd:H dx=none) (gC:dx≠x) :
  ∃ gr:Gr g.HF H (upd (upd g.HF dx (.own x)) x (.ins C dx (ns.zip vs))) (upd (upd H dx (.own x)) x (.ins C dx (ns.zip vs))),Rep B g.al (upd (upd g.HF dx (.own x)) x (.ins C dx (ns.zip vs))) (.obj c ts) (.ref x):=by
 have g2:=Gr.new (o:=.own x) X1.sub nd
 have nx2:upd H dx (.own x) x=none:=by rw [ao (Ne.symm gC)];exact nx
 have g3:=Gr.new (o:=.ins C dx (ns.zip vs)) g2.sub nx2
 exact ⟨g2.trans g3,x,C,dx,ns,vs,rfl,hC,ak,hl,by rw [ao gC,ak],r.same (g2.fr.trans g3.fr)⟩
theorem acg {k j c n:Nat}(D:DnC P X.prog X.w X.K X.mg X.base k c n x) (hr:bB j X.A) (qz:k+1<=j) (ha:PA X (e::es) (tA (P.kt X) fl)) (hg:Gl X x) (gA:a_ x) (hs:(e::es).all noStar=true) :
  PE X (.Call (.Name x p) (e::es) [] pos) (tE (P.kt X) (c5 c n fl)):=by
 obtain ⟨C,f,fd,ps,ns,hC,hn,hm,M,F,hb⟩:=D.ex
 rw [eL,cy] at hs
 refine a9 (pP M F (hr.mono qz) hg hm hb .nil lI ha gA (aB hs.1) (cV hs.2)) fun σ H Q zz=>?_
 obtain ⟨g,s,t,s',x,h,k⟩:=zz
 obtain ⟨⟨ts,s1⟩,h1,h⟩:=af h
 dsimp only at h
 split at h
 ·rename_i hl
  cases h
  refine ⟨g,s,ts,_,x,h1,fun vs g1 H1 p1 x1 r1 x dx nx nd gC=>?_⟩
  have hvl:vs.length=ns.length:=by rw [<- r1.len,hl,hn]
  refine ⟨x,dx,vs++[],rfl,by rw [dR,hvl],ak,rfl,?_⟩
  rw [dR,yl]
  obtain ⟨gr,rp⟩:=yP (c:=c) (ts:=ts) x1 hC (by omega) r1 nx nd gC
  exact k _ (g1.grow _) _ (p1.trans (x1.nz gr)) (x1.grow gr) rp
 ·cases h
section
structure Mk0 (K:bg) (C:Addr):Prop where
 makes:B9 K C=true
 init:d9 K (.ref C) "__init__" = some (some (.builtin "object.__init__"))
 kp:k_ K (.ref C)=true
def afh (C:Addr):TE:=fun _ H Q=>∀ x dx,H x=none->H dx=none->dx≠x->Q (.ref x) (upd (upd H dx (.own x)) x (.ins C dx []))
open PySem.W in
theorem UP {C:Addr}(M:Mk0 X.K C) (hg:Gl X x) (hm:X.mg x=some (.ref C)) (gA:a_ x:=by decide):PE X (.Call (.Name x p) [] [] pos) (afh C):=by
 intro aa s σ H Q I h
 refine wpAny_Call_Name_kw (eT I hg hm ?_ gA)
 refine Cf I.gS M.kp ?_
 have hq:=h (s.heap.objs.size+1) s.heap.objs.size (I.bG.fresh (Nat.le_succ _)) (I.bG.fresh (dU _)) (dh (Ad _))
 have I2:=Inv.made (C:=C) I
 have KX:=I.gS
 obtain ⟨hh,g,d,t,os⟩:=s
 refine wpAny_call ?_
 have Y:=makes_of (M:=model X.prog X.w) KX M.makes
 refine make_core Y (looks_findIn KX M.init) (fun self=>Looks.of_pure (oi_bind self)) (.inr ⟨rfl,rfl⟩) ?_
 have hz:(hh.push emptyDict).objs.size=hh.objs.size+1:=Heap.size_push ..
 have gt:((hh.push emptyDict).push (instObj C hh.objs.size)).get? (hh.objs.size+1)=some (instObj C hh.objs.size):=by
  rw [<- hz]
  exact Heap.get?_push_size _ rfl
 have t1:Looks (model X.prog X.w) ((hh.push emptyDict).push (instObj C hh.objs.size)) (typeOf (.ref (hh.objs.size+1))) (.ref C):=(Looks.ld gt).andThen .now
 have t2:Looks (model X.prog X.w) ((hh.push emptyDict).push (instObj C hh.objs.size)) (isInstance (.ref (hh.objs.size+1)) (.type "object")) true:=t1.andThen (Y.top.keeps fun b o e=>Heap.get?_push_of_some _ (Heap.get?_push_of_some _ e))
 refine codeAny_call_builtin oi_plain entry_oi (@check_slot (model X.prog X.w) _ _ _ "object.__init__" "object" "__init__" (.ref (hh.objs.size+1)) [] [] _ oi_kind oi_split t2 (oi_args (.ref (hh.objs.size+1))) ?_)
 show wpAny _ _ (Builtin.«object.__init__» ⟨[Value.ref (hh.objs.size+1)],[]⟩) _ _ _
 rw [oi_run]
 exact wpAny_pure (And.intro rfl ⟨V.ref (hh.objs.size+1),_,I2,rfl,hq⟩)
end
structure ach (P:Pg) (Pr:Program) (w:World) (K:bg) (mg:Str->Option Value) (c:Nat) (x:Str):Prop where
 ex:∃ (C:Addr) (ns:List Str),gj (fP P K Pr w) c C ns/\mg x=some (.ref C)/\Mk0 K C
theorem UQ {c:Nat}(D:ach P X.prog X.w X.K X.mg c x) (hg:Gl X x) (gA:a_ x):PE X (.Call (.Name x p) [] [] pos) (tE (P.kt X) (c5 c 0 cA)):=by
 obtain ⟨C,ns,hC,hm,M⟩:=D.ex
 refine a9 (UP M hg hm gA) fun σ H Q zz=>?_
 obtain ⟨g,s,t,s',z,h,k⟩:=zz
 cases h
 intro x dx nx nd gC
 obtain ⟨gr,rp⟩:=yP (c:=c) (ts:=[]) (vs:=[]) z hC (iI _) rfl nx nd gC
 have e:ns.zip ([]:List V)=[]:=NN
 have:=k _ (g.grow _) _ (z.nz gr) (z.grow gr) rp
 rw [e] at this
 exact this
section
structure Walk (B:KT) (al:List Addr) (J:It) (HF:Hp) (ts:List T):Prop where
 go:∀ i H,aP HF H->i<ts.length->J.go i H
 yld:∀ i H x H',aP HF H->i<ts.length->J.yld i H x H'->∃ t,ts[i]?=some t/\∀ xl,aP HF xl->aP xl H->∃ UR,Gr xl H UR H'/\Rep B al UR t x
 stop:∀ i H,aP HF H->i=ts.length->J.stop i H
theorem By {B:KT}{al:List Addr}{HF:Hp}{l:Addr}{ts:List T}{vs:List V}(h:HF l=some (.lst vs)) (r:aA B al HF ts vs):Walk B al (Itl B.K l) HF ts:=by
 refine ⟨fun i H sm hi=>?_,fun i H x H' sm hi y=>?_,fun i H sm hi=>⟨vs,cY.of (sm _ _ h),by rw [hi,r.len];exact dU _⟩⟩
 ·obtain ⟨v,e,_⟩:=r.get (cX hi)
  exact ⟨vs,v,cY.of (sm _ _ h),e⟩
 ·obtain ⟨rfl,y⟩:=y
  have e:=y vs (cY.of (sm _ _ h))
  obtain ⟨t,e1,e2⟩:=r.Bv e
  exact ⟨t,e1,fun xl s1 s2=>⟨xl,.refl s2,e2.same s1⟩⟩
theorem Fw {B:KT}{al:List Addr}{HF:Hp}{l:Addr}{ts:List T}{vs:List V}(h:j_ B.K HF l vs) (r:aA B al HF ts vs):Walk B al (Itt B.K l) HF ts:=by
 refine ⟨fun i H sm hi=>?_,fun i H x H' sm hi y=>?_,fun i H sm hi=>⟨vs,bP sm h,by rw [hi,r.len];exact dU _⟩⟩
 ·obtain ⟨v,e,_⟩:=r.get (cX hi)
  exact ⟨vs,v,bP sm h,e⟩
 ·obtain ⟨rfl,y⟩:=y
  have e:=y vs (bP sm h)
  obtain ⟨t,e1,e2⟩:=r.Bv e
  exact ⟨t,e1,fun xl s1 s2=>⟨xl,.refl s2,e2.same s1⟩⟩
theorem Fx {B:KT}{al:List Addr}{J:It}{src:List V}{ts:List T}{HF:Hp}(d:Det J src (fun _=>True)) (r:aA B al HF ts src):Walk B al J HF ts:=by
 refine ⟨fun i H sm hi=>d.go i H trivial (by rw [<- r.len];exact hi),fun i H x H' sm hi y=>?_,fun i H sm hi=>d.stop i H trivial (by rw [<- r.len];exact hi)⟩
 obtain ⟨rfl,e⟩:=d.yld i H x H' trivial (by rw [<- r.len];exact hi) y
 obtain ⟨t,e1,e2⟩:=r.Bv e
 exact ⟨t,e1,fun xl s1 s2=>⟨xl,.refl s2,e2.same s1⟩⟩
structure Sets (B:KT) (al:List Addr) (HF:Hp) (S:List Nat) (σ σ':St) (ρ ρ':List (Option C)):Prop where
 len:σ'.length=σ.length
 lenR:ρ'.length=ρ.length
 off:∀ (i:Nat),i ∉ S->σ'[i]?=σ[i]?/\ρ'[i]?=ρ[i]?
 on:∀ (i:Nat),i∈S->i<ρ.length->∃ (t:T) (v:V),ρ'[i]?=some (some (.val t))/\σ'[i]?=some (some v)/\Rep B al HF t v
structure nO (B:KT) (g:TG) (fg:FG) (S:List Nat):Prop where
 ok:∀ (al:List Addr) (HF H:Hp) (σ:St) (ρ:List (Option C)) (t:T) (v:V) (ρ':List (Option C)) (Q:St->Hp->Prop),aP HF H->Rep B al HF t v->fg t ρ=some ρ'->ρ.length=σ.length->(∀ σ',Sets B al HF S σ σ' ρ ρ'->Q σ' H)->g v σ H Q
theorem Sets.one {B:KT}{al:List Addr}{HF:Hp}{i:Nat}{σ:St}{ρ:List (Option C)}{t:T}{v:V}(hl:ρ.length=σ.length) (r:Rep B al HF t v):Sets B al HF [i] σ (σ.set i (some v)) ρ (ρ.set i (some (.val t))):=by
 refine ⟨ic,ic,fun j hj=>?_,fun j hj fF=>?_⟩
 ·have:i≠j:=fun e=>hj (by simp [e])
  rw [gh this,gh this];exact ⟨rfl,rfl⟩
 ·have:j=i:=by simpa using hj
  subst this
  exact ⟨t,v,by rw [gq fF],by rw [gq (by omega)],r⟩
theorem yQ {B:KT}(i:Nat):nO B (yn i) (setG i) [i]:=⟨fun al HF H σ ρ t v ρ' Q sm r h hl q=>by
 cases h
 exact q _ (.one hl r)⟩
theorem Sets.cons {B:KT}{al:List Addr}{HF:Hp}{i:Nat}{S:List Nat}{σ σ':St}{ρ ρ':List (Option C)}{t:T}{v:V}(hl:ρ.length=σ.length) (r:Rep B al HF t v) (h:Sets B al HF S (σ.set i (some v)) σ' (ρ.set i (some (.val t))) ρ'):Sets B al HF (i::S) σ σ' ρ ρ':=by
 have o:=Sets.one (B:=B) (al:=al) (i:=i) hl r
 refine ⟨h.len.trans o.len,h.lenR.trans o.lenR,fun j hj=>?_,fun j hj fF=>?_⟩
 ·obtain ⟨h1,h2⟩:=h.off j (fun z=>hj (by simp [z]))
  obtain ⟨h3,h4⟩:=o.off j (fun z=>hj (by simp at z;simp [z]))
  exact ⟨h1.trans h3,h2.trans h4⟩
 ·by_cases hs:j∈S
  ·exact h.on j hs (by rw [ic];exact fF)
  ·obtain ⟨h1,h2⟩:=h.off j hs
   obtain ⟨t',v',a,b,c⟩:=o.on j (by rcases fB.mp hj with z | z;exact (by simp [z]);exact absurd z hs) fF
   exact ⟨t',v',h2.trans a,h1.trans b,c⟩
def jT:List Nat->Hz
 | []=>Xf
 | i::is=>Oh (yn i) (jT is)
theorem jU {B:KT}{al:List Addr}:∀ (is:List Nat) (HF H:Hp) (σ:St) (ρ:List (Option C)) (ts:List T) (vs:List V) (ρ':List (Option C)) (Q:St->Hp->Prop),aP HF H->aA B al HF ts vs->ou is ts ρ=some ρ'->ρ.length=σ.length->(∀ σ',Sets B al HF is σ σ' ρ ρ'->Q σ' H)->jT is vs σ H Q
 | [],HF,H,σ,ρ,ts,vs,ρ',Q,sm,r,h,hl,q=>by
  cases ts with
  | cons t ts=>cases h
  | nil=>
   cases h
   cases (show vs=[] from r)
   exact ⟨rfl,q _ ⟨rfl,rfl,fun _ _=>⟨rfl,rfl⟩,fun i hi=>by cases hi⟩⟩
 | i::is,HF,H,σ,ρ,ts,vs,ρ',Q,sm,r,h,hl,q=>by
  cases ts with
  | nil=>cases h
  | cons t ts=>
   obtain ⟨v,vs',rfl,r1,r2⟩:=r
   refine ⟨v,vs',rfl,?_⟩
   exact jU is HF H _ _ ts vs' ρ' Q sm r2 h (by rw [ic,ic];exact hl) fun σ' s=>q σ' (.cons hl r1 s)
theorem Fy {B:KT}(is:List Nat) {n:Nat}(hn:is.length=n:=by rfl):nO B (QZ B.K n (jT is)) (ia is) is:=⟨fun al HF H σ ρ t v ρ' Q sm r h hl q=>by
 cases t<;>first | (cases h;done) | skip
 ·rename_i ts
  obtain ⟨a,vs,rfl,q1,r⟩:=r
  have cL:∀ (is:List Nat) (ts:List T) (ρ:List (Option C)),ou is ts ρ=some ρ'->is.length=ts.length:=by
   intro is
   induction is with
   | nil=>intro ts ρ h;cases ts with
    | nil=>rfl
    | cons=>cases h
   | cons i is ih=>intro ts ρ h;cases ts with
    | nil=>cases h
    | cons t ts=>simp [ih ts _ h]
  exact ⟨a,vs,rfl,bP sm q1,by rw [<- r.len,<- cL _ _ _ h,hn],jU is HF H σ ρ ts vs ρ' Q sm r h hl q⟩
⟩
theorem Walk.mv {al Ls:List Addr}{J:It}{HF eW:Hp}{ts:List T}(w:Walk B al J HF ts) (p:al <+: Ls) (s:aP HF eW):Walk B Ls J eW ts:=
 ⟨fun i H h=>w.go i H (s.trans h),fun i H x H' h hi y=>let ⟨t,h1,h2⟩:=w.yld i H x H' (s.trans h) hi y;⟨t,h1,fun xl s1 s2=>let ⟨UR,gr,r⟩:=h2 xl (s.trans s1) s2;⟨UR,gr,r.mv p (aP.refl _)⟩⟩,fun i H h=>w.stop i H (s.trans h)⟩
def tI (B:KT) (f:FL):TI:=fun σ H R=>∃ g s ts s',SR B g H σ s/\f s=.ok (ts,s')/\∀ J g' H',dz g H g' H'->SR B g' H' σ s'->Walk B g'.al J g'.HF ts->R J H'
theorem P4:PI X tg e (tI B iX):=fun _ _ _ _ _ _ ⟨_,_,_,_,_,h,_⟩=>by cases h
theorem P5 {t t':TI}(h:PI X tg e t) (h':PI X tg e t'):PI X tg e (fun σ H R=>t σ H R\/t' σ H R):=fun aa s σ H R I q=>by
 rcases q with q | q
 ·exact h aa s σ H R I q
 ·exact h' aa s σ H R I q
def US:T->Bool
 | .str _=>false
 | _=>true
def UT:T->Option (List T)
 | .str _=>none
 | t=>itD t
def LQ (a:FE):FL:=fun s=>(a s).bind fun p=>(cT (UT p.1)).bind fun ts=>.ok (ts,p.2)
theorem BA {al:List Addr}{HF:Hp}{a:Addr}{ns:List Int}(h:cY B.K HF a (ns.map V.int)):Walk B al (Itl B.K a) HF (ns.map T.int):=by
 refine ⟨fun i H sm hi=>?_,fun i H x H' sm hi y=>?_,fun i H sm hi=>⟨_,sm.seq h,by rw [hi,dg,dg];exact dU _⟩⟩
 ·rw [dg] at hi
  exact ⟨_,.int ns[i],sm.seq h,by rw [gu,cX hi];rfl⟩
 ·rw [dg] at hi
  obtain ⟨rfl,y⟩:=y
  have e:=y _ (sm.seq h)
  obtain ⟨t,e1,e2⟩:=(aA.ints (B:=B) (al:=al) (H:=HF) ns).Bv e
  exact ⟨t,e1,fun xl s1 s2=>⟨xl,.refl s2,e2.same s1⟩⟩
theorem P6 (hB:B.K=X.K) (ha:PE X e (tE B fa)):PI X tg e (tI B (LQ fa)):=by
 refine yH (P5 (IG ha) (Q5 ha)) fun σ H R zz=>?_
 obtain ⟨g,s,t,s',x,h,k⟩:=zz
 obtain ⟨⟨tx,s1⟩,h1,h⟩:=af h
 obtain ⟨ts,h2,h⟩:=af h
 cases h
 have h2:=au h2
 have hB':=hB.symm
 cases tx<;>first | (cases h2;done) | skip
 ·cases h2
  refine .inr ⟨g,s,_,_,x,h1,fun v g1 H1 p1 x1 r1=>?_⟩
  obtain ⟨l,vs,rfl,q,r⟩:=r1
  refine ⟨l,rfl,⟨vs,hB ▸ bP x1.sub q⟩,?_⟩
  rw [hB']
  exact k _ g1 H1 p1 x1 (Fw q r)
 ·cases h2
  refine .inl ⟨g,s,_,_,x,h1,fun v g1 H1 p1 x1 r1=>?_⟩
  obtain ⟨l,vs,rfl,q,r⟩:=r1
  refine ⟨l,rfl,⟨vs,cY.of (x1.sub _ _ q)⟩,?_⟩
  rw [hB']
  exact k _ g1 H1 p1 x1 (By q r)
 ·cases h2
  refine .inl ⟨g,s,_,_,x,h1,fun v g1 H1 p1 x1 r1=>?_⟩
  obtain ⟨l,rfl,q⟩:=r1
  refine ⟨l,rfl,⟨_,hB ▸ x1.sub.seq q⟩,?_⟩
  rw [hB']
  exact k _ g1 H1 p1 x1 (BA q)
theorem aci (hB:B.K=X.K) {px:Pos}(ha:PE X e (tE B fa)):PI X (.Name x px) e (tI B (h_ fa)):=by
 refine yH (P5 (P6 hB ha) (Rv ha)) fun σ H R zz=>?_
 obtain ⟨g,s,t,s',z,h,k⟩:=zz
 obtain ⟨⟨tx,s1⟩,h1,h⟩:=af h
 obtain ⟨ts,h2,h⟩:=af h
 cases h
 by_cases hs:US tx=true
 ·refine .inl ⟨g,s,t,_,z,?_,k⟩
  unfold LQ
  rw [h1]
  show (cT (UT tx)).bind _=_
  have e:UT tx=itD tx:=by cases tx<;>first | rfl | (cases hs)
  rw [e,h2];rfl
 ·cases tx<;>first | (exact absurd rfl hs) | skip
  have h2:=au h2
  cases h2
  refine .inr ⟨g,s,_,_,z,h1,fun v g1 H1 p1 x1 r1=>?_⟩
  obtain ⟨rfl,hz⟩:=r1
  exact ⟨_,rfl,k _ g1 H1 p1 x1 (Fx (Jh _) (aA.signs _))⟩
theorem lR.sets {al:List Addr}{S':List Nat}{σ':St}{r r':List (Option C)}(x:lR B g H σ r) (hal:al=g.al) (t:Sets B al g.HF S' σ σ' r r'):lR B g H σ' r':=by
 subst hal
 refine ⟨by rw [t.lenR,t.len];exact x.len,fun i c h=>?_⟩
 by_cases hi:i∈S'
 ·have fF:i<r.length:=by rw [<- t.lenR];exact (du.mp h).1
  obtain ⟨u,v,h1,h2,h3⟩:=t.on i hi fF
  rw [h] at h1;cases h1
  exact ⟨v,h2,h3⟩
 ·obtain ⟨h1,h2⟩:=t.off i hi
  rw [h2] at h
  obtain ⟨v,h3,h4⟩:=x.at_ i c h
  exact ⟨v,h1.trans h3,h4⟩
end
theorem xn {B:KT}{al:List Addr}{HF:Hp}{S:List Nat}{σ':St}{ρ ρ':List (Option C)}{k:Nat}{js:List Nat}{σ:St}(hS:∀ i∈S,i<k) (s:Sets B al HF S (b_ k js σ) σ' ρ ρ'):cH (b_ k js σ) σ':=by
 have gen:∀ (a b:St),a.length=b.length->(∀ (i:Nat) (v:V),a[i]?=some (some v)->b[i]?=some (some v))->cH a b:=by
  intro a
  induction a with
  | nil=>intro b hl _;cases b with
   | nil=>trivial
   | cons=>cases hl
  | cons x a ih=>intro b hl h;cases b with
   | nil=>cases hl
   | cons y b=>
    have hr:=ih b (by simpa using hl) fun i v e=>by simpa using h (i+1) v (by simpa using e)
    cases x with
    | none=>exact hr
    | some v=>
     have:=h 0 v rfl
     simp at this
     subst this
     exact ⟨rfl,hr⟩
 refine gen _ _ s.len.symm fun i v e=>?_
 by_cases hi:i∈S
 ·have hk:=hS i hi
  unfold b_ at e
  rw [iH (by rw [z9];exact hk),Cm,if_pos hk] at e
  cases e
 ·rw [(s.off i hi).1];exact e
section
variable {scope:Scope}{ls fs:List Str}{js S':List Nat}{iter elt:Expr}{ifs:List Expr}{gt:TG}{vB:FL}{fg:FG}{ft:FT}{fe:FE}
theorem SR.kL:∀ (js:List Nat) {g:G}{s:S},SR B g H σ s->∃ g',dz g H g' H/\SR B g' H σ { s with r:=kL js s.r }
 | [],g,s,x=>⟨g,.refl,x⟩
 | j::js,g,s,x=>by
  show ∃ g',dz g H g' H/\SR B g' H σ { s with r:=D.kL js (Lr s.r j) }
  have one:∃ g1,dz g H g1 H/\SR B g1 H σ { s with r:=Lr s.r j }:=by
   unfold Lr
   split
   ·rename_i ts h
    obtain ⟨g1,v,p,y,_⟩:=x.iK h
    exact ⟨g1,p,y⟩
   ·exact ⟨g,.refl,x⟩
  obtain ⟨g1,p1,x1⟩:=one
  obtain ⟨g2,p2,x2⟩:=SR.kL js x1
  exact ⟨g2,p1.trans p2,x2⟩
theorem lR.block {r:List (Option C)}(x:lR B g H σ r) (k:Nat) (js:List Nat):lR B g.ai H (b_ k js σ) (gJ k js r):=by
 refine ⟨by unfold gJ b_;simp,fun i c h=>?_⟩
 unfold gJ at h
 unfold b_
 by_cases hi:i<k
 ·rw [iH (by simpa using hi),Cm,if_pos hi] at h
  cases h
 ·rw [gX (by simpa using hi),z9,gu] at h
  rw [gX (by simpa using hi),z9,gu]
  cases hj:js[i-k]? with
  | none=>rw [hj] at h;cases h
  | some j=>
   rw [hj] at h
   have h:(match r[j]? with | some (some (.val t))=>some (C.val t) | _=>none)=some c:=by injection h
   split at h
   ·rename_i t hr
    cases h
    obtain ⟨v,h1,h2⟩:=x.at_ j _ hr
    exact ⟨v,by show some ((σ[j]?).join)=_;rw [h1];rfl,h2⟩
   ·cases h
theorem SR.UU {D:Addr}{u:HO}(x:SR B g H σ s) (hf:g.HF D=none) (ho:g.o D=none) (hl:∃ w,H D=some w):SR B g (upd H D u) σ s:=by
 have ne:∀ b p,g.o b=some p->b≠D:=fun b p e z=>by rw [z,ho] at e;cases e
 refine ⟨x.st.mv (fun b w e=>?_) (fun b p e=>?_) (aP.refl _) rfl fun l p h _=>⟨h,ao (ne l p h)⟩,x.lc.len,fun i c e=>?_⟩
 ·have:b≠D:=fun z=>by rw [z,hf] at e;cases e
  rw [ao this];exact x.sub _ _ e
 ·obtain ⟨h1,w,h2⟩:=x.st.live b p e
  exact ⟨h1,w,by rw [ao (ne b p e)];exact h2⟩
 ·obtain ⟨v,h1,h2⟩:=x.lc.at_ i c e
  exact ⟨v,h1,bJ.mv (g:=g) (g':=g) (aP.refl _) eM (fun l h=>⟨h,ao (ne l _ h)⟩) h2⟩
theorem dz.UU {D:Addr}{u:HO}{g1:G}{H1:Hp}(p:dz g H g1 H1) (h0:H D=none):dz g H g1 (upd H1 D u):=
 ⟨p.fr,p.pre,fun b w h n z=>by
  have:b≠D:=aM h h0
  rw [ao this];exact p.rest b w h n z,fun b h=>by
  by_cases hb:b=D
  ·subst hb;exact h0
  ·rw [ao hb] at h;exact p.there b h⟩
theorem acj:HE X [] (tT B cC):=fun aa s σ H Q I z=>by
 obtain ⟨g,st,t,s',x,h,k⟩:=z
 cases h
 exact Je aa s σ H Q I (k g H .refl x)
theorem ack {c:Expr}(h:PT X c (tT B ft)):HE X [c] (tT B ft):=Jf h
theorem xo {k:Nat}(H_:nO B gt fg S') (hS:∀ i∈S',i<k):∀ σ H Q,tO B (bo vB k js fg ft fe) σ H Q->tComp (tI B vB) k js gt (tT B ft) (tE B fe) σ H Q:=by
 rintro σ H Q ⟨g,s,ys,s',x,h,kk⟩
 obtain ⟨⟨xs,s1⟩,h1,h⟩:=af h
 dsimp only at h
 split at h
 case isFalse=>cases h
 rename_i hz
 obtain ⟨⟨rs,mm⟩,h2,h⟩:=af h
 cases h
 unfold tComp
 refine ⟨g,s,xs,s1,x,h1,fun J g1 H1 p1 x1 wk D hD=>?_⟩
 obtain ⟨g2,p2,x2⟩:=x1.kL js
 have wk:=wk.mv p2.pre p2.fr
 obtain ⟨b,hb⟩:∃ b,b=gJ k js (_root_.D.kL js s1.r):=⟨_,rfl⟩
 rw [<- hb] at h2
 have p12:=p1.trans p2
 have hD0:H D=none:=p12.there D hD
 have nD:∀ {gg:G} {ss:S},SR B gg H1 σ ss->gg.HF D=none/\gg.o D=none:=fun {gg ss} x=>⟨x.sub.free hD,by
  cases q:gg.o D with
  | none=>rfl
  | some p=>obtain ⟨_,u,z⟩:=x.st.live D p q;rw [hD] at z;cases z⟩
 obtain ⟨f2,o2⟩:=nD x2
 obtain ⟨gr0,_,_⟩:=nN (u:=.lst []) x2 hD
 refine ⟨fun i m zs H2=>m=xs.length-i/\i<=xs.length/\∃ g3 m3 done rest,dz g2 H1 g3 H2/\SR B g3 H2 σ ⟨_root_.D.kL js s1.r,m3⟩/\g3.HF D=none/\g3.o D=none/\H2 D=some (.lst zs)/\aA B g3.al g3.HF done zs/\done.length<=i/\cM fg ft fe b (xs.drop i) m3=.ok (rest,mm)/\rs=done++rest,
  ⟨xs.length,by simp,iI _,g2.grow g2.HF,s1.m,[],rs,x2.nz gr0,x2.grow gr0,f2,o2,ak,rfl,dU _,by rw [Ac];exact h2,rfl⟩,?_⟩
 rintro i m zs H2 ⟨rfl,hi,g3,m3,done,rest,p3,x3,f3,o3,hl,rd,hdn,hr,rfl⟩
 by_cases fF:i<xs.length
 ·have sm3:=p3.fr.trans x3.sub
  refine .inr ⟨wk.go i H2 sm3 fF,fun v H3 y=>?_⟩
  obtain ⟨t,ht,y2⟩:=wk.yld i H2 v H3 sm3 fF y
  obtain ⟨HF4,UW,rx⟩:=y2 g3.HF p3.fr x3.sub
  have acm:xs.drop i=t::xs.drop (i+1):=by
   obtain ⟨hh,e⟩:=du.mp ht
   rw [ye hh,e]
  rw [acm] at hr
  obtain ⟨b1,q1,hr⟩:=af hr
  obtain ⟨⟨c,s5⟩,q2,hr⟩:=af hr
  have x4:=x3.grow UW
  have p4:=p3.trans (x3.nz UW)
  obtain ⟨hl4,f4⟩:=UW.rest D _ hl f3
  have eb:=x4.lc.block k js
  rw [<- hb] at eb
  refine H_.ok g3.al HF4 H3 _ _ t v b1 _ x4.sub (rx.mv p3.pre (aP.refl _)) (au q1) eb.len fun σ5 II=>⟨xn hS II,?_⟩
  have xb:SR B (g3.grow HF4).ai H3 σ5 ⟨b1,m3⟩:=⟨x4.st.ai,eb.sets rfl II⟩
  refine ⟨(g3.grow HF4).ai,⟨b1,m3⟩,c,s5,xb,q2,fun g6 H6 p6 x6=>?_⟩
  cases c with
  | true=>
   obtain ⟨⟨y',s7⟩,q3,hr⟩:=af hr
   obtain ⟨⟨ys',m8⟩,q4,hr⟩:=af hr
   cases hr
   refine pU ⟨g6,s5,y',s7,x6,q3,fun v7 g7 H7 p7 x7 r7=>?_⟩
   obtain ⟨pB,xB⟩:=x4.back (p6.trans p7) x7.st
   have p8:=p4.trans pB
   obtain ⟨hl7,f7,o7⟩:=(x3.nz UW |>.trans pB).rest D _ hl f3 o3
   have hzl:zs.length<sizeLine:=by rw [<- rd.len,sizeLine_eq];omega
   refine ⟨hl7,hzl,xs.length-(i+1),by omega,rfl,fF,G.back (g3.grow HF4) g7,s7.m,done++[y'],ys',p8.UU hD,xB.UU f7 o7 ⟨_,hl7⟩,f7,o7,ak,?_,by simp;omega,q4,by simp⟩
   have st:=(x3.nz UW).trans pB
   exact (rd.mv st.pre st.fr).app (.one r7)
  | false=>
   obtain ⟨pB,xB⟩:=x4.back p6 x6.st
   obtain ⟨hl7,f7,o7⟩:=(x3.nz UW |>.trans pB).rest D _ hl f3 o3
   have st:=(x3.nz UW).trans pB
   exact nI ⟨xs.length-(i+1),by omega,rfl,fF,G.back (g3.grow HF4) g6,s5.m,done,rest,p4.trans pB,xB,f7,o7,hl7,rd.mv st.pre st.fr,by omega,hr,rfl⟩
 ·have e:i=xs.length:=by omega
  subst e
  rw [NO] at hr
  cases hr
  rw [dR] at kk
  exact .inl ⟨wk.stop _ H2 (p3.fr.trans x3.sub) rfl,kk D zs g3 H2 (p12.trans p3) x3 hD0 f3 o3 hl rd⟩
theorem UX (ls:List Str) (hc:X.calm=true) (Sc:eV X scope) (F:eA X scope js fs) (hi:PI X tg iter (tI B vB)) (hg:∀ cl C fp s H,PG (X.block (ls++fs) scope cl C fp s H) tg gt) (H_:nO B gt fg S')
  (ht:∀ cl C fp s H,HE (X.block (ls++fs) scope cl C fp s H) ifs (tT B ft)) (he:∀ cl C fp s H,PE (X.block (ls++fs) scope cl C fp s H) elt (tE B fe))
  (hS:∀ i∈S',i<ls.length) (hs:∀ x,foldedSetIterable iter X.env x=pure x):PE X (.ListComp elt [⟨tg,iter,ifs,0⟩] scope pos) (tO B (bo vB ls.length js fg ft fe)):=
 a9 (Jg ls hc Sc F hi hg ht he hs) (xo H_ hS)
end
def BB (B:KT) (g:G) (H:Hp) (D:Ends):Out->S->Prop
 | .nx,s'=>∀ σ' g' H',dz g H g' H'->SR B g' H' σ' s'->D.nx σ' H'
 | .rt t,s'=>∀ v g' H',dz g H g' H'->dw B g' H' s'.m->Rep B g'.al g'.HF t v->D.rt v H'
 | .bk,s'=>∀ σ' g' H',dz g H g' H'->SR B g' H' σ' s'->D.bk σ' H'
 | .ct,s'=>∀ σ' g' H',dz g H g' H'->SR B g' H' σ' s'->D.ct σ' H'
def tS (B:KT) (f:FS):TS:=fun D σ H=>∃ g s o s',SR B g H σ s/\f s=.ok (o,s')/\BB B g H D o s'
section
variable {cu Ru:Pos}{ft:FT}{H1:Hp}{g1:G}{F Gf:FS}{st:Stmt}{rest B3:List Stmt}{i:Nat}
theorem BB.mv {D:Ends}{o:Out}(k:BB B g H D o s') (p:dz g H g1 H1):BB B g1 H1 D o s':=by
 cases o with
 | nx=>exact fun σ' g' H' q x=>k σ' g' H' (p.trans q) x
 | rt t=>exact fun v g' H' q x r=>k v g' H' (p.trans q) x r
 | bk=>exact fun σ' g' H' q x=>k σ' g' H' (p.trans q) x
 | ct=>exact fun σ' g' H' q x=>k σ' g' H' (p.trans q) x
theorem Fz:fD X B3 (tS B br):=fun _ _ _ _ _ _ ⟨_,_,_,_,_,h,_⟩=>by cases h
theorem bK:PS X st (tS B br):=fun _ _ _ _ _ _ ⟨_,_,_,_,_,h,_⟩=>by cases h
theorem acn:fD X [] (tS B aG):=lT pH fun D σ H z=>by
 obtain ⟨g,s,o,s',x,h,k⟩:=z
 cases h
 exact k σ g H .refl x
theorem UY (h1:PS X st (tS B F)) (h2:fD X rest (tS B Gf)):fD X (st::rest) (tS B (aj F Gf)):=lT (gz h1 h2) fun D σ H z=>by
 obtain ⟨g,s,o,s',x,h,k⟩:=z
 obtain ⟨⟨o1,s1⟩,e1,h⟩:=af h
 refine ⟨g,s,o1,s1,x,e1,?_⟩
 cases o1 with
 | nx=>exact fun σ1 g1 H1 p1 x1=>⟨g1,s1,o,s',x1,h,k.mv p1⟩
 | rt t=>cases h;exact k
 | bk=>cases h;exact k
 | ct=>cases h;exact k
theorem FF (h:PS X st (tS B F)):fD X [st] (tS B F):=kQ h
theorem UZ:PS X (.Pass pos) (tS B aG):=c8 ID fun D σ H z=>by
 obtain ⟨g,s,o,s',x,h,k⟩:=z
 cases h
 exact k σ g H .refl x
theorem LR:PS X (.Break pos) (tS B abL):=c8 Dg fun D σ H z=>by
 obtain ⟨g,s,o,s',x,h,k⟩:=z
 cases h
 exact k σ g H .refl x
theorem U0:PS X (.Continue pos) (tS B abM):=c8 rN fun D σ H z=>by
 obtain ⟨g,s,o,s',x,h,k⟩:=z
 cases h
 exact k σ g H .refl x
theorem yR (hN:X.N.Nodup) (hi:X.N[i]?=some x) (hx:Loc X.env.scope x) (he:PE X e (tE B fa)) (hs:swapsWith e (some (.Name x cu)) pos.line X.env=pure false) (hf:X.fn x=true\/X.env.scope.names.lookup x=some .local) :
  PS X (.Assign [.Name x cu] e pos) (tS B (aV i fa)):=c8 (jI hN hi hx he hs hf) fun D σ H z=>by
 obtain ⟨g,s,o,s',x,h,k⟩:=z
 obtain ⟨⟨t,s1⟩,e1,h⟩:=af h
 cases h
 exact ⟨g,s,t,s1,x,e1,fun v g1 H1 p1 x1 r1=>k _ g1 H1 p1 (x1.set r1)⟩
theorem yS {D:Ends}{ts:List T}{s1:S}(k:BB B g H D .nx (iE s1 i (.ol ts))) {l:Addr}{vs:List V}(p1:dz g H g1 H1) (x1:SR B g1 H1 σ s1) (h0:H l=none) (n1:g1.HF l=none) (n2:g1.o l=none) (hl:H1 l=some (.lst vs)) (r:aA B g1.al g1.HF ts vs):D.nx (σ.set i (some (.ref l))) H1:=by
 refine k _ (g1.own l (.loc i)) H1 ⟨p1.fr,p1.pre,fun b u h n z=>?_,p1.there⟩ (x1.own n2 n1 hl r)
 obtain ⟨a,b',c⟩:=p1.rest b u h n z
 have:b≠l:=aM h h0
 exact ⟨a,b',by show (if b=l then some (jP.loc i) else g1.o b)=none;rw [if_neg this];exact c⟩
theorem P7 (hN:X.N.Nodup) (hi:X.N[i]?=some x) (hx:Loc X.env.scope x) (he:PE X e (tO B fl)) (hs:swapsWith e (some (.Name x cu)) pos.line X.env=pure false) (hf:X.fn x=true\/X.env.scope.names.lookup x=some .local) :
  PS X (.Assign [.Name x cu] e pos) (tS B (i7 i fl)):=c8 (jI hN hi hx he hs hf) fun D σ H z=>by
 obtain ⟨g,s,o,s',x,h,k⟩:=z
 obtain ⟨⟨ts,s1⟩,e1,h⟩:=af h
 cases h
 exact ⟨g,s,ts,s1,x,e1,fun l vs g1 H1 p1 x1 h0 n1 n2 hl r=>yS k p1 x1 h0 n1 n2 hl r⟩
section
variable {scope:Scope}{ls fs:List Str}{js S':List Nat}{iter elt:Expr}{ifs:List Expr}{gt:TG}{vB:FL}{fg:FG}{fe:FE}
theorem U1 (ls:List Str) (hc:X.calm=true) (hN:X.N.Nodup) (hi:X.N[i]?=some x) (hx:Loc X.env.scope x) (Sc:eV X scope) (Fr:eA X scope js fs) (hit:PI X tg iter (tI B vB)) (hg:∀ cl C fp s H,PG (X.block (ls++fs) scope cl C fp s H) tg gt) (H_:nO B gt fg S')
  (ht:∀ cl C fp s H,HE (X.block (ls++fs) scope cl C fp s H) ifs (tT B ft)) (he:∀ cl C fp s H,PE (X.block (ls++fs) scope cl C fp s H) elt (tE B fe))
  (hS:∀ i∈S',i<ls.length) (hs:∀ x,foldedSetIterable iter X.env x=pure x) (hf:X.fn x=true\/X.env.scope.names.lookup x=some .local)
  (hsw:swapsWith (.ListComp elt [⟨tg,iter,ifs,0⟩] scope cQ) (some (.Name x cu)) pos.line X.env=pure true) :
  PS X (.Assign [.Name x cu] (.ListComp elt [⟨tg,iter,ifs,0⟩] scope cQ) pos) (tS B (i7 i (bo vB ls.length js fg ft fe))) /\
  PS X (.Assign [.Name x cu] (.ListComp elt [⟨tg,iter,ifs,0⟩] scope cQ) pos) (tS B (aV i (c6 (bo vB ls.length js fg ft fe)))):=by
 constructor
 ·refine c8 (yw ls hc hN hi hx Sc Fr hit hg ht he hs hf hsw) fun D σ H zz=>?_
  obtain ⟨g,s,o,s',x,h,k⟩:=zz
  obtain ⟨⟨ts,s1⟩,e1,h⟩:=af h
  cases h
  exact xo H_ hS σ H _ ⟨g,s,ts,s1,x,e1,fun l vs g1 H1 p1 x1 h0 n1 n2 hl r=>yS k p1 x1 h0 n1 n2 hl r⟩
 ·refine c8 (yw ls hc hN hi hx Sc Fr hit hg ht he hs hf hsw) fun D σ H zz=>?_
  obtain ⟨g,s,o,s',x,h,k⟩:=zz
  obtain ⟨⟨t,s2⟩,e0,h⟩:=af h
  obtain ⟨⟨ts,s1⟩,e1,e0⟩:=af e0
  cases e0
  cases h
  exact xo H_ hS σ H _ ⟨g,s,ts,s1,x,e1,fun l vs g1 H1 p1 x1 h0 n1 n2 hl r=>k _ (g1.grow (upd g1.HF l (.lst vs))) H1 (p1.xf h0 n1) ((x1.xf n1 n2 hl).set (t:=.lst ts) ⟨l,vs,rfl,ak,r.same (aS n1)⟩)⟩
end
theorem P8 {gt:TG}{fg:FG}{S':List Nat}(he:PE X e (tE B fa)) (hg:PG X tg gt) (H_:nO B gt fg S') (hs:swapsWithSole [tg] e pos.line X.env=pure false) (hw:swappedStores [tg] e X.env=pure none)
  (h1:(assignEach [tg] X.env).map (·.2)=[assign tg X.env]):PS X (.Assign [tg] e pos) (tS B (Bu fg fa)):=c8 (Q0 he hg hs hw h1) fun D σ H z=>by
 obtain ⟨g,s,o,s',x,h,k⟩:=z
 obtain ⟨⟨t,s1⟩,e1,h⟩:=af h
 obtain ⟨r',e2,h⟩:=af h
 cases h
 exact ⟨g,s,t,s1,x,e1,fun v g1 H1 p1 x1 r1=>H_.ok g1.al g1.HF H1 σ s1.r t v r' _ x1.sub r1 (au e2) x1.lc.len fun σ' st=>k σ' g1 H1 p1 ⟨x1.st,x1.lc.sets rfl st⟩⟩
theorem P9 (he:PE X e (tE B fa)):PS X (.Return (some e) pos) (tS B (av fa)):=c8 (QY he) fun D σ H z=>by
 obtain ⟨g,s,o,s',x,h,k⟩:=z
 obtain ⟨⟨t,s1⟩,e1,h⟩:=af h
 cases h
 exact ⟨g,s,t,s1,x,e1,fun v g1 H1 p1 x1 r1=>k v g1 H1 p1 x1.st r1⟩
theorem U3:PS X (.Return none pos) (tS B (av (cF .non))):=c8 IE fun D σ H z=>by
 obtain ⟨g,s,o,s',x,h,k⟩:=z
 cases h
 exact k _ g H .refl x.st rfl
theorem U4 (he:PE X e (tE B fa)) (hs:swapsWith e none pos.line X.env=pure false):PS X (.Expr e pos) (tS B (cU fa)):=c8 (pI he hs) fun D σ H z=>by
 obtain ⟨g,s,o,s',x,h,k⟩:=z
 obtain ⟨⟨t,s1⟩,e1,h⟩:=af h
 cases h
 exact ⟨g,s,t,s1,x,e1,fun v g1 H1 p1 x1 r1=>k σ g1 H1 p1 x1⟩
theorem afi {A A':List Stmt}(hc:PT X c (tT B ft)) (ha:fD X A (tS B F)) (hb:fD X A' (tS B Gf)):PS X (.If c A A' pos) (tS B (bu ft F Gf)):=c8 (Og hc ha hb) fun D σ H z=>by
 obtain ⟨g,s,o,s',x,h,k⟩:=z
 obtain ⟨⟨d,s1⟩,e1,h⟩:=af h
 refine ⟨g,s,d,s1,x,e1,fun g1 H1 p1 x1=>?_⟩
 cases d with
 | true=>exact pU ⟨g1,s1,o,s',x1,h,k.mv p1⟩
 | false=>exact nI ⟨g1,s1,o,s',x1,h,k.mv p1⟩
theorem eX {r:List (Option C)}{ts:List T}(h:iZ r[i]?=some ts):r[i]?=some (some (.ol ts)):=by
 unfold iZ at h
 split at h
 ·rename_i h2;cases h;exact h2
 ·cases h
theorem SR.qA (x:SR B g H σ s) {ts:List T}(h:s.r[i]?=some (some (.ol ts))):∃ l vs,σ[i]?=some (some (.ref l))/\g.o l=some (.loc i)/\H l=some (.lst vs)/\aA B g.al g.HF ts vs:=by
 obtain ⟨v,h1,l,vs,rfl,h2,h3,h4⟩:=x.lc.at_ i _ h
 exact ⟨l,vs,h1,h2,h3,h4⟩
theorem aco {py:Pos}(he:PE X e (tE B fa)) (hN:X.N[i]?=some y) (hv:nq X.env.scope y) (hd:a_ y) (fH:e_ y) (hs:noStar e=true) (lH:(cP.endLine == cQ.line)=true) :
  PS X (.Expr (.Call (.Attribute (.Name y py) "append" cP) [e] [] cQ) pos) (tS B (i8 i fa)):=by
 refine c8 (pI (DE PySem.F.plainAttrs_list PySem.F.slot_list_append PySem.F.type_list_append oi (bS hN hv hd fH) (bj he cZ (aB hs)) (jh rfl) (vp (by rw [eL,hs];rfl) (by decide)) lH (aB hs) rfl) rfl) fun D σ H zz=>?_
 obtain ⟨g,s,o,s',x,h,k⟩:=zz
 obtain ⟨us,e0,h⟩:=af h
 obtain ⟨⟨t,s1⟩,e1,h⟩:=af h
 obtain ⟨ts,e2,h⟩:=af h
 obtain ⟨ts',e3,h⟩:=af h
 obtain ⟨z,rfl⟩:=bH (au e3)
 cases h
 obtain ⟨l0,vs0,q1,q2,q3,q4⟩:=x.qA (eX (au e0))
 refine ⟨_,q1,.inl ⟨rfl,_,cY.of q3⟩,g,s,t,s1,x,e1,fun v g1 H1 p1 x1 r1=>?_⟩
 have ho:=eX (au e2)
 obtain ⟨l,vs,w1,w2,w3,w4⟩:=x1.qA ho
 rw [q1] at w1;cases w1
 obtain ⟨x2,p2⟩:=x1.chg ho q1 (w4.app (.one r1))
 exact ⟨l0,vs,v,rfl,rfl,w3,by rw [<- w4.len,sizeLine_eq];omega,k σ g1 _ (p1.trans p2) x2⟩
theorem acp {iter:Expr}{body:List Stmt}{gt:TG}{fg:FG}{S':List Nat}(hc:X.calm=true) (hi:PI X tg iter (tI B fl)) (hg:PG X tg gt) (H_:nO B gt fg S') (hb:fD X body (tS B F)) (hp:PassesOwn (model X.prog X.w) X.A X.env X.xe)
  (hs:∀ x,foldedSetIterable iter X.env x=pure x):PS X (.For tg iter body [] pos) (tS B (tK fl fg F)):=by
 refine c8 (Q6 hp hc hi hg hb hs) fun D σ H zz=>?_
 obtain ⟨g,s,o,s',x,h,k⟩:=zz
 obtain ⟨⟨xs,s1⟩,e1,h⟩:=af h
 refine ⟨g,s,xs,s1,x,e1,fun J g1 H1 p1 x1 wk=>?_⟩
 refine ⟨fun i m σ2 H2=>m=xs.length-i/\i<=xs.length/\∃ g2 s2,dz g1 H1 g2 H2/\SR B g2 H2 σ2 s2/\fL fg F (xs.drop i) s2=.ok (o,s'),
  ⟨xs.length,by simp,iI _,g1,s1,.refl,x1,by rw [Ac];exact h⟩,?_⟩
 rintro i m σ2 H2 ⟨rfl,hil,g2,s2,p2,x2,nB⟩
 have sm2:=p2.fr.trans x2.sub
 by_cases fF:i<xs.length
 ·have hx:xs[i]?=some xs[i]:=cX fF
  rw [ye fF] at nB
  obtain ⟨r3,q1,nB⟩:=af nB
  obtain ⟨⟨o3,s4⟩,q2,nB⟩:=af nB
  refine .inr ⟨wk.go i H2 sm2 fF,fun σ' H'=>∃ g' s5,dz g1 H1 g' H'/\SR B g' H' σ' s5/\fL fg F (xs.drop (i+1)) s5=.ok (o,s'),
   fun σ' H' ⟨g',s5,a,b,c⟩=>⟨xs.length-(i+1),by omega,rfl,fF,g',s5,a,b,c⟩,fun v H3 y=>?_⟩
  obtain ⟨t,ht,y2⟩:=wk.yld i H2 v H3 sm2 fF y
  rw [hx] at ht
  cases ht
  obtain ⟨UR,gr3,rx⟩:=y2 g2.HF p2.fr x2.sub
  have x3:=x2.grow gr3
  have p3:=p2.trans (x2.nz gr3)
  refine H_.ok g2.al UR H3 σ2 s2.r _ v r3 _ x3.sub (rx.mv p2.pre (aP.refl _)) (au q1) x3.lc.len fun σ4 st=>⟨g2.grow UR,⟨r3,s2.m⟩,o3,s4,⟨x3.st,x3.lc.sets rfl st⟩,q2,?_⟩
  cases o3 with
  | nx=>exact fun σ5 g5 H5 p5 x5=>⟨g5,s4,p3.trans p5,x5,nB⟩
  | ct=>exact fun σ5 g5 H5 p5 x5=>⟨g5,s4,p3.trans p5,x5,nB⟩
  | bk=>
   cases nB
   exact fun σ5 g5 H5 p5 x5=>k σ5 g5 H5 ((p1.trans p3).trans p5) x5
  | rt t=>
   cases nB
   exact fun v g5 H5 p5 x5 r=>k v g5 H5 ((p1.trans p3).trans p5) x5 r
 ·have e:i=xs.length:=by omega
  subst e
  rw [NO] at nB
  cases nB
  exact .inl ⟨wk.stop _ H2 sm2 rfl,k σ2 g2 H2 (p1.trans p2) x2⟩
theorem LS {body:List Stmt}(n:Nat) (hc:PT X c (tT B ft)) (hb:fD X body (tS B F)) (hp:PassesOwn (model X.prog X.w) X.A X.env X.xe):PS X (.While c body [] pos) (tS B (qp n ft F)):=by
 refine c8 (Dj hp hc hb) fun D σ H zz=>?_
 obtain ⟨g,s,o,s',x,h,k⟩:=zz
 refine ⟨fun m σ2 H2=>∃ g2 s2,dz g H g2 H2/\SR B g2 H2 σ2 s2/\bV ft F m s2=.ok (o,s'),⟨n,g,s,.refl,x,h⟩,?_⟩
 rintro m σ2 H2 ⟨g2,s2,p2,x2,nB⟩
 cases m with
 | zero=>cases nB
 | succ m=>
  obtain ⟨⟨d,s3⟩,q1,nB⟩:=af nB
  refine ⟨g2,s2,d,s3,x2,q1,fun g3 H3 p3 x3=>?_⟩
  cases d with
  | false=>
   cases nB
   exact nI (k σ2 g3 H3 (p2.trans p3) x3)
  | true=>
   obtain ⟨⟨o4,s4⟩,q2,nB⟩:=af nB
   refine pU ⟨fun σ' H'=>∃ g' s5,dz g H g' H'/\SR B g' H' σ' s5/\bV ft F m s5=.ok (o,s'),fun σ' H' ⟨g',s5,a,b,c⟩=>⟨m,Ad m,g',s5,a,b,c⟩,?_⟩
   refine ⟨g3,s3,o4,s4,x3,q2,?_⟩
   have p23:=p2.trans p3
   cases o4 with
   | nx=>exact fun σ5 g5 H5 p5 x5=>⟨g5,s4,p23.trans p5,x5,nB⟩
   | ct=>exact fun σ5 g5 H5 p5 x5=>⟨g5,s4,p23.trans p5,x5,nB⟩
   | bk=>
    cases nB
    exact fun σ5 g5 H5 p5 x5=>k σ5 g5 H5 (p23.trans p5) x5
   | rt t=>
    cases nB
    exact fun v g5 H5 p5 x5 r=>k v g5 H5 (p23.trans p5) x5 r
end
section
theorem oG {N:List Str}{vs:List V}{ts:List T}(r:aA B g.al g.HF ts vs):lR B g H (L2.start N vs) (ts.map (fun t=>some (C.val t))++dJ (N.length-ts.length) none):=by
 refine ⟨by unfold L2.start;simp [r.len],fun i c h=>?_⟩
 by_cases hi:i<ts.length
 ·rw [iH (by simpa using hi),gu,cX hi] at h
  cases h
  obtain ⟨v,h1,h2⟩:=r.get (cX hi)
  refine ⟨v,?_,h2⟩
  unfold L2.start
  rw [iH (by rw [dg,<- r.len];exact hi),gu,h1];rfl
 ·rw [gX (by simpa using hi),Cm] at h
  split at h<;>cases h
theorem kY {np n:Nat}{F:FS}{ts:List T}{m m':List Ob}{t:T}(h:aQ np n F ts m=.ok (t,m')):ts.length=np/\∃ o s',F ⟨ts.map (fun t=>some (.val t))++dJ (n-ts.length) none,m⟩=.ok (o,s')/\s'.m=m'/\(o=.rt t\/(o=.nx/\t=.non)):=by
 unfold aQ at h
 split at h
 ·rename_i hl
  obtain ⟨⟨o,s'⟩,h1,h⟩:=af h
  refine ⟨hl,o,s',h1,?_⟩
  cases o with
  | rt u=>cases h;exact ⟨rfl,.inl rfl⟩
  | nx=>cases h;exact ⟨rfl,.inr ⟨rfl,rfl⟩⟩
  | bk=>cases h
  | ct=>cases h
 ·cases h
variable {P:Program}{w:World}{K:bg}{mg:Str->Option Value}{base:Heap}
theorem U5 {x qual:Str}{st:Stmt}{f:Addr}{fd:FuncData}{N ps:List Str}{k:Nat}{F:FS}(Fn:HC K x qual st f fd) (Sc:eU N ps (aw st))
  (body:∀ (fE:Value) (A:Around) (outer:List Env) (s:Shared) (H:Hp) (E:XK),bB k (A.deeper (N_ qual (aw st) s.heap.objs.size f fE))->fD (jL kh P w K mg base N qual (aw st) f fE A outer s H E).Of (bM st) (tS B F)) :
  bU P w K mg base kh (k+1) f fd ps (nA B (aQ ps.length N.length F)):=by
 refine Fn.ok Sc (fun vs H Q E h=>?_) (fun fE A outer s H vs Q E hr h=>?_)
 ·obtain ⟨g,ts,m,t,m',x,r,h,_⟩:=h
  rw [<- r.len,(kY h).1]
 ·obtain ⟨g,ts,m,t,m',x,r,h,q⟩:=h
  obtain ⟨_,o,s',h1,rfl,ho⟩:=kY h
  refine ⟨_,body fE A outer s H E hr,g,_,o,s',⟨x,oG r⟩,h1,?_⟩
  rcases ho with rfl | ⟨rfl,rfl⟩
  ·exact fun v g' H' p y rv=>q v g' H' p y rv
  ·exact fun σ' g' H' p y=>q _ g' H' p y.st rfl
theorem LU {f:Addr}{fd:FuncData}{ps:List Str}{k:Nat}{fn:Fn}(F:bU P w K mg base kh k f fd ps (nA B fn)):bU P w K mg base kh k f fd ps (nA B (aO fn)):=F.imp fun vs H Q E h=>by
 obtain ⟨g,ts,m,t,m',x,r,h,q⟩:=h
 unfold aO at h
 split at h
 case isFalse=>cases h
 rename_i hn
 cases e:fn ts [] with
 | bad=>rw [e] at h;cases h
 | exc c fs s=>rw [e] at h;dsimp only at h;split at h<;>cases h
 | ok z=>
  rw [e] at h
  dsimp only at h
  split at h
  case isFalse=>cases h
  rename_i Dp
  cases h
  refine ⟨⟨g.HF,fun _=>none,[]⟩,ts,[],z.1,z.2,⟨x.sub,fun b p e=>(by cases e),rfl,fun k ob e=>(by simp at e)⟩,aA.no hn r,e,fun v g0 H' p y rv=>?_⟩
  have keep:∀ b p,g.o b=some p->H' b=H b/\g0.HF b=none:=fun b q hb=>by
   obtain ⟨h1,u,h2⟩:=x.live b q hb
   obtain ⟨h3,h4,_⟩:=p.rest b u h2 h1 rfl
   exact ⟨h3.trans h2.symm,h4⟩
  refine q v ⟨g0.HF,g.o,g.al⟩ H' ⟨p.fr,eM,fun b u h n z=>?_,p.there⟩ (x.mv y.sub (fun b p e=>?_) p.fr rfl fun l p h _=>⟨h,(keep l p h).1⟩) (Rep.no Dp rv)
  ·obtain ⟨h3,h4,_⟩:=p.rest b u h n rfl
   exact ⟨h3,h4,z⟩
  ·obtain ⟨h1,u,h2⟩:=x.live b p e
   obtain ⟨h3,h4⟩:=keep b p e
   exact ⟨h4,u,h3.trans h2⟩
end
section
variable {cu:Pos}
theorem SR.P_ {k:Nat}{ob Ib:Ob}{a C dx:Addr}{ns:List Str}{vs vs':List V}(x:SR B g H σ s) (Z:Lu B g H k ob a C dx ns vs) (hk:s.m[k]?=some ob) (hc:Ib.c=ob.c) (hle:vs'.length<=ns.length) (hln:vs'.length=Ib.fs.length)
  (hf:∀ j c,Ib.fs[j]?=some c->∃ v,vs'[j]?=some v/\bJ B g H (.fld k j) c v) :
  dz g H g (upd H a (.ins C dx (ns.zip vs')))/\SR B g (upd H a (.ins C dx (ns.zip vs'))) σ { s with m:=s.m.set k Ib }:=by
 have ne:∀ l q,g.o l=some q->q≠.ob k->upd H a (.ins C dx (ns.zip vs')) l=H l:=fun l q hl hq=>ao fun z=>hq (by rw [z,Z.o] at hl;cases hl;rfl)
 have sl:∀ {q:jP} {c:_root_.D.C} {v:V},q≠.ob k->bJ B g H q c v->bJ B g (upd H a (.ins C dx (ns.zip vs'))) q c v:=fun hq h=>bJ.mv (g:=g) (g':=g) (aP.refl _) eM (fun l hl=>⟨hl,ne l _ hl hq⟩) h
 refine ⟨qq Z.o,⟨⟨fun b w e=>?_,fun b q e=>?_,by rw [ic];exact x.st.len,fun k' ob2 e=>?_⟩,x.lc.len,fun i c e=>?_⟩⟩
 ·have:b≠a:=fun z=>by rw [z,(x.st.live a _ Z.o).1] at e;cases e
  rw [ao this];exact x.sub _ _ e
 ·obtain ⟨h1,w,h2⟩:=x.st.live b q e
  by_cases hb:b=a
  ·exact ⟨h1,_,by rw [hb,ak]⟩
  ·exact ⟨h1,w,by rw [ao hb];exact h2⟩
 ·by_cases hkk:k=k'
  ·subst hkk
   have fF:k<s.m.length:=(du.mp hk).1
   have e:(s.m.set k Ib)[k]?=some ob2:=e
   rw [gq fF] at e
   cases e
   exact .inl ⟨a,C,dx,ns,vs',Z.al,Z.o,by rw [hc];exact Z.cl,ak,hle,hln,fun j c h=>let ⟨v,h1,h2⟩:=hf j c h;⟨v,h1,sl (fun z=>by cases z) h2⟩⟩
  ·have e:(s.m.set k Ib)[k']?=some ob2:=e
   rw [gh hkk] at e
   refine (x.st.at_ k' ob2 e).mv (aP.refl _) eM fun l q h hq=>⟨h,ne l q h ?_⟩
   rcases hq with rfl | ⟨j,rfl⟩
   ·exact fun z=>hkk (by cases z;rfl)
   ·exact fun z=>by cases z
 ·obtain ⟨v,h1,h2⟩:=x.lc.at_ i c e
  exact ⟨v,h1,sl (fun z=>by cases z) h2⟩
theorem BC {fs vB:List C}{j:Nat}{c:C}(h:setAt fs j c=some vB):(j<fs.length/\vB=fs.set j c)\/(j=fs.length/\vB=fs++[c]):=by
 unfold setAt at h
 split at h
 ·rename_i q;cases h;exact .inl ⟨q,rfl⟩
 ·split at h
  ·rename_i q;cases h;exact .inr ⟨q,rfl⟩
  ·cases h
theorem LV (O:qv X.K X.mg P) {f:Nat}{n:Str}{k:Nat}{ob Ib:Ob}{c':_root_.D.C}{a C dx:Addr}{ns:List Str}{vs:List V}{v:V}(hf:P.an[f]?=some n) (x:SR (P.kt X) g H σ s) (Z:Lu (P.kt X) g H k ob a C dx ns vs) (hk:s.m[k]?=some ob) (h:PL P.tab f c' ob=some Ib)
  (hv:∀ j,bJ (P.kt X) g H (.fld k j) c' v):pM X.K C/\eu X.K C n/\(ns.zip vs).length<1000 /\
  ∃ vs',L2.dM n v (ns.zip vs)=ns.zip vs'/\dz g H g (upd H a (.ins C dx (ns.zip vs')))/\SR (P.kt X) g (upd H a (.ins C dx (ns.zip vs'))) σ { s with m:=s.m.set k Ib }:=by
 obtain ⟨j,h1,h2⟩:=cJ.mp h
 obtain ⟨vB,h3,rfl⟩:=cK.mp h2
 obtain ⟨m,hm,yu,F⟩:=O.of Z.cl
 have hj:=qy hf yu h1
 have WK:j<ns.length:=(du.mp hj).1
 refine ⟨F.cl,F.na _ (gv hj),by rw [CG];have:=F.vp;omega,?_⟩
 rcases BC h3 with ⟨fF,rfl⟩ | ⟨rfl,rfl⟩
 ·refine ⟨vs.set j v,yO F.nd hj Z.le (by rw [Z.ln];exact fF),?_⟩
  refine x.P_ Z hk rfl (by rw [ic];exact Z.le) (by rw [ic,ic];exact Z.ln) fun i c e=>?_
  by_cases hi:j=i
  ·subst hi
   rw [gq fF] at e
   cases e
   exact ⟨v,by rw [gq (by rw [Z.ln];exact fF)],hv j⟩
  ·rw [gh hi] at e
   obtain ⟨w,h4,h5⟩:=Z.f i c e
   exact ⟨w,by rw [gh hi];exact h4,h5⟩
 ·refine ⟨vs++[v],qw F.nd (by rw [Z.ln];exact hj),?_⟩
  refine x.P_ Z hk rfl (by rw [bL,Z.ln];exact WK) (by rw [bL,bL,Z.ln];rfl) fun i c e=>?_
  by_cases hi:i<ob.fs.length
  ·rw [iH hi] at e
   obtain ⟨w,h4,h5⟩:=Z.f i c e
   exact ⟨w,by rw [iH (by rw [Z.ln];exact hi)];exact h4,h5⟩
  ·rw [gX (by omega)] at e
   have hz:i-ob.fs.length=0:=by
    have:=(du.mp e).1
    simp at this;omega
   rw [hz] at e
   cases e
   exact ⟨v,by rw [gX (by rw [Z.ln];omega),Z.ln,hz];rfl,hv i⟩
theorem acq (O:qv X.K X.mg P) {f:Nat}{n:Str}(hf:P.an[f]?=some n) (ho:PE X o (tE (P.kt X) fo)) (he:PE X e (tE (P.kt X) fa)) (hs:swapsWith e (some (.Attribute o n cu)) pos.line X.env=pure false) :
  PS X (.Assign [.Attribute o n cu] e pos) (tS (P.kt X) (i9 P.tab f fo fa)):=c8 (vN ho he hs) fun D σ H z=>by
 obtain ⟨g,s,oo,s',x,h,k⟩:=z
 obtain ⟨⟨t,s1⟩,h1,h⟩:=af h
 obtain ⟨⟨tx,s2⟩,h2,h⟩:=af h
 cases tx<;>first | (cases h;done) | skip
 rename_i kk
 obtain ⟨Ib,h3,h⟩:=af h
 cases h
 obtain ⟨ob,h4,h5⟩:=cJ.mp (au h3)
 refine ⟨g,s,t,s1,x,h1,fun v g1 H1 p1 x1 r1=>⟨g1,s1,_,s2,x1,h2,fun w g2 H2 p2 x2 r2=>?_⟩⟩
 obtain ⟨a,rfl,ha⟩:=r2
 rcases x2.st.at_ kk ob h4 with ⟨a',C,dx,ns,vs,Z⟩ | ⟨a',vs,ts,Z⟩
 case inr=>
  obtain ⟨j,q,_⟩:=cJ.mp h5
  obtain ⟨l,q,_⟩:=cJ.mp q
  have z:(P.tab.map _)[ob.c]?=none:=Z.nf
  rw [gu,q] at z
  cases z
 have:=Z.al.symm.trans ha
 cases this
 obtain ⟨cl,na,hl,vs',e1,p3,x3⟩:=LV O hf x2 Z h4 h5 (v:=v) fun j=>r1.mv p2.pre p2.fr
 refine ⟨a,C,dx,_,rfl,Z.h,cl,na,hl,?_⟩
 rw [e1]
 exact k σ g2 _ ((p1.trans p2).trans p3) x3
end
end D
namespace L2
open PySem PySem.Spec PyProof.Rows
section
variable {X:Cx}
theorem LW {e:Expr}{x y:Str}{k1 k2 p1 p2 p3 pos}{te:TE}(h:PE X e te) (hx:x.length<=sizeLine) :
  PE X (.JoinedStr [.Constant (.str x) k1 p1,.FormattedValue e (-1) none p2,.Constant (.str y) k2 p3] pos) (fun σ H Q=>te σ H fun v H1=>∃ z:Str,v=.str z/\x.length+z.length+y.length<=sizeLine/\Q (.str (Str.empty++x++z++y)) H1):=by
 intro aa s σ H Q I q
 have e0:(Str.empty++x).length=x.length:=by rw [strLen_append];exact yj _
 refine JoinedStr_many (joinParts_cons (Calls.Constant_str ⟨by rw [e0];exact hx,joinParts_cons (FormattedValue_plain (b7 (h aa _ σ H _ (I.tok _) q) fun v s1 ⟨z',H1,I1,r,z,ez,hz,q1⟩=>?_))⟩))
 subst ez
 obtain ⟨t,rfl⟩:=r
 have e1:(Str.empty++x++z).length=x.length+z.length:=by rw [strLen_append,e0]
 have e2:(Str.empty++x++z++y).length=x.length+z.length+y.length:=by rw [strLen_append,e1]
 refine formatField_str (fun t' tk=>⟨by rw [e1];omega,joinParts_cons (Calls.Constant_str ⟨by rw [e2];exact hz,joinParts_nil ⟨.str (Str.empty++x++z++y),H1,I1.tok _,⟨_,rfl⟩,q1⟩ (by rw [e2];exact hz)⟩)⟩) (by omega)
end
end L2
namespace D
open PySem L2
variable {X:Cx}{env:Env}{a b c e o:Expr}{fa fb fc fo:FE}{fl:FL}{g g':G}{H H':Hp}{B:KT}{es:List Expr}{i:Nat}{cP cQ p pos cu:Pos}{s s':S}{σ:St}{x y:Str}
section
variable {P:Pg}
theorem yT:∀ {Ds:List Addr}{its:List Value},Vals (Ds.map V.ref) its->its=Ds.map Value.ref
 | [],_,h=>by cases h;rfl
 | D::Ds,_,h=>by
  cases h with
  | cons p q=>
   cases p
   rw [yT q]
   rfl
theorem FH:er X (.builtin "isinstance") (fun xs H Q=>∃ (a C dx tp:Addr) (fs:List (Str × V)) (Ds:List Addr) (b:Bool),xs=[.ref a,.ref tp]/\H a=some (.ins C dx fs)/\pM X.K C/\d9 X.K (.ref C) "__class__" = some (some (.builtin "object.__class__")) /\
  B_ X.K (.builtin "object.__class__") "__get__" = some (some (.builtin "getset_descriptor.__get__"))/\Ca X.K (.builtin "object.__class__")=some true/\zX X.K C (.type "object")=some true /\
  H tp=some (.tup (Ds.map V.ref))/\Ci X.K (.ref C) (Ds.map Value.ref)=some b/\Q (.bl b) H):=by
 intro aa s σ H xs us Q I r h
 obtain ⟨a,C,dx,tp,fs,Ds,b,rfl,ea,cl,h1,hn,htk,h2,et,e,q⟩:=h
 obtain ⟨u,u',rfl,ru,XS⟩:=vals2 r
 cases ru
 cases XS
 obtain ⟨mA,O,_⟩:=iO I.bG ea
 obtain ⟨od,J,_⟩:=O.look
 obtain ⟨_,its,rv,o,g1,g2,n,g3⟩:=(show bO X.prog X.w H s.heap tp (.tup (Ds.map V.ref)) from I.bG tp _ et)
 have ei:its=Ds.map Value.ref:=yT rv
 obtain ⟨oc,odd,odt,yr⟩:=o
 cases g2
 cases g3
 rw [ei] at g1
 exact PySem.W.kia_tup (ND (cl.get _) cl.hd h1 hn htk h2) I.gS J g1 e (fun z=>nomatch z) fun tk=>⟨.bl b,H,I.tok _,rfl,q⟩
def G.km (g:G) (a:Addr):G:={ g with o:=fun b=>if b=a then some (.ob g.al.length) else g.o b,al:=g.al++[a] }
theorem SR.km {c:Nat}{C q dx:Addr}{ns:List Str}(x:SR B g H σ s) (hC:gj B c C ns) (nx:H q=none) (nd:H dx=none) (gC:dx≠q) :
  dz g H (g.km q) (upd (upd H dx (.own q)) q (.ins C dx []))/\SR B (g.km q) (upd (upd H dx (.own q)) q (.ins C dx [])) σ { s with m:=s.m++[⟨c,[]⟩] }:=by
 have nf:g.HF q=none:=x.sub.free nx
 have nf2:g.HF dx=none:=x.sub.free nd
 have no:∀ l p',g.o l=some p'->l≠q/\l≠dx:=fun l p' h=>by
  obtain ⟨_,u,z⟩:=x.st.live l p' h
  exact ⟨aM z nx,aM z nd⟩
 have WL:∀ l,l≠q->l≠dx->upd (upd H dx (.own q)) q (.ins C dx []) l=H l:=fun l h1 h2=>by rw [ao h1,ao h2]
 have ho:∀ l p',g.o l=some p'->(g.km q).o l=some p':=fun l p' h=>by
  show (if l=q then some (jP.ob g.al.length) else g.o l)=_
  rw [if_neg (no l p' h).1];exact h
 have pre:g.al <+: (g.km q).al:=List.prefix_append _ _
 refine ⟨⟨aP.refl _,pre,fun b u h n z=>?_,fun b h=>?_⟩,⟨⟨fun b u e=>?_,fun b p' e=>?_,?_,fun k ob e=>?_⟩,x.lc.len,fun i c' e=>?_⟩⟩
 ·have h1:=aM h nx
  have h2:=aM h nd
  refine ⟨(WL b h1 h2).trans h,n,?_⟩
  show (if b=q then some (jP.ob g.al.length) else g.o b)=none
  rw [if_neg h1];exact z
 ·by_cases h1:b=q
  ·subst h1;exact nx
  ·by_cases h2:b=dx
   ·subst h2;exact nd
   ·rw [WL b h1 h2] at h;exact h
 ·have h1:b≠q:=fun z=>by rw [z] at e;have e:g.HF q=some u:=e;rw [nf] at e;cases e
  have h2:b≠dx:=fun z=>by rw [z] at e;have e:g.HF dx=some u:=e;rw [nf2] at e;cases e
  rw [WL b h1 h2];exact x.sub _ _ e
 ·have e:(if b=q then some (jP.ob g.al.length) else g.o b)=some p':=e
  by_cases hb:b=q
  ·subst hb;exact ⟨nf,_,ak⟩
  ·rw [if_neg hb] at e
   obtain ⟨h1,u,h2⟩:=x.st.live b p' e
   obtain ⟨h3,h4⟩:=no b p' e
   exact ⟨h1,u,(WL b h3 h4).trans h2⟩
 ·show (s.m++[_]).length=(g.al++[q]).length
  rw [bL,bL,x.st.len];rfl
 ·have e:(s.m++[(⟨c,[]⟩:Ob)])[k]?=some ob:=e
  by_cases hk:k<s.m.length
  ·rw [iH hk] at e
   refine (x.st.at_ k ob e).mv (aP.refl _) pre fun l p' h _=>⟨ho l p' h,?_⟩
   obtain ⟨h3,h4⟩:=no l p' h
   exact WL l h3 h4
  ·rw [gX (by omega)] at e
   have hk0:k-s.m.length=0:=by
    have:=(du.mp e).1
    simp at this;omega
   rw [hk0] at e
   cases e
   have hkk:k=g.al.length:=by have:=x.st.len;omega
   subst hkk
   refine .inl ⟨q,C,dx,ns,[],?_,?_,hC,?_,iI _,rfl,fun j c h=>by simp at h⟩
   ·show (g.al++[q])[g.al.length]?=some q
    rw [gX (dU _),CZ];rfl
   ·show (if q=q then some (jP.ob g.al.length) else g.o q)=_
    rw [if_pos rfl]
   ·rw [ak,NN]
 ·obtain ⟨v,h1,h2⟩:=x.lc.at_ i c' e
  refine ⟨v,h1,bJ.mv (g:=g) (g':=g.km q) (aP.refl _) pre (fun l h=>⟨ho l _ h,?_⟩) h2⟩
  obtain ⟨h3,h4⟩:=no l _ h
  exact WL l h3 h4
structure DnN (P:Pg) (Pr:Program) (w:World) (K:bg) (mg:Str->Option Value) (base:Heap) (k:Nat) (c:Nat) (x:Str) (f:Fn):Prop where
 ex:∃ (C fi:Addr) (fd:FuncData) (ps:List Str) (ns:List Str),gj (fP P K Pr w) c C ns/\mg x=some (.ref C)/\Mk K C fi/\bU Pr w K mg base kh k fi fd ps (nA (fP P K Pr w) f)/\Binds K fd ps []
theorem LZ {c:Nat}{f:Fn}{t:T}(h:Bt c f fl s=.ok (t,s')):∃ ts s1 m',fl s=.ok (ts,s1)/\f (.own s1.m.length::ts) (s1.m++[⟨c,[]⟩])=.ok (.non,m')/\t=.own s1.m.length/\s'={ s1 with m:=m' }:=by
 obtain ⟨⟨ts,s1⟩,h1,h⟩:=af h
 dsimp only at h
 cases q:f (.own s1.m.length::ts) (s1.m++[⟨c,[]⟩]) with
 | ok r=>
  rw [q] at h
  obtain ⟨u,m'⟩:=r
  cases u<;>first | (cases h;done) | skip
  cases h
  exact ⟨ts,s1,m',h1,q,rfl,rfl⟩
 | bad=>rw [q] at h;cases h
 | exc c fs s2=>rw [q] at h;cases h
theorem L7 {c:Nat}{f:Fn}{C:Addr}{ns:List Str}{ts:List T}{vs:List V}{m':List Ob}{Q:VK}(hC:gj B c C ns) (x1:SR B g H σ s) (r1:aA B g.al g.HF ts vs) (h2:f (.own s.m.length::ts) (s.m++[⟨c,[]⟩])=.ok (.non,m'))
  (k:∀ v g' H',dz g H g' H'->SR B g' H' σ { s with m:=m' }->Rep B g'.al g'.HF (.own s.m.length) v->Q v H'):∀ q dx,H q=none->H dx=none->dx≠q->nA B f (.ref q::(vs++[])) (upd (upd H dx (.own q)) q (.ins C dx [])) (fun v H2=>v=.non/\Q (.ref q) H2) E0:=fun q dx nx nd gC=>by
 obtain ⟨p2,x2⟩:=x1.km hC nx nd gC
 rw [dR]
 have hq:(g.km q).al[s.m.length]?=some q:=by
  show (g.al++[q])[s.m.length]?=some q
  rw [x1.st.len,gX (dU _),CZ];rfl
 refine t_ (E:=E0) (ts:=.own s.m.length::ts) x2 ⟨_,vs,rfl,⟨q,rfl,hq⟩,r1.mv p2.pre p2.fr⟩ h2 fun v g' H' p3 x3 rv=>⟨rv,k _ g' H' (p2.trans p3) x3 ⟨q,rfl,kU p3.pre hq⟩⟩
theorem U6 {k j c:Nat}{f:Fn}(D:DnN P X.prog X.w X.K X.mg X.base k c x f) (hr:bB j X.A) (qz:k+1<=j) (ha:PA X (e::es) (tA (P.kt X) fl)) (hg:Gl X x) (gA:a_ x) (hs:(e::es).all noStar=true) :
  PE X (.Call (.Name x p) (e::es) [] pos) (tE (P.kt X) (Bt c f fl)):=by
 obtain ⟨C,fi,fd,ps,ns,hC,hm,M,F,hb⟩:=D.ex
 rw [eL,cy] at hs
 refine a9 (pP M F (hr.mono qz) hg hm hb .nil lI ha gA (aB hs.1) (cV hs.2)) fun σ H Q zz=>?_
 obtain ⟨g,s,t,s',x,h,k⟩:=zz
 obtain ⟨ts,s1,m',h1,h2,rfl,rfl⟩:=LZ h
 exact ⟨g,s,ts,s1,x,h1,fun vs g1 H1 p1 x1 r1=>L7 hC x1 r1 h2 fun v g' H' p2 x2 rv=>k v g' H' (p1.trans p2) x2 rv⟩
def qB:Expr->Option (Expr × List Expr × List Keyword × Pos)
 | .Call f a k p=>some (f,a,k,p)
 | _=>none
def asName:Expr->Option Str
 | .Name x _=>some x
 | _=>none
def lZ:Expr->Option (Expr × Str × Pos)
 | .Attribute o f p=>some (o,f,p)
 | _=>none
def gM (e:Expr):Option (Str × List Expr × List Keyword):=(qB e).bind fun q=>(asName q.1).map fun f=>(f,q.2.1,q.2.2.1)
theorem jV {e:Expr}{q}(h:qB e=some q):e=.Call q.1 q.2.1 q.2.2.1 q.2.2.2:=by
 cases e<;>first | (cases h;done) | (cases h;rfl)
theorem bz {e:Expr}{x:Str}(h:asName e=some x):∃ p,e=.Name x p:=by
 cases e<;>first | (cases h;done) | (cases h;exact ⟨_,rfl⟩)
theorem qC {e:Expr}{q}(h:lZ e=some q):e=.Attribute q.1 q.2.1 q.2.2:=by
 cases e<;>first | (cases h;done) | (cases h;rfl)
theorem dF {e:Expr}{q}(h:gM e=some q):∃ p pos,e=.Call (.Name q.1 p) q.2.1 q.2.2 pos:=by
 obtain ⟨w,h1,h2⟩:=cJ.mp h
 obtain ⟨f,h3,rfl⟩:=cK.mp h2
 obtain ⟨p,h4⟩:=bz h3
 rw [jV h1,h4]
 exact ⟨_,_,rfl⟩
def FI:Stmt->Option (Str × Str × Expr)
 | .Assign ts e _=>(match ts with
  | [t]=>(lZ t).bind fun q=>(asName q.1).map fun s=>(s,q.2.1,e)
  | _=>none)
 | _=>none
theorem yU {st:Stmt}{q}(h:FI st=some q):∃ p0 pf pos,st=.Assign [.Attribute (.Name q.1 p0) q.2.1 pf] q.2.2 pos:=by
 cases st<;>first | (cases h;done) | skip
 rename_i ts e pos
 match ts,h with
 | [t],h=>
  obtain ⟨w,h1,h2⟩:=cJ.mp (show (lZ t).bind _=some q from h)
  obtain ⟨s,h3,rfl⟩:=cK.mp h2
  obtain ⟨p,h4⟩:=bz h3
  rw [qC h1,h4]
  exact ⟨_,_,_,rfl⟩
def qD (st:Stmt):Option (Str × Str × Str):=(FI st).bind fun w=>(asName w.2.2).map fun q=>(w.1,w.2.1,q)
theorem xq {st:Stmt}{z:Str × Str × Str}(h:qD st=some z):∃ p0 pf pq pos,st=.Assign [.Attribute (.Name z.1 p0) z.2.1 pf] (.Name z.2.2 pq) pos:=by
 obtain ⟨w,h1,h2⟩:=cJ.mp h
 obtain ⟨q,h3,rfl⟩:=cK.mp h2
 obtain ⟨p0,pf,pos,rfl⟩:=yU h1
 obtain ⟨p,h4⟩:=bz h3
 rw [h4]
 exact ⟨_,_,_,_,rfl⟩
def l9 (N:List Str):Nat->List Stmt->List Str->Bool
 | _,[],[]=>true
 | i,st::rest,n::ns=>(match qD st with
  | some z=>decide (N[0]?=some z.1)&&decide (N[i]?=some z.2.2)&&decide (z.2.1=n)
  | none=>false)&&l9 N (i+1) rest ns
 | _,_,_=>false
def tIn (K:bg):Nat->List Str->TS
 | _,[]=>Df
 | i,n::ns=>Xb (Xs K (vC 0) (vC i) n) (tIn K (i+1) ns)
theorem yV (hv:∀ (i:Nat) (x:Str),X.N[i]?=some x->nq X.env.scope x/\a_ x/\e_ x):∀ (body:List Stmt) (ns:List Str) (i:Nat),l9 X.N i body ns=true->fD X body (tIn X.K i ns)
 | [],[],_,_=>pH
 | [],_::_,_,h=>by cases h
 | st::rest,[],_,h=>by cases h
 | st::rest,n::ns,i,h=>by
  have h:((match qD st with
   | some z=>decide (X.N[0]?=some z.1)&&decide (X.N[i]?=some z.2.2)&&decide (z.2.1=n)
   | none=>false)&&l9 X.N (i+1) rest ns)=true:=h
  rw [cy] at h
  obtain ⟨h1,h5⟩:=h
  cases e:qD st with
  | none=>rw [e] at h1;cases h1
  | some z=>
   rw [e] at h1
   simp only [cy,decide_eq_true_eq] at h1
   obtain ⟨⟨h2,h3⟩,rfl⟩:=h1
   obtain ⟨p0,pf,pq,pos,rfl⟩:=xq e
   obtain ⟨v1,v2,v3⟩:=hv 0 _ h2
   obtain ⟨w1,w2,w3⟩:=hv i _ h3
   exact gz (vN (bS h2 v1 v2 v3) (bS h3 w1 w2 w3) rfl) (yV hv rest ns (i+1) h5)
theorem yW {K:bg}{C q dx:Addr}{N:List Str}{all:List V}{D:Ends}(cl:pM K C):∀ (ns qE:List Str) (as qF:List V) (H:Hp),(∀ f∈ns,eu K C f)->(qE++ns).Nodup->(qE++ns).length<=100->qF.length=qE.length->as.length=ns.length->all=.ref q::(qF++as)->H q=some (.ins C dx (qE.zip qF)) ->
  D.nx (L2.start N all) (upd H q (.ins C dx ((qE++ns).zip (qF++as))))->tIn K (qF.length+1) ns D (L2.start N all) H
 | [],qE,as,qF,H,_,_,_,WG,hl,ha,hq,k=>by
  have:as=[]:=List.length_eq_zero_iff.mp hl
  subst this
  rw [dR,dR] at k
  have e:upd H q (.ins C dx (qE.zip qF))=H:=by
   funext b
   by_cases hb:b=q
   ·subst hb;rw [ak,hq]
   ·rw [ao hb]
  rw [e] at k
  exact k
 | n::ns,qE,[],qF,H,_,_,_,WG,hl,ha,hq,k=>by cases hl
 | n::ns,qE,v::as,qF,H,hna,nd,hsz,WG,hl,ha,hq,k=>by
  have hg:(L2.start N all)[qF.length+1]?=some (some v):=by
   unfold L2.start
   rw [iH (by rw [ha];simp),gu,ha,List.getElem?_cons_succ,gX (dU _),CZ];rfl
  have h0:(L2.start N all)[0]?=some (some (.ref q)):=by
   unfold L2.start
   rw [iH (by rw [ha];simp),gu,ha];rfl
  have hn:n ∉ qE:=fun z=>by
   rw [CH] at nd
   exact nd.2.2 n z n (eK ..) rfl
  refine ⟨v,hg,.ref q,h0,q,C,dx,qE.zip qF,rfl,hq,cl,hna n (eK ..),?_,?_⟩
  ·rw [CG];rw [bL] at hsz;omega
  ·have e1:L2.dM n v (qE.zip qF)=(qE++[n]).zip (qF++[v]):=by
    have:=qw (f:=n) (v:=v) (ns:=qE++[n]) (vs:=qF) (by
     rw [show qE++n::ns=(qE++[n])++ns by simp] at nd
     exact (CH.mp nd).1) (by rw [WG,gX (dU _),CZ];rfl)
    rw [<- this]
    congr 1
    have:∀ (a:List Str) (b:List V) (r:List Str),b.length=a.length->a.zip b=(a++r).zip b:=by
     intro a
     induction a with
     | nil=>intro b r h;cases b with
      | nil=>simp
      | cons=>cases h
     | cons x a ih=>intro b r h;cases b with
      | nil=>cases h
      | cons y b=>rw [pj,CI,pj,ih b r (by simpa using h)]
    exact this qE qF [n] WG
   rw [e1]
   have h5:=yW (N:=N) (all:=all) (D:=D) (q:=q) (dx:=dx) cl ns (qE++[n]) as (qF++[v]) (upd H q (.ins C dx ((qE++[n]).zip (qF++[v])))) (fun f hf=>hna f (fG _ hf)) (by simpa using nd) (by simpa using hsz) (by simp [WG]) (by simpa using hl) (by rw [ha];simp) ak (by
    rw [yl]
    simpa using k)
   rw [show (qF++[v]).length+1=qF.length+1+1 by simp] at h5
   exact h5
end
section
variable {tg:Expr}
theorem l_:∀ (k:Int) (ts:List T),(gI k ts).length=ts.length
 | _,[]=>rfl
 | k,_::ts=>congrArg (· + 1) (l_ (k+1) ts)
theorem yX:∀ (k:Nat) (ts:List T) (i:Nat) (t:T),ts[i]?=some t->(gI (k:Int) ts)[i]?=some (.tup [.int ((k+i:Nat):Int),t])
 | _,[],_,_,h=>by simp at h
 | k,_::ts,0,_,h=>by simp at h;subst h;rfl
 | k,_::ts,i+1,t,h=>by
  have:=yX (k+1) ts i t (by simpa using h)
  rw [show k+(i+1)=k+1+i by omega]
  exact this
theorem acr (hB:B.K=X.K) (m:Nat):∀ σ H R,tI B (lP (m:Int) fa) σ H R->Uj X.K m (tA B (cj fa cA)) σ H R:=by
 rintro σ H R ⟨g,s,t,s',x,h,k⟩
 obtain ⟨⟨tx,s1⟩,h1,h⟩:=af h
 obtain ⟨ts,h2,h⟩:=af h
 cases h
 have h2:=au h2
 obtain ⟨ts1,rfl,rfl⟩:∃ ts1,tx=.lst ts1/\t=gI m ts1:=by
  cases tx<;>first | (cases h2;done) | (cases h2;exact ⟨_,rfl,rfl⟩)
 have hc:cj fa cA s=.ok ([.lst ts1],s1):=by
  show (fa s).bind _=_
  rw [h1];rfl
 refine ⟨g,s,_,_,x,hc,fun vs g1 H1 p1 x1 r1=>?_⟩
 obtain ⟨v,rfl,l,ws,rfl,q1,r1⟩:=ck r1
 refine ⟨l,ws,rfl,cY.of (x1.sub _ _ q1),k _ g1 H1 p1 x1 ⟨fun i H3 s3 hi=>?_,fun i H3 x H4 s3 hi y=>?_,fun i H3 s3 hi=>?_⟩⟩
 ·rw [l_,r1.len] at hi
  exact ⟨hi,cY.of (s3 _ _ q1)⟩
 ·obtain ⟨p,x',hn,e1,rfl,rfl⟩:=y
  obtain ⟨t1,f1,g1'⟩:=r1.Bv e1
  refine ⟨_,yX m ts1 i t1 f1,fun xl s4 s5=>⟨upd xl p (.tup [.int ((m+i:Nat):Int),x']),.new s5 hn,p,[.int ((m+i:Nat):Int),x'],rfl,j_.of ak,?_⟩⟩
  have s6:=s4.trans (aS (o:=.tup [.int ((m+i:Nat):Int),x']) (s5.free hn))
  exact ⟨.int ((m+i:Nat):Int),[x'],rfl,rfl,.one (g1'.same s6)⟩
 ·rw [l_,r1.len] at hi
  exact ⟨hi,cY.of (s3 _ _ q1)⟩
theorem acs (hB:B.K=X.K) {elts:List Expr}{x1:Nat}{ir:Pos}(hg:Gl X "enumerate") (hm:X.mg "enumerate" = none) (ha:PE X a (tE B fa)) (hs:noStar a=true):PI X (.Tuple elts x1 ir) (.Call (.Name "enumerate" p) [a] [] pos) (tI B (lP 0 fa)):=
 yH (abE hg hm (qr ha wZ (aB hs)) (aB hs)) (acr hB 0)
theorem acu (hB:B.K=X.K) {elts:List Expr}{x1 k1:Nat}{ir p1 kp:Pos}(hg:Gl X "enumerate") (hm:X.mg "enumerate" = none) (ha:PE X a (tE B fa)) (hs:noStar a=true):PI X (.Tuple elts x1 ir) (.Call (.Name "enumerate" p) [a] [⟨some (Str.ofString "start"),.Constant (.int 1) k1 p1,kp⟩] pos) (tI B (lP 1 fa)):=
 yH (Uk hg hm (qr ha wZ (aB hs)) (aB hs)) (acr hB 1)
end
section
variable {P:Pg}
theorem Qa {m:Str}(hb:dE o=true) (hs:es.all noStar=true) (hl:es.length<30) (hp:(cP.endLine == pos.line)=true):Fu X o m cP es pos:=by
 have hf:methodCallForm (es.length+0) (backTo pos (starEach es X.env)) (backToKw pos (keywordEach [] X.env))=true:=by
  unfold methodCallForm
  rw [lW hs]
  show (true&&true&&decide (es.length+0+0<30))=true
  rw [decide_eq_true (show es.length+0+0<30 by omega)];rfl
 refine ⟨(do return (<- importBound o X.env).getD true),?_⟩
 show (do
  let ov <- attributeBase o m X.env (eval o X.env)
  standAt cP.atName
  methodCall o m cP pos X.env ov (es.length+0) (backTo pos (starEach es X.env)) (backToKw pos (keywordEach [] X.env)))=_
 rw [jh hb]
 unfold methodCall
 rw [hf]
 unfold calleeOf methodCallPos
 rw [hp]
 rfl
theorem L8 {Pr:Program}{w:World}{K:bg}{mg:Str->Option Value}{base:Heap}{n qual:Str}{st:Stmt}{f C:Addr}{fd:FuncData}{N ps ns:List Str}{k:Nat}(Fn:HC K n qual st f fd) (Sc:eU N ps (aw st))
  (hv:∀ (i:Nat) (x:Str),N[i]?=some x->nq (aw st) x/\a_ x/\e_ x) (hi:l9 N 1 (bM st) ns=true) (hl:ps.length=ns.length+1) (cl:pM K C) (na:∀ f∈ns,eu K C f) (nd:ns.Nodup) (vp:ns.length<=100) :
  bU Pr w K mg base kh (k+1) f fd ps (spI C ns):=by
 refine Fn.ok Sc (fun vs H Q E h=>?_) (fun fE A outer s H vs Q E hr h=>?_)
 ·obtain ⟨x,dx,args,rfl,Oa,_⟩:=h
  rw [dq,Oa,hl]
 ·obtain ⟨x,dx,args,rfl,Oa,hx,q⟩:=h
  refine ⟨tIn K 1 ns,yV (X:=(jL kh Pr w K mg base N qual (aw st) f fE A outer s H E).Of) hv _ ns 1 hi,?_⟩
  exact yW (N:=N) (D:={ nx:=fun _ H'=>Q .non H',rt:=Q }) cl ns [] args [] H na (by simpa using nd) (by simpa using vp) rfl Oa rfl (by simpa using hx) (by simpa using q)
def spP (K:bg) (C:Addr) (n:Str):Sp:=fun vs H Q _=>∃ x dx p ys,vs=[.ref x,.ref p]/\H x=some (.ins C dx [])/\cY K H p ys/\∀ l,H l=none->Q .non (upd (upd H l (.lst ys)) x (.ins C dx [(n,.ref l)]))
noncomputable def qG (st:Stmt):Option (Str × Str × Str):=(FI st).bind fun w=>(gM w.2.2).bind fun c=>(match c.2.1,c.2.2 with
 | [a],[]=>if c.1=("list" : Str) then (asName a).map fun q=>(w.1,w.2.1,q) else none
 | _,_=>none)
theorem uc {st:Stmt}{z:Str × Str × Str}(h:qG st=some z):∃ p0 pf pq pl pc pos,st=.Assign [.Attribute (.Name z.1 p0) z.2.1 pf] (.Call (.Name "list" pl) [.Name z.2.2 pq] [] pc) pos:=by
 obtain ⟨w,h1,h2⟩:=cJ.mp h
 obtain ⟨⟨f,as,ks⟩,h3,h4⟩:=cJ.mp h2
 match as,ks,h3,h4 with
 | [a],[],h3,h4=>
  dsimp only at h4
  split at h4
  ·rename_i e
   obtain ⟨q,h5,rfl⟩:=cK.mp h4
   obtain ⟨p0,pf,pos,rfl⟩:=yU h1
   obtain ⟨pl,pc,h6⟩:=dF h3
   obtain ⟨pq,h7⟩:=bz h5
   rw [h6,h7,e]
   exact ⟨_,_,_,_,_,_,rfl⟩
  ·cases h4
theorem FJ {Pr:Program}{w:World}{K:bg}{mg:Str->Option Value}{base:Heap}{nm qual s0 q n:Str}{st st1:Stmt}{f C:Addr}{fd:FuncData}{N ps:List Str}{k:Nat}(Fn:HC K nm qual st f fd) (Sc:eU N ps (aw st))
  (hb:bM st=[st1]) (h1:qG st1=some (s0,n,q)) (h0:N[0]?=some s0) (hq:N[1]?=some q) (hv:∀ (i:Nat) (x:Str),N[i]?=some x->nq (aw st) x/\a_ x/\e_ x) (hm:mg "list" = none) (hg:(aw st).names.lookup ("list" : Str)=some .globalImplicit) (hl:ps.length=2) (cl:pM K C) (na:eu K C n) :
  bU Pr w K mg base kh (k+1) f fd ps (spP K C n):=by
 obtain ⟨p0,pf,pq,pl,pc,pos,rfl⟩:=uc h1
 refine Fn.ok Sc (fun vs H Q E h=>?_) (fun fE A outer s H vs Q E hr h=>?_)
 ·obtain ⟨x,dx,p,ys,rfl,_⟩:=h
  exact hl.symm
 ·obtain ⟨x,dx,p,ys,rfl,hx,hp,k⟩:=h
  obtain ⟨v1,v2,v3⟩:=hv 0 _ h0
  obtain ⟨w1,w2,w3⟩:=hv 1 _ hq
  rw [hb]
  refine ⟨_,kQ (vN (bS h0 v1 v2 v3) (oh iR (X:=(jL kh Pr w K mg base N qual (aw st) f fE A outer s H E).Of) hg hm C8 (bj (bS hq w1 w2 w3) cZ)) rfl),?_⟩
  refine ⟨.ref p,rfl,p,ys,rfl,.inl hp,fun l hl=>⟨.ref x,rfl,x,C,dx,[],rfl,?_,cl,na,by decide,k l hl⟩⟩
  rw [ao (fun e=>by subst e;rw [hl] at hx;cases hx)]
  exact hx
structure DnP (P:Pg) (Pr:Program) (w:World) (K:bg) (mg:Str->Option Value) (base:Heap) (k:Nat) (c:Nat) (x:Str):Prop where
 ex:∃ (C fi:Addr) (fd:FuncData) (ps:List Str) (n:Str),gj (fP P K Pr w) c C [n]/\mg x=some (.ref C)/\Mk K C fi/\bU Pr w K mg base kh k fi fd ps (spP K C n)/\Binds K fd ps []
theorem U7 {k j c:Nat}(D:DnP P X.prog X.w X.K X.mg X.base k c x) (hr:bB j X.A) (qz:k+1<=j) (ha:PE X e (tE (P.kt X) fa)) (hg:Gl X x) (gA:a_ x) (hs:noStar e=true) :
  PE X (.Call (.Name x p) [e] [] pos) (tE (P.kt X) (b8 (Us c) fa)):=by
 obtain ⟨C,fi,fd,ps,n,hC,hm,M,F,hb⟩:=D.ex
 refine a9 (pP M F (hr.mono qz) hg hm hb .nil lI (bj ha cZ (aB hs)) gA (aB hs) rfl) fun σ H Q zz=>?_
 obtain ⟨g,s,t,s',z,h,k⟩:=zz
 obtain ⟨⟨tx,s1⟩,h1,h⟩:=af h
 obtain ⟨t',h2,h⟩:=af h
 cases h
 have h2:=au h2
 cases tx<;>first | (cases h2;done) | skip
 rename_i ts
 cases h2
 refine ⟨g,s,_,_,z,h1,fun v g1 H1 p1 x1 r1 x dx nx nd gC=>?_⟩
 obtain ⟨q,vs,rfl,hq,rr⟩:=r1
 have g2:=Gr.new (o:=.own x) x1.sub nd
 have nx2:upd H1 dx (.own x) x=none:=by rw [ao (Ne.symm gC)];exact nx
 have hq1:H1 q=some (.lst vs):=x1.sub _ _ hq
 have qd:q≠dx:=fun e=>by subst e;rw [nd] at hq1;cases hq1
 have qx:q≠x:=fun e=>by subst e;rw [nx] at hq1;cases hq1
 refine ⟨x,dx,q,vs,rfl,ak,cY.of (by rw [ao qx,ao qd];exact hq1),fun l hl=>⟨rfl,?_⟩⟩
 have lx:l≠x:=fun e=>by subst e;rw [ak] at hl;cases hl
 have hl2:upd H1 dx (.own x) l=none:=by rw [ao lx] at hl;exact hl
 have ld:l≠dx:=fun e=>by subst e;rw [ak] at hl2;cases hl2
 have g3:=Gr.new (o:=.lst vs) g2.sub hl2
 have nx3:upd (upd H1 dx (.own x)) l (.lst vs) x=none:=by rw [ao (Ne.symm lx)];exact nx2
 have g4:=Gr.new (o:=.ins C dx [(n,.ref l)]) g3.sub nx3
 have e:upd (upd (upd (upd H1 dx (.own x)) x (.ins C dx [])) l (.lst vs)) x (.ins C dx [(n,.ref l)])=upd (upd (upd H1 dx (.own x)) l (.lst vs)) x (.ins C dx [(n,.ref l)]):=by
  funext b
  by_cases hb:b=x
  ·subst hb;rw [ak,ak]
  ·rw [ao hb,ao hb]
   by_cases hb2:b=l
   ·subst hb2;rw [ak,ak]
   ·rw [ao hb2,ao hb2,ao hb]
 rw [e]
 have gr:=(g2.trans g3).trans g4
 refine k _ (g1.grow _) _ (p1.trans (x1.nz gr)) (x1.grow gr) ⟨x,C,dx,[n],[.ref l],rfl,hC,ak,dU _,?_,.one ⟨l,vs,rfl,?_,rr.same gr.fr⟩⟩
 ·show upd (upd (upd g1.HF dx (.own x)) l (.lst vs)) x _ dx=_
  rw [ao gC,ao (Ne.symm ld),ak]
 ·show upd (upd (upd g1.HF dx (.own x)) l (.lst vs)) x _ l=_
  rw [ao lx,ak]
theorem yY {K:bg}{t:Value}:∀ {cs:List Value}{bs:List Bool},cs.length=bs.length->(∀ (i:Nat) (c:Value) (b:Bool),cs[i]?=some c->bs[i]?=some b->gp K t c=some b)->Ci K t cs=some (bs.any id)
 | [],[],_,_=>rfl
 | [],_::_,h,_=>by cases h
 | _::_,[],h,_=>by cases h
 | c::cs,b::bs,hl,h=>by
  have h1:=h 0 c b rfl rfl
  have h2:=yY (cs:=cs) (bs:=bs) (by simpa using hl) fun i c b e1 e2=>h (i+1) c b (by simpa using e1) (by simpa using e2)
  unfold Ci
  rw [h1]
  cases b with
  | true=>rfl
  | false=>exact h2
def namesOf:List Expr->Option (List Str)
 | []=>some []
 | .Name x _::es=>(namesOf es).map (x::·)
 | _=>none
theorem ud {Ds:List Addr}:∀ {es:List Expr}{ys:List Str}{Ds:List Addr},namesOf es=some ys->ys.length=Ds.length->(∀ (i:Nat) (y:Str) (D:Addr),ys[i]?=some y->Ds[i]?=some D->Gl X y/\X.mg y=some (.ref D)/\a_ y)->PA X es (fun _ H Q=>Q (Ds.map V.ref) H)
 | [],_,Ds,h,hl,_=>by
  cases h
  cases Ds with
  | nil=>exact cZ
  | cons=>cases hl
 | e::es,ys,Ds,h,hl,k=>by
  cases e<;>first | (cases h;done) | skip
  rename_i x px
  obtain ⟨zs,h1,rfl⟩:=cK.mp (show (namesOf es).map (x::·)=some ys from h)
  cases Ds with
  | nil=>cases hl
  | cons D Ds=>
   obtain ⟨k1,k2,k3⟩:=k 0 x D rfl rfl
   exact bj (kP (v:=.ref D) k1 k2 rfl k3) (ud (Ds:=Ds) h1 (by simpa using hl) fun i y D e1 e2=>k (i+1) y D (by simpa using e1) (by simpa using e2)) rfl
theorem acv (O:qv X.K X.mg P) {ds:List Nat}{ys:List Str}{x1:Nat}{ir:Pos}(hys:namesOf es=some ys) (hd:ys.length=ds.length) (hy:∀ (i d:Nat) (y:Str),ds[i]?=some d->ys[i]?=some y->P.cn[d]?=some y/\(P.fn[d]?).isSome=true/\Gl X y/\a_ y)
  (hl:es.length<=100) (hm:X.mg "isinstance" = none) (ha:PE X a (tE (P.kt X) fa)) (hg:Gl X "isinstance") (hs:noStar a=true) :
  PE X (.Call (.Name "isinstance" p) [a,.Tuple es x1 ir] [] pos) (tE (P.kt X) (b8 (dc P.sub ds) fa)):=by
 have cls:∀ (ds:List Nat) (ys:List Str),ys.length=ds.length->(∀ (i d:Nat) (y:Str),ds[i]?=some d->ys[i]?=some y->P.cn[d]?=some y/\(P.fn[d]?).isSome=true/\Gl X y/\a_ y)->∃ Ds:List Addr,Ds.length=ds.length/\∀ (i:Nat) (y:Str) (D:Addr),ys[i]?=some y->Ds[i]?=some D->X.mg y=some (.ref D):=by
  intro ds
  induction ds with
  | nil=>intro ys hl _;exact ⟨[],rfl,fun i y D _ h=>by simp at h⟩
  | cons d ds ih=>
   intro ys hl h
   cases ys with
   | nil=>cases hl
   | cons y ys=>
    obtain ⟨h1,h2,_⟩:=h 0 d y rfl rfl
    obtain ⟨ns,yu⟩:=CV.mp h2
    obtain ⟨D,F⟩:=O.cls d y ns h1 yu
    obtain ⟨Ds,hD,k⟩:=ih ys (by simpa using hl) fun i d y e1 e2=>h (i+1) d y (by simpa using e1) (by simpa using e2)
    refine ⟨D::Ds,by simp [hD],fun i y' D' e1 e2=>?_⟩
    cases i with
    | zero=>simp at e1 e2;subst e1 e2;exact F.gl
    | succ i=>exact k i y' D' (by simpa using e1) (by simpa using e2)
 obtain ⟨Ds,hDl,hDs⟩:=cls ds ys hd hy
 have get:∀ (i:Nat) (y:Str),ys[i]?=some y->∃ d,ds[i]?=some d:=fun i y h=>by
  have:=(du.mp h).1
  exact ⟨_,cX (by omega)⟩
 have names:=ud (X:=X) (Ds:=Ds) hys (by rw [hd,hDl]) fun i y D e1 e2=>by
  obtain ⟨d,e3⟩:=get i y e1
  obtain ⟨_,_,h3,h4⟩:=hy i d y e3 e1
  exact ⟨h3,hDs i y D e1 e2,h4⟩
 refine a9 (dN FH hg hm C6 (bj ha (bj (Dr names) cZ rfl) (aB hs)) (he:=aB hs) (hpl:=rfl)) fun σ H Q zz=>?_
 obtain ⟨g,s,t,s',x,h,k⟩:=zz
 obtain ⟨⟨tx,s1⟩,h1,h⟩:=af h
 obtain ⟨t',h2,h⟩:=af h
 cases h
 refine ⟨g,s,_,_,x,h1,fun v g1 H1 p1 x1 r1=>?_⟩
 have h2:=au h2
 cases tx<;>first | (cases h2;done) | skip
 obtain ⟨l,Oa,rfl⟩:=cK.mp h2
 obtain ⟨b,C,dx,HZ,vs,rfl,hC,hq,hle,hdx,r⟩:=r1
 obtain ⟨m,hmm,afg,F⟩:=O.of hC
 have cL:ys.length=es.length:=by
  have:∀ (es:List Expr) (ys:List Str),namesOf es=some ys->ys.length=es.length:=by
   intro es
   induction es with
   | nil=>intro ys h;cases h;rfl
   | cons e es ih=>
    intro ys h
    cases e<;>first | (cases h;done) | skip
    rename_i x px
    obtain ⟨zs,h1,rfl⟩:=cK.mp (show (namesOf es).map (x::·)=some ys from h)
    rw [dq,dq,ih zs h1]
  exact this es ys hys
 refine ⟨by rw [dg,hDl,<- hd,cL,sizeLine_eq];omega,fun tp htp=>?_⟩
 have g2:=Gr.new (o:=.tup (Ds.map V.ref)) x1.sub htp
 have L_:=yY (K:=X.K) (t:=.ref C) (cs:=Ds.map Value.ref) (bs:=ds.map fun d=>decide (d∈l)) (by rw [dg,dg,hDl]) fun i c bb e1 e2=>by
  rw [gu] at e1 e2
  obtain ⟨D,e3,rfl⟩:=cK.mp e1
  obtain ⟨d,e4,rfl⟩:=cK.mp e2
  have hi:i<ys.length:=by rw [hd];exact (du.mp e4).1
  have e5:ys[i]?=some ys[i]:=cX hi
  obtain ⟨f1,_⟩:=hy i d _ e4 e5
  exact O.sub _ d m _ C D l hmm f1 F.gl (hDs i _ D e5 e3) Oa
 refine ⟨b,C,dx,tp,_,Ds,_,rfl,g2.sub _ _ (g2.fr _ _ hq),F.cl,F.ca,O.gt.1,O.gt.2,F.mo,ak,L_,?_⟩
 have:=k (V.bl (ds.any fun d=>decide (d∈l))) (g1.grow _) _ (p1.trans (x1.nz g2)) (x1.grow g2) rfl
 rw [Cn]
 exact this
def oH (u v:List Nat):T->Option T
 | .str l=>gd (l.length<=100000) (.str (u++l++v))
 | _=>none
theorem U8 {k1 k2:Nat}{x y:Str}{p1 p2 p3:Pos}(hB:B.K=X.K) (ha:PE X a (tE B fa)) (hl:x.length<=1000) (hm:y.length<=1000) :
  PE X (.JoinedStr [.Constant (.str x) k1 p1,.FormattedValue a (-1) none p2,.Constant (.str y) k2 p3] pos) (tE B (b8 (oH x.cps.toList y.cps.toList) fa)):=by
 obtain ⟨⟨u⟩⟩:=x
 obtain ⟨⟨v⟩⟩:=y
 have hl:u.length<=1000:=by rw [<- eQ u];exact hl
 have hm:v.length<=1000:=by rw [<- eQ v];exact hm
 refine a9 (LW ha (by show (⟨u.toArray⟩:Str).length<=_;rw [eQ,sizeLine_eq];omega)) (EU hB fun B hB al HF H x t tx Q sm rx h k=>?_)
 cases tx<;>first | (cases h;done) | skip
 rename_i n
 obtain ⟨z,rfl⟩:=bH h
 obtain ⟨rfl,hz⟩:=rx
 refine ⟨_,rfl,by show (⟨u.toArray⟩:Str).length+_+(⟨v.toArray⟩:Str).length<=_;rw [eQ,eQ,eQ,sizeLine_eq];omega,k _ HF H (.refl sm) ⟨?_,by rw [bL,bL];show u.length+_+v.length<=_;omega⟩⟩
 show V.str _=V.str _
 congr 1
 show (⟨(((#[]:Array Nat)++u.toArray)++n.toArray)++v.toArray⟩:Str)=⟨(u++n++v).toArray⟩
 congr 1
 simp
theorem Ma (hB:B.K=X.K) {px:Pos}(hN:X.N[i]?=some y) (hv:nq X.env.scope y) (hd:a_ y) (fH:e_ y) (hg:Gl X "len") (hm:X.mg "len" = none) :
  PE X (.Call (.Name "len" p) [.Name y px] [] pos) (tE B (i6 i)):=by
 refine a9 (dN lE hg hm PySem.boot_len (bj (bS hN hv hd fH) cZ rfl) (he:=rfl) (hpl:=rfl)) fun σ H Q zz=>?_
 obtain ⟨g,s,t,s',x,h,k⟩:=zz
 obtain ⟨ts,h1,h⟩:=af h
 cases h
 obtain ⟨l,vs,w1,w2,w3,w4⟩:=x.qA (eX (au h1))
 exact ⟨_,w1,_,_,rfl,.inl ⟨vs,cY.of w3,w4.len⟩,k _ g H .refl x rfl⟩
theorem U9 {px:Pos}(hN:X.N[i]?=some y) (hv:nq X.env.scope y) (hd:a_ y) (fH:e_ y) (hb:PE X b (tE B fb)) (hs:iP b) :
  PE X (.Subscript (.Name y px) b pos) (tE B (EM i fb)):=by
 refine a9 (Oo yt (bS hN hv hd fH) hb hs) fun σ H Q zz=>?_
 obtain ⟨g,s,t,s',x,h,k⟩:=zz
 obtain ⟨us,h0,h⟩:=af h
 obtain ⟨⟨ty,s1⟩,h1,h⟩:=af h
 obtain ⟨ts,h2,h⟩:=af h
 obtain ⟨t',h3,h⟩:=af h
 cases h
 obtain ⟨l,vs,w1,w2,w3,w4⟩:=x.qA (eX (au h0))
 refine ⟨_,w1,g,s,ty,_,x,h1,fun v g1 H1 p1 x1 r1=>?_⟩
 obtain ⟨l',vs',q1,q2,q3,q4⟩:=x1.qA (eX (au h2))
 rw [w1] at q1;cases q1
 have h3:=au h3
 cases ty<;>first | (cases h3;done) | skip
 obtain ⟨w,e,I_⟩:=qt q4 (show atT ts _=some _ from h3)
 exact ⟨l,vs',_,w,rfl,r1,cY.of q3,e,k w g1 H1 p1 x1 I_⟩
def yZ:T->T->Option T
 | .int i,.int j=>some (.int (i+j))
 | _,_=>none
theorem acw (hN:X.N.Nodup) (hi:X.N[i]?=some x) (hx:Loc X.env.scope x) (he:PE X e (tE B fa)) (hf:X.fn x=true\/X.env.scope.names.lookup x=some .local) :
  PS X (.AugAssign (.Name x cu) .Add e pos) (tS B (EO yZ i fa)):=c8 (Q2 hN hi hx he Q3 hf) fun D σ H zz=>by
 obtain ⟨g,s,o,s',z,h,k⟩:=zz
 unfold EO at h
 split at h
 ·rename_i tx hr
  obtain ⟨⟨ty,s1⟩,h1,h⟩:=af h
  obtain ⟨t,h2,h⟩:=af h
  cases h
  obtain ⟨v,hv,rv⟩:=z.lc.at_ i _ hr
  have h2:=au h2
  cases tx<;>first | (cases h2;done) | (cases ty<;>first | (cases h2;done) | skip)
  cases h2
  cases (show v=V.int _ from rv)
  refine ⟨_,hv,g,s,_,s1,z,h1,fun w g1 H1 p1 x1 r1=>?_⟩
  cases (show w=V.int _ from r1)
  exact ⟨_,_,rfl,rfl,k _ g1 H1 p1 (x1.set (t:=.int _) rfl)⟩
 ·cases h
def y9 (K:bg) (mg:Str->Option Value) (x:Str) (t:T):Prop:=∃ u v,mg x=some u/\RelV v u/\∀ (B:KT) (al:List Addr) (H:Hp),B.K=K->Rep B al H t v
theorem acx {t:T}(h:y9 X.K X.mg x t) (hB:B.K=X.K) (hg:Gl X x) (hd:a_ x):PE X (.Name x pos) (tE B (cF t)):=by
 obtain ⟨u,v,h1,h2,h3⟩:=h
 exact gT (kP hg h1 h2 hd) fun al H=>h3 B al H hB
theorem acy {body:List Stmt}{h0:ExceptHandler}{hs:List ExceptHandler}{t:TS}(Mb:X.xe=fun _ _=>False) (h:fD X body t):PS X (.Try body (h0::hs) [] [] pos) t:=fun aa s σ H D I q=>by
 refine wpAny_Try_except (wpAny_mono (h aa s σ H D I q) (fun f s1 z=>?_) fun e s1 z=>?_)
 ·cases f with
  | next=>exact wpAny_execs_nil z
  | brk=>exact z
  | cont=>exact z
  | ret u=>exact z
 ·rw [Mb] at z;exact z.elim
end
def Mc (neg:Bool):T->T->Option T
 | x,.dO ks _=>(EL x).map fun k=>.bl (if neg then !decide (k∈ks) else decide (k∈ks))
 | _,_=>none
def aU (op:CmpOp) (x y:T):Option T:=match op,y with
 | .In,.dO ks vs=>Mc false x (.dO ks vs)
 | .NotIn,.dO ks vs=>Mc true x (.dO ks vs)
 | op,y=>LC op x y
def WM:Option (Option C)->Option (List Ky × List T)
 | some (some (.od ks ts))=>some (ks,ts)
 | _=>none
def ue:CmpOp->Option Bool
 | .In=>some false
 | .NotIn=>some true
 | _=>none
def acz (neg:Bool) (i:Nat) (a:FE):FE:=fun s=>(a s).bind fun p=>(cT (WM p.2.r[i]?)).bind fun d=>(cT (EL p.1)).bind fun k=>.ok (.bl (if neg then !decide (k∈d.1) else decide (k∈d.1)),p.2)
def afj (i:Nat) (s:S):Bool:=(WM s.r[i]?).isSome
def Qc (neg:Bool) (i:Nat) (a:FE):FE:=fun s=>(a s).bind fun p=>(cT (iZ p.2.r[i]?)).bind fun ts=>(cT (Um p.1 (.lst ts))).bind fun b=>.ok (.bl (if neg then !b else b),p.2)
def afk (i:Nat) (s:S):Bool:=(iZ s.r[i]?).isSome
def U_ (op:CmpOp) (neg:Bool) (i:Nat) (a:FE):FE:=fun s=>if afj i s then acz neg i a s else if afk i s then Qc neg i a s else cz (aU op) a (vF i) s
def FN (i:Nat):FS:=fun s=>.ok (.nx,iE s i (.od [] []))
def jj (ks:List Ky) (ts:List T) (k:Ky) (t:T):List Ky × List T:=if k∈ks then (ks,(ks.zip ts).map fun p=>if p.1=k then t else p.2) else (ks++[k],ts++[t])
def y_ (i:Nat) (b a:FE):FS:=fun s=>(a s).bind fun p=>(b p.2).bind fun q=>(cT (WM p.2.r[i]?)).bind fun _=>(cT (WM q.2.r[i]?)).bind fun d=>(cT (EL q.1)).bind fun k=>(cT (gd (d.1.length<1000000) ())).bind fun _=>.ok (.nx,iE q.2 i (let z:=jj d.1 d.2 k p.1;.od z.1 z.2))
def Me:List Nat->List Nat->List Nat:=Pf.gc
def qH:T->Option T
 | .str l=>gd (l.all (· < 128)=true/\l.length<=4000) (.int ((Me [] l).length:Nat))
 | _=>none
section
variable {kK p1:Pos}{al:List Addr}
theorem za {a b:Ky}(h:lQ a=lQ b):a=b:=by
 cases a<;>cases b
 ·injection h with h;rw [h]
 ·cases h
 ·cases h
 ·injection h with h
  injection h with h
  have h:=congrArg Array.toList h
  dsimp only at h
  rw [h]
theorem qI {t:T}{v:V}{k:Ky}(h:EL t=some k) (r:Rep B al H t v):v=kV (lQ k):=by
 cases t<;>first | (cases h;done) | skip
 ·cases h;exact r
 ·cases h;exact r.1
theorem qJ:∀ {ks:List Ky}{vs:List V},ks.length=vs.length->∀ k,(jM ((ks.map lQ).zip vs) (lQ k)).isSome=decide (k∈ks)
 | [],_,_,k=>by simp [jM]
 | q::ks,[],h,_=>by cases h
 | q::ks,v::vs,h,k=>by
  rw [gi,pj]
  by_cases e:q=k
  ·rw [iU (p:=(lQ q,v)) (by rw [e])]
   simp [e]
  ·rw [iV (p:=(lQ q,v)) (fun z=>e (za z)),qJ (C5.inj h) k]
   have:(k∈q::ks) ↔ (k∈ks):=⟨fun z=>(fB.mp z).elim (fun z=>absurd z.symm e) id,fG _⟩
   simp only [this]
theorem zb {k:Ky}{v:V}{t:T}(rt:Rep B al H t v):∀ {ks:List Ky}{vs:List V}{ts:List T},ks.length=vs.length->aA B al H ts vs ->
  ((ks.map lQ).zip vs).map (fun kv=>if kv.1=lQ k then (kv.1,v) else kv)=(ks.map lQ).zip ((ks.zip vs).map fun p=>if p.1=k then v else p.2)/\ks.length=((ks.zip vs).map fun p=>if p.1=k then v else p.2).length/\aA B al H ((ks.zip ts).map fun p=>if p.1=k then t else p.2) ((ks.zip vs).map fun p=>if p.1=k then v else p.2)
 | [],[],_,_,r=>⟨rfl,rfl,by cases ‹List T›<;>exact rfl⟩
 | q::ks,[],_,h,_=>by cases h
 | [],_::_,_,h,_=>by cases h
 | q::ks,u::vs,ts,h,r=>by
  cases ts with
  | nil=>cases (show u::vs=[] from r)
  | cons t' ts=>
   obtain ⟨u',vs',e,ru,rs⟩:=r
   cases e
   obtain ⟨h1,h2,h3⟩:=zb rt (ks:=ks) (vs:=vs) (ts:=ts) (C5.inj h) rs
   refine ⟨?_,?_,?_⟩
   ·simp only [gi,pj] at h1 ⊢
    rw [h1]
    by_cases e:q=k
    ·rw [if_pos (by rw [e]),if_pos e]
    ·rw [if_neg (fun z=>e (za z)),if_neg e]
   ·simp only [pj,gi,dq]
    rw [<- h2]
   ·simp only [pj,gi]
    refine ⟨_,_,rfl,?_,h3⟩
    by_cases e:q=k
    ·rw [if_pos e,if_pos e];exact rt
    ·rw [if_neg e,if_neg e];exact ru
theorem Va {ks:List Ky}{ts:List T}{vs:List V}{k:Ky}{t:T}{v:V}(hl:ks.length=vs.length) (r:aA B al H ts vs) (rt:Rep B al H t v) :
  ∃ vs',L2.putK ((ks.map lQ).zip vs) (lQ k) v=((jj ks ts k t).1.map lQ).zip vs'/\(jj ks ts k t).1.length=vs'.length/\aA B al H (jj ks ts k t).2 vs':=by
 unfold L2.putK jj
 rw [lM,qJ hl]
 by_cases e:k∈ks
 ·rw [if_pos (decide_eq_true e),if_pos e]
  obtain ⟨h1,h2,h3⟩:=zb (k:=k) rt hl r
  exact ⟨_,h1,h2,h3⟩
 ·rw [if_neg (by simpa using e),if_neg e]
  refine ⟨vs++[v],?_,by simp [hl],r.app (.one rt)⟩
  rw [rJ,List.zip_append (by rw [dg];exact hl)]
  rfl
def WN (neg:Bool):R2:=fun x y H Q=>∃ a o,y=.ref a/\EF H a x o/\Q (.bl (if neg then !o.isSome else o.isSome)) H
theorem FP (hu:X.A.units+1<cLine):fW X (compareOp .In) (WN false):=fun aa s σ H x y v u Q I rx ry z=>by
 obtain ⟨a,o,ey,g,q⟩:=z
 subst ey
 obtain rfl:u=Value.ref a:=ry
 exact aeU hu I g rx fun s3 I3=>⟨.bl o.isSome,H,I3,rfl,q⟩
theorem zc (hu:X.A.units+1<cLine):fW X (compareOp .NotIn) (WN true):=fun aa s σ H x y v u Q I rx ry z=>by
 obtain ⟨a,o,ey,g,q⟩:=z
 subst ey
 obtain rfl:u=Value.ref a:=ry
 exact Ln hu I g rx fun s3 I3=>⟨.bl (!o.isSome),H,I3,rfl,q⟩
theorem Qd (neg:Bool):rD X (Mc neg) (WN neg):=fun B hB al HF H x y t tx ty Q sm rx ry h k=>by
 unfold Mc at h
 split at h
 case h_2=>cases h
 rename_i ks ts
 obtain ⟨kk,h1,rfl⟩:=cK.mp h
 obtain ⟨a,vs,rfl,h2,h3,h4⟩:=ry
 rw [qI h1 rx]
 refine ⟨a,_,rfl,.k (sm _ _ h2),?_⟩
 rw [qJ h3]
 exact k _ HF H (.refl sm) rfl
theorem kZ {op:CmpOp}{k:Nat}(hr:bB k X.A):∃ r,fW X (compareOp op) r/\rD X (aU op) r:=by
 have hu:X.A.units+1<cLine:=by have:=hr.units;omega
 obtain ⟨r,h1,h2⟩:=UC (op:=op) hr
 have afl:(∀ x y,aU op x y=LC op x y)->∃ r,fW X (compareOp op) r/\rD X (aU op) r:=fun z=>⟨r,h1,by
  have:aU op=LC op:=funext fun x=>funext fun y=>z x y
  rw [this];exact h2⟩
 cases op
 case In=>exact ⟨_,h1.or (FP hu),fun B hB al HF H x y t tx ty Q sm rx ry h k=>by
  unfold aU at h
  split at h
  ·exact .inr (Qd false B hB al HF H x y t tx _ Q sm rx ry h k)
  ·rename_i q;cases q
  ·exact .inl (h2 B hB al HF H x y t tx _ Q sm rx ry h k)⟩
 case NotIn=>exact ⟨_,h1.or (zc hu),fun B hB al HF H x y t tx ty Q sm rx ry h k=>by
  unfold aU at h
  split at h
  ·rename_i q;cases q
  ·exact .inr (Qd true B hB al HF H x y t tx _ Q sm rx ry h k)
  ·exact .inl (h2 B hB al HF H x y t tx _ Q sm rx ry h k)⟩
 all_goals exact afl fun x y=>by cases y<;>rfl
theorem Vb {op:CmpOp}{k:Nat}(hB:B.K=X.K) (hr:bB k X.A) (ha:PE X a (tE B fa)) (hb:PE X b (tE B fb)) (hm:behindInMarks op b=false):PE X (.Compare a [op] [b] pos) (tE B (cz (aU op) fa fb)):=by
 obtain ⟨r,ho,hl⟩:=kZ (op:=op) hr
 exact a9 (kR ho ha hb hm) (ja hB hl)
theorem Mf {op:CmpOp}{k:Nat}(hB:B.K=X.K) (hr:bB k X.A) (ha:PE X a (tE B fa)) (hb:PE X b (tE B fb)) (hm:behindInMarks op b=false):PT X (.Compare a [op] [b] pos) (tT B (cD (cz (aU op) fa fb))):=by
 obtain ⟨r,ho,hl⟩:=kZ (op:=op) hr
 exact ES (kT ho ha hb hm) fun σ H Q q=>ja hB hl σ H _ (PZ q)
theorem qK {q:Option (Option C)}{d:List Ky × List T}(h:WM q=some d):q=some (some (.od d.1 d.2)):=by
 unfold WM at h
 split at h
 ·cases h;rfl
 ·cases h
theorem SR.Vc (x:SR B g H σ s) {ks:List Ky}{ts:List T}(h:s.r[i]?=some (some (.od ks ts))):∃ l vs,σ[i]?=some (some (.ref l))/\g.o l=some (.loc i)/\H l=some (.dK ((ks.map lQ).zip vs))/\ks.length=vs.length/\aA B g.al g.HF ts vs:=by
 obtain ⟨v,h1,l,vs,rfl,h2,h3,h4,h5⟩:=x.lc.at_ i _ h
 exact ⟨l,vs,h1,h2,h3,h4,h5⟩
theorem FQ {neg:Bool}:∀ σ H Q,tE B (acz neg i fa) σ H Q->HA (WN neg) (tE B fa) (vC i) σ H Q:=by
 rintro σ H Q ⟨g,s,t,s',x,h,k⟩
 obtain ⟨⟨tx,s1⟩,h1,h⟩:=af h
 obtain ⟨d,h2,h⟩:=af h
 obtain ⟨kk,h3,h⟩:=af h
 cases h
 refine ⟨g,s,tx,_,x,h1,fun v g1 H1 p1 x1 r1=>?_⟩
 obtain ⟨l,vs,w1,w2,w3,w4,w5⟩:=x1.Vc (qK (au h2))
 refine ⟨_,w1,?_⟩
 rw [qI (au h3) r1]
 refine ⟨l,_,rfl,.k w3,?_⟩
 rw [qJ w4]
 exact k _ g1 H1 p1 x1 rfl
theorem uf {op:CmpOp}{neg:Bool}(hu:X.A.units+1<cLine) (h:ue op=some neg):fW X (compareOp op) (WN neg):=by
 cases op<;>first | (cases h;done) | skip
 ·cases h;exact FP hu
 ·cases h;exact zc hu
theorem zd {neg:Bool}(hB:B.K=X.K):∀ σ H Q,tE B (Qc neg i fa) σ H Q->HA (tU X.K neg) (tE B fa) (vC i) σ H Q:=by
 rintro σ H Q ⟨g,s,t,s',x,h,k⟩
 obtain ⟨⟨tx,s1⟩,h1,h⟩:=af h
 obtain ⟨ts,h2,h⟩:=af h
 obtain ⟨b,h3,h⟩:=af h
 cases h
 refine ⟨g,s,tx,_,x,h1,fun v g1 H1 p1 x1 r1=>?_⟩
 obtain ⟨l,vs,w1,w2,w3,w4⟩:=x1.qA (eX (au h2))
 have hf:=(x1.st.live l _ w2).1
 refine ⟨_,w1,E5 (HF:=upd g1.HF l (.lst vs)) (ty:=.lst ts) hB (fun b u e=>?_) (r1.mv eM (aS hf)) ⟨l,vs,rfl,ak,w4.mv eM (aS hf)⟩ (au h3) (k _ g1 H1 p1 x1 rfl)⟩
 by_cases hb:b=l
 ·subst hb;rw [ak] at e;cases e;exact w3
 ·rw [ao hb] at e;exact x1.sub _ _ e
theorem oJ {op:CmpOp}{neg:Bool}(h:ue op=some neg):fW X (compareOp op) (tU X.K neg):=by
 cases op<;>first | (cases h;done) | skip
 ·cases h;exact E4
 ·cases h;exact yL
theorem acA {op:CmpOp}{neg:Bool}{k:Nat}{py:Pos}(hB:B.K=X.K) (hr:bB k X.A) (hn:ue op=some neg) (ha:PE X a (tE B fa)) (hN:X.N[i]?=some y) (hv:nq X.env.scope y) (hd:a_ y) (fH:e_ y) :
  PE X (.Compare a [op] [.Name y py] pos) (tE B (U_ op neg i fa)):=by
 have hu:X.A.units+1<cLine:=by have:=hr.units;omega
 obtain ⟨r,ho,hl⟩:=kZ (op:=op) hr
 have hm:behindInMarks op (.Name y py)=false:=by cases op<;>rfl
 refine Fq (ι:=Option Bool) (C:=fun _=>True) (t:=fun q=>match q with | some true=>HA (WN neg) (tE B fa) (vC i) | none=>HA (tU X.K neg) (tE B fa) (vC i) | some false=>HA r (tE B fa) (tE B (vF i))) (fun q _=>?_) fun σ H Q ⟨g,s,t,s',x,h,kk⟩=>?_
 ·match q with
  | some true=>exact kR (uf hu hn) ha (bS hN hv hd fH) hm
  | none=>exact kR (oJ hn) ha (bS hN hv hd fH) hm
  | some false=>exact kR ho ha (ET hN hv hd fH) hm
 ·unfold U_ at h
  split at h
  ·exact ⟨some true,trivial,FQ σ H Q ⟨g,s,t,s',x,h,kk⟩⟩
  ·split at h
   ·exact ⟨none,trivial,zd hB σ H Q ⟨g,s,t,s',x,h,kk⟩⟩
   ·exact ⟨some false,trivial,ja hB hl σ H Q ⟨g,s,t,s',x,h,kk⟩⟩
theorem Vd {op:CmpOp}{neg:Bool}{k:Nat}{py:Pos}(hB:B.K=X.K) (hr:bB k X.A) (hn:ue op=some neg) (ha:PE X a (tE B fa)) (hN:X.N[i]?=some y) (hv:nq X.env.scope y) (hd:a_ y) (fH:e_ y) :
  PT X (.Compare a [op] [.Name y py] pos) (tT B (cD (U_ op neg i fa))):=by
 have hu:X.A.units+1<cLine:=by have:=hr.units;omega
 obtain ⟨r,ho,hl⟩:=kZ (op:=op) hr
 have hm:behindInMarks op (.Name y py)=false:=by cases op<;>rfl
 have h1:=kT (pos:=pos) ho ha (ET (B:=B) hN hv hd fH) hm
 have h2:=kT (pos:=pos) (uf hu hn) ha (bS hN hv hd fH) hm
 have h3:=kT (pos:=pos) (oJ hn) ha (bS hN hv hd fH) hm
 intro aa s0 σ H Q I q
 obtain ⟨g,s,t,s',x,h,kk⟩:=PZ q
 unfold U_ at h
 split at h
 ·exact h2 aa s0 σ H Q I (FQ σ H _ ⟨g,s,t,s',x,h,kk⟩)
 ·split at h
  ·exact h3 aa s0 σ H Q I (zd hB σ H _ ⟨g,s,t,s',x,h,kk⟩)
  ·exact h1 aa s0 σ H Q I (ja hB hl σ H _ ⟨g,s,t,s',x,h,kk⟩)
theorem FU (hc:X.calm=true) (hml:X.mg "len" = none) (hms:X.mg "set" = none) (ha:PE X a (tE B fa)) (hgl:Gl X "len") (hgs:Gl X "set") (hs:noStar a=true) :
  PE X (.Call (.Name "len" p) [.Call (.Name "set" p1) [a] [] kK] [] pos) (tE B (b8 qH fa)):=by
 refine a9 (Bs hc hml hms ha hgl hgs (aB hs) rfl rfl rfl) fun σ H Q zz=>?_
 obtain ⟨g,s,t,s',x,h,k⟩:=zz
 obtain ⟨⟨tx,s1⟩,h1,h⟩:=af h
 obtain ⟨t',h2,h⟩:=af h
 cases h
 have h2:=au h2
 cases tx<;>first | (cases h2;done) | skip
 obtain ⟨z,rfl⟩:=bH h2
 refine ⟨g,s,_,_,x,h1,fun v g1 H1 p1 x1 r1=>?_⟩
 obtain ⟨rfl,hz⟩:=r1
 refine ⟨_,rfl,?_,?_,k _ g1 H1 p1 x1 rfl⟩
 ·rw [List.all_toArray];exact z.1
 ·rw [bQ]
  show _+1<4096
  have:=z.2
  omega
theorem Ve {dp:Pos}(hN:X.N.Nodup) (hi:X.N[i]?=some x) (hx:Loc X.env.scope x) (hf:X.fn x=true\/X.env.scope.names.lookup x=some .local) :
  PS X (.Assign [.Name x cu] (.Dict [] [] dp) pos) (tS B (FN i)):=c8 (jI hN hi hx EH rfl hf) fun D σ H z=>by
 obtain ⟨g,s,o,s',x,h,k⟩:=z
 cases h
 intro q hq
 obtain ⟨gr,n1,n2⟩:=nN (u:=.dK []) x hq
 have x1:=x.grow gr
 have p1:=x.nz gr
 refine k _ ((g.grow g.HF).own q (.loc i)) _ ⟨p1.fr,p1.pre,fun b u h n z=>?_,p1.there⟩ (x1.ae0 (ks:=[]) (ts:=[]) (vs:=[]) n2 n1 ak rfl rfl)
 obtain ⟨a,b',c⟩:=p1.rest b u h n z
 have:b≠q:=aM h hq
 exact ⟨a,b',by show (if b=q then some (jP.loc i) else g.o b)=none;rw [if_neg this];exact c⟩
theorem Vf {py:Pos}{k:Nat}(hr:bB k X.A) (he:PE X e (tE B fa)) (hb:PE X b (tE B fb)) (hN:X.N[i]?=some y) (hv:nq X.env.scope y) (hd:a_ y) (fH:e_ y)
  (hs:swapsWith e (some (.Subscript (.Name y py) b cu)) pos.line X.env=pure false) :
  PS X (.Assign [.Subscript (.Name y py) b cu] e pos) (tS B (y_ i fb fa)):=by
 have hu:X.A.units+1<cLine:=by have:=hr.units;omega
 refine c8 (Lo hu (bS hN hv hd fH) hb he hs) fun D σ H zz=>?_
 obtain ⟨g,s,o,s',x,h,k⟩:=zz
 obtain ⟨⟨t,s1⟩,h1,h⟩:=af h
 obtain ⟨⟨tk,s2⟩,h2,h⟩:=af h
 obtain ⟨d0,h3,h⟩:=af h
 obtain ⟨d,h4,h⟩:=af h
 obtain ⟨kk,h5,h⟩:=af h
 obtain ⟨_,h6,h⟩:=af h
 obtain ⟨z,_⟩:=bH (au h6)
 cases h
 refine ⟨g,s,t,s1,x,h1,fun v g1 H1 p1 x1 r1=>?_⟩
 obtain ⟨l,vs,w1,w2,w3,w4,w5⟩:=x1.Vc (qK (au h3))
 refine ⟨_,w1,g1,s1,tk,s2,x1,h2,fun u g2 H2 p2 x2 r2=>?_⟩
 have ho:=qK (au h4)
 obtain ⟨l',vs',q1,q2,q3,q4,q5⟩:=x2.Vc ho
 rw [w1] at q1;cases q1
 obtain ⟨vs2,e1,e2,e3⟩:=Va (k:=kk) q4 q5 (r1.mv p2.pre p2.fr)
 obtain ⟨x3,p3⟩:=x2.ae1 ho w1 e2 e3
 rw [qI (au h5) r2]
 refine ⟨l,_,rfl,.k q3 ?_,?_⟩
 ·rw [CG,dg,sizeLine_eq]
  have:d.1.length<1000000:=z
  omega
 ·rw [e1]
  exact k σ g2 _ ((p1.trans p2).trans p3) x3
end
end D
namespace D
open PySem L2 PySem.W PyProof.Rows PySem.Calls PySem.Builtin PySem.Builtin.ObjectAttr PySem.Builtin.Getset_descriptor
section
variable {K:Frag}{C a:Addr}{oe:Obj}{prog:Program}{w:World}{A:Around}
theorem FW {M:Model}{h:Heap}{x:Addr}{f g:Value}{name:Str}(X:K.In h) (ha:findIn K (.ref C) name=some (some f)) (hg:specialIn K f "__get__" = some (some g)) (ht:takesIn K f=some true) :
  Looks M h (Builtin.ObjectAttr.find (.ref x) (.ref C) name) (.bind g f):=
 (looks_findIn X ha).andThen ((looks_specialIn X hg).andThen ((show Looks M h (Builtin.ObjectAttr.dataDescriptor? (some f) (some g)) (some (g,f)) from (looks_takesIn (M:=M) X ht).andThen .now).andThen (Looks.tag .now)))
theorem FY {R:Result->Shared->Prop}{s:Shared}{tp:Value}{x:Addr}(X:K.In s.heap) (he:s.heap.get? x=some oe) (hc:oe.cls=.ref C) (hm:mroIn K C (.type "object")=some true)
  (h:R (.ok (.ret (.ref C))) s):codeAny (model prog w) A (.call (.builtin "getset_descriptor.__get__") ⟨[.builtin "object.__class__", .ref x,tp],[]⟩) R s:=by
 obtain ⟨hh,g,dr,t,os⟩:=s
 have L0:Looks (model prog w) hh (typeOf (.ref x)) (.ref C):=hc ▸ (Looks.ld he).andThen .now
 have L1:=looks_mroIn (M:=model prog w) X hm
 refine codeAny_call_builtin KF.slot_gs.plain KF.entry_gs (KF.slot_gs.check _ _ _ _ _ _ _ _ KF.type_class (KF.args_gs _ _ _) ?_)
 unfold Builtin.«getset_descriptor.__get__» descrGet
 rw [dga_obj]
 refine wpAny_bind (wpAny_pure ?_)
 unfold descrGetter descrCheckInstance descrNameAndClass isInstance
 simp only [KF.owner_class]
 repeat lk
 refine ⟨Code.quiet_builtin _ (by decide +kernel),codeAny_builtin KF.entry_class ?_⟩
 unfold Builtin.«object.__class__» shownTypeOf
 repeat lk
 exact h
structure nP (K:Frag) (C:Addr):Prop where
 ga:findIn K (.ref C) "__getattribute__" = some (some (.builtin "BaseException.__getattribute__"))
 gn:findIn K (.ref C) "__getattr__" = some none
 cl:findIn K (.ref C) "__class__" = some (some (.builtin "object.__class__"))
 gt:specialIn K (.builtin "object.__class__") "__get__" = some (some (.builtin "getset_descriptor.__get__"))
 tk:takesIn K (.builtin "object.__class__")=some true
 mb:mroIn K C (.type "BaseException")=some true
 mo:mroIn K C (.type "object")=some true
theorem BD {M:Model}{E:Value->Shared->Prop}{Q:Unit->Shared->Prop}{s:Shared}{Qe:Value}(Z:nP K C) (X:K.In s.heap) (he:s.heap.get? a=some oe) (hc:oe.cls=.ref C) (hq:Q () s) :
  wpAny M A (checkBuiltinCall "BaseException.__getattribute__" ⟨[.ref a,Qe],[]⟩) Q E s:=by
 obtain ⟨hh,g,d,t,os⟩:=s
 have L0:Looks M hh (typeOf (.ref a)) (.ref C):=hc ▸ (Looks.ld he).andThen .now
 have L4:=looks_mroIn (M:=M) X Z.mb
 have hk:builtinKind "BaseException.__getattribute__" = some .slot:=by decide +kernel
 have FZ:splitId "BaseException.__getattribute__" = some ("BaseException", "__getattribute__"):=by decide +kernel
 have ha:=F.args_bexc_ga (.ref a) Qe
 simp only [checkBuiltinCall,hk,FZ]
 refine wpAny_bind ?_
 unfold isInstance
 refine wpAny_bind (L0.at (L4.at ?_))
 repeat (first | wp_step)
 exact hq
theorem Vg {E:Value->Shared->Prop}{Q:Option Value->Shared->Prop}{s:Shared}(Z:nP K C) (X:K.In s.heap) (he:s.heap.get? a=some oe) (hc:oe.cls=.ref C) (h:Q (some (.ref C)) { s with toks:=s.toks+1 }) :
  wpAny (model prog w) A (getAttr? (.ref a) "__class__") Q E s:=by
 obtain ⟨hh,g,d,t,os⟩:=s
 have L0:Looks (model prog w) hh (typeOf (.ref a)) (.ref C):=hc ▸ (Looks.ld he).andThen .now
 have L1:=looks_findIn (M:=model prog w) X Z.ga
 have L2:=looks_findIn (M:=model prog w) X Z.gn
 have L3:=FW (M:=model prog w) (x:=a) X Z.cl Z.gt Z.tk
 have L4:=looks_mroIn (M:=model prog w) X Z.mb
 have f3:=F.excAttr_ValueError.ga.bind (.ref a)
 have hk:builtinKind "BaseException.__getattribute__" = some .slot:=by decide +kernel
 have FZ:splitId "BaseException.__getattribute__" = some ("BaseException", "__getattribute__"):=by decide +kernel
 have hx2:(Value.builtin "BaseException.__getattribute__" == Value.builtin "object.__getattribute__")=false:=by decide +kernel
 have hx1:(onTheHeap (Value.ref C)&&Value.builtin "BaseException.__getattribute__" == Value.builtin "object.__getattribute__")=false:=by rw [hx2];rfl
 unfold getAttr? getAttrBy? getAttrBy
 refine wpAny_bind (wpAny_mkText (wpAny_bind (wpAny_attempt (wpAny_holding (wpAny_bind (L0.at (wpAny_bind (L1.at ?_))))))))
 dsimp only
 rw [hx1,if_neg (by decide)]
 unfold getAttrByItsOwn
 refine wpAny_bind ?_
 show wpAny _ _ (typeLookup (.ref C) "__getattr__") _ _ _
 refine L2.at ?_
 refine wpAny_bind (wpAny_attempt (wpAny_holding ?_))
 show wpAny _ _ (boundAndCalled _ _ _) _ _ _
 unfold boundAndCalled
 rw [f3]
 refine wpAny_bind (wpAny_pure ?_)
 refine wpAny_call (codeAny_call_builtin F.excAttr_ValueError.ga.plain F.entry_bexc_ga ?_)
 refine BD Z X he hc ?_
 unfold «object.__getattribute__»
 repeat ((fail_if_success (with_reducible show wpAny _ _ (PySem.call _ _ _) _ _ _));lk)
 refine wpAny_call (FY X he hc Z.mo ?_)
 repeat lk
 exact h
end
end D
namespace D
open PySem L2 PySem.W PyProof.Rows
variable {C:Addr}{X:Cx}{B:Heap}{H H':Hp}{s:Shared}
section
variable {K:Frag}{a:Addr}{oe:Obj}
theorem ze (Z:nP K C):∃ cd,clsIn K C=some cd:=by
 have h:=Z.mo
 unfold mroIn at h
 obtain ⟨cd,e,_⟩:=cJ.mp h
 exact ⟨cd,e⟩
theorem ug (Z:nP K C) (hc:oe.cls=.ref C):KitX K (.ref a) (.ref C) (fun h=>h.get? a=some oe) where
 ty:=fun _ _ _ e=>hc ▸ (Looks.ld e).andThen .now
 it:=fun _ _ X _=>by
  obtain ⟨cdD,IM⟩:=ze Z
  unfold clsIn at IM
  split at IM
  ·rename_i c' d' cd' W6 ho
   intro A' Q' E' s' k q
   unfold isType loadHead
   exact wpAny_bind (wpAny_loadPart (k _ _ (X _ _ ho)) (wpAny_pure q))
  ·cases IM
 ne:=fun h tp dd its n sl X htp=>by
  obtain ⟨cdD,IM⟩:=ze Z
  refine Bool.eq_false_iff.mpr fun q=>?_
  have e:C=tp:=Value.ref.inj (beq_iff_eq.mp q)
  subst e
  unfold clsIn at IM
  split at IM
  ·rename_i c' d' cd' W6 ho
   have z:=(X _ _ ho).symm.trans htp
   cases z
  ·cases IM
 ca:=fun X e k=>Vg Z X e hc k
end
structure Lies (P:Program) (w:World) (stack:List Env) (H:Hp) (s:Shared) (H':Hp) (B h:Heap):Prop where
 un:Un (nk stack) [] H H' s.heap h
 bG:ik P w H' h
 Iw:∀ c u,H' c=some u->∃ o,B.get? c=some o
 old:∀ b o,s.heap.get? b=some o->b ∉ nk stack->∃ o',B.get? b=some o'
section
variable {P:Program}{w:World}{stack outer:List Env}{h h':Heap}
theorem Lies.on (L:Lies P w stack H s H' B h) (st:B.StaysIn h) (Dk:B.StaysIn h') (up:h.UpToSlots h') (ff:h.FunFrames B stack):Lies P w stack H s H' B h':=by
 have frame:∀ b o,b∈nk stack->h.get? b=some o->∃ sl,h'.get? b=some { o with slots:=sl }:=fun b o hb e=>by
  obtain ⟨_,o',e',d⟩:=ff.mem hb
  rw [e] at e';cases e'
  exact up b o e d
 have other:∀ b o,(∃ o',B.get? b=some o')->h.get? b=some o->h'.get? b=some o:=fun b o ⟨o',q⟩ e=>by
  have:=st b o' q
  rw [e] at this;cases this
  exact Dk b _ q
 refine ⟨⟨fun b o e n hb hx=>other b o (L.old b o e hb) (L.un.keep b o e n hb hx),fun b o e n hb hx=>?_,L.un.free,fun b o e hx=>?_,L.un.nE,L.un.lq,L.un.nF⟩,fun a o e=>?_,L.Iw,L.old⟩
 ·obtain ⟨sl,e1⟩:=L.un.slot b o e n hb hx
  obtain ⟨W6,e2⟩:=frame b _ hb e1
  exact ⟨W6,e2⟩
 ·obtain ⟨o',e1⟩:=L.un.there b o e hx
  by_cases hb:b∈nk stack
  ·obtain ⟨sl,e2⟩:=frame b _ hb e1
   exact ⟨_,e2⟩
  ·exact ⟨o',other b o' (L.old b o e hb) e1⟩
 ·refine (L.bG a o e).pC (fun c u hc q=>other c u ?_ q) (fun _ q=>q) fun _ _ q=>q
  rcases hc with rfl | hc
  ·exact L.Iw _ _ e
  ·exact L.Iw _ _ hc
end
def zf (P:Program) (w:World) (C:Addr):BY:=fun stack H s E e s'=>∃ a t H' B,e=.ref a/\s'.os=s.os/\AllBare s'.gens/\Lies P w stack H s H' B s'.heap/\Heap.FlyingW B stack a (.ref C) (.ref t) s'.heap/\E (.ref C) none H'
theorem uh {P:Program}{w:World}{H:Hp}{h:Heap}{a:Addr}{o:HO}(x:bO P w H h a o):∃ ob,h.get? a=some ob:=by
 induction o with
 | lst xs=>obtain ⟨_,_,_,_,e⟩:=x;exact ⟨_,e⟩
 | tup xs=>obtain ⟨_,_,_,ob,e,_⟩:=x;exact ⟨ob,e⟩
 | dK aW=>obtain ⟨_,_,_,_,ob,_,_,e,_⟩:=x;exact ⟨ob,e⟩
 | dT aW=>obtain ⟨_,_,_,_,ob,_,_,e,_⟩:=x;exact ⟨ob,e⟩
 | set S n=>obtain ⟨ob,_,_,_,e,_⟩:=x;exact ⟨ob,e⟩
 | ins C dx fs=>obtain ⟨_,_,_,e,_⟩:=x;exact ⟨_,e⟩
 | own y=>exact x
 | xd fs=>obtain ⟨_,⟨ob,_,_,e,_⟩,_⟩:=x;exact ⟨ob,e⟩
 | rng lo hi=>obtain ⟨_,_,_,e⟩:=x;exact ⟨_,e⟩
 | iK o u _=>exact ⟨o,x.1⟩
 | tbl ps=>exact ⟨_,x⟩
 | met f y=>exact ⟨_,x⟩
 | ext φ=>exact x.2.1
structure WO (X:Cx) (C:Addr) (E:XK):Prop where
 lv:∀ e s',wpAny (model X.prog X.w) X.A (leaving X.env e) (fun _ IV=>zf X.prog X.w C X.outer X.H₀ X.s₀ E e IV) (fun e' IV=>zf X.prog X.w C X.outer X.H₀ X.s₀ E e' IV) s'->X.xe e s'
 st:X.stack=X.env::X.outer
 ex:X.ex=[]
 fr:X.env.frame=some X.env.locals
 cm:X.calm=true
section
variable {E:XK}{aa:c9}{σ:L2.St}{h:Heap}
theorem Mg (Z:WO X C E) (I:Inv X aa σ H s) (old:∀ b o,s.heap.get? b=some o->b ∉ nk X.stack->∃ o',B.get? b=some o') :
  ∀ b o,X.s₀.heap.get? b=some o->b ∉ nk X.outer->∃ o',B.get? b=some o':=fun b o e hb=>by
 obtain ⟨o',e1⟩:=I.base.there b o e (by rw [Z.ex];simp)
 refine old b o' e1 fun z=>?_
 rcases fB.mp (I.lr b z) with q | q
 ·exact absurd q (dh (gx (Heap.lt_size e) I.ok.above))
 ·exact hb q
theorem Vh (Z:WO X C E) (I:Inv X aa σ H s) {e:Addr}{args:List Value}{h':Heap}(hm:Heap.MadeExcOf s.heap h' e (.ref C) args) (q:E (.ref C) none H):X.xe (.ref e) { s with heap:=h' }:=by
 apply Z.lv
 have ff:s.heap.FunFrames (hideAll s.heap (nk X.stack)) X.stack:=funFrames_hide I.stack fun env he b hb=>Im.mpr ⟨env,he,hb⟩
 rw [Z.st] at ff
 have stB:(hideAll s.heap (nk X.stack)).StaysIn s.heap:=fun b o q=>of_hideAll _ q
 refine wpAny_leaves_madeW (L:=X.env.locals) (base:=hideAll s.heap (nk X.stack)) (h:=s.heap) (by rw [I.ok.frames,Z.st]) Z.fr stB (by rw [Z.st];exact ff) hm fun h3 t F' tup nt up=>?_
 refine ⟨e,t,H,hideAll s.heap (nk X.stack),rfl,I.os,I.bare,?_,F',q⟩
 have L2:Lies X.prog X.w X.outer X.H₀ X.s₀ H (hideAll s.heap (nk X.stack)) s.heap:=⟨by have:=I.base;rw [Z.ex] at this;exact this,I.bG,fun c u e=>?_,Mg Z I fun b o e hb=>⟨o,hideAll_get _ e hb⟩⟩
 ·exact L2.on stB F'.1 ((Heap.UpToSlots.of_keeps hm.keeps).trans up) (by rw [Z.st];exact ff.2.2)
 ·obtain ⟨ob,e1⟩:=uh (I.bG c u e)
  refine ⟨ob,hideAll_get _ e1 fun z=>?_⟩
  rw [I.pF c z] at e;cases e
end
theorem Mh {K:Frag}{h:Heap}{C:Addr}{Qf:List Value}{newId:String}(X:K.In h) (q:excIn K C Qf newId=true) :
  ∃ bm N nm qn bs hd sn sub ab col dd k0 k1 k2 k3 k5,h.get? C=some (excClassObj nm qn C N bs bm hd sn sub ab col dd k0 k1 k2 k3 k5 newId)/\h.Ns N (h.nsMap N)/\h.nsMap N "__init__" = none/\OwnTail h Qf bm:=by
 unfold excIn at q
 split at q
 ·rename_i dd0 afm slo lo
  split at q
  ·rename_i C1 tl0 u0 u1 u2 u3 nid u5 mq sq
   simp only [cy,beq_iff_eq,CT] at q
   obtain ⟨⟨⟨⟨⟨rfl,rfl⟩,Qg⟩,tlq⟩,okn⟩,nin⟩:=q
   obtain ⟨nm,bs,mro,ns,qn,hdc,sn,sub,ab,col,del⟩:=afm
   dsimp only at mq Qg okn nin
   subst mq Qg
   obtain ⟨sl1⟩:=slo
   simp only at sq
   subst sq
   refine ⟨tl0,ns,nm,qn,bs,hdc,sn,sub,ab,col,dd0,u0,u1,u2,u3,u5,X _ _ lo,?_,?_,tail_of_in X tlq⟩
   ·exact .of_isNs (isNs_of_in X okn)
   ·exact nsMap_none_of_in X okn nin
  ·cases q
 ·cases q
section
variable {E:XK}{x:Str}{e₀:PySem.Expr}{ta:TE}{np cQ pos:Pos}{Bn newId xu:String}{Qf:List Value}
theorem F0 (Z:WO X C E) (FB:ExcBaseFacts Bn newId xu Qf) (q:excIn X.K C Qf newId=true) (hm:X.mg x=some (.ref C)) (ha:PE X e₀ ta) (hg:Gl X x:=by rfl) (gA:a_ x:=by decide)
  (he:starEach [e₀] X.env=(false,eval e₀ X.env)::starEach [] X.env:=by rfl):PS X (.Raise (some (.Call (.Name x np) [e₀] [] cQ)) none pos) (fun _ σ H=>ta σ H fun x H1=>[x].length=1/\E (.ref C) none H1):=by
 intro aa s σ H D I h
 obtain ⟨bm,N,nm,qn,bs,hd,sn,sub,ab,col,dd,k0,k1,k2,k3,k5,hC,hN,hni,T⟩:=Mh I.mod.kin q
 refine wpAny_Raise_call_subT (C:=C) (nm:=nm) (q:=qn) (N:=N) (bs:=bs) (bm:=bm) (hdct:=hd) (sn:=sn) (sub:=sub) (ab:=ab) (col:=col) (dd:=dd) (k0:=k0) (k1:=k1) (k2:=k2) (k3:=k3) (k5:=k5) (newId:=newId)
  FB (mN:=X.base.nsMap N) (T.hasType FB.hasBase) (I.ok.hd Z.cm) (by rw [he];rfl) hni (eT I hg hm ⟨rfl,?_⟩ gA)
 have pa:=bj ha (cZ (X:=X)) he cQ aa s σ H (fun vs H1=>vs.length=1/\E (.ref C) none H1) I ?_
 ·rw [he] at pa ⊢
  refine Calls.evalArgs_plain (wpAny_mono pa (fun us s2 ⟨vs,H1,I1,r,l1,q1⟩=>?_) fun _ _ y=>y)
  refine ⟨rfl,?_,I1.bk _ _ hC,hN.keeps I1.bk,T.keeps I1.bk,fun h' e hmx=>Vh Z I1 hmx q1⟩
  show us.length<=sizeLine
  rw [<- r.length,l1];decide
 ·exact h
end
abbrev iF (X:Cx) (a:Addr) (oe:Obj):Cx:={ X with A:=X.A.mark (some (.ref a)),calm:=false,pn:=(a,oe)::X.pn,xe:=fun _ _=>False }
section
variable {aa:c9}{σ:L2.St}{s':Shared}{a t CB:Addr}{oe:Obj}
theorem Inv.Vi (I:Inv X ((a,oe)::aa) σ H s):Inv (iF X a oe) aa σ H s:=
 ⟨⟨I.ok.mod,I.ok.kind,I.ok.glob,I.ok.blt,I.ok.above,I.ok.inj,I.ok.has,I.ok.cab,(fun z=>nomatch z),I.ok.frames,I.ok.stk,I.ok.exf,I.ok.bs,I.ok.bsz,I.ok.noex,I.ok.exfs,I.ok.iL,I.ok.frf⟩,I.os,I.bare,I.base,I.loc,I.cell,I.free,I.freeC,
  fun p hp=>I.pin p (by
   rcases iG.mp hp with z | z
   ·rcases fB.mp z with z | z
    ·rw [z];simp
    ·exact Cs _ z
   ·simp [z]),I.bG,I.len⟩
theorem Inv.F2 (ok:X.Ok) (I:Inv (iF X a oe) aa σ H s):Inv X aa σ H s:=
 ⟨ok,I.os,I.bare,I.base,I.loc,I.cell,I.free,I.freeC,
  fun p hp=>I.pin p (by
   rcases iG.mp hp with z | z
   ·simp [z]
   ·simp [z]),I.bG,I.len⟩
theorem name_goes {M:Model}{A:Around}{E:Value->Shared->Prop}{i:Nat}{x:Str}{pos:Pos}{Q:Unit->Shared->Prop}(I:Inv X aa σ H s) (hN:X.N.Nodup) (hi:X.N[i]?=some x) (hk:X.env.scope.names.lookup x=some .local)
  (h:∀ s',Inv X aa (σ.set i none) H s'->Q () s'):wpAny M A (do bindName X.env x .none;unbindBehindTheSuite X.env x pos) Q E s:=by
 obtain ⟨m,hn,hl⟩:=id I.loc
 have QN:(X.env.scope.kind == .class || (X.env.scope.kind == .module&&X.env.locals != X.env.globals))=false:=by rw [I.ok.kind];rfl
 refine wpAny_nameGoes_keeps hk hn QN fun h' v hn' hs=>h _ ?_
 obtain ⟨oL,es0,ep0,hoL,hdL,_⟩:=id hn
 have ne0:∀ b o,X.s₀.heap.get? b=some o->b≠X.env.locals:=fun b o e=>dh (gx (Heap.lt_size e) I.ok.above)
 refine ⟨I.ok,I.os,I.bare,⟨fun b o e n hb hx=>(hs.2 b (ne0 b o e)).trans (I.base.keep b o e n hb hx),fun b o e n hb hx=>?_,I.base.free,fun b o e hx=>?_,I.base.nE,I.base.lq,I.base.nF⟩,⟨_,hn',fun j y v' e1 e2 e3=>?_⟩,fun y c e=>?_,I.free,I.freeC,fun p hp=>?_,fun b ob e=>?_,by simpa using I.len⟩
 ·obtain ⟨sl,e1⟩:=I.base.slot b o e n hb hx
  exact ⟨sl,(hs.2 b (ne0 b o e)).trans e1⟩
 ·obtain ⟨o',e1⟩:=I.base.there b o e hx
  exact ⟨o',(hs.2 b (ne0 b o e)).trans e1⟩
 ·have hj:j≠i:=by
   rintro rfl
   by_cases fF:j<σ.length
   ·rw [gq fF] at e2;cases e2
   ·rw [NP (by simpa using fF)] at e2;cases e2
  rw [gh (Ne.symm hj)] at e2
  obtain ⟨u',r',q⟩:=hl j y v' e1 e2 e3
  refine ⟨u',r',?_⟩
  rcases q with ⟨k,e⟩ | ⟨k,c,e,z⟩
  ·refine .inl ⟨k,?_⟩
   have:y≠x:=fun e=>hj (lz hN e1 (e ▸ hi))
   simp [this,e]
  ·exact .inr ⟨k,c,e,z.sameBut hs (I.IB y c e)⟩
 ·obtain ⟨w',z⟩:=I.cell y c e
  exact ⟨w',z.sameBut hs (I.IB y c e)⟩
 ·obtain ⟨e,n,ne,nf,d⟩:=I.pin p hp
  exact ⟨(hs.2 p.1 ne).trans e,n,ne,nf,d⟩
 ·refine (I.bG b ob e).pC (fun c w' hc q=>(hs.2 c ?_).trans q) (fun _ q=>q) fun _ _ q=>q
  rintro rfl
  rcases hc with z | hc
  ·have:=I.free;rw [z,e] at this;cases this
  ·have:=I.free;rw [hc] at this;cases this
theorem Mi (L:Lies X.prog X.w X.stack H s H' B s'.heap) (F:Heap.FlyingW B X.stack a (.ref C) (.ref t) s'.heap):H' a=none:=by
 cases e:H' a with
 | none=>rfl
 | some u=>
  obtain ⟨o,q⟩:=L.Iw a u e
  rw [F.2.1] at q;cases q
theorem qL {h5:Heap}(I:Inv X aa σ H s) (ho:s'.os=s.os) (hb:AllBare s'.gens) (L:Lies X.prog X.w X.stack H s H' B h5) (F:Heap.FlyingW B X.stack a (.ref C) (.ref t) h5) :
  ∃ oe,oe.cls=.ref C/\h5.get? a=some oe/\Inv X ((a,oe)::aa) σ H' { s' with heap:=h5 }:=by
 have I5:Inv X aa σ H' { s' with heap:=h5 }:=I.Od (s':={ s' with heap:=h5 }) ho L.un L.bG hb (fun b z=>absurd z (by simp))
 obtain ⟨oe,ws,WQ,hc5,hd5,_⟩:=F.first
 have new:H' a=none:=Mi (s':={ s' with heap:=h5 }) L F
 refine ⟨oe,hc5,WQ,I5.pG fun p hp=>?_⟩
 rcases fB.mp hp with z | z
 ·subst z
  refine ⟨WQ,new,fun z=>?_,fun z=>?_,fun v z=>?_⟩
  ·obtain ⟨m,⟨o',es,ep,BW,Wx,_⟩,_⟩:=I5.loc
   have z:a=X.env.locals:=z
   have BW:h5.get? X.env.locals=some o':=BW
   rw [<- z,WQ] at BW;cases BW
   rw [hd5] at Wx;cases Wx
  ·obtain ⟨_,o',e',d'⟩:=I5.iL.mem z
   have e':h5.get? a=some o':=e'
   rw [WQ] at e';cases e'
   exact d' ws hd5
  ·rw [hd5] at z;cases z
 ·exact I5.pin p (kD _ z)
theorem F3 {Q:Flow->Shared->Prop}{y:Str}{np pos:Pos}{nm:Option Str}{eY:List Stmt}{rest:List ExceptHandler}(I:Inv X aa σ H s) (yo:X.stack=X.env::X.outer) (Oq:X.env.frame=some X.env.locals) (ho:s'.os=s.os) (hb:AllBare s'.gens)
  (L:Lies X.prog X.w X.stack H s H' B s'.heap) (F:Heap.FlyingW B X.stack a (.ref C) (.ref t) s'.heap) (hm:X.mg y=some (.ref CB)) (hx:exmOne X.K (.ref C) (.ref CB)=some true)
  (k:∀ h5,Lies X.prog X.w X.stack H s H' B h5->Heap.FlyingW B X.stack a (.ref C) (.ref t) h5 ->
   codeAny (model X.prog X.w) (X.A.mark (some (.ref a))) (.handlers (.ref a) [.ExceptHandler none nm eY pos] X.env) (fun r s₂=>match r with
     | .ok f=>(match nm with
      | none=>Q f s₂
      | some n=>wpAny (model X.prog X.w) X.A (do bindName X.env n .none;unbindBehindTheSuite X.env n pos) (fun _ s₃=>Q f s₃) (fun _ _=>False) s₂)
     | .error x=>cameBackBy (model X.prog X.w) X.A X.env (fun _ _=>False) x s₂) { s' with heap:=h5 })
  (hg:Gl X y:=by rfl) (gA:a_ y:=by decide) :
  wpAny (model X.prog X.w) X.A (noteFrame (.ref a) X.env) (fun _ s₂=>wpAny (model X.prog X.w) X.A (setFlight (.ref a) none) (fun _ s₃=>
   wpAny (model X.prog X.w) X.A (handleBy (.ref a) X.env (.ExceptHandler (some (.Name y np)) nm eY pos::rest)) Q (fun _ _=>False) s₃) (fun _ _=>False) s₂) (fun _ _=>False) s':=by
 have F1:=F
 rw [yo] at F1
 refine wpAny_looks_onW (L:=X.env.locals) (by rw [I.ok.frames,yo]) Oq F1 fun h4 held up4=>?_
 have L4:=L.on F.1 held.1 up4 F.2.2.1
 refine wpAny_landsW held fun h5 F5 up5=>?_
 have L5:=L4.on held.1 F5.1 up5 (by rw [yo];exact held.2.2.1)
 rw [<- yo] at F5
 obtain ⟨oe,hc5,WQ,I6⟩:=qL (s':=s') I ho hb L5 F5
 refine wpAny_handleBy_cons (codeAny_handlers_test ?_) (by intro q;cases q)
 refine eT (X:=iF X a oe) (Inv.Vi I6) hg hm ?_ gA
 have LT:Looks (model X.prog X.w) h5 (typeOf (.ref a)) (.ref C):=hc5 ▸ (Looks.ld WQ).andThen .now
 refine exm_one (M:=model X.prog X.w) (h:=h5) I6.gS LT hx _ _ _ _ (fun _ _ e=>e) ?_
 exact k h5 L5 F5
theorem Vj {Q:Flow->Shared->Prop}{pos:Pos}{st:Stmt}{eY:List Stmt}{h5:Heap}(I:Inv X aa σ H s) (ho:s'.os=s.os) (hb:AllBare s'.gens)
  (L:Lies X.prog X.w X.stack H s H' B h5) (F:Heap.FlyingW B X.stack a (.ref C) (.ref t) h5)
  (k:∀ oe s6,oe.cls=.ref C->Inv (iF X a oe) aa σ H' s6->wpAny (model X.prog X.w) (X.A.mark (some (.ref a))) (execs (st::eY) X.env) Q (fun _ _=>False) s6) :
  codeAny (model X.prog X.w) (X.A.mark (some (.ref a))) (.handlers (.ref a) [.ExceptHandler none none (st::eY) pos] X.env) (fun r s₂=>match r with
     | .ok f=>Q f s₂
     | .error x=>cameBackBy (model X.prog X.w) X.A X.env (fun _ _=>False) x s₂) { s' with heap:=h5 }:=by
 refine codeAny_handlers_suite (lands_againW F fun h6 F6 up6=>?_)
 have L6:=L.on F.1 F6.1 up6 F.2.2.1
 obtain ⟨oe,hc,he,I6⟩:=qL (s':=s') I ho hb L6 F6
 exact wpAny_passesOwnAt PassesOwnAt.never (k oe _ hc (Inv.Vi I6))
theorem Mj {Q:Flow->Shared->Prop}{pos:Pos}{n:Str}{i:Nat}{st:Stmt}{eY:List Stmt}{h5:Heap}(I:Inv X aa σ H s) (ho:s'.os=s.os) (hb:AllBare s'.gens) (hN:X.N.Nodup) (hi:X.N[i]?=some n) (hk:X.env.scope.names.lookup n=some .local)
  (L:Lies X.prog X.w X.stack H s H' B h5) (F:Heap.FlyingW B X.stack a (.ref C) (.ref t) h5)
  (k:∀ oe s6,oe.cls=.ref C->Inv (iF X a oe) aa (σ.set i (some (.ref a))) H' s6->wpAny (model X.prog X.w) (X.A.mark (some (.ref a))) (execs (st::eY) X.env) (fun f s8=>∃ σ8 H8,Inv (iF X a oe) aa σ8 H8 s8/\∀ s9,Inv X aa (σ8.set i none) H8 s9->Q f s9) (fun _ _=>False) s6) :
  codeAny (model X.prog X.w) (X.A.mark (some (.ref a))) (.handlers (.ref a) [.ExceptHandler none (some n) (st::eY) pos] X.env) (fun r s₂=>match r with
     | .ok f=>wpAny (model X.prog X.w) X.A (do bindName X.env n .none;unbindBehindTheSuite X.env n pos) (fun _ s₃=>Q f s₃) (fun _ _=>False) s₂
     | .error x=>cameBackBy (model X.prog X.w) X.A X.env (fun _ _=>False) x s₂) { s' with heap:=h5 }:=by
 refine codeAny_handlers_suite_as (lands_againW F fun h6 F6 up6=>?_)
 have L6:=L.on F.1 F6.1 up6 F.2.2.1
 obtain ⟨oe,hc,he,I6⟩:=qL (s':=s') I ho hb L6 F6
 refine iM I6 hN hi (Or.inl hk) (v:=.ref a) rfl (fun s7 I7=>?_) (Or.inr hk)
 refine wpAny_mono (k oe s7 hc (Inv.Vi I7)) (fun f s8 ⟨σ8,H8,I8,q⟩=>?_) fun _ _ z=>z.elim
 exact name_goes (Inv.F2 I.ok I8) hN hi hk q
end
end D
namespace D
open PySem L2
noncomputable def WR {α:Type}:Res α->Res α
 | .ok a=>.ok a
 | _=>.bad
noncomputable def okF (F:FS):FS:=fun s=>WR (F s)
def xF (c:FT) (F:FS):FS:=fun s=>(WR (c s)).bind fun p=>if p.1 then .exc 0 [] p.2 else F p.2
theorem qM {α:Type}{x:Res α}{a:α}(h:WR x=.ok a):x=.ok a:=by cases x<;>first | exact h | cases h
theorem zg {α:Type}{x:Res α}{c:Nat}{fs:List T}{s:S}(h:WR x=.exc c fs s):False:=by cases x<;>cases h
theorem um {α β:Type}{x:Res α}{f:α->Res β}{c:Nat}{fs:List T}{s:S}(h:x.bind f=.exc c fs s):x=.exc c fs s\/∃ a,x=.ok a/\f a=.exc c fs s:=by
 cases x with
 | ok a=>exact .inr ⟨a,rfl,h⟩
 | bad=>cases h
 | exc _ _ _=>cases h;exact .inl rfl
def tX (B:KT) (EX:Hp->Prop) (f:FS):TS:=fun D σ H=>∃ g s,SR B g H σ s/\((∃ o s',f s=.ok (o,s')/\BB B g H D o s')\/(∃ c fs s',f s=.exc c fs s'/\∀ g' H',dz g H g' H'->dw B g' H' s'.m->EX H'))
def Ic (B:KT) (C:Addr) (f:Fn):Sp:=fun vs H Q E=>∃ g ts m,dw B g H m/\aA B g.al g.HF ts vs/\((∃ t m',f ts m=.ok (t,m')/\∀ v g' H',dz g H g' H'->dw B g' H' m'->Rep B g'.al g'.HF t v->Q v H')\/(∃ c fs s',f ts m=.exc c fs s'/\∀ g' H',dz g H g' H'->dw B g' H' s'.m->E (.ref C) none H'))
section
variable {B:KT}{X:Cx}{e c:Expr}{pos np cQ afn:Pos}{fa:FE}{ft:FT}{F:FS}{EX:Hp->Prop}{rest:List Stmt}{st:Stmt}{x:Str}{C:Addr}{E:XK}
theorem Qh {B3:List Stmt}:fD X B3 (tX B EX br):=fun _ _ _ _ _ _ zz=>by
 obtain ⟨_,_,_,z⟩:=zz
 rcases z with ⟨_,_,h,_⟩ | ⟨_,_,_,h,_⟩<;>cases h
theorem afo (h:fD X rest (tS B F)):fD X rest (tX B EX (okF F)):=lT h fun D σ H z=>by
 obtain ⟨g,s,x,z⟩:=z
 rcases z with ⟨o,s',h,k⟩ | ⟨c,fs,s',h,k⟩
 ·exact ⟨g,s,o,s',x,qM h,k⟩
 ·exact (zg h).elim
theorem afp {Bn newId xu:String}{Qf:List Value}{l:Str}{kk:Nat}{lp:Pos}(Z:WO X C E) (FB:ExcBaseFacts Bn newId xu Qf) (q:Cj X.K C Qf newId=true) (hm:X.mg x=some (.ref C)) (hg:Gl X x) (gA:a_ x)
  (hc:PT X c (tT B ft)) (hr:fD X rest (tX B (fun H=>E (.ref C) none H) F)):fD X (.If c [.Raise (some (.Call (.Name x np) [.Constant (.str l) kk lp] [] cQ)) none afn] [] pos::rest) (tX B (fun H=>E (.ref C) none H) (xF ft F)):=by
 have hl:PE X (.Constant (.str l) kk lp) (tC (.str l)):=C_
 refine lT (gz (Og hc (kQ (F0 Z FB q hm hl hg gA rfl)) pH) hr) fun D σ H z=>?_
 obtain ⟨g,s,x,z⟩:=z
 rcases z with ⟨o,s',h,k⟩ | ⟨c,fs,s',h,k⟩
 ·obtain ⟨⟨d,s1⟩,h1,h⟩:=af h
  refine ⟨g,s,d,s1,x,qM h1,fun g1 H1 p1 x1=>?_⟩
  cases d with
  | true=>cases h
  | false=>exact nI ⟨g1,s1,x1,.inl ⟨o,s',h,k.mv p1⟩⟩
 ·rcases um h with h | ⟨⟨d,s1⟩,h1,h⟩
  ·exact (zg h).elim
  refine ⟨g,s,d,s1,x,qM h1,fun g1 H1 p1 x1=>?_⟩
  cases d with
  | true=>cases h;exact pU ⟨rfl,k g1 H1 p1 x1.st⟩
  | false=>exact nI ⟨g1,s1,x1,.inr ⟨c,fs,s',h,fun g' H' p'=>k g' H' (p1.trans p')⟩⟩
end
section
variable {B:KT}{P:Program}{w:World}{K:bg}{mg:Str->Option Value}{base:Heap}{C:Addr}
theorem Ml {x qual:Str}{st:Stmt}{f:Addr}{fd:FuncData}{N ps:List Str}{k:Nat}{F:FS}(Fn:HC K x qual st f fd) (Sc:eU N ps (aw st))
  (body:∀ (fE:Value) (A:Around) (outer:List Env) (s:Shared) (H:Hp) (E:XK),bB k (A.deeper (N_ qual (aw st) s.heap.objs.size f fE))->WO (jL (zf P w C) P w K mg base N qual (aw st) f fE A outer s H E) C E ->
   fD (jL (zf P w C) P w K mg base N qual (aw st) f fE A outer s H E) (bM st) (tX B (fun H'=>E (.ref C) none H') F)) :
  bU P w K mg base (zf P w C) (k+1) f fd ps (Ic B C (aQ ps.length N.length F)):=by
 have exc:∀ {ts:List T} {m:List Ob} {c:Nat} {fs:List T} {s':S},aQ ps.length N.length F ts m=.exc c fs s'->ts.length=ps.length/\F ⟨ts.map (fun t=>some (.val t))++dJ (N.length-ts.length) none,m⟩=.exc c fs s':=fun {ts m c fs s'} h=>by
  unfold aQ at h
  split at h
  ·rename_i hl
   refine ⟨hl,?_⟩
   rcases um h with h | ⟨⟨o,s1⟩,h1,h⟩
   ·exact h
   ·cases o<;>cases h
  ·cases h
 obtain ⟨oc,od,kV,doc,pm,an,fE,ct,yr,rfl,lk,fH⟩:=Fn.ex
 refine Ol lk fH Sc (fun vs H Q E h=>?_) fun A outer s H vs Q E hr h=>?_
 ·obtain ⟨g,ts,m,x,r,h⟩:=h
  rw [<- r.len]
  rcases h with ⟨t,m',h,_⟩ | ⟨c,fs,s',h,_⟩
  ·exact (kY h).1
  ·exact (exc h).1
 ·obtain ⟨g,ts,m,x,r,h⟩:=h
  refine ⟨_,body fE A outer s H E hr ⟨fun _ _ h=>h,rfl,rfl,rfl,rfl⟩,g,⟨ts.map (fun t=>some (.val t))++dJ (N.length-ts.length) none,m⟩,⟨x,oG r⟩,?_⟩
  rcases h with ⟨t,m',h,q⟩ | ⟨c,fs,s',h,q⟩
  ·obtain ⟨_,o,s',h1,rfl,ho⟩:=kY h
   refine .inl ⟨o,s',h1,?_⟩
   rcases ho with rfl | ⟨rfl,rfl⟩
   ·exact fun v g' H' p y rv=>q v g' H' p y rv
   ·exact fun σ' g' H' p y=>q _ g' H' p y.st rfl
  ·exact .inr ⟨c,fs,s',(exc h).2,q⟩
theorem F4 {f:Addr}{fd:FuncData}{ps:List Str}{k:Nat}{fn:Fn}(F:bU P w K mg base (zf P w C) k f fd ps (Ic B C fn)):bU P w K mg base (zf P w C) k f fd ps (Ic B C (aO fn)):=F.imp fun vs H Q E h=>by
 obtain ⟨g,ts,m,x,r,h⟩:=h
 have hn:aF ts=true:=by
  cases q:aF ts with
  | true=>rfl
  | false=>rcases h with ⟨t,m',h,_⟩ | ⟨c,fs,s',h,_⟩<;>(unfold aO at h;rw [q] at h;cases h)
 have x0:dw B ⟨g.HF,fun _=>none,[]⟩ H []:=⟨x.sub,fun b p e=>(by cases e),rfl,fun k ob e=>(by simp at e)⟩
 have back:∀ {g0:G} {H':Hp},dz ⟨g.HF,fun _=>none,[]⟩ H g0 H'->aP g0.HF H'->dz g H ⟨g0.HF,g.o,g.al⟩ H'/\dw B ⟨g0.HF,g.o,g.al⟩ H' m:=fun {g0 H'} p ys=>by
  have keep:∀ b p,g.o b=some p->H' b=H b/\g0.HF b=none:=fun b q hb=>by
   obtain ⟨h1,u,h2⟩:=x.live b q hb
   obtain ⟨h3,h4,_⟩:=p.rest b u h2 h1 rfl
   exact ⟨h3.trans h2.symm,h4⟩
  refine ⟨⟨p.fr,eM,fun b u h n z=>?_,p.there⟩,x.mv ys (fun b p e=>?_) p.fr rfl fun l p h _=>⟨h,(keep l p h).1⟩⟩
  ·obtain ⟨h3,h4,_⟩:=p.rest b u h n rfl
   exact ⟨h3,h4,z⟩
  ·obtain ⟨h1,u,h2⟩:=x.live b p e
   obtain ⟨h3,h4⟩:=keep b p e
   exact ⟨h4,u,h3.trans h2⟩
 refine ⟨⟨g.HF,fun _=>none,[]⟩,ts,[],x0,aA.no hn r,?_⟩
 unfold aO at h
 rw [if_pos hn] at h
 cases e:fn ts [] with
 | bad=>rw [e] at h;rcases h with ⟨t,m',h,_⟩ | ⟨c,fs,s',h,_⟩<;>cases h
 | ok z=>
  rw [e] at h
  dsimp only at h
  by_cases Dp:noOwn z.1=true
  ·rw [if_pos Dp] at h
   rcases h with ⟨t,m',h,q⟩ | ⟨c,fs,s',h,_⟩
   ·cases h
    exact .inl ⟨z.1,z.2,rfl,fun v g0 H' p y rv=>let ⟨a,b⟩:=back p y.sub;q v _ H' a b (Rep.no Dp rv)⟩
   ·cases h
  ·rw [if_neg Dp] at h
   rcases h with ⟨t,m',h,_⟩ | ⟨c,fs,s',h,_⟩<;>cases h
 | exc c0 fs0 s0=>
  rw [e] at h
  dsimp only at h
  by_cases Dp:aF fs0=true
  ·rw [if_pos Dp] at h
   rcases h with ⟨t,m',h,_⟩ | ⟨c,fs,s',h,q⟩
   ·cases h
   ·cases h
    exact .inr ⟨_,_,_,rfl,fun g0 H' p y=>let ⟨a,b⟩:=back p y.sub;q _ H' a b⟩
  ·rw [if_neg Dp] at h
   rcases h with ⟨t,m',h,_⟩ | ⟨c,fs,s',h,_⟩<;>cases h
theorem Vk {f:Addr}{fd:FuncData}{ps:List Str}{k:Nat}{fn:Fn}(F:bU P w K mg base (zf P w C) k f fd ps (Ic B C fn)):bU P w K mg base kh k f fd ps (nA B fn):=by
 have conv:∀ {vs H Q E},nA B fn vs H Q E->Ic B C fn vs H Q fun _ _ _=>False:=fun ⟨g,ts,m,t,m',x,r,h,q⟩=>⟨g,ts,m,x,r,.inl ⟨t,m',h,q⟩⟩
 refine ⟨fun vs H Q E h=>F.len vs H Q _ (conv h),fun A outer s H args us vs Q E hr e0 hb rv h=>codeAny_mono (F.run A outer s H args us vs Q _ hr e0 hb rv (conv h)) fun r s' hq=>?_⟩
 cases r with
 | ok fo=>cases fo<;>exact hq
 | error e=>
  obtain ⟨_,_,_,_,_,_,_,_,_,z⟩:=hq
  exact z.elim
end
end D
namespace D
open PySem L2 PyProof.Rows
structure DnX (P:Pg) (Pr:Program) (w:World) (K:bg) (mg:Str->Option Value) (base:Heap) (C:Addr) (k:Nat) (x:Str) (f:Fn):Prop where
 ex:∃ (fa:Addr) (fd:FuncData) (ps:List Str),bU Pr w K mg base (zf Pr w C) k fa fd ps (Ic (fP P K Pr w) C f)/\mg x=some (.ref fa)/\k_ K (.ref fa)=true/\Binds K fd ps []
def nQ (g:Fn) (fl:FL) (A:FS):FS:=fun s=>(WR (fl s)).bind fun p=>match g p.1 p.2.m with
 | .ok q=>.ok (.nx,{ p.2 with m:=q.2 })
 | .exc _ _ s'=>A { p.2 with m:=s'.m }
 | .bad=>.bad
def zh (i j:Nat) (bs:List Bool):FS:=fun s=>match s.r[i]? with
 | some none=>.ok (.nx,iE s j (.val (.lst (bs.map .bl))))
 | _=>.bad
variable {C:Addr}{X:Cx}{e:Expr}{es:List Expr}{i j:Nat}{p pos:Pos}{n y:Str}
section
variable {P:Pg}{CB:Addr}{k:Nat}{x:Str}{f:Fn}{fl:FL}{cQ ir np Vl:Pos}{H:Hp}{σ:L2.St}{g:G}{ss s1:S}{s:Shared}{aa:c9}{ts:List T}
theorem uo {Q:Value->Shared->Prop}{Ex:Value->Shared->Prop}(Mb:X.xe=fun _ _=>False) (D:DnX P X.prog X.w X.K X.mg X.base C k x f) (hr:bB j X.A) (qz:k<=j) (ha:PA X (e::es) (tA (P.kt X) fl)) (hg:Gl X x) (gA:a_ x) (hs:(e::es).all noStar=true)
  (I:Inv X aa σ H s) (xr:SR (P.kt X) g H σ ss) (h1:fl ss=.ok (ts,s1))
  (res:(∃ t m',f ts s1.m=.ok (t,m')/\∀ v sh g' H',Inv X aa σ H' sh->dz g H g' H'->SR (P.kt X) g' H' σ { s1 with m:=m' }->Q v sh) \/
   (∃ c fs s',f ts s1.m=.exc c fs s'/\∀ a t Ha sa H1 g1 Bh sh,Inv X aa σ Ha sa->sh.os=sa.os->AllBare sh.gens->Lies X.prog X.w X.stack Ha sa H1 Bh sh.heap->Heap.FlyingW Bh X.stack a (.ref C) (.ref t) sh.heap->dz g H g1 H1->SR (P.kt X) g1 H1 σ { s1 with m:=s'.m }->Ex (.ref a) sh)) :
  wpAny (model X.prog X.w) X.A (eval (.Call (.Name x p) (e::es) [] pos) X.env) Q Ex s:=by
 obtain ⟨fa,fd,ps,F,hm,hk,hb⟩:=D.ex
 rw [eL,cy] at hs
 refine wpAny_Call_Name_kw (eT I hg hm ?_ gA)
 refine Ik (h₀:=X.base) I.ok.mod.kin hk (wpAny_mono (ha pos aa s σ H (fun vs H1=>∃ g1,dz g H g1 H1/\SR (P.kt X) g1 H1 σ s1/\aA (P.kt X) g1.al g1.HF ts vs) I ⟨g,ss,ts,s1,xr,h1,fun vs g1 H1 p1 x1 r1=>⟨g1,p1,x1,r1⟩⟩) (fun us sh ⟨vs,H1,I1,rv,g1,p1,x1,r1⟩=>⟨I1.gS,?_⟩) fun _ _ z=>by rw [Mb] at z;exact z.elim) (aB hs.1) (cV hs.2)
 have run:∀ (Q':VK) (E':XK),Ic (fP P X.K X.prog X.w) C f vs H1 Q' E'->codeAny (model X.prog X.w) X.A (.call (.ref fa) ⟨us,[]⟩) (CR (zf X.prog X.w C) X.stack X.prog X.w H1 sh Q' E') sh:=fun Q' E' sp=>by
  have hl:us.length=ps.length:=by rw [<- rv.length];exact F.len _ _ _ _ sp
  have EI:=hb sh us I1.gS (by rw [dR];exact hl)
  rw [dR] at EI
  exact F.run X.A X.stack sh H1 ⟨us,[]⟩ us vs Q' E' (hr.mono qz) I1.Rj EI rv sp
 rcases res with ⟨t,m',h2,q⟩ | ⟨c,fs,s',h2,q⟩
 ·refine wpAny_call (codeAny_mono (run (fun _ H2=>∃ g2,dz g1.ai H1 g2 H2/\dw (P.kt X) g2 H2 m') (fun _ _ _=>False) ⟨g1.ai,ts,s1.m,x1.st.ai,r1,.inl ⟨t,m',h2,fun v g' H' p2 y2 _=>⟨g',p2,y2⟩⟩⟩) fun r s' hq=>?_)
  cases r with
  | error e=>
   obtain ⟨_,_,_,_,_,_,_,_,_,z⟩:=hq
   exact z.elim
  | ok fo=>
   cases fo with
   | ret u=>
    obtain ⟨v,H2,I2,_,g2,p2,y2⟩:=I1.after hq
    obtain ⟨p3,x3⟩:=x1.back p2 y2
    exact q u s' _ H2 I2 (p1.trans p3) x3
   | next=>exact False.elim hq
   | brk=>exact False.elim hq
   | cont=>exact False.elim hq
 ·refine wpAny_call (codeAny_mono (run (fun _ _=>False) (fun _ _ H2=>∃ g2,dz g1.ai H1 g2 H2/\dw (P.kt X) g2 H2 s'.m) ⟨g1.ai,ts,s1.m,x1.st.ai,r1,.inr ⟨c,fs,s',h2,fun g' H' p2 y2=>⟨g',p2,y2⟩⟩⟩) fun r s2 hq=>?_)
  cases r with
  | error e=>
   obtain ⟨a,t,H2,Bh,rfl,ho,mf,L,Fl,g2,p2,y2⟩:=hq
   obtain ⟨p3,x3⟩:=x1.back p2 y2
   exact q a t H1 sh H2 _ Bh s2 I1 ho mf L Fl (p1.trans p3) x3
  | ok fo=>
   cases fo with
   | ret u=>
    obtain ⟨v,H2,I2,_,z⟩:=I1.after hq
    exact z.elim
   | next=>exact False.elim hq
   | brk=>exact False.elim hq
   | cont=>exact False.elim hq
theorem zj {A:FS}{o:Out}{s':S}(h:nQ f fl A ss=.ok (o,s')):∃ ts s1,fl ss=.ok (ts,s1)/\((∃ t m',f ts s1.m=.ok (t,m')/\o=.nx/\s'={ s1 with m:=m' })\/(∃ c fs s2,f ts s1.m=.exc c fs s2/\A { s1 with m:=s2.m }=.ok (o,s'))):=by
 obtain ⟨⟨ts,s1⟩,h1,h⟩:=af h
 refine ⟨ts,s1,qM h1,?_⟩
 dsimp only at h
 cases q:f ts s1.m with
 | ok r=>rw [q] at h;cases h;exact .inl ⟨r.1,r.2,rfl,rfl,rfl⟩
 | bad=>rw [q] at h;cases h
 | exc c fs s2=>rw [q] at h;exact .inr ⟨c,fs,s2,rfl,h⟩
theorem acB {a:Addr}{oe:Obj}{D:Ends}{f:Flow}{s':Shared}(ok:X.Ok) (h:SP (iF X a oe) aa D f s'):SP X aa D f s':=by
 cases f with
 | next=>obtain ⟨σ',H',I,q⟩:=h;exact ⟨σ',H',Inv.F2 ok I,q⟩
 | brk=>obtain ⟨σ',H',I,q⟩:=h;exact ⟨σ',H',Inv.F2 ok I,q⟩
 | cont=>obtain ⟨σ',H',I,q⟩:=h;exact ⟨σ',H',Inv.F2 ok I,q⟩
 | ret u=>obtain ⟨v,σ',H',I,r,q⟩:=h;exact ⟨v,σ',H',Inv.F2 ok I,r,q⟩
theorem Vm {st:Stmt}{eY:List Stmt}{FA:FS}(Mb:X.xe=fun _ _=>False) (D:DnX P X.prog X.w X.K X.mg X.base C k x f) (hr:bB j X.A) (qz:k<=j) (ha:PA X (e::es) (tA (P.kt X) fl)) (hg:Gl X x) (gA:a_ x) (hs:(e::es).all noStar=true)
  (hm:X.mg y=some (.ref CB)) (hxm:yc X.K (.ref C) (.ref CB)=some true) (hgy:Gl X y) (Ie:a_ y)
  (hsu:∀ a oe,fD (iF X a oe) (st::eY) (tS (P.kt X) FA)) (yo:X.stack=X.env::X.outer) (Oq:X.env.frame=some X.env.locals) :
  PS X (.Try [.Expr (.Call (.Name x p) (e::es) [] pos) cQ] [.ExceptHandler (some (.Name y np)) none (st::eY) Vl] [] [] ir) (tS (P.kt X) (nQ f fl FA)):=by
 rintro aa s σ H Dn I ⟨g,ss,o,s',xr,h,kk⟩
 obtain ⟨ts,s1,h1,h⟩:=zj h
 rw [Mb]
 refine wpAny_Try_except (wpAny_execs_cons (wpAny_Expr_any (uo (p:=p) Mb D hr qz ha hg gA hs I xr h1 ?_) I.quiet rfl))
 rcases h with ⟨t,m',h2,rfl,rfl⟩ | ⟨c,fs,s2,h2,h3⟩
 ·refine .inl ⟨t,m',h2,fun v sh g' H' I' p' x'=>?_⟩
  exact wpAny_execs_nil (wpAny_execs_nil ⟨σ,H',I',kk σ g' H' p' x'⟩)
 ·refine .inr ⟨c,fs,s2,h2,fun a t Ha sa H1 g1 Bh sh Ia ho mf L Fl p1 x1=>?_⟩
  refine F3 (nm:=none) Ia yo Oq ho mf L Fl hm hxm (fun h5 L5 F5=>Vj Ia ho mf L5 F5 fun oe s6 _ I6=>?_) hgy Ie
  exact wpAny_mono (hsu a oe aa s6 σ H1 Dn I6 ⟨g1,_,o,s',x1,h3,kk.mv p1⟩) (fun f s7 q=>acB I.ok q) fun _ _ z=>z
end
section
variable {a:Addr}{oe:Obj}
theorem Vn (Z:nP X.K C) (hc:oe.cls=.ref C):er (iF X a oe) (.builtin "isinstance") (fun vs H Q=>∃ c b,vs=[.ref a,.ref c]/\gp X.K (.ref C) (.ref c)=some b/\Q (.bl b) H):=by
 rintro aa s σ H vs us Q I r ⟨c,b,rfl,L_,q⟩
 cases r with
 | cons r1 r=>
  cases r with
  | cons r2 r=>
   cases r
   cases (show _=Value.ref a from r1)
   cases (show _=Value.ref c from r2)
   exact jF (ug Z hc) I.gS (I.pin (a,oe) (by simp)).1 L_ (fun z=>nomatch z) fun tk=>⟨.bl b,H,I.tok tk,rfl,q⟩
theorem Mm (Z:nP X.K C) (hc:oe.cls=.ref C):er (iF X a oe) (.builtin "isinstance") (fun vs H Q=>∃ c b,vs=[.ref a,.ty c]/\gp X.K (.ref C) (.type c)=some b/\Q (.bl b) H):=by
 rintro aa s σ H vs us Q I r ⟨c,b,rfl,L_,q⟩
 cases r with
 | cons r1 r=>
  cases r with
  | cons r2 r=>
   cases r
   cases (show _=Value.ref a from r1)
   cases (show _=Value.type c from r2)
   exact jF (ug Z hc) I.gS (I.pin (a,oe) (by simp)).1 L_ (fun z=>nomatch z) fun tk=>⟨.bl b,H,I.tok tk,rfl,q⟩
def tEi (i:Nat) (a:Addr) (b:Bool):TE:=fun σ H Q=>σ[i]?=some (some (.ref a))/\Q (.bl b) H
def Vo (i:Nat) (a:Addr) (bs:List Bool):TA:=fun σ H Q=>σ[i]?=some (some (.ref a))/\Q (bs.map V.bl) H
variable {pn py:Pos}{b:Bool}{Dc:Addr}{T:String}
theorem Vp (Z:nP X.K C) (hc:oe.cls=.ref C) (L_:gp X.K (.ref C) (.ref Dc)=some b) (WS:X.mg "isinstance" = none) (hD:X.mg y=some (.ref Dc)) (hN:X.N[i]?=some n:=by rfl) (hv:nq X.env.scope n:=by first | exact Or.inl rfl | exact Or.inr (Or.inl rfl) | exact Or.inr (Or.inr rfl))
  (hd:a_ n:=by decide) (fH:e_ n:=by decide) (Ie:a_ y:=by decide) (hg:Gl X "isinstance" := by rfl) (H0:Gl X y:=by rfl)
  (hs:starEach [.Name n pn,.Name y py] X.env=(false,eval (.Name n pn) X.env)::starEach [.Name y py] X.env:=by rfl) (vK:starEach [.Name y py] X.env=(false,eval (.Name y py) X.env)::starEach [] X.env:=by rfl)
  (hpl:(backTo pos (starEach [.Name y py] X.env)).any (·.1)=false:=by rfl) :
  PE (iF X a oe) (.Call (.Name "isinstance" p) [.Name n pn,.Name y py] [] pos) (tEi i a b):=
 a9 (dN (X:=iF X a oe) (Vn Z hc) hg WS C6 (bj (bS hN hv hd fH) (bj (kP (v:=.ref Dc) H0 hD rfl Ie) cZ vK) hs) (he:=hs) (hpl:=hpl)) fun σ H Q ⟨h1,h2⟩=>⟨.ref a,h1,Dc,b,rfl,L_,h2⟩
theorem Mn (Z:nP X.K C) (hc:oe.cls=.ref C) (L_:gp X.K (.ref C) (.type T)=some b) (WS:X.mg "isinstance" = none) (hD:X.mg y=none) (hb:bootBuiltins y=some (.type T)) (hN:X.N[i]?=some n:=by rfl) (hv:nq X.env.scope n:=by first | exact Or.inl rfl | exact Or.inr (Or.inl rfl) | exact Or.inr (Or.inr rfl))
  (hd:a_ n:=by decide) (fH:e_ n:=by decide) (Ie:a_ y:=by decide) (hny:y ≠ "__name__" := by decide) (hg:Gl X "isinstance" := by rfl) (H0:Gl X y:=by rfl)
  (hs:starEach [.Name n pn,.Name y py] X.env=(false,eval (.Name n pn) X.env)::starEach [.Name y py] X.env:=by rfl) (vK:starEach [.Name y py] X.env=(false,eval (.Name y py) X.env)::starEach [] X.env:=by rfl)
  (hpl:(backTo pos (starEach [.Name y py] X.env)).any (·.1)=false:=by rfl) :
  PE (iF X a oe) (.Call (.Name "isinstance" p) [.Name n pn,.Name y py] [] pos) (tEi i a b):=
 a9 (dN (X:=iF X a oe) (Mm Z hc) hg WS C6 (bj (bS hN hv hd fH) (bj (ym H0 hD hb (v:=.ty T) rfl hny Ie) cZ vK) hs) (he:=hs) (hpl:=hpl)) fun σ H Q ⟨h1,h2⟩=>⟨.ref a,h1,T,b,rfl,L_,h2⟩
variable {bs:List Bool}
theorem Vq:PA (iF X a oe) [] (Vo i a []):=yG cZ fun _ _ _ h=>h.2
theorem Mp (h:PE (iF X a oe) e (tEi i a b)) (hr:PA (iF X a oe) es (Vo i a bs)) (hs:starEach (e::es) X.env=(false,eval e X.env)::starEach es X.env:=by rfl):PA (iF X a oe) (e::es) (Vo i a (b::bs)):=
 yG (bj h hr hs) fun _ _ _ ⟨h1,h2⟩=>⟨h1,h1,h2⟩
def tSu (i j:Nat) (a:Addr) (bs:List Bool):TS:=fun E σ H=>σ[i]?=some (some (.ref a))/\j<σ.length/\j≠i/\∀ l H1,(∀ HF,aP HF H->Gr HF H HF H1)->H l=none->H1 l=some (.lst (bs.map V.bl))->E.nx (σ.set j (some (.ref l))) H1
theorem Vr {x:Str}{p1 p2 p3 p4 p5 q1 q2 q3 q4 q5 r1 r2 r3:Pos}{es1 es2 WC:List Expr}{b1 b2 b3:List Bool}(hN:X.N.Nodup) (hj:X.N[j]?=some x) (hx:Loc X.env.scope x) (h1:PA (iF X a oe) es1 (Vo i a b1)) (h2:PA (iF X a oe) es2 (Vo i a b2)) (h3:PA (iF X a oe) WC (Vo i a b3)) (hz:b1.length+b2.length+b3.length<=1000)
  (hv:nq X.env.scope x:=by first | exact Or.inl rfl | exact Or.inr (Or.inl rfl) | exact Or.inr (Or.inr rfl)) (hd:a_ x:=by decide) (fH:e_ x:=by decide)
  (hs1:swapsWith (.List es1 q1) (some (.Name x p1)) r1.line X.env=pure false:=by rfl) (vK:swapsWith (.BinOp (.Name x p3) .Add (.List es2 q2) q3) (some (.Name x p2)) r2.line X.env=pure false:=by rfl) (XQ:swapsWith (.BinOp (.Name x p5) .Add (.List WC q4) q5) (some (.Name x p4)) r3.line X.env=pure false:=by rfl)
  (hf:X.fn x=true\/X.env.scope.names.lookup x=some .local:=by first | exact .inl rfl | exact .inr rfl | assumption) :
  fD (iF X a oe) [.Assign [.Name x p1] (.List es1 q1) r1,.Assign [.Name x p2] (.BinOp (.Name x p3) .Add (.List es2 q2) q3) r2,.Assign [.Name x p4] (.BinOp (.Name x p5) .Add (.List WC q4) q5) r3] (tSu i j a (b1++b2++b3)):=by
 refine lT (gz (jI (X:=iF X a oe) hN hj hx (lG h1) hs1 hf) (gz (jI (X:=iF X a oe) hN hj hx (nY vU (bS hj hv hd fH) (lG h2)) vK hf) (kQ (jI (X:=iF X a oe) hN hj hx (nY vU (bS hj hv hd fH) (lG h3)) XQ hf)))) ?_
 intro D σ H ⟨he,WK,WT,k⟩
 have hz':1000<=sizeLine:=by decide
 have acC:∀ v,(σ.set j v)[i]?=some (some (.ref a)):=fun v=>by rw [gh WT];exact he
 refine ⟨he,by rw [dg];omega,fun l1 n1=>?_⟩
 refine ⟨.ref l1,gq WK,acC _,by rw [dg];omega,fun l2 n2=>?_⟩
 have afq:l1≠l2:=by rintro rfl;rw [ak] at n2;cases n2
 refine ⟨l1,l2,_,_,rfl,rfl,by rw [ao afq];exact ak,ak,by rw [dg,dg];omega,fun l3 n3=>?_⟩
 have afr:j<(σ.set j (some (V.ref l1))).length:=by rw [ic];exact WK
 refine ⟨.ref l3,gq afr,?_,by rw [dg];omega,fun l4 n4=>?_⟩
 ·rw [gh WT];exact acC _
 have afs:l3≠l4:=by rintro rfl;rw [ak] at n4;cases n4
 refine ⟨l3,l4,_,_,rfl,rfl,by rw [ao afs];exact ak,ak,by rw [bL,dg,dg,dg];omega,fun l5 n5=>?_⟩
 show D.nx (((σ.set j (some (.ref l1))).set j (some (.ref l3))).set j (some (.ref l5))) _
 rw [CJ,CJ]
 refine k l5 _ (fun HF sm=>?_) ?_ (by rw [ak,rJ,rJ])
 ·have g1:=Gr.nN (o:=.lst (b1.map V.bl)) sm n1
  have g2:=g1.trans (Gr.nN (o:=.lst (b2.map V.bl)) g1.sub n2)
  have g3:=g2.trans (Gr.nN (o:=.lst (b1.map V.bl++b2.map V.bl)) g2.sub n3)
  have g4:=g3.trans (Gr.nN (o:=.lst (b3.map V.bl)) g3.sub n4)
  exact g4.trans (Gr.nN (o:=.lst (b1.map V.bl++b2.map V.bl++b3.map V.bl)) g4.sub n5)
 ·exact ((aS n1).trans ((aS n2).trans ((aS n3).trans (aS n4)))).free n5
end
def XiF (K:bg) (mg:Str->Option Value) (C:Addr) (y:Str) (b:Bool):Prop:=a_ y/\((∃ D,mg y=some (.ref D)/\gp K (.ref C) (.ref D)=some b)\/∃ T,mg y=none/\bootBuiltins y=some (.type T)/\y ≠ "__name__" /\ gp K (.ref C) (.type T)=some b)
section
variable {a:Addr}{oe:Obj}{pn py:Pos}{b:Bool}
theorem Vs (Z:nP X.K C) (hc:oe.cls=.ref C) (F:XiF X.K X.mg C y b) (WS:X.mg "isinstance" = none) (hN:X.N[i]?=some n) (hv:nq X.env.scope n) (hd:a_ n) (fH:e_ n) (hg:Gl X "isinstance") (H0:Gl X y) :
  PE (iF X a oe) (.Call (.Name "isinstance" p) [.Name n pn,.Name y py] [] pos) (tEi i a b):=by
 obtain ⟨Ie,⟨D,h1,h2⟩ | ⟨T,h1,h2,h3,h4⟩⟩:=F
 ·exact Vp Z hc h2 WS h1 hN hv hd fH Ie hg H0
 ·exact Mn Z hc h4 WS h1 h2 hN hv hd fH Ie h3 hg H0
end
theorem zk {B:KT}{al:List Addr}{HF:Hp}:∀ bs:List Bool,aA B al HF (bs.map T.bl) (bs.map V.bl)
 | []=>rfl
 | b::bs=>⟨_,_,rfl,rfl,zk bs⟩
section
variable {P:Pg}{CB:Addr}{k jr:Nat}{x:Str}{f:Fn}{fl:FL}{cQ ir np Vl:Pos}{bs:List Bool}
theorem SR.slot {B:KT}{g:G}{H:Hp}{σ:L2.St}{s:S}(x:SR B g H σ s) (hi:s.r[i]?=some none) (w:Option V):SR B g H (σ.set i w) s:=
 ⟨x.st,by rw [ic];exact x.lc.len,fun m c h=>by
  have:i≠m:=fun z=>by rw [z,h] at hi;cases hi
  rw [gh this]
  exact x.lc.at_ m c h⟩
theorem Mq {st:Stmt}{eY:List Stmt}(Mb:X.xe=fun _ _=>False) (D:DnX P X.prog X.w X.K X.mg X.base C k x f) (hr:bB jr X.A) (qz:k<=jr) (ha:PA X (e::es) (tA (P.kt X) fl)) (hg:Gl X x) (gA:a_ x) (hs:(e::es).all noStar=true)
  (hm:X.mg y=some (.ref CB)) (hxm:yc X.K (.ref C) (.ref CB)=some true) (hgy:Gl X y) (Ie:a_ y)
  (hN:X.N.Nodup) (hi:X.N[i]?=some n) (hj:j<X.N.length) (WT:j≠i) (hk:X.env.scope.names.lookup n=some .local)
  (hsu:∀ a oe,oe.cls=.ref C->fD (iF X a oe) (st::eY) (tSu i j a bs)) (yo:X.stack=X.env::X.outer) (Oq:X.env.frame=some X.env.locals) :
  PS X (.Try [.Expr (.Call (.Name x p) (e::es) [] pos) cQ] [.ExceptHandler (some (.Name y np)) (some n) (st::eY) Vl] [] [] ir) (tS (P.kt X) (nQ f fl (zh i j bs))):=by
 rintro aa s σ H Dn I ⟨g,ss,o,s',xr,h,kk⟩
 obtain ⟨ts,s1,h1,h⟩:=zj h
 rw [Mb]
 refine wpAny_Try_except (wpAny_execs_cons (wpAny_Expr_any (uo (p:=p) Mb D hr qz ha hg gA hs I xr h1 ?_) I.quiet rfl))
 rcases h with ⟨t,m',h2,rfl,rfl⟩ | ⟨c,fs,s2,h2,h3⟩
 ·refine .inl ⟨t,m',h2,fun v sh g' H' I' p' x'=>?_⟩
  exact wpAny_execs_nil (wpAny_execs_nil ⟨σ,H',I',kk σ g' H' p' x'⟩)
 ·refine .inr ⟨c,fs,s2,h2,fun a t Ha sa H1 g1 Bh sh Ia ho mf L Fl p1 x1=>?_⟩
  have hρ:s1.r[i]?=some none/\o=.nx/\s'=iE { s1 with m:=s2.m } j (.val (.lst (bs.map .bl))):=by
   unfold zh at h3
   split at h3
   ·rename_i q
    cases h3
    exact ⟨q,rfl,rfl⟩
   ·cases h3
  obtain ⟨hρi,rfl,rfl⟩:=hρ
  refine F3 (nm:=some n) Ia yo Oq ho mf L Fl hm hxm (fun h5 L5 F5=>Mj Ia ho mf hN hi hk L5 F5 fun oe s6 hco I6=>?_) hgy Ie
  have WK:j<σ.length:=by rw [I.len];exact hj
  refine wpAny_mono (hsu a oe hco aa s6 (σ.set i (some (.ref a))) H1 { nx:=fun σ8 H8=>∀ s9,Inv X aa (σ8.set i none) H8 s9->SP X aa Dn .next s9,rt:=fun _ _=>False } I6 ⟨gq (by rw [I.len];exact (du.mp hi).1),by rw [ic];exact WK,WT,fun l H2 gr nl hl s9 I9=>?_⟩) (fun f s8 q=>?_) fun _ _ z=>z
  ·refine ⟨_,H2,I9,?_⟩
   have g2:=gr g1.HF x1.sub
   have x2:=x1.grow g2
   have no:g1.o l=none:=by
    cases q:g1.o l with
    | none=>rfl
    | some p=>obtain ⟨_,u,z⟩:=x1.st.live l p q;rw [nl] at z;cases z
   have hf:g1.HF l=none:=x1.sub.free nl
   have x3:=x2.xf (l:=l) hf no hl
   have p3:=(p1.trans (x1.nz g2)).xf (l:=l) (u:=.lst (bs.map V.bl)) (p1.there l nl) hf
   have x4:=(x3.set (i:=j) (t:=.lst (bs.map .bl)) (v:=.ref l) ⟨l,_,rfl,ak,zk bs⟩).slot (i:=i) (by show (s1.r.set j _)[i]?=_;rw [gh WT];exact hρi) none
   have e1:((σ.set i (some (.ref a))).set j (some (.ref l))).set i none=(σ.set j (some (.ref l))).set i none:=by
    have c:(σ.set i (some (V.ref a))).set j (some (V.ref l))=(σ.set j (some (V.ref l))).set i (some (V.ref a)):=List.set_comm _ _ (Ne.symm WT)
    rw [c,CJ]
   rw [e1]
   exact kk _ _ H2 p3 x4
  ·cases f with
   | next=>
    obtain ⟨σ8,H8,I8,q⟩:=q
    exact ⟨σ8,H8,I8,q⟩
   | brk=>obtain ⟨_,_,_,q⟩:=q;exact q.elim
   | cont=>obtain ⟨_,_,_,q⟩:=q;exact q.elim
   | ret u=>obtain ⟨_,_,_,_,_,q⟩:=q;exact q.elim
end
end D
namespace L2
open PySem PySem.Spec PyProof.Rows
section
variable {X:Cx}
def Mr:V->List V->Hp->VK->Prop:=fun x vs H Q=>∃ l xs i y,x=.ref l/\vs=[.int i,y]/\H l=some (.lst xs)/\0<=i/\i<=xs.length/\xs.length<sizeLine/\Q .non (upd H l (.lst (xs.take i.toNat++y::xs.drop i.toNat)))
theorem BE:MtM X "list.insert" Mr:=by
 intro aa s σ H x vs v us Q I rx rv h
 obtain ⟨l,xs,i,y,rfl,rfl,hH,h0,hi,hz,q⟩:=h
 cases rx
 obtain ⟨u,w,rfl,ru,I_⟩:=rv.two
 obtain ⟨t,rfl⟩:=ru
 obtain ⟨z,its,n,r,hl,e⟩:=I.DF hH
 have hs:sizeLine=16777216:=sizeLine_eq
 have hf:Builtin.List.listFitsIndex i=true:=fitsIndex_both (by omega) (by omega)
 refine call_meets F.slot_list_insert ⟨_,e,rfl⟩ F.entry_list_insert (F.args_list_insert_3 _ _ _) (PySem.AutoSeq1.list_insert_list_int_val_1 l its.toArray n i t w (by simp [hf]) (by rw [bQ];omega)) ⟨e,?_⟩
 refine ⟨.non,_,I.XH (its':=its.take i.toNat++w::its.drop i.toNat) hH e ?_ ((r.take _).append (.cons I_ (r.drop _))) ?_,rfl,q⟩
 ·have hk:(if i<0 then (i+(its.toArray.size:Int)).toNat else min i.toNat its.toArray.size)=i.toNat:=by
   rw [if_neg (by omega),bQ];omega
  show (its.toArray.extract 0 _).push w++its.toArray.extract _=_
  rw [hk]
  apply Array.ext'
  simp
  rw [yd (by rw [vt];exact dU _)]
 ·simp;omega
end
end L2
namespace D
open PySem L2
def nR (i:Nat) (fl:FL):FS:=fun s=>(cT (iZ s.r[i]?)).bind fun _=>(fl s).bind fun p=>(cT (iZ p.2.r[i]?)).bind fun ts=>match p.1 with
 | [.int k,t]=>(cT (gd (0<=k/\k<=ts.length/\ts.length<1000000) ())).bind fun _=>.ok (.nx,iE p.2 i (.ol (ts.take k.toNat++t::ts.drop k.toNat)))
 | _=>.bad
section
variable {B:KT}{X:Cx}{e a b:Expr}{pos p py cP cQ:Pos}{fa:FE}{fl:FL}{y:Str}{i:Nat}
theorem acD (he:PA X [a,b] (tA B fl)) (hN:X.N[i]?=some y) (hv:nq X.env.scope y) (hd:a_ y) (fH:e_ y) (hs:[a,b].all noStar=true) (lH:(cP.endLine == cQ.line)=true) :
  PS X (.Expr (.Call (.Attribute (.Name y py) "insert" cP) [a,b] [] cQ) pos) (tS B (nR i fl)):=by
 have Ax:=hs
 rw [eL,cy] at Ax
 refine c8 (pI (DE PySem.F.plainAttrs_list PySem.F.slot_list_insert PySem.F.type_list_insert BE (bS hN hv hd fH) he (jh rfl) (vp hs (by show 1<29;decide)) lH (aB Ax.1) (cV Ax.2)) rfl) fun D σ H z=>?_
 obtain ⟨g,s,o,s',x,h,k⟩:=z
 obtain ⟨us,e0,h⟩:=af h
 obtain ⟨⟨l,s1⟩,e1,h⟩:=af h
 obtain ⟨ts,e2,h⟩:=af h
 dsimp only at h
 match l,h,e1 with
 | [.int kk,t],h,e1=>
  obtain ⟨_,e3,h⟩:=af h
  obtain ⟨⟨z1,z2,z3⟩,_⟩:=bH (au e3)
  cases h
  obtain ⟨l0,vs0,q1,q2,q3,q4⟩:=x.qA (eX (au e0))
  refine ⟨_,q1,.inl ⟨rfl,_,cY.of q3⟩,g,s,_,s1,x,e1,fun v g1 H1 p1 x1 r1=>?_⟩
  obtain ⟨v1,r,rfl,r1,r2⟩:=r1
  obtain ⟨v2,r,rfl,r2,r3⟩:=r2
  cases (show r=[] from r3)
  cases (show v1=.int kk from r1)
  have ho:=eX (au e2)
  obtain ⟨l,vs,w1,w2,w3,w4⟩:=x1.qA ho
  rw [q1] at w1;cases w1
  obtain ⟨x2,p2⟩:=x1.chg (ts':=ts.take kk.toNat++t::ts.drop kk.toNat) (vs':=vs.take kk.toNat++v2::vs.drop kk.toNat) ho q1 (aA.app (w4.take kk.toNat) ⟨v2,_,rfl,r2,w4.drop kk.toNat⟩)
  have hl:=w4.len
  exact ⟨l0,vs,kk,v2,rfl,rfl,w3,z1,by rw [<- hl];exact z2,by rw [<- hl,sizeLine_eq];omega,k σ g1 _ (p1.trans p2) x2⟩
def mh (i:Nat):FE:=fun s=>match s.r[i]? with
 | some (some (.ol ts))=>.ok (.int ts.length,s)
 | some (some (.val (.lst ts)))=>.ok (.int ts.length,s)
 | _=>.bad
theorem Vt (hB:B.K=X.K) {px:Pos}(hN:X.N[i]?=some y) (hv:nq X.env.scope y) (hd:a_ y) (fH:e_ y) (hg:Gl X "len") (hm:X.mg "len" = none) :
  PE X (.Call (.Name "len" p) [.Name y px] [] pos) (tE B (mh i)):=by
 refine a9 (dN lE hg hm PySem.boot_len (bj (bS hN hv hd fH) cZ rfl) (he:=rfl) (hpl:=rfl)) fun σ H Q z=>?_
 obtain ⟨g,s,t,s',x,h,k⟩:=z
 unfold mh at h
 split at h
 ·rename_i ts h1
  cases h
  obtain ⟨l,vs,w1,w2,w3,w4⟩:=x.qA h1
  exact ⟨_,w1,_,_,rfl,.inl ⟨vs,cY.of w3,w4.len⟩,k _ g H .refl x rfl⟩
 ·rename_i ts h1
  cases h
  obtain ⟨v,w1,l,vs,rfl,w3,w4⟩:=x.lc.at_ _ _ h1
  exact ⟨_,w1,_,_,rfl,.inl ⟨vs,cY.of (x.sub _ _ w3),w4.len⟩,k _ g H .refl x rfl⟩
 ·cases h
end
section
variable {prog:Program}{w:World}{A:Around}{E:Value->Shared->Prop}{s:Shared}
theorem oK {it l:Addr}{items:Array Value}(gC:l≠it):∀ (n i:Nat) (s:Shared) (Q:List Value->Shared->Prop),s.heap.IsListIter it l i->s.heap.IsList l items->i+n<=items.size ->
  (∀ h':Heap,h'.IsListIter it l (i+n)->Heap.SameBut it s.heap h'->Q ((items.toList.drop i).take n) { s with heap:=h' })->wpAny (model prog w) A (draw (.ref it) n) Q E s
 | 0,i,s,Q,hit,_,_,hQ=>by
  show wpAny _ _ (pure []) Q E s
  exact wpAny_pure (by simpa using hQ s.heap hit (Heap.SameBut.refl ..))
 | n+1,i,s,Q,hit,ht,hle,hQ=>by
  have fF:i<items.size:=by omega
  show wpAny _ _ (pyNext (.ref it) >>= _) Q E s
  refine wpAny_bind (wpAny_pyNext_list_item hit ht (x:=items[i]) (by simp [fF]) fun h₁ hit₁ hs₁=>?_)
  refine wpAny_bind (wpAny_holding (oK gC n (i+1) _ _ hit₁ (ht.extBut hs₁.extBut gC) (by omega) fun h₂ hit₂ hs₂=>wpAny_pure ?_))
  have hd:items.toList.drop i=items[i]::items.toList.drop (i+1):=by simp [ye,fF]
  have:=hQ h₂ (by rw [show i+(n+1)=i+1+n by omega];exact hit₂) (hs₁.trans hs₂)
  rw [hd,CK] at this
  exact this
theorem jW {l:Addr}{items:Array Value}{Q:List Value->Shared->Prop}(hh:A.handled=none) (ht:s.heap.IsList l items)
  (hQ:∀ h':Heap,Heap.ExtBut s.heap.objs.size s.heap h'->Q items.toList { s with heap:=h' }):wpAny (model prog w) A (unpackItems (.ref l) items.size none) Q E s:=by
 have fF:l≠s.heap.objs.size:=by obtain ⟨o,ho,_⟩:=ht;exact dh (Heap.lt_size ho)
 unfold unpackItems
 refine wpAny_bind ?_
 ·unfold notIterableAtAll
  refine wpAny_bind (wpAny_specialOf ht.typeIs slot_list_iter.lookup ?_)
  refine wpAny_pure ?_
  simp only [vA,if_false]
  refine wpAny_bind (wpAny_holding (wpAny_pyIter_list ht ?_))
  refine wpAny_bind (wpAny_holding (oK fF items.size 0 _ _ ⟨_,Heap.get?_push_size _ rfl,rfl,rfl⟩ (ht.push _) (by omega) fun h₁ hit₁ hs₁=>?_))
  have Rr:yf items.size (List.drop 0 items.toList)=items.toList:=by
   rw [Ac];exact yd (by simp)
  rw [Rr]
  rw [if_neg (by simp)]
  have ht₁:h₁.IsList l items:=(ht.push _).extBut hs₁.extBut fF
  refine wpAny_bind (wpAny_holding (wpAny_pyNext_list_end hh hit₁ ht₁ (by simp) fun h₂ he₂=>?_))
  simp only [Option.isSome_none,vA,if_false]
  refine wpAny_pure (hQ h₂ fun b o hb e=>he₂ b o hb (hs₁.extBut b o hb (Heap.get?_push_of_some _ e)))
theorem jk {env:Env}{elts:List Expr}{x1}{pos:Pos}{l:Addr}{items:Array Value}{Q:Unit->Shared->Prop}(hh:A.handled=none) (ht:s.heap.IsList l items)
  (hn:(assignEach elts env).length=items.size) (acE:(assignEach elts env).findIdx? (·.1)=none)
  (h:∀ h':Heap,Heap.ExtBut s.heap.objs.size s.heap h'->wpAny (model prog w) A (assignInOrder ((assignEach elts env).map (·.2)) items.toList) Q E { s with heap:=h' }) :
  wpAny (model prog w) A (assign (.Tuple elts x1 pos) env (.ref l)) Q E s:=by
 rw [PyProof.Rows.assign_Tuple]
 refine wpAny_bind (wpAny_standAt ?_)
 unfold unpack
 rw [hn,acE]
 exact wpAny_bind (wpAny_holding (jW hh ht h))
end
section
variable {X:Cx}{pos:Pos}
def acF (K:bg) (n:Nat) (t:Hz):TG:=fun v σ H Q=>∃ a xs,v=.ref a/\cY K H a xs/\xs.length=n/\t xs σ H Q
theorem Vu {es:List Expr}{k:Nat}{t:Hz}{n:Nat}(hc:X.calm=true) (h:Wz X es t)
  (hn:(assignEach es X.env).length=n:=by rfl) (yo:(assignEach es X.env).findIdx? (·.1)=none:=by rfl):PG X (.Tuple es k pos) (acF X.K n t):=by
 intro aa s σ H v u Q I r hw
 obtain ⟨a,xs,e1,hq,hl,hw⟩:=hw
 subst e1
 cases r
 obtain ⟨its,rv,ht,hz⟩:=I.list hq
 refine jk (I.ok.hd hc) ht.isList (by simp [hn,<- hl,rv.length]) yo fun h' hx=>?_
 have I1:Inv X aa σ H { s with heap:=h' }:=I.kept (t':=s.toks) fun b o e=>hx b o (dh (Heap.lt_size e)) e
 exact h aa _ σ H xs _ Q I1 (by simpa using rv) hw
def F7 (is:List Nat):FG:=fun t r=>match t with
 | .lst ts=>ou is ts r
 | _=>none
theorem Vv {B:KT}(is:List Nat) {n:Nat}(hn:is.length=n:=by rfl):nO B (acF B.K n (jT is)) (F7 is) is:=⟨fun al HF H σ ρ t v ρ' Q sm r h hl q=>by
 cases t<;>first | (cases h;done) | skip
 rename_i ts
 obtain ⟨a,vs,rfl,q1,r⟩:=r
 have cL:∀ (is:List Nat) (ts:List T) (ρ:List (Option C)),ou is ts ρ=some ρ'->is.length=ts.length:=by
  intro is
  induction is with
  | nil=>intro ts ρ h;cases ts with
   | nil=>rfl
   | cons=>cases h
  | cons i is ih=>intro ts ρ h;cases ts with
   | nil=>cases h
   | cons t ts=>simp [ih ts _ h]
 exact ⟨a,vs,rfl,cY.of (sm _ _ q1),by rw [<- r.len,<- cL _ _ _ h,hn],jU is HF H σ ρ ts vs ρ' Q sm r h hl q⟩⟩
end
end D
namespace D
open PySem
structure Lc where
 N:List Str
 sc:Scope
 mu:List Str
inductive Ck where
 | fz (c n:Nat) | z0 (c:Nat) | cp (c:Nat) | nw (c i:Nat)
structure Gm where
 P:Pg
 cs:List (Str × T)
 fs:List (Str × List T × Nat)
 cl:List (Str × Ck)
 ms:List (Str × List (Nat × Nat))
 bl:List Str
 bx:List Str:=[]
 yg:List Str:=[]
 lv:List Str:=[]
 lu:List Str:=[]
 xc:Str := ""
 xs:List (Str × Nat):=[]
 xi:List (Str × Bool):=[]
 xm:List Str:=[]
def jE (N:List Str) (x:Str):Option Nat:=N.idxOf? x
def jl (x:Str):Bool:=x == ("__debug__" : Str) || x == ("__classdict__" : Str)
def fk (L:Lc) (x:Str):Bool:=match L.sc.names.lookup x with
 | some .local=>!jl x
 | some .cell=>!jl x
 | _=>false
def vq (L:Lc) (x:Str):Bool:=decide (L.sc.names.lookup x=some .globalImplicit)&&!jl x
def fY:Expr->Option Const
 | .Constant c _ _=>some c
 | _=>none
def Ms:Expr->Option (Expr × Int × Option Expr)
 | .FormattedValue a i o _=>some (a,i,o)
 | _=>none
def jm (e:Expr):Option Str:=match fY e with
 | some (.str x)=>some x
 | _=>none
structure Rc where
 E:Lc->Expr->FE
 T:Lc->Expr->FT
 I:Lc->Expr->Expr->FL
 O:Lc->Expr->FL
def dZ:List FE->FL
 | []=>cA
 | a::r=>cj a (dZ r)
def Vw:List FE->FE
 | []=>bw
 | [a]=>a
 | a::r=>Ur a (Vw r)
def F8:List FE->FE
 | []=>bw
 | [a]=>a
 | a::r=>jO a (F8 r)
def Vx:List FT->FT
 | []=>nM
 | [a]=>a
 | a::r=>nu a (Vx r)
def F9:List FT->FT
 | []=>nM
 | [a]=>a
 | a::r=>iY a (F9 r)
def F_ (sc outer:Scope):Scope:={ sc with names:=sc.names.map fun (n,k)=>if (k == NameKind.free&&outer.kind == .function&&outer.names.lookup n == some .cell) then (n,NameKind.cell) else (n,k) }
def locals (sc:Scope):List Str:=sc.names.filterMap fun p=>if p.2=.local then some p.1 else none
def frees (sc:Scope):List Str:=sc.names.filterMap fun p=>if p.2=.free then some p.1 else none
def idxs (N:List Str):List Str->Option (List Nat)
 | []=>some []
 | x::xs=>(jE N x).bind fun i=>(idxs N xs).map (i::·)
def Vy (L:Lc) (sc:Scope):Bool:=decide (sc.kind=.function)&&sc.names.all (fun p=>decide (p.2≠.cell)&&(decide (p.2=.local)->decide (sc.names.lookup p.1=some .local))&&(decide (p.2=.free)->(decide (sc.names.lookup p.1=some .free)&&decide (L.sc.names.lookup p.1=some .cell))))&&decide (L.sc.kind=.function)
def WU (N:List Str) (ok:Str->Bool):Expr->Option (FG × List Nat)
 | .Name x _=>if ok x then (jE N x).map fun i=>(setG i,[i]) else none
 | .Tuple es _ _=>(namesOf es).bind fun xs=>if xs.all ok then (idxs N xs).map fun is=>(ia is,is) else none
 | _=>none
def isSet:Expr->Bool
 | .Set _ _ _=>true
 | _=>false
def Qi (r:Rc) (L:Lc):List Expr->FT
 | []=>cC
 | [c]=>r.T L c
 | _=>nM
def Ga (L:Lc) (sc:Scope):Lc:=⟨locals sc++frees sc,F_ sc L.sc,[]⟩
def mi (r:Rc) (L:Lc) (elt:Expr) (q:Comprehension) (sc:Scope):FL:=if q.is_async=0/\(Vy L sc&&decide ((locals sc++frees sc).Nodup)&&!isSet q.iter&&decide (q.ifs.length<=1))=true then (match idxs L.N (frees sc),WU (locals sc) (fun x=>decide (sc.names.lookup x=some .local)) q.target with
  | some js,some (g,_)=>bo (r.I L q.target q.iter) (locals sc).length js g (Qi r (Ga L sc) q.ifs) (r.E (Ga L sc) elt)
  | _,_=>iX) else iX
def oN (r:Rc) (L:Lc):Expr->FL
 | .ListComp elt gs sc _=>(match gs with
  | [g]=>mi r L elt g sc
  | _=>iX)
 | _=>iX
def Vz (r:Rc) (L:Lc):Option Expr->FO
 | none=>ny
 | some e=>g9 (r.E L e)
def isSlice:Expr->Bool
 | .Slice _ _ _ _=>true
 | _=>false
def uq (M:Gm) (L:Lc):List Str->Option (List Nat)
 | []=>some []
 | y::ys=>if vq L y&&((jE M.P.cn y).bind fun d=>M.P.fn[d]?).isSome then (jE M.P.cn y).bind fun d=>(uq M L ys).map (d::·) else none
def blt (M:Gm) (L:Lc) (x:Str):Bool:=M.bl.contains x&&vq L x
def isF (M:Gm) (r:Rc) (L:Lc) (a:Expr):Expr->FE
 | .Name y _=>(match tZ.lookup y with
  | some ty=>if M.bl.contains y&&vq L y then b8 (tyD ty) (r.E L a) else bw
  | none=>(match uq M L [y] with
   | some ds=>b8 (dc M.P.sub ds) (r.E L a)
   | none=>bw))
 | .Tuple es _ _=>if es.length<=100 then (match (namesOf es).bind (uq M L) with
  | some ds=>b8 (dc M.P.sub ds) (r.E L a)
  | none=>bw) else bw
 | _=>bw
def az (l:List (Nat × Nat)) (ai:Nat->Fn) (c:Nat):Option Fn:=(l.lookup c).map ai
def acG (L:Lc):Expr->Option Nat
 | .Name y _=>if L.mu.contains y&&fk L y then jE L.N y else none
 | _=>none
def ur (r:Rc) (L:Lc) (a:Expr) (op:CmpOp) (b:Expr):FE:=match ue op,acG L b with
 | some neg,some i=>U_ op neg i (r.E L a)
 | _,_=>cz (aU op) (r.E L a) (r.E L b)
def oO (M:Gm) (L:Lc) (f:Str):List Expr->Option Expr
 | [e]=>(gM e).bind fun q=>(match q.2.1,q.2.2 with
  | [a],[]=>if f=("len" : Str)/\q.1=("set" : Str)/\blt M L ("set" : Str)=true/\noStar a=true then some a else none
  | _,_=>none)
 | _=>none
def xw (M:Gm) (ai:Nat->Fn) (r:Rc) (L:Lc) (f:Str) (args:List Expr):FE:=
 if args.all noStar then (match M.fs.lookup f with
  | some (ds,i)=>if vq L f then ah (ai i) ds (dZ (args.map (r.E L))) else bw
  | none=>(match M.cl.lookup f with
   | some (.fz c n)=>if vq L f&&!args.isEmpty then c5 c n (dZ (args.map (r.E L))) else bw
   | some (.z0 c)=>if vq L f&&args.isEmpty then c5 c 0 cA else bw
   | some (.cp c)=>(match args with
    | [a]=>if vq L f then b8 (Us c) (r.E L a) else bw
    | _=>bw)
   | some (.nw c i)=>if vq L f&&!args.isEmpty then Bt c (ai i) (dZ (args.map (r.E L))) else bw
   | none=>if blt M L f then (match f == ("isinstance" : Str),args with
     | true,[a,q]=>isF M r L a q
     | _,_=>(match f == ("len" : Str),args with
      | true,[.Name y p]=>(match jE L.N y with
       | some i=>if L.mu.contains y&&fk L y then (if M.lv.contains y then mh i else i6 i) else bC bq (dZ [r.E L (.Name y p)])
       | none=>bC bq (dZ [r.E L (.Name y p)]))
      | _,_=>(match oO M L f args with
       | some a=>b8 qH (r.E L a)
       | none=>(match xj.lookup f,args with
        | some g,_::_=>bC g (dZ (args.map (r.E L)))
        | _,_=>bw)))) else bw)) else bw
def Gb:Const->FE
 | .int i=>cF (.int i)
 | .bool b=>cF (.bl b)
 | .none=>cF .non
 | .str s=>if s.length<=1000000 then cF (.str s.cps.toList) else bw
 | _=>bw
def Ge (M:Gm) (L:Lc) (x:Str):FE:=match jE L.N x with
 | some i=>if fk L x then vF i else bw
 | none=>(match M.cs.lookup x with
  | some t=>if vq L x then cF t else bw
  | none=>bw)
def unE (a:FE):UnaryOp->FE
 | .USub=>b8 nL a
 | .Not=>wY a
 | _=>bw
def boE (l:List FE):BoolOp->FE
 | .And=>F8 l
 | .Or=>Vw l
def aft (r:Rc) (L:Lc) (a:Expr):List CmpOp->List Expr->FE
 | [op],[b]=>if behindInMarks op b then bw else ur r L a op b
 | _,_=>bw
def ixE (M:Gm) (r:Rc) (L:Lc) (o i:Expr):FE:=match (asName o).bind fun y=>(jE L.N y).map fun k=>(y,k) with
 | some (y,k)=>if L.mu.contains y&&fk L y then EM k (r.E L i) else cz jf (r.E L o) (r.E L i)
 | none=>cz jf (r.E L o) (r.E L i)
def VA (M:Gm) (r:Rc) (L:Lc) (o:Expr):Expr->FE
 | .Slice lo hi st _=>(match st with
  | none=>jC (r.E L o) (Vz r L lo) (Vz r L hi)
  | some _=>bw)
 | i=>ixE M r L o i
def afu (M:Gm) (r:Rc) (L:Lc) (o:Expr) (f:Str):FE:=if dE o then (match jE M.P.an f with
  | some j=>aE M.P.tab j (r.E L o)
  | none=>bw) else bw
def joE (r:Rc) (L:Lc):List Expr->FE
 | [e,q,f]=>(match jm e,Ms q,jm f with
  | some x,some (a,cv,none),some y=>if cv=-1/\x.length<=1000/\y.length<=1000 then b8 (oH x.cps.toList y.cps.toList) (r.E L a) else bw
  | _,_,_=>bw)
 | _=>bw
def VB (M:Gm) (ai:Nat->Fn) (r:Rc) (L:Lc) (o:Expr) (m:Str) (ap:Pos) (args:List Expr) (cp:Pos):FE:=if dE o&&args.all noStar&&decide (args.length<29)&&ap.endLine == cp.line then (match M.ms.lookup m with
   | some l=>aJ (az l ai) (r.E L o) (dZ (args.map (r.E L)))
   | none=>(match xh.lookup m,args with
    | some g,_::_=>jD g (r.E L o) (dZ (args.map (r.E L)))
    | _,_=>bw)) else bw
def afv (M:Gm) (ai:Nat->Fn) (r:Rc) (L:Lc) (args:List Expr) (cp:Pos):Expr->FE
 | .Name f _=>xw M ai r L f args
 | .Attribute o m ap=>VB M ai r L o m ap args cp
 | _=>bw
def Qj (M:Gm) (ai:Nat->Fn) (r:Rc) (L:Lc):Expr->FE
 | .Constant c _ _=>Gb c
 | .Name x _=>Ge M L x
 | .BinOp a op b _=>cz (fj op) (r.E L a) (r.E L b)
 | .UnaryOp op a _=>unE (r.E L a) op
 | .BoolOp op es _=>boE (es.map (r.E L)) op
 | .Compare a ops bs _=>aft r L a ops bs
 | .IfExp c a b _=>rC (r.T L c) (r.E L a) (r.E L b)
 | .Tuple es _ _=>if es.all noStar then bC lO (dZ (es.map (r.E L))) else bw
 | .List es _=>if es.all noStar then bC eO (dZ (es.map (r.E L))) else bw
 | .Subscript o i _=>VA M r L o i
 | .Attribute o f _=>afu M r L o f
 | .JoinedStr vs _=>joE r L vs
 | .ListComp elt gs sc p=>c6 (oN r L (.ListComp elt gs sc p))
 | .Call f args ks cp=>(match ks with
  | []=>afv M ai r L args cp f
  | _::_=>bw)
 | _=>bw
def boT (l:List FT):BoolOp->FT
 | .And=>F9 l
 | .Or=>Vx l
def afw (r:Rc) (L:Lc) (a:Expr):List CmpOp->List Expr->FT
 | [op],[b]=>if behindInMarks op b then nM else cD (ur r L a op b)
 | _,_=>nM
def stepT (r:Rc) (L:Lc) (e:Expr):FT:=match e with
 | .BoolOp op es _=>boT (es.map (r.T L)) op
 | .UnaryOp op a _=>(match op with
  | .Not=>c_ (r.T L a)
  | _=>tB (r.E L e))
 | .Compare a ops bs _=>afw r L a ops bs
 | .IfExp _ _ _ _=>nM
 | _=>tB (r.E L e)
noncomputable def uu (e:Expr):Option (Expr × Int):=(gM e).bind fun q=>if q.1=("enumerate" : Str) then (match q.2.1 with
 | [a]=>(match q.2.2 with
  | []=>some (a,0)
  | [w]=>(match fY w.value with
   | some (.int n)=>if w.arg=some ("start" : Str)/\n=1 then some (a,n) else none
   | _=>none)
  | _=>none)
 | _=>none) else none
def VC:Expr->Bool
 | .Tuple _ _ _=>true
 | _=>false
def Mt:Expr->Bool
 | .Name _ _=>true
 | _=>false
def stepI (M:Gm) (r:Rc) (L:Lc) (tg e:Expr):FL:=match uu e with
  | some (a,n)=>if blt M L ("enumerate" : Str)&&VC tg&&noStar a then lP n (r.E L a) else iX
  | none=>if Mt tg then h_ (r.E L e) else LQ (r.E L e)
def Qk (r:Rc) (L:Lc):Expr->FL
 | .List es _=>if es.all noStar then tN (dZ (es.map (r.E L))) else iX
 | .ListComp elt gs sc p=>oN r L (.ListComp elt gs sc p)
 | _=>iX
def comp (M:Gm) (ai:Nat->Fn):Nat->Rc
 | 0=>⟨fun _ _=>bw,fun _ _=>nM,fun _ _ _=>iX,fun _ _=>iX⟩
 | n+1=>⟨Qj M ai (comp M ai n),stepT (comp M ai n),stepI M (comp M ai n),Qk (comp M ai n)⟩
def Gg (L:Lc) (t:Str) (tp:Pos):Expr->Bool
 | .ListComp _ _ sc p=>(if L.sc.kind.isAnnotationScope then ScopeKind.function else L.sc.kind) == .function&&L.sc.names.lookup t == some .local&&tp.line == p.line&&!(sc.names.any fun (n,k)=>n == t&&(k == .local || k == .cell))
 | _=>false
def uv:Expr->Bool
 | .ListComp _ _ _ _=>true
 | .SetComp _ _ _ _=>true
 | .DictComp _ _ _ _ _=>true
 | _=>false
noncomputable def zl (mu:List Str) (e:Expr):Option (Str × Expr):=(qB e).bind fun q=>(lZ q.1).bind fun w=>(asName w.1).bind fun y=>(match q.2.1,q.2.2.1 with
 | [a],[]=>if w.2.1=("append" : Str)/\mu.contains y=true/\noStar a=true/\(w.2.2.endLine == q.2.2.2.line)=true then some (y,a) else none
 | _,_=>none)
noncomputable def zm (mu:List Str) (e:Expr):Option (Str × Expr × Expr):=(qB e).bind fun q=>(lZ q.1).bind fun w=>(asName w.1).bind fun y=>(match q.2.1,q.2.2.1 with
 | [a,b],[]=>if w.2.1=("insert" : Str)/\mu.contains y=true/\[a,b].all noStar=true/\(w.2.2.endLine == q.2.2.2.line)=true then some (y,a,b) else none
 | _,_=>none)
def Gh:Expr->Bool
 | .Dict [] [] _=>true
 | _=>false
def VD:Expr->Bool
 | .List _ _=>true
 | .ListComp _ _ _ _=>true
 | .SetComp _ _ _ _=>true
 | .DictComp _ _ _ _ _=>true
 | _=>false
def Gi (M:Gm) (ai:Nat->Fn) (n:Nat) (L:Lc) (x:Str) (e:Expr):FS:=match jE L.N x with
 | some i=>if fk L x then (if M.lv.contains x&&!VD e then aV i ((comp M ai n).E L e) else if L.mu.contains x then (if Gh e then FN i else i7 i ((comp M ai n).O L e)) else aV i ((comp M ai n).E L e)) else br
 | none=>br
def Ql:Expr->Bool
 | .Tuple vs _ _=>vs.all (foldedForSure 8)
 | _=>true
abbrev many:Nat:=1000000
def tgL (M:Gm) (L:Lc) (es:List Expr):Option FG:=(namesOf es).bind fun xs=>if xs.all (fk L)&&((xs.head?.map M.lu.contains).getD false) then (idxs L.N xs).map F7 else none
def tupS (M:Gm) (ai:Nat->Fn) (n:Nat) (L:Lc) (es:List Expr) (e:Expr):FS:=if uv e || !Ql e || !es.all noStar then br else (match tgL M L es with
  | some g=>Bu g ((comp M ai n).E L e)
  | none=>(match WU L.N (fk L) (.Tuple es 0 ⟨0,0,0,0⟩) with
  | some (g,_)=>Bu g ((comp M ai n).E L e)
  | none=>br))
def VE (M:Gm) (ai:Nat->Fn) (n:Nat) (L:Lc) (o:Expr) (f:Str) (e:Expr):FS:=if uv e then br else (match jE M.P.an f with
  | some j=>i9 M.P.tab j ((comp M ai n).E L o) ((comp M ai n).E L e)
  | none=>br)
def VF (M:Gm) (ai:Nat->Fn) (n:Nat) (L:Lc) (o b e:Expr):FS:=match asName o with
 | some y=>if uv e then br else (match jE L.N y with
  | some i=>if fk L y then y_ i ((comp M ai n).E L b) ((comp M ai n).E L e) else br
  | none=>br)
 | none=>br
def asS (M:Gm) (ai:Nat->Fn) (n:Nat) (L:Lc) (e:Expr):Expr->FS
 | .Name x _=>Gi M ai n L x e
 | .Tuple es _ _=>tupS M ai n L es e
 | .Attribute o f _=>VE M ai n L o f e
 | .Subscript o b _=>VF M ai n L o b e
 | _=>br
def VG (M:Gm) (ai:Nat->Fn) (n:Nat) (L:Lc) (t:Expr) (op:Operator) (e:Expr):FS:=match (asName t).bind fun x=>(jE L.N x).map fun i=>(x,i) with
  | some (x,i)=>if op=.Add/\fk L x=true then EO yZ i ((comp M ai n).E L e) else br
  | none=>br
def exS (M:Gm) (ai:Nat->Fn) (n:Nat) (L:Lc) (e:Expr):FS:=match zl L.mu e with
  | some (y,a)=>(match jE L.N y with
   | some i=>if fk L y then i8 i ((comp M ai n).E L a) else br
   | none=>br)
  | none=>match zm L.mu e with
  | some (y,a,b)=>(match jE L.N y with
   | some i=>if fk L y then nR i (dZ [(comp M ai n).E L a,(comp M ai n).E L b]) else br
   | none=>br)
  | none=>if uv e then br else cU ((comp M ai n).E L e)
def retS (M:Gm) (ai:Nat->Fn) (n:Nat) (L:Lc):Option Expr->FS
 | some e=>av ((comp M ai n).E L e)
 | none=>av (cF .non)
def VH (M:Gm) (ai:Nat->Fn) (n:Nat) (L:Lc) (b:FS) (tg it:Expr):FS:=if isSet it then br else (match WU L.N (fk L) tg with
  | some (g,_)=>tK ((comp M ai n).I L tg it) g b
  | none=>br)
def acH:Stmt->Option Expr
 | .Expr e _=>some e
 | _=>none
def uw:Stmt->Option (Str × Expr)
 | .Assign ts e _=>(match ts with
  | [t]=>(asName t).map fun x=>(x,e)
  | _=>none)
 | _=>none
def zo:Expr->Option (List Expr)
 | .List es _=>some es
 | _=>none
def Gj:Expr->Option (Expr × Expr)
 | .BinOp a op b _=>if op=.Add then some (a,b) else none
 | _=>none
def ux (M:Gm) (L:Lc) (nm:Str):List Expr->Option (List Bool)
 | []=>some []
 | e::es=>(gM e).bind fun q=>(match q.2.1,q.2.2 with
  | [a,b],[]=>(asName a).bind fun n=>(asName b).bind fun y=>if q.1=("isinstance" : Str)/\n=nm/\vq L y=true then (M.xi.lookup y).bind fun t=>(ux M L nm es).map (t::·) else none
  | _,_=>none)
noncomputable def suA (M:Gm) (L:Lc) (nm:Str):List Stmt->Option (Str × List Bool)
 | [s1,s2,s3]=>(uw s1).bind fun q1=>(uw s2).bind fun q2=>(uw s3).bind fun q3=>(Gj q2.2).bind fun w2=>(Gj q3.2).bind fun w3=>(asName w2.1).bind fun n2=>(asName w3.1).bind fun n3=>
  if q2.1=q1.1/\q3.1=q1.1/\n2=q1.1/\n3=q1.1 then (zo q1.2).bind fun l1=>(zo w2.2).bind fun l2=>(zo w3.2).bind fun l3=>(ux M L nm l1).bind fun b1=>(ux M L nm l2).bind fun b2=>(ux M L nm l3).bind fun b3=>if b1.length+b2.length+b3.length<=1000 then some (q1.1,b1++b2++b3) else none else none
 | _=>none
noncomputable def hdA (M:Gm) (L:Lc):Option Str->List Stmt->Option FS
 | none,[s]=>(uw s).bind fun q=>(match fY q.2 with
  | some (.bool b)=>(jE L.N q.1).bind fun j=>if fk L q.1 then some (aV j (cF (.bl b))) else none
  | _=>none)
 | some nm,su=>(suA M L nm su).bind fun q=>(jE L.N nm).bind fun i=>(jE L.N q.1).bind fun j=>if fk L q.1=true/\fk L nm=true/\L.sc.names.lookup nm=some .local/\j≠i/\blt M L ("isinstance" : Str)=true then some (zh i j q.2) else none
 | _,_=>none
noncomputable def Mu (M:Gm) (ai:Nat->Fn) (n:Nat) (L:Lc):List Stmt->List ExceptHandler->Option FS
 | [s],[.ExceptHandler ty nm su _]=>(acH s).bind fun e=>(gM e).bind fun q=>(M.xs.lookup q.1).bind fun i=>(ty.bind asName).bind fun y=>if vq L q.1=true/\vq L y=true/\y∈M.xm/\q.2.2.isEmpty=true/\q.2.1.isEmpty=false/\q.2.1.all noStar=true then (hdA M L nm su).map fun A=>nQ (ai i) (dZ (q.2.1.map ((comp M ai n).E L))) A else none
 | _,_=>none
def stF (M:Gm) (ai:Nat->Fn) (n:Nat) (rS:Lc->List Stmt->FS) (L:Lc):Stmt->FS
 | .Assign ts e _=>(match ts with
  | [t]=>asS M ai n L e t
  | _=>br)
 | .AugAssign t op e _=>VG M ai n L t op e
 | .Expr e _=>exS M ai n L e
 | .Return o _=>retS M ai n L o
 | .If c a b _=>bu ((comp M ai n).T L c) (rS L a) (rS L b)
 | .For tg it body oe _=>(match oe with
  | []=>VH M ai n L (rS L body) tg it
  | _::_=>br)
 | .While c body oe _=>(match oe with
  | []=>qp many ((comp M ai n).T L c) (rS L body)
  | _::_=>br)
 | .Try body hs oe fb _=>(match hs,oe,fb with
  | _::_,[],[]=>(match Mu M ai n L body hs with
   | some F=>F
   | none=>rS L body)
  | _,_,_=>br)
 | .Pass _=>aG
 | .Break _=>abL
 | .Continue _=>abM
 | _=>br
def mj (M:Gm) (ai:Nat->Fn) (n:Nat):Nat->Lc->List Stmt->FS
 | 0,_,_=>br
 | _+1,_,[]=>aG
 | k+1,L,[st]=>stF M ai n (mj M ai n k) L st
 | k+1,L,st::rest=>aj (stF M ai n (mj M ai n k) L st) (mj M ai n k L rest)
def VI:Stmt->Option Expr
 | .Raise e c _=>(match e,c with
  | some e,none=>some e
  | _,_=>none)
 | _=>none
def jn (M:Gm) (L:Lc):Stmt->Option Expr
 | .If c a b _=>(match a,b with
  | [st],[]=>(VI st).bind fun e=>(gM e).bind fun q=>(match q.2.1,q.2.2 with
   | [t],[]=>(jm t).bind fun _=>if q.1=M.xc/\vq L q.1=true then some c else none
   | _,_=>none)
  | _,_=>none)
 | _=>none
def Gk (M:Gm) (ai:Nat->Fn) (n:Nat) (L:Lc):Stmt->FS
 | .Return o _=>(match o with
  | some e=>av ((comp M ai n).E L e)
  | none=>br)
 | _=>br
def ko (M:Gm) (ai:Nat->Fn) (n:Nat) (L:Lc):List Stmt->FS
 | []=>br
 | [st]=>okF (Gk M ai n L st)
 | st::rest=>(match jn M L st with
  | some c=>xF ((comp M ai n).T L c) (ko M ai n L rest)
  | none=>br)
end D
namespace D
open PySem L2
structure Ig (M:Gm) (K:bg) (mg:Str->Option Value) (C:Addr):Prop where
 at_:mg M.xc=some (.ref C)
 db:(M.xc == ("__debug__" : Str))=false
 ec:nP K C
 ei:Cj K C [.type "ValueError", .type "Exception", .type "BaseException", .type "object"] "ValueError.__new__" = true
 xi:∀ y b,M.xi.lookup y=some b->XiF K mg C y b
 xm:∀ y,y∈M.xm->a_ y/\∃ CB,mg y=some (.ref CB)/\yc K (.ref C) (.ref CB)=some true
structure xx (M:Gm) (Pr:Program) (w:World) (K:bg) (mg:Str->Option Value) (base:Heap) (ai:Nat->Fn) (k:Nat):Prop where
 pg:qv K mg M.P
 cst:∀ x t,M.cs.lookup x=some t->y9 K mg x t
 fns:∀ x ds i,M.fs.lookup x=some (ds,i)->DnF M.P Pr w K mg base k x ds (ai i)
 fz:∀ x c n,M.cl.lookup x=some (.fz c n)->DnC M.P Pr w K mg base k c n x
 z0:∀ x c,M.cl.lookup x=some (.z0 c)->ach M.P Pr w K mg c x
 cp:∀ x c,M.cl.lookup x=some (.cp c)->DnP M.P Pr w K mg base k c x
 nw:∀ x c i,M.cl.lookup x=some (.nw c i)->DnN M.P Pr w K mg base k c x (ai i)
 mts:∀ m l c i,M.ms.lookup m=some l->l.lookup c=some i->DnM M.P Pr w K mg base k c m (ai i)
 bl:∀ x,x∈M.bl->mg x=none
 xs:∀ x i,M.xs.lookup x=some i->∃ C,Ig M K mg C/\DnX M.P Pr w K mg base C k x (ai i)
structure CxOk (M:Gm) (ai:Nat->Fn) (k:Nat) (L:Lc) (X:Cx):Prop where
 gm:xx M X.prog X.w X.K X.mg X.base ai k
 N:X.N=L.N
 sc:X.env.scope=L.sc
 calm:X.calm=true
 room:∃ j,k+1<=j/\bB j X.A
variable {X:Cx}{a b c e o:Expr}{M:Gm}{L:Lc}{es:List Expr}{i k:Nat}{ai:Nat->Fn}{cP cQ p pos cu:Pos}{K:bg}{r:Rc}{x y:Str}{mg:Str->Option Value}
theorem fQ {N:List Str}{x:Str}{i:Nat}(h:jE N x=some i):N[i]?=some x:=by
 unfold jE at h
 rw [NK,NL] at h
 obtain ⟨hj,h1,_⟩:=h
 rw [cX hj,eq_of_beq h1]
theorem VJ (h:jl x=false):a_ x/\e_ x:=by
 unfold jl at h
 exact Bool.or_eq_false_iff.mp h
theorem dG (C:CxOk M ai k L X) (h:fk L x=true):Loc X.env.scope x/\nq X.env.scope x/\a_ x/\e_ x:=by
 rw [C.sc]
 unfold fk at h
 split at h
 ·rename_i e
  obtain ⟨h1,h2⟩:=VJ (by simpa using h)
  exact ⟨.inl e,.inl e,h1,h2⟩
 ·rename_i e
  obtain ⟨h1,h2⟩:=VJ (by simpa using h)
  exact ⟨.inr e,.inr (.inl e),h1,h2⟩
 ·cases h
theorem fR (C:CxOk M ai k L X) (h:vq L x=true):Gl X x/\a_ x:=by
 unfold vq at h
 rw [cy] at h
 obtain ⟨h1,h2⟩:=h
 refine ⟨?_,(VJ (by simpa using h2)).1⟩
 show X.env.scope.names.lookup x=_
 rw [C.sc]
 exact of_decide_eq_true h1
def B4 (M:Gm) (X:Cx) (r:Rc) (L:Lc):Prop:=∀ e,PE X e (tE (M.P.kt X) (r.E L e))
def OkT (M:Gm) (X:Cx) (r:Rc) (L:Lc):Prop:=∀ e,PT X e (tT (M.P.kt X) (r.T L e))
def OkI (M:Gm) (X:Cx) (r:Rc) (L:Lc):Prop:=∀ tg e,PI X tg e (tI (M.P.kt X) (r.I L tg e))
def OkO (M:Gm) (X:Cx) (r:Rc) (L:Lc):Prop:=∀ e,PE X e (tO (M.P.kt X) (r.O L e))
def xy (M:Gm) (ai:Nat->Fn) (k:Nat) (r:Rc):Prop:=∀ L X,CxOk M ai k L X->B4 M X r L/\OkT M X r L/\OkI M X r L/\OkO M X r L
theorem jX {q}(h:fY e=some q):∃ k p,e=.Constant q k p:=by
 cases e<;>first | (cases h;done) | (cases h;exact ⟨_,_,rfl⟩)
theorem eZ (hE:B4 M X r L):∀ es:List Expr,es.all noStar=true->PA X es (tA (M.P.kt X) (dZ (es.map (r.E L))))
 | [],_=>wZ
 | e::es,h=>by
  rw [eL,cy] at h
  exact qr (hE e) (eZ hE es h.2) (aB h.1)
theorem uy (hE:B4 M X r L):∀ es:List Expr,PE X (.BoolOp .And es pos) (tE (M.P.kt X) (F8 (es.map (r.E L))))
 | []=>aT
 | [a]=>EW (hE a)
 | a::b::es=>Uw (hE a) (uy hE (b::es))
theorem zp (hE:B4 M X r L):∀ es:List Expr,PE X (.BoolOp .Or es pos) (tE (M.P.kt X) (Vw (es.map (r.E L))))
 | []=>aT
 | [a]=>EW (hE a)
 | a::b::es=>abT (hE a) (zp hE (b::es))
theorem acI:PW X e (tT (M.P.kt X) nM):=fun _ _ _ _ _ _ _ ⟨_,_,_,_,_,h,_⟩=>by cases h
theorem uz (hT:OkT M X r L):∀ es:List Expr,PW X (.BoolOp .And es pos) (tT (M.P.kt X) (F9 (es.map (r.T L))))
 | []=>acI
 | [a]=>Uv (hT a)
 | a::b::es=>abR (hT a) (uz hT (b::es))
theorem zq (hT:OkT M X r L):∀ es:List Expr,PW X (.BoolOp .Or es pos) (tT (M.P.kt X) (Vx (es.map (r.T L))))
 | []=>acI
 | [a]=>abQ (hT a)
 | a::b::es=>ae3 (hT a) (zq hT (b::es))
theorem bY {α:Type}{l:List (Str × α)}{x:Str}{a:α}(h:l.lookup x=some a):(x,a)∈l:=by
 induction l with
 | nil=>simp at h
 | cons p l ih=>
  obtain ⟨q,b⟩:=p
  rw [ib] at h
  split at h
  ·rename_i e
   cases h
   rw [eq_of_beq e]
   exact eK ..
  ·exact fG _ (ih h)
theorem xA (C:CxOk M ai k L X):∀ {ys:List Str}{ds:List Nat},uq M L ys=some ds->ys.length=ds.length/\∀ (i d:Nat) (y:Str),ds[i]?=some d->ys[i]?=some y->M.P.cn[d]?=some y/\(M.P.fn[d]?).isSome=true/\Gl X y/\a_ y
 | [],ds,h=>by
  cases h
  exact ⟨rfl,fun i d y h=>by simp at h⟩
 | y::ys,ds,h=>by
  unfold uq at h
  split at h
  ·rename_i q
   rw [cy] at q
   obtain ⟨d,h1,h2⟩:=cJ.mp h
   obtain ⟨ds',h3,rfl⟩:=cK.mp h2
   obtain ⟨h4,h5⟩:=xA C h3
   obtain ⟨g1,g2⟩:=fR C q.1
   refine ⟨by simp [h4],fun i d' y' e1 e2=>?_⟩
   cases i with
   | zero=>
    simp at e1 e2
    subst e1 e2
    refine ⟨fQ h1,?_,g1,g2⟩
    have q2:=q.2
    rw [h1] at q2
    exact q2
   | succ i=>exact h5 i d' y' (by simpa using e1) (by simpa using e2)
  ·cases h
theorem jo (C:CxOk M ai k L X) (h:blt M L x=true):Gl X x/\X.mg x=none/\a_ x:=by
 unfold blt at h
 rw [cy] at h
 obtain ⟨g1,g2⟩:=fR C h.2
 exact ⟨g1,C.gm.bl x (CL.mp h.1),g2⟩
theorem acJ (C:CxOk M ai k L X) (hE:B4 M X r L) {q:Expr}(hb:blt M L ("isinstance" : Str)=true) (hs:noStar a=true):PE X (.Call (.Name "isinstance" p) [a,q] [] pos) (tE (M.P.kt X) (isF M r L a q)):=by
 obtain ⟨hg,hm,_⟩:=jo C hb
 cases q with
 | Name y py=>
  show PE X _ (tE (M.P.kt X) (match tZ.lookup y with | some ty=>_ | none=>_))
  split
  ·rename_i ty XF
   split
   ·rename_i q
    rw [cy] at q
    obtain ⟨g1,g2⟩:=fR C q.2
    exact UN rfl (bY XF) hm (C.gm.bl _ (CL.mp q.1)) (hE a) hg g1 hs
   ·exact aT
  ·split
   ·rename_i ds LL
    obtain ⟨h1,h2⟩:=xA C LL
    match ds,h1,h2 with
    | [d],_,h2=>
     obtain ⟨f1,f2,f3,f4⟩:=h2 0 d y rfl rfl
     exact acf C.gm.pg f1 hm (hE a) hg f3 hs f4 f2
   ·exact aT
 | Tuple es x1 tp=>
  show PE X _ (tE (M.P.kt X) (if es.length<=100 then _ else bw))
  split
  ·rename_i hl
   split
   ·rename_i ds LL
    obtain ⟨ys,h0,LL⟩:=cJ.mp LL
    obtain ⟨h1,h2⟩:=xA C LL
    exact acv C.gm.pg h0 h1 h2 hl hm (hE a) hg hs
   ·exact aT
  ·exact aT
 | _=>exact aT
theorem xC {f:Str}{args:List Expr}(h:oO M L f args=some a):f=("len" : Str)/\blt M L ("set" : Str)=true/\noStar a=true/\∃ p1 kK,args=[.Call (.Name "set" p1) [a] [] kK]:=by
 match args,h with
 | [e],h=>
  obtain ⟨⟨g,as,ks⟩,h1,hh⟩:=cJ.mp h
  obtain ⟨p1,kK,rfl⟩:=dF h1
  match as,ks,hh with
  | [a'],[],hq=>
   dsimp only at hq
   split at hq
   ·rename_i q
    obtain ⟨rfl,rfl,q3,q4⟩:=q
    cases hq
    exact ⟨rfl,q3,q4,_,_,rfl⟩
   ·cases hq
theorem Gn (C:CxOk M ai k L X) {i:Nat}(h:acG L b=some i):∃ y py,b=.Name y py/\X.N[i]?=some y/\nq X.env.scope y/\a_ y/\e_ y:=by
 cases b<;>first | (cases h;done) | skip
 replace h:(if _ then _ else none)=some i:=h
 split at h
 ·rename_i q
  rw [cy] at q
  obtain ⟨l1,l2,l3,l4⟩:=dG C q.2
  exact ⟨_,_,rfl,by rw [C.N];exact fQ h,l2,l3,l4⟩
 ·cases h
theorem Mv (C:CxOk M ai k L X) (hE:B4 M X r L) {op:CmpOp}(h:behindInMarks op b=false):PE X (.Compare a [op] [b] pos) (tE (M.P.kt X) (ur r L a op b)):=by
 obtain ⟨j,hj,hr⟩:=C.room
 unfold ur
 split
 ·rename_i neg i h1 h2
  obtain ⟨y,py,rfl,q1,q2,q3,q4⟩:=Gn C h2
  exact acA rfl hr h1 (hE a) q1 q2 q3 q4
 ·exact Vb rfl hr (hE a) (hE b) h
theorem Gp (C:CxOk M ai k L X) (hE:B4 M X r L) {op:CmpOp}(h:behindInMarks op b=false):PT X (.Compare a [op] [b] pos) (tT (M.P.kt X) (cD (ur r L a op b))):=by
 obtain ⟨j,hj,hr⟩:=C.room
 unfold ur
 split
 ·rename_i neg i h1 h2
  obtain ⟨y,py,rfl,q1,q2,q3,q4⟩:=Gn C h2
  exact Vd rfl hr h1 (hE a) q1 q2 q3 q4
 ·exact Mf rfl hr (hE a) (hE b) h
theorem Gq (C:CxOk M ai k L X) (hE:B4 M X r L) (f:Str) (args:List Expr):PE X (.Call (.Name f p) args [] pos) (tE (M.P.kt X) (xw M ai r L f args)):=by
 obtain ⟨j,hj,hr⟩:=C.room
 unfold xw
 split
 case isFalse=>exact aT
 rename_i hs
 have hA:=eZ hE args hs
 split
 ·rename_i ds i hf
  split
  case isFalse=>exact aT
  rename_i q
  obtain ⟨g1,g2⟩:=fR C q
  cases args with
  | nil=>exact LO (C.gm.fns f ds i hf) hr (by omega) g1 g2
  | cons a args=>exact s_call (C.gm.fns f ds i hf) hr (by omega) hA g1 g2 hs
 ·split
  ·rename_i c n hc
   split
   case isFalse=>exact aT
   rename_i q
   rw [cy] at q
   obtain ⟨g1,g2⟩:=fR C q.1
   cases args with
   | nil=>cases q.2
   | cons a args=>exact acg (C.gm.fz f c n hc) hr hj hA g1 g2 hs
  ·rename_i c hc
   split
   case isFalse=>exact aT
   rename_i q
   rw [cy] at q
   obtain ⟨g1,g2⟩:=fR C q.1
   cases args with
   | nil=>exact UQ (C.gm.z0 f c hc) g1 g2
   | cons a args=>cases q.2
  ·rename_i c hc
   split
   ·rename_i a
    split
    case isFalse=>exact aT
    rename_i q
    obtain ⟨g1,g2⟩:=fR C q
    exact U7 (C.gm.cp f c hc) hr hj (hE a) g1 g2 (by simpa using hs)
   ·exact aT
  ·rename_i c i hc
   split
   case isFalse=>exact aT
   rename_i q
   rw [cy] at q
   obtain ⟨g1,g2⟩:=fR C q.1
   cases args with
   | nil=>cases q.2
   | cons a args=>exact U6 (C.gm.nw f c i hc) hr hj hA g1 g2 hs
  ·split
   case isFalse=>exact aT
   rename_i hb
   obtain ⟨g1,g2,g3⟩:=jo C hb
   split
   ·rename_i a q e
    have e:=eq_of_beq e
    subst e
    rw [eL,cy] at hs
    exact acJ C hE hb hs.1
   ·split
    ·rename_i y py e _
     have e:=eq_of_beq e
     subst e
     have main:PE X (.Call (.Name "len" p) [.Name y py] [] pos) (tE (M.P.kt X) (bC bq (dZ [r.E L (.Name y py)]))):=P1 (Fo C.calm ("len", bq) (eK ..)) rfl g1 g2 hA hs
     split
     ·rename_i i hi
      split
      ·rename_i q
       rw [cy] at q
       obtain ⟨l1,l2,l3,l4⟩:=dG C q.2
       split
       ·exact Vt rfl (by rw [C.N];exact fQ hi) l2 l3 l4 g1 g2
       ·exact Ma rfl (by rw [C.N];exact fQ hi) l2 l3 l4 g1 g2
      ·exact main
     ·exact main
    ·split
     ·rename_i a ha
      obtain ⟨rfl,h2,h3,p1,kK,rfl⟩:=xC ha
      obtain ⟨k1,k2,k3⟩:=jo C h2
      exact FU C.calm g2 k2 (hE a) g1 k1 h3
     ·split
      ·rename_i g a acK hg _ _ _
       exact P1 (Fo C.calm (f,g) (bY hg)) rfl g1 g2 hA hs
      ·exact aT
theorem ml {sc:Scope}(C:CxOk M ai k L X) (hf:∀ x∈frees sc,sc.names.lookup x=some .free/\L.sc.names.lookup x=some .cell):∀ {xs:List Str}{js:List Nat},idxs L.N xs=some js->(∀ x∈xs,x∈frees sc)->eA X sc js xs
 | [],js,h,_=>by cases h;exact .nil
 | x::xs,js,h,hx=>by
  obtain ⟨i,h1,h2⟩:=cJ.mp (show (jE L.N x).bind _=some js from h)
  obtain ⟨js',h3,rfl⟩:=cK.mp h2
  obtain ⟨f1,f2⟩:=hf x (hx x (eK ..))
  refine .cons (by rw [C.N];exact fQ h1) f1 ?_ (ml C hf h3 fun y hy=>hx y (fG _ hy))
  show X.env.scope.names.lookup x=_
  rw [C.sc];exact f2
theorem BG {sc:Scope}{x:Str}(h:x∈frees sc):(x,NameKind.free)∈sc.names:=by
 unfold frees at h
 obtain ⟨q,h1,h2⟩:=Im.mp h
 obtain ⟨n,kk⟩:=q
 split at h2
 ·rename_i e;cases h2;have e:kk=.free:=e;subst e;exact h1
 ·cases h2
theorem Gs (C:CxOk M ai k L X) (sc:Scope):relabel sc X.env=F_ sc L.sc:=by
 unfold relabel F_ Env.kindOf
 rw [C.sc]
theorem qN {N:List Str}{ok:Str->Bool}(hN:X.N.Nodup) (h:∀ x i,ok x=true->jE N x=some i->X.N[i]?=some x/\Loc X.env.scope x/\(X.fn x=true\/X.env.scope.names.lookup x=some .local)):∀ {es:List Expr}{xs:List Str}{is:List Nat},namesOf es=some xs->xs.all ok=true->idxs N xs=some is ->
  Wz X es (jT is)/\(assignEach es X.env).length=is.length/\(assignEach es X.env).findIdx? (·.1)=none
 | [],xs,is,h1,_,h3=>by
  cases h1;cases h3
  exact ⟨IF,rfl,rfl⟩
 | e::es,xs,is,h1,h2,h3=>by
  cases e<;>first | (cases h1;done) | skip
  rename_i x px
  obtain ⟨zs,h4,rfl⟩:=cK.mp (show (namesOf es).map (x::·)=some xs from h1)
  rw [eL,cy] at h2
  obtain ⟨i,h5,h6⟩:=cJ.mp (show (jE N x).bind _=some is from h3)
  obtain ⟨is',h7,rfl⟩:=cK.mp h6
  obtain ⟨g1,g2,g3⟩:=h x i h2.1 h5
  obtain ⟨r1,r2,r3⟩:=qN hN h h4 h2.2 h7
  refine ⟨Dh (pJ hN g1 g2 g3) r1 rfl,?_,?_⟩
  ·show ((false,_)::assignEach es X.env).length=_
   rw [dq,r2];rfl
  ·show List.findIdx? (·.1) ((false,_)::assignEach es X.env)=none
   rw [List.findIdx?_cons]
   simp only [r3]
   rfl
theorem Qm {B:KT}(hB:B.K=X.K) {N:List Str}{ok:Str->Bool}{tg:Expr}{g:FG}{is:List Nat}(hc:X.calm=true) (hN:X.N.Nodup) (h:∀ x i,ok x=true->jE N x=some i->X.N[i]?=some x/\Loc X.env.scope x/\(X.fn x=true\/X.env.scope.names.lookup x=some .local))
  (ht:WU N ok tg=some (g,is)):∃ gt,PG X tg gt/\nO B gt g is:=by
 cases tg<;>first | (cases ht;done) | skip
 ·rename_i x px
  replace ht:(if ok x=true then _ else none)=some (g,is):=ht
  split at ht
  ·rename_i q
   obtain ⟨i,h1,h2⟩:=cK.mp ht
   cases h2
   obtain ⟨g1,g2,g3⟩:=h x i q h1
   exact ⟨_,pJ hN g1 g2 g3,yQ i⟩
  ·cases ht
 ·rename_i es x1 tp
  replace ht:(namesOf es).bind _=some (g,is):=ht
  obtain ⟨xs,h1,h2⟩:=cJ.mp ht
  split at h2
  ·rename_i q
   obtain ⟨is',h3,h4⟩:=cK.mp h2
   cases h4
   obtain ⟨r1,r2,r3⟩:=qN hN h h1 q h3
   refine ⟨_,Di hc r1 r2 r3,?_⟩
   rw [<- hB]
   exact Fy _ rfl
  ·cases h2
theorem VL {N:List Str}{ok:Str->Bool}{tg:Expr}{g:FG}{is:List Nat}(ht:WU N ok tg=some (g,is)):∀ i∈is,i<N.length:=by
 have lt:∀ {x i},jE N x=some i->i<N.length:=fun h=>(du.mp (fQ h)).1
 cases tg<;>first | (cases ht;done) | skip
 ·rename_i x px
  replace ht:(if ok x=true then _ else none)=some (g,is):=ht
  split at ht
  ·obtain ⟨i,h1,h2⟩:=cK.mp ht
   cases h2
   intro j hj
   rw [ie.mp hj];exact lt h1
  ·cases ht
 ·rename_i es x1 tp
  replace ht:(namesOf es).bind _=some (g,is):=ht
  obtain ⟨xs,h1,h2⟩:=cJ.mp ht
  split at h2
  ·obtain ⟨is',h3,h4⟩:=cK.mp h2
   cases h4
   have:∀ (xs:List Str) (is:List Nat),idxs N xs=some is->∀ i∈is,i<N.length:=by
    intro xs
    induction xs with
    | nil=>intro is h;cases h;intro i hi;cases hi
    | cons x xs ih=>
     intro is h
     obtain ⟨i,h5,h6⟩:=cJ.mp (show (jE N x).bind _=some is from h)
     obtain ⟨is2,h7,rfl⟩:=cK.mp h6
     intro j hj
     rcases fB.mp hj with z | z
     ·rw [z];exact lt h5
     ·exact ih is2 h7 j z
   exact this xs _ h3
  ·cases h2
theorem zr {it:Expr}(h:isSet it=false):∀ x,foldedSetIterable it X.env x=pure x:=fun x=>by
 unfold foldedSetIterable
 cases it<;>first | rfl | (cases h)
structure VM (M:Gm) (X:Cx) (r:Rc) (L:Lc) (elt tg iter:Expr) (ifs:List Expr) (sc:Scope) (js:List Nat) (g:FG) (is:List Nat):Prop where
 sco:eV X sc
 fr:eA X sc js (frees sc)
 nd:(locals sc++frees sc).Nodup
 it:PI X tg iter (tI (M.P.kt X) (r.I L tg iter))
 ex:∃ gt,(∀ cl C fp s H,PG (X.block (locals sc++frees sc) sc cl C fp s H) tg gt)/\nO (M.P.kt X) gt g is
 ts:∀ cl C fp s H,HE (X.block (locals sc++frees sc) sc cl C fp s H) ifs (tT (M.P.kt X) (Qi r (Ga L sc) ifs))
 el:∀ cl C fp s H,PE (X.block (locals sc++frees sc) sc cl C fp s H) elt (tE (M.P.kt X) (r.E (Ga L sc) elt))
 lt:∀ i∈is,i<(locals sc).length
 st:∀ x,foldedSetIterable iter X.env x=pure x
theorem zt (R:xy M ai k r) (C:CxOk M ai k L X) {elt tg iter:Expr}{ifs:List Expr}{sc:Scope}{js:List Nat}{g:FG}{is:List Nat}(h:(Vy L sc&&decide ((locals sc++frees sc).Nodup)&&!isSet iter&&decide (ifs.length<=1))=true) (hj:idxs L.N (frees sc)=some js)
  (ht:WU (locals sc) (fun x=>decide (sc.names.lookup x=some .local)) tg=some (g,is)):VM M X r L elt tg iter ifs sc js g is:=by
 obtain ⟨hE,hT,hI,hO⟩:=R L X C
 simp only [cy,decide_eq_true_eq,CT] at h
 obtain ⟨⟨⟨h1,hnd⟩,h3⟩,h4⟩:=h
 unfold Vy at h1
 simp only [cy,decide_eq_true_eq,dS] at h1
 obtain ⟨⟨k1,k2⟩,k3⟩:=h1
 have nW:∀ x∈frees sc,sc.names.lookup x=some .free/\L.sc.names.lookup x=some .cell:=fun x hx=>by
  have:=(k2 _ (BG hx)).2 rfl
  exact this
 have bs:eV X sc:=⟨k1,fun q hq=>(k2 q hq).1.1,fun q hq e=>(k2 q hq).1.2 e,fun q hq e=>by
  show X.env.scope.names.lookup q.1=_
  rw [C.sc]
  exact ((k2 q hq).2 e).2⟩
 have blk:∀ cl CC fp s H,CxOk M ai k (Ga L sc) (X.block (locals sc++frees sc) sc cl CC fp s H):=fun cl CC fp s H=>⟨C.gm,rfl,Gs C sc,C.calm,C.room⟩
 refine ⟨bs,ml C nW hj fun _ h=>h,hnd,hI tg iter,?_,fun cl CC fp s H=>?_,fun cl CC fp s H=>(R _ _ (blk cl CC fp s H)).1 elt,VL ht,zr h3⟩
 ·-- the target's names are the block's own
  have key:∀ cl CC fp s H,∀ x i,decide (sc.names.lookup x=some .local)=true->jE (locals sc) x=some i->(X.block (locals sc++frees sc) sc cl CC fp s H).N[i]?=some x/\Loc (X.block (locals sc++frees sc) sc cl CC fp s H).env.scope x/\((X.block (locals sc++frees sc) sc cl CC fp s H).fn x=true\/(X.block (locals sc++frees sc) sc cl CC fp s H).env.scope.names.lookup x=some .local):=fun cl CC fp s H x i hx hi=>by
   have hl:(relabel sc X.env).names.lookup x=some .local:=lookup_relabel_local (of_decide_eq_true hx)
   have h1:=fQ hi
   refine ⟨?_,.inl hl,.inr hl⟩
   show (locals sc++frees sc)[i]?=some x
   rw [iH (du.mp h1).1];exact h1
  cases tg<;>first | (cases ht;done) | skip
  ·rename_i x px
   replace ht:(if _ then _ else none)=some (g,is):=ht
   split at ht
   ·rename_i q
    obtain ⟨i,h5,h6⟩:=cK.mp ht
    cases h6
    exact ⟨_,fun cl CC fp s H=>by
     obtain ⟨g1,g2,g3⟩:=key cl CC fp s H x i q h5
     exact pJ hnd g1 g2 g3,yQ i⟩
   ·cases ht
  ·rename_i es x1 tp
   replace ht:(namesOf es).bind _=some (g,is):=ht
   obtain ⟨xs,h5,h6⟩:=cJ.mp ht
   split at h6
   ·rename_i q
    obtain ⟨is',h7,h8⟩:=cK.mp h6
    cases h8
    refine ⟨QZ X.K is.length (jT is),fun cl CC fp s H=>?_,Fy (B:=M.P.kt X) is rfl⟩
    obtain ⟨r1,r2,r3⟩:=qN (X:=X.block (locals sc++frees sc) sc cl CC fp s H) hnd (key cl CC fp s H) h5 q h7
    exact Di (X:=X.block (locals sc++frees sc) sc cl CC fp s H) C.calm r1 r2 r3
   ·cases h6
 ·match ifs,h4 with
  | [],_=>exact acj
  | [c],_=>exact ack ((R _ _ (blk cl CC fp s H)).2.1 c)
theorem jq (R:xy M ai k r) (C:CxOk M ai k L X) (e:Expr):PE X e (tO (M.P.kt X) (oN r L e)):=by
 cases e<;>first | exact gK | skip
 rename_i elt gs sc p
 match gs with
 | []=>exact gK
 | _::_::_=>exact gK
 | [⟨tg,iter,ifs,ay⟩]=>
  show PE X _ (tO (M.P.kt X) (mi r L elt ⟨tg,iter,ifs,ay⟩ sc))
  unfold mi
  split
  case isFalse=>exact gK
  rename_i h
  obtain ⟨rfl,h⟩:=h
  split
  ·rename_i js g is hj ht
   have K:=zt R C (elt:=elt) h hj ht
   obtain ⟨gt,h1,h2⟩:=K.ex
   exact UX (locals sc) C.calm K.sco K.fr K.it h1 h2 K.ts K.el K.lt K.st
  ·exact gK
theorem Gu (hE:B4 M X r L):∀ e:Option Expr,PO X e (tP (M.P.kt X) (Vz r L e))
 | none=>ab4
 | some e=>ab5 (hE e)
theorem Mw (h:isSlice e=false):iP e:=fun o i=>by
 unfold subscripted
 cases e<;>first | rfl | (cases h)
theorem zu {l:List (Nat × Nat)}{m:Str}(C:CxOk M ai k L X) (h:M.ms.lookup m=some l):∀ c f,az l ai c=some f->DnM M.P X.prog X.w X.K X.mg X.base k c m f:=fun c f hf=>by
 obtain ⟨i,h1,rfl⟩:=cK.mp hf
 exact C.gm.mts m l c i h h1
theorem Gv {kk:Nat}(c:Const):PE X (.Constant c kk pos) (tE (M.P.kt X) (Gb c)):=by
 cases c with
 | int i=>exact gT QO fun _ _=>rfl
 | bool b=>exact gT Oe fun _ _=>rfl
 | none=>exact gT QP fun _ _=>rfl
 | str s=>
  show PE X _ (tE _ (if s.length<=1000000 then cF (.str s.cps.toList) else bw))
  split
  ·rename_i h
   obtain ⟨⟨l⟩⟩:=s
   exact gT C_ fun _ _=>⟨rfl,by rw [<- eQ l];exact h⟩
  ·exact aT
 | _=>exact aT
theorem Mx (C:CxOk M ai k L X) (x:Str):PE X (.Name x pos) (tE (M.P.kt X) (Ge M L x)):=by
 unfold Ge
 split
 ·rename_i i hi
  split
  ·rename_i q
   obtain ⟨l1,l2,l3,l4⟩:=dG C q
   exact ET (by rw [C.N];exact fQ hi) l2 l3 l4
  ·exact aT
 ·split
  ·rename_i t ht
   split
   ·rename_i q
    obtain ⟨g1,g2⟩:=fR C q
    exact acx (C.gm.cst _ _ ht) rfl g1 g2
   ·exact aT
  ·exact aT
theorem acL (C:CxOk M ai k L X) (hE:B4 M X r L) {i:Expr}(h:iP i):PE X (.Subscript o i pos) (tE (M.P.kt X) (ixE M r L o i)):=by
 unfold ixE
 split
 ·rename_i y kk hk
  obtain ⟨y',h1,h2⟩:=cJ.mp hk
  obtain ⟨k',h2,h3⟩:=cK.mp h2
  cases h3
  obtain ⟨py,rfl⟩:=bz h1
  split
  ·rename_i q
   rw [cy] at q
   obtain ⟨l1,l2,l3,l4⟩:=dG C q.2
   exact U9 (by rw [C.N];exact fQ h2) l2 l3 l4 (hE _) h
  ·exact ab3 rfl (hE _) (hE _) h
 ·exact ab3 rfl (hE _) (hE _) h
theorem str_inv (h:jm e=some x):∃ kk p,e=.Constant (.str x) kk p:=by
 unfold jm at h
 cases hc:fY e with
 | none=>rw [hc] at h;cases h
 | some c=>
  rw [hc] at h
  cases c<;>first | (cases h;done) | skip
  cases h
  exact jX hc
theorem VN {q}(h:Ms e=some q):∃ p,e=.FormattedValue q.1 q.2.1 q.2.2 p:=by
 cases e<;>first | (cases h;done) | (cases h;exact ⟨_,rfl⟩)
theorem acM (hE:B4 M X r L) (es:List Expr):PE X (.JoinedStr es pos) (tE (M.P.kt X) (joE r L es)):=by
 match es with
 | []=>exact aT
 | [_]=>exact aT
 | [_,_]=>exact aT
 | _::_::_::_::_=>exact aT
 | [e,q,f]=>
  show PE X _ (tE (M.P.kt X) (match jm e,Ms q,jm f with | some x,some (a,cv,none),some y=>_ | _,_,_=>bw))
  cases h1:jm e with
  | none=>exact aT
  | some x=>
  cases h2:Ms q with
  | none=>exact aT
  | some w=>
  obtain ⟨a,cv,o⟩:=w
  cases o with
  | some _=>exact aT
  | none=>
  cases h3:jm f with
  | none=>exact aT
  | some y=>
  obtain ⟨k1,p1,rfl⟩:=str_inv h1
  obtain ⟨p2,rfl⟩:=VN h2
  obtain ⟨k3,p3,rfl⟩:=str_inv h3
  show PE X _ (tE (M.P.kt X) (if _ then _ else bw))
  split
  ·rename_i h
   obtain ⟨rfl,h1,h2⟩:=h
   exact U8 rfl (hE _) h1 h2
  ·exact aT
theorem VO (C:CxOk M ai k L X) (hE:B4 M X r L) (o:Expr) (m:Str) (ap:Pos) (args:List Expr) (cp:Pos):PE X (.Call (.Attribute o m ap) args [] cp) (tE (M.P.kt X) (VB M ai r L o m ap args cp)):=by
 obtain ⟨j,hj,hr⟩:=C.room
 unfold VB
 split
 case isFalse=>exact aT
 rename_i h
 simp only [cy,decide_eq_true_eq] at h
 obtain ⟨⟨⟨h1,h2⟩,h3⟩,h4⟩:=h
 have hA:=eZ hE args h2
 split
 ·rename_i l hl
  cases args with
  | nil=>exact LP (zu C hl) hr (by omega) (hE o) (Qa h1 h2 (by omega) h4)
  | cons a args=>exact UO (zu C hl) hr (by omega) (hE o) hA h2 (Qa h1 h2 (by omega) h4)
 ·split
  ·rename_i g a acK hg
   exact ab6 (UK (m,g) (bY hg)) rfl (hE o) hA h1 h2 (by rw [dq] at h3;omega) h4
  ·exact aT
theorem Gw (R:xy M ai k r) (C:CxOk M ai k L X) (e:Expr):PE X e (tE (M.P.kt X) (Qj M ai r L e)):=by
 obtain ⟨hE,hT,hI,hO⟩:=R L X C
 cases e with
 | Constant c _ _=>exact Gv c
 | Name x _=>exact Mx C x
 | BinOp a op b _=>exact abZ rfl _ (hE _) (hE _)
 | UnaryOp op a _=>cases op with
  | USub=>exact ab0 rfl (hE _)
  | Not=>exact Ux (hE _)
  | _=>exact aT
 | BoolOp op es _=>cases op with
  | And=>exact uy hE _
  | Or=>exact zp hE _
 | Compare a ops bs _=>
  match ops,bs with
  | [op],[b]=>
   show PE X _ (tE (M.P.kt X) (if behindInMarks op b then bw else ur r L a op b))
   split
   ·exact aT
   ·rename_i h
    exact Mv C hE (by simpa using h)
  | [],_=>exact aT
  | _::_::_,_=>exact aT
  | [_],[]=>exact aT
  | [_],_::_::_=>exact aT
 | IfExp c a b _=>exact abU (hT _) (hE _) (hE _)
 | Tuple es _ _=>
  show PE X _ (tE (M.P.kt X) (if es.all noStar then _ else bw))
  split
  ·rename_i h;exact abO (eZ hE _ h)
  ·exact aT
 | List es _=>
  show PE X _ (tE (M.P.kt X) (if es.all noStar then _ else bw))
  split
  ·rename_i h;exact abP (eZ hE _ h)
  ·exact aT
 | Subscript o i _=>
  show PE X _ (tE (M.P.kt X) (VA M r L o i))
  cases hs:isSlice i with
  | false=>
   rw [show VA M r L o i=ixE M r L o i by cases i<;>first | rfl | cases hs]
   exact acL C hE (Mw hs)
  | true=>
   cases i<;>first | (cases hs;done) | skip
   rename_i lo hi st _
   cases st with
   | none=>exact afb rfl (hE _) (Gu hE _) (Gu hE _)
   | some _=>exact aT
 | Attribute o f _=>
  show PE X _ (tE (M.P.kt X) (if dE o then _ else bw))
  split
  ·rename_i h
   split
   ·rename_i j hj
    exact acd C.gm.pg (fQ hj) (hE _) h
   ·exact aT
  ·exact aT
 | JoinedStr vs _=>exact acM hE vs
 | ListComp elt gs sc p=>exact EV (jq R C _)
 | Call f args ks cp=>
  cases ks with
  | cons _ _=>exact aT
  | nil=>cases f with
   | Name f _=>exact Gq C hE _ _
   | Attribute o m ap=>exact VO C hE o m ap args cp
   | _=>exact aT
 | _=>exact aT
theorem Gx (R:xy M ai k r) (C:CxOk M ai k L X) (e:Expr):PT X e (tT (M.P.kt X) (stepT r L e)):=by
 obtain ⟨hE,hT,hI,hO⟩:=R L X C
 cases e with
 | BoolOp op es _=>cases op with
  | And=>exact (uz hT _).pt
  | Or=>exact (zq hT _).pt
 | UnaryOp op a _=>cases op with
  | Not=>exact abS (hT _)
  | _=>exact PR (hE _) rfl fun gb=>rfl
 | Compare a ops bs _=>
  match ops,bs with
  | [op],[b]=>
   show PT X _ (tT (M.P.kt X) (if behindInMarks op b then nM else cD (ur r L a op b)))
   split
   ·exact iy
   ·rename_i h
    exact Gp C hE (by simpa using h)
  | [],_=>exact iy
  | _::_::_,_=>exact iy
  | [_],[]=>exact iy
  | [_],_::_::_=>exact iy
 | IfExp _ _ _ _=>exact iy
 | _=>exact PR (hE _) rfl fun gb=>rfl
theorem Gy {e a:Expr}{n:Int}(h:uu e=some (a,n)):∃ p pos,(n=0/\e=.Call (.Name "enumerate" p) [a] [] pos)\/(n=1/\∃ k1 p1 kp,e=.Call (.Name "enumerate" p) [a] [⟨some (Str.ofString "start"),.Constant (.int 1) k1 p1,kp⟩] pos):=by
 obtain ⟨⟨f,as,ks⟩,h1,hh⟩:=cJ.mp h
 clear h
 obtain ⟨p,pos,rfl⟩:=dF h1
 have h:=hh;clear hh
 split at h
 case isFalse=>cases h
 rename_i q
 replace q:f=("enumerate" : Str):=q
 subst q
 match as,ks,h with
 | [a'],[],h=>cases h;exact ⟨_,_,.inl ⟨rfl,rfl⟩⟩
 | [a'],[⟨an,v,kp⟩],h=>
  dsimp only at h
  cases hc:fY v with
  | none=>rw [hc] at h;cases h
  | some c=>
   rw [hc] at h
   cases c<;>first | (cases h;done) | skip
   obtain ⟨k1,p1,rfl⟩:=jX hc
   dsimp only at h
   split at h
   ·rename_i q;obtain ⟨rfl,rfl⟩:=q;cases h;exact ⟨_,_,.inr ⟨rfl,_,_,_,rfl⟩⟩
   ·cases h
theorem Gz (R:xy M ai k r) (C:CxOk M ai k L X) (tg e:Expr):PI X tg e (tI (M.P.kt X) (stepI M r L tg e)):=by
 obtain ⟨hE,hT,hI,hO⟩:=R L X C
 unfold stepI
 split
 ·rename_i a n hen
  split
  case isFalse=>exact P4
  rename_i h
  simp only [cy] at h
  obtain ⟨⟨h1,h2⟩,h3⟩:=h
  obtain ⟨g1,g2,_⟩:=jo C h1
  cases tg<;>first | (cases h2;done) | skip
  obtain ⟨p,pos,h4 | h4⟩:=Gy hen
  ·obtain ⟨rfl,rfl⟩:=h4
   exact acs rfl g1 g2 (hE a) h3
  ·obtain ⟨rfl,k1,p1,kp,rfl⟩:=h4
   exact acu rfl g1 g2 (hE a) h3
 ·split
  ·rename_i h
   cases tg<;>first | (cases h;done) | skip
   exact aci rfl (hE e)
  ·exact P6 rfl (hE e)
theorem GA (R:xy M ai k r) (C:CxOk M ai k L X) (e:Expr):PE X e (tO (M.P.kt X) (Qk r L e)):=by
 obtain ⟨hE,hT,hI,hO⟩:=R L X C
 cases e with
 | List es _=>
  show PE X _ (tO (M.P.kt X) (if es.all noStar then _ else iX))
  split
  ·rename_i h;exact Uu (eZ hE _ h)
  ·exact gK
 | ListComp elt gs sc p=>exact jq R C _
 | _=>exact gK
theorem bW:∀ n,xy M ai k (comp M ai n)
 | 0=>fun L X C=>⟨fun _=>aT,fun _=>iy,fun _ _=>P4,fun _=>gK⟩
 | n+1=>fun L X C=>⟨Gw (bW n) C,Gx (bW n) C,Gz (bW n) C,GA (bW n) C⟩
structure B5 (M:Gm) (ai:Nat->Fn) (k:Nat) (L:Lc) (X:Cx):Prop extends CxOk M ai k L X where
 fn:∀ x,X.fn x=true
 nd:X.N.Nodup
 xe:X.xe=fun _ _=>False
 stk:X.stack=X.env::X.outer
 frm:X.env.frame=some X.env.locals
theorem gO {t:Option Expr}{l:Nat}(h:uv e=false):swapsWith e t l X.env=pure false:=by
 cases e<;>first | rfl | (cases h)
theorem VP (C:CxOk M ai k L X) {tp:Pos}{l:Nat}(h:uv e=true->∃ elt gs sc p,e=.ListComp elt gs sc p):swapsWith e (some (.Name x tp)) l X.env=pure (Gg L x tp e):=by
 cases e<;>first | rfl | skip
 ·unfold swapsWith Gg Env.blockKind Env.kindOf
  rw [C.sc]
  rfl
 ·obtain ⟨_,_,_,_,z⟩:=h rfl;cases z
 ·obtain ⟨_,_,_,_,z⟩:=h rfl;cases z
theorem passes (C:B5 M ai k L X):PassesOwn (model X.prog X.w) X.A X.env X.xe:=by rw [C.xe];exact PassesOwn.never
theorem My (h:Gh e=true):∃ dp,e=.Dict [] [] dp:=by
 cases e<;>first | (cases h;done) | skip
 rename_i ks vs dp
 match ks,vs,h with
 | [],[],_=>exact ⟨_,rfl⟩
theorem VQ (h:uv e=true):Gh e=false:=by
 cases e<;>first | rfl | (cases h)
theorem Mz (C:B5 M ai k L X) (n:Nat) (e:Expr):PS X (.Assign [.Name x cu] e pos) (tS (M.P.kt X) (Gi M ai n L x e)):=by
 obtain ⟨hE,hT,hI,hO⟩:=bW (M:=M) (ai:=ai) (k:=k) n L X C.toCxOk
 unfold Gi
 split
 case h_2=>exact bK
 rename_i i hi
 split
 case isFalse=>exact bK
 rename_i q
 obtain ⟨l1,l2,l3,l4⟩:=dG C.toCxOk q
 have hN:X.N[i]?=some x:=by rw [C.N];exact fQ hi
 have hf:X.fn x=true\/X.env.scope.names.lookup x=some .local:=.inl (C.fn x)
 split
 ·rename_i hd
  rw [cy] at hd
  exact yR C.nd hN l1 (hE e) (gO (by have h:=hd.2;cases e<;>first | rfl | (cases h;done))) hf
 by_cases hlc:uv e=false
 ·split
  ·split
   ·rename_i hd
    obtain ⟨dp,rfl⟩:=My hd
    exact Ve C.nd hN l1 hf
   ·exact P7 C.nd hN l1 (hO e) (gO hlc) hf
  ·exact yR C.nd hN l1 (hE e) (gO hlc) hf
 ·rw [VQ (by simpa using hlc),if_neg d_]
  cases n with
  | zero=>
   split
   ·exact fun _ _ _ _ _ _ ⟨_,_,_,_,_,h,_⟩=>by cases h
   ·exact fun _ _ _ _ _ _ ⟨_,_,_,_,_,h,_⟩=>by cases h
  | succ n=>
   cases e with
   | ListComp elt gs sc cp=>
    have R:=bW (M:=M) (ai:=ai) (k:=k) n
    have main:PS X (.Assign [.Name x cu] (.ListComp elt gs sc cp) pos) (tS (M.P.kt X) (i7 i (oN (comp M ai n) L (.ListComp elt gs sc cp))))/\PS X (.Assign [.Name x cu] (.ListComp elt gs sc cp) pos) (tS (M.P.kt X) (aV i (c6 (oN (comp M ai n) L (.ListComp elt gs sc cp))))):=by
     have sw:=VP (X:=X) (x:=x) (tp:=cu) (l:=pos.line) (e:=.ListComp elt gs sc cp) C.toCxOk (fun _=>⟨_,_,_,_,rfl⟩)
     cases hb:Gg L x cu (.ListComp elt gs sc cp) with
     | false=>
      rw [hb] at sw
      exact ⟨P7 C.nd hN l1 (jq R C.toCxOk _) sw hf,yR C.nd hN l1 (EV (jq R C.toCxOk _)) sw hf⟩
     | true=>
      rw [hb] at sw
      have bad:PS X (.Assign [.Name x cu] (.ListComp elt gs sc cp) pos) (tS (M.P.kt X) (i7 i iX))/\PS X (.Assign [.Name x cu] (.ListComp elt gs sc cp) pos) (tS (M.P.kt X) (aV i (c6 iX))):=
       ⟨fun _ _ _ _ _ _ ⟨_,_,_,_,_,h,_⟩=>(by cases h),fun _ _ _ _ _ _ ⟨_,_,_,_,_,h,_⟩=>(by cases h)⟩
      match gs with
      | []=>exact bad
      | _::_::_=>exact bad
      | [⟨tg,iter,ifs,ay⟩]=>
       rw [show oN (comp M ai n) L (.ListComp elt [⟨tg,iter,ifs,ay⟩] sc cp)=mi (comp M ai n) L elt ⟨tg,iter,ifs,ay⟩ sc from rfl]
       unfold mi
       split
       case isFalse=>exact bad
       rename_i h
       obtain ⟨rfl,h⟩:=h
       split
       ·rename_i js g is hj ht
        have K:=zt R C.toCxOk (elt:=elt) h hj ht
        obtain ⟨gt,h1,h2⟩:=K.ex
        exact U1 (locals sc) C.calm C.nd hN l1 K.sco K.fr K.it h1 h2 K.ts K.el K.lt K.st hf sw
       ·exact bad
    split
    ·exact main.1
    ·exact main.2
   | SetComp a b c d=>
    split
    ·exact fun _ _ _ _ _ _ ⟨_,_,_,_,_,h,_⟩=>by cases h
    ·exact fun _ _ _ _ _ _ ⟨_,_,_,_,_,h,_⟩=>by cases h
   | DictComp a b c d f=>
    split
    ·exact fun _ _ _ _ _ _ ⟨_,_,_,_,_,h,_⟩=>by cases h
    ·exact fun _ _ _ _ _ _ ⟨_,_,_,_,_,h,_⟩=>by cases h
   | _=>exact absurd rfl hlc
theorem MA {mu:List Str}{e a:Expr}{y:Str}(h:zl mu e=some (y,a)):noStar a=true/\∃ py ap cp,e=.Call (.Attribute (.Name y py) "append" ap) [a] [] cp/\(ap.endLine == cp.line)=true:=by
 obtain ⟨⟨f,as,ks,cp⟩,h1,h⟩:=cJ.mp h
 obtain ⟨w,h2,h⟩:=cJ.mp h
 obtain ⟨y',h3,h⟩:=cJ.mp h
 match as,ks,h1,h with
 | [a'],[],h1,h=>
  dsimp only at h
  split at h
  ·rename_i q
   obtain ⟨q1,_,q3,q4⟩:=q
   cases h
   obtain ⟨py,h3⟩:=bz h3
   rw [jV h1,qC h2,h3,q1]
   exact ⟨q3,_,_,_,rfl,q4⟩
  ·cases h
theorem MB {mu:List Str}{e a b:Expr}{y:Str}(h:zm mu e=some (y,a,b)):[a,b].all noStar=true/\∃ py ap cp,e=.Call (.Attribute (.Name y py) "insert" ap) [a,b] [] cp/\(ap.endLine == cp.line)=true:=by
 obtain ⟨⟨f,as,ks,cp⟩,h1,h⟩:=cJ.mp h
 obtain ⟨w,h2,h⟩:=cJ.mp h
 obtain ⟨y',h3,h⟩:=cJ.mp h
 match as,ks,h1,h with
 | [a',b'],[],h1,h=>
  dsimp only at h
  split at h
  ·rename_i q
   obtain ⟨q1,_,q3,q4⟩:=q
   cases h
   obtain ⟨py,h3⟩:=bz h3
   rw [jV h1,qC h2,h3,q1]
   exact ⟨q3,_,_,_,rfl,q4⟩
  ·cases h
theorem jt {es:List Expr}{x1:Nat}{tp:Pos}(h:Ql e=true):swappedStores [.Tuple es x1 tp] e X.env=pure none:=by
 cases e<;>first | rfl | skip
 rename_i vs _ _
 unfold swappedStores
 dsimp only
 rw [show vs.all (foldedForSure 8)=true from h]
 split
 ·rfl
 split
 ·rfl
 split
 ·rfl
 rfl
theorem tgl (C:B5 M ai k L X):∀ x i,fk L x=true->jE L.N x=some i->X.N[i]?=some x/\Loc X.env.scope x/\(X.fn x=true\/X.env.scope.names.lookup x=some .local):=fun x i h1 h2=>⟨by rw [C.N];exact fQ h2,(dG C.toCxOk h1).1,.inl (C.fn x)⟩
theorem MC (C:B5 M ai k L X) (n:Nat) (es:List Expr) {x1:Nat}{tp:Pos}(e:Expr):PS X (.Assign [.Tuple es x1 tp] e pos) (tS (M.P.kt X) (tupS M ai n L es e)):=by
 obtain ⟨hE,hT,hI,hO⟩:=bW (M:=M) (ai:=ai) (k:=k) n L X C.toCxOk
 unfold tupS
 split
 ·exact bK
 ·rename_i h
  simp only [CM,not_or,Bool.not_eq_true,Bool.not_eq_eq_eq_not,CN,CU] at h
  obtain ⟨⟨h1,h2⟩,h3⟩:=h
  split
  ·rename_i g ht
   obtain ⟨xs,h4,h5⟩:=cJ.mp ht
   split at h5
   case isFalse=>cases h5
   rename_i q
   rw [cy] at q
   obtain ⟨is,h6,rfl⟩:=cK.mp h5
   obtain ⟨r1,r2,r3⟩:=qN C.nd (tgl C) h4 q.1 h6
   exact P8 (hE e) (Vu C.calm r1 r2 r3) (Vv (B:=M.P.kt X) _ rfl) (show swapsWith e (some (.Tuple es x1 tp)) pos.line X.env=pure false from gO h1) (jt (by simpa using h2)) rfl
  split
  ·rename_i g is ht
   obtain ⟨gt,q1,q2⟩:=Qm (B:=M.P.kt X) (tg:=.Tuple es x1 tp) rfl C.calm C.nd (tgl C) ht
   exact P8 (hE e) q1 q2 (show swapsWith e (some (.Tuple es x1 tp)) pos.line X.env=pure false from gO h1) (jt (by simpa using h2)) rfl
  ·exact bK
theorem MD (C:B5 M ai k L X) (n:Nat) (o:Expr) (f:Str) {fp:Pos}(e:Expr):PS X (.Assign [.Attribute o f fp] e pos) (tS (M.P.kt X) (VE M ai n L o f e)):=by
 obtain ⟨hE,hT,hI,hO⟩:=bW (M:=M) (ai:=ai) (k:=k) n L X C.toCxOk
 unfold VE
 split
 ·exact bK
 ·rename_i h
  split
  ·rename_i j hj
   exact acq C.gm.pg (fQ hj) (hE o) (hE e) (gO (by simpa using h))
  ·exact bK
theorem ME (C:B5 M ai k L X) (n:Nat) (o b:Expr) {sp:Pos}(e:Expr):PS X (.Assign [.Subscript o b sp] e pos) (tS (M.P.kt X) (VF M ai n L o b e)):=by
 obtain ⟨hE,hT,hI,hO⟩:=bW (M:=M) (ai:=ai) (k:=k) n L X C.toCxOk
 unfold VF
 split
 case h_2=>exact bK
 rename_i y hy
 obtain ⟨py,rfl⟩:=bz hy
 split
 ·exact bK
 ·rename_i h
  split
  ·rename_i i hi
   split
   ·rename_i q
    obtain ⟨l1,l2,l3,l4⟩:=dG C.toCxOk q
    obtain ⟨j,hj,hr⟩:=C.room
    exact Vf hr (hE e) (hE b) (by rw [C.N];exact fQ hi) l2 l3 l4 (gO (by simpa using h))
   ·exact bK
  ·exact bK
theorem MF (C:B5 M ai k L X) (n:Nat) (t:Expr) (op:Operator) (e:Expr):PS X (.AugAssign t op e pos) (tS (M.P.kt X) (VG M ai n L t op e)):=by
 obtain ⟨hE,hT,hI,hO⟩:=bW (M:=M) (ai:=ai) (k:=k) n L X C.toCxOk
 unfold VG
 split
 case h_2=>exact bK
 rename_i x i hk
 obtain ⟨x',h1,h2⟩:=cJ.mp hk
 obtain ⟨i',h2,h3⟩:=cK.mp h2
 cases h3
 obtain ⟨py,rfl⟩:=bz h1
 split
 ·rename_i q
  obtain ⟨rfl,q⟩:=q
  obtain ⟨l1,l2,l3,l4⟩:=dG C.toCxOk q
  exact acw C.nd (by rw [C.N];exact fQ h2) l1 (hE _) (.inl (C.fn _))
 ·exact bK
theorem VR (C:B5 M ai k L X) (n:Nat) (e:Expr):PS X (.Expr e pos) (tS (M.P.kt X) (exS M ai n L e)):=by
 obtain ⟨hE,hT,hI,hO⟩:=bW (M:=M) (ai:=ai) (k:=k) n L X C.toCxOk
 unfold exS
 split
 ·rename_i y a ha
  obtain ⟨h1,py,ap,cp,rfl,h2⟩:=MA ha
  split
  ·rename_i i hi
   split
   ·rename_i q
    obtain ⟨l1,l2,l3,l4⟩:=dG C.toCxOk q
    exact aco (hE a) (by rw [C.N];exact fQ hi) l2 l3 l4 h1 h2
   ·exact bK
  ·exact bK
 split
 ·rename_i y a b ha
  obtain ⟨h1,py,ap,cp,rfl,h2⟩:=MB ha
  split
  ·rename_i i hi
   split
   ·rename_i q
    obtain ⟨l1,l2,l3,l4⟩:=dG C.toCxOk q
    exact acD (eZ hE [a,b] h1) (by rw [C.N];exact fQ hi) l2 l3 l4 h1 h2
   ·exact bK
  ·exact bK
 ·split
  ·exact bK
  ·rename_i h
   exact U4 (hE e) (gO (by simpa using h))
theorem VS {st:Stmt}(h:acH st=some e):∃ p,st=.Expr e p:=by
 cases st<;>first | (cases h;done) | (cases h;exact ⟨_,rfl⟩)
theorem k6 {st:Stmt}{q}(h:uw st=some q):∃ p p',st=.Assign [.Name q.1 p] q.2 p':=by
 cases st<;>first | (cases h;done) | skip
 rename_i ts e p
 match ts,h with
 | [t],h=>
  obtain ⟨x,h1,rfl⟩:=cK.mp (show (asName t).map _=some q from h)
  obtain ⟨p,rfl⟩:=bz h1
  exact ⟨_,_,rfl⟩
theorem lst_inv (h:zo e=some es):∃ p,e=.List es p:=by
 cases e<;>first | (cases h;done) | (cases h;exact ⟨_,rfl⟩)
theorem zw {q}(h:Gj e=some q):∃ p,e=.BinOp q.1 .Add q.2 p:=by
 cases e<;>first | (cases h;done) | skip
 replace h:(if _ then some _ else none)=some q:=h
 split at h
 ·rename_i z;cases h;subst z;exact ⟨_,rfl⟩
 ·cases h
theorem ju {Cx:Addr}{nm:Str}{i:Nat}{a:Addr}{oe:Obj}(C:CxOk M ai k L X) (F:Ig M X.K X.mg Cx) (hc:oe.cls=.ref Cx) (hN:X.N[i]?=some nm) (hl:fk L nm=true) (hb:blt M L ("isinstance" : Str)=true):∀ {es:List Expr}{bs:List Bool},ux M L nm es=some bs->PA (iF X a oe) es (Vo i a bs)
 | [],_,h=>by cases h;exact Vq
 | e::es,_,h=>by
  obtain ⟨⟨f,as,ks⟩,h1,h2⟩:=cJ.mp (show (gM e).bind _=some _ from h)
  clear h
  obtain ⟨p,pos,rfl⟩:=dF h1
  match as,ks,h2 with
  | [u,v],[],h2=>
   obtain ⟨n,h3,h2a⟩:=cJ.mp h2
   obtain ⟨y,h4,h2b⟩:=cJ.mp h2a
   clear h2 h2a
   split at h2b
   case isFalse=>cases h2b
   rename_i q
   obtain ⟨t,h5,h2c⟩:=cJ.mp h2b
   obtain ⟨bs,h6,z⟩:=cK.mp h2c
   clear h2b h2c
   subst z
   obtain ⟨q1,q2,q3⟩:=q
   obtain ⟨pn,z⟩:=bz h3
   subst z
   obtain ⟨py,z⟩:=bz h4
   subst z
   subst q2
   have q1:f=("isinstance" : Str):=q1
   subst q1
   obtain ⟨l1,l2,l3,l4⟩:=dG C hl
   obtain ⟨g1,g2,_⟩:=jo C hb
   obtain ⟨g3,_⟩:=fR C q3
   exact Mp (Vs F.ec hc (F.xi y t h5) g2 hN l2 l3 l4 g1 g3) (ju C F hc hN hl hb h6) (aB rfl)
theorem VT {Cx:Addr}{nm x:Str}{i j:Nat}{bs:List Bool}{su:List Stmt}(C:B5 M ai k L X) (F:Ig M X.K X.mg Cx) (hN:X.N[i]?=some nm) (hl:fk L nm=true) (hb:blt M L ("isinstance" : Str)=true) (hj:X.N[j]?=some x) (hx:fk L x=true) (h:suA M L nm su=some (x,bs)) :
  ∃ st r,su=st::r/\∀ a oe,oe.cls=.ref Cx->fD (iF X a oe) (st::r) (tSu i j a bs):=by
 match su,h with
 | [s1,s2,s3],h=>
  obtain ⟨q1,h1,h⟩:=cJ.mp h
  obtain ⟨q2,h2,h⟩:=cJ.mp h
  obtain ⟨q3,h3,h⟩:=cJ.mp h
  obtain ⟨w2,h4,h⟩:=cJ.mp h
  obtain ⟨w3,h5,h⟩:=cJ.mp h
  obtain ⟨n2,h6,h⟩:=cJ.mp h
  obtain ⟨n3,h7,h⟩:=cJ.mp h
  split at h
  case isFalse=>cases h
  rename_i q
  obtain ⟨e1,e2,e3,e4⟩:=q
  obtain ⟨l1,f1,h⟩:=cJ.mp h
  obtain ⟨l2,f2,h⟩:=cJ.mp h
  obtain ⟨l3,f3,h⟩:=cJ.mp h
  obtain ⟨b1,g1,h⟩:=cJ.mp h
  obtain ⟨b2,g2,h⟩:=cJ.mp h
  obtain ⟨b3,g3,h⟩:=cJ.mp h
  split at h
  case isFalse=>cases h
  rename_i hz
  injection h with h
  injection h with z1 z2
  obtain ⟨p1,r1,c1⟩:=k6 h1
  obtain ⟨p2,r2,c2'⟩:=k6 h2
  obtain ⟨p3,r3,c3'⟩:=k6 h3
  obtain ⟨a2,c2⟩:=zw h4
  obtain ⟨a3,c3⟩:=zw h5
  obtain ⟨m2,d2⟩:=bz h6
  obtain ⟨m3,d3⟩:=bz h7
  obtain ⟨k1,i1⟩:=lst_inv f1
  obtain ⟨k2,i2⟩:=lst_inv f2
  obtain ⟨k3,i3⟩:=lst_inv f3
  refine ⟨_,_,rfl,fun a oe hc=>?_⟩
  rw [<- z2,c1,c2',c3',e1,e2,c2,c3,d2,d3,e3,e4,i1,i2,i3,z1]
  obtain ⟨y1,y2,y3,y4⟩:=dG C.toCxOk hx
  exact Vr C.nd hj y1 (ju C.toCxOk F hc hN hl hb g1) (ju C.toCxOk F hc hN hl hb g2) (ju C.toCxOk F hc hN hl hb g3) hz y2 y3 y4 rfl rfl rfl (.inl (C.fn _))
theorem MG (C:B5 M ai k L X) (n:Nat) {body:List Stmt}{hs:List ExceptHandler}{F:FS}(h:Mu M ai n L body hs=some F):PS X (.Try body hs [] [] pos) (tS (M.P.kt X) F):=by
 obtain ⟨hE,hT,hI,hO⟩:=bW (M:=M) (ai:=ai) (k:=k) n L X C.toCxOk
 obtain ⟨jr,hj,hr⟩:=C.room
 match body,hs,h with
 | [s],[.ExceptHandler ty nm su hp],h=>
  obtain ⟨e,h1,h⟩:=cJ.mp h
  obtain ⟨⟨f,as,ks⟩,h2,h⟩:=cJ.mp h
  obtain ⟨i,h3,h⟩:=cJ.mp h
  obtain ⟨y,h4,h⟩:=cJ.mp h
  obtain ⟨ty',XF,h4⟩:=cJ.mp h4
  split at h
  case isFalse=>cases h
  rename_i q
  obtain ⟨q1,q2,q3,q4,q5,q6⟩:=q
  obtain ⟨A,h5,z⟩:=cK.mp h
  subst z
  obtain ⟨yp,z⟩:=bz h4
  subst z
  subst XF
  obtain ⟨ep,rfl⟩:=VS h1
  obtain ⟨p,pos,rfl⟩:=dF h2
  have q4:ks=[]:=List.isEmpty_iff.mp q4
  subst q4
  obtain ⟨Cx,FC,D⟩:=C.gm.xs f i h3
  obtain ⟨g1,g2⟩:=fR C.toCxOk q1
  obtain ⟨g3,g4⟩:=fR C.toCxOk q2
  obtain ⟨_,CB,m1,m2⟩:=FC.xm y q3
  dsimp only at q5 q6 ⊢
  have hA:=eZ hE as q6
  cases as with
  | nil=>cases q5
  | cons a as=>
  match nm,su,h5 with
  | none,[s],h5=>
   obtain ⟨⟨x,v⟩,z1,h6⟩:=cJ.mp h5
   clear h5
   obtain ⟨p1,r1,rfl⟩:=k6 z1
   have h5:=h6
   clear h6
   dsimp only at h5
   cases hc:fY v with
   | none=>rw [hc] at h5;cases h5
   | some c=>
    rw [hc] at h5
    cases c<;>first | (cases h5;done) | skip
    obtain ⟨k1,p2,rfl⟩:=jX hc
    obtain ⟨j,z2,h5⟩:=cJ.mp h5
    split at h5
    case isFalse=>cases h5
    rename_i ql
    cases h5
    obtain ⟨l1,l2,l3,l4⟩:=dG C.toCxOk ql
    have hN:X.N[j]?=some x:=by rw [C.N];exact fQ z2
    exact Vm C.xe D hr (by omega) hA g1 g2 q6 m1 m2 g3 g4 (fun a oe=>FF (yR (X:=iF X a oe) C.nd hN l1 (gT Oe fun _ _=>rfl) rfl (.inl (C.fn x)))) C.stk C.frm
  | some nm,su,h5=>
   obtain ⟨⟨x,bs⟩,z1,h5⟩:=cJ.mp h5
   obtain ⟨i',z2,h5⟩:=cJ.mp h5
   obtain ⟨j,z3,h5⟩:=cJ.mp h5
   split at h5
   case isFalse=>cases h5
   rename_i z4
   obtain ⟨z4,z5,z6,z7,z8⟩:=z4
   cases h5
   have hi:X.N[i']?=some nm:=by rw [C.N];exact fQ z2
   have hj':X.N[j]?=some x:=by rw [C.N];exact fQ z3
   obtain ⟨st,r,rfl,hsu⟩:=VT C FC hi z5 z8 hj' z4 z1
   exact Mq C.xe D hr (by omega) hA g1 g2 q6 m1 m2 g3 g4 C.nd hi (du.mp hj').1 z7 (by rw [C.sc];exact z6) hsu C.stk C.frm
theorem GC (C:B5 M ai k L X) (n:Nat) {rS:Lc->List Stmt->FS}(hS:∀ B3,fD X B3 (tS (M.P.kt X) (rS L B3))) (st:Stmt):PS X st (tS (M.P.kt X) (stF M ai n rS L st)):=by
 obtain ⟨hE,hT,hI,hO⟩:=bW (M:=M) (ai:=ai) (k:=k) n L X C.toCxOk
 cases st with
 | Assign ts e pos=>
  match ts with
  | []=>exact bK
  | _::_::_=>exact bK
  | [t]=>cases t with
   | Name x _=>exact Mz C n _
   | Tuple es _ _=>exact MC C n es e
   | Attribute o f _=>exact MD C n o f e
   | Subscript o b _=>exact ME C n o b e
   | _=>exact bK
 | AugAssign t op e pos=>exact MF C n t op e
 | Expr e pos=>exact VR C n e
 | Return o pos=>cases o with
  | none=>exact U3
  | some e=>exact P9 (hE _)
 | If c a b pos=>exact afi (hT _) (hS _) (hS _)
 | For tg it body oe pos=>cases oe with
  | cons _ _=>exact bK
  | nil=>
   show PS X _ (tS (M.P.kt X) (VH M ai n L (rS L body) tg it))
   unfold VH
   split
   ·exact bK
   ·rename_i h
    split
    ·rename_i g is ht
     obtain ⟨gt,q1,q2⟩:=Qm (B:=M.P.kt X) rfl C.calm C.nd (tgl C) ht
     exact acp C.calm (hI tg it) q1 q2 (hS body) (passes C) (zr (by simpa using h))
    ·exact bK
 | While c body oe pos=>cases oe with
  | cons _ _=>exact bK
  | nil=>exact LS _ (hT _) (hS _) (passes C)
 | Try body hs oe fb pos=>
  match hs,oe,fb with
  | [],_,_=>exact bK
  | _::_,_::_,_=>exact bK
  | _::_,[],_::_=>exact bK
  | h0::hs,[],[]=>
   show PS X _ (tS (M.P.kt X) (match Mu M ai n L body (h0::hs) with | some F=>F | none=>rS L body))
   cases ht:Mu M ai n L body (h0::hs) with
   | some F=>exact MG C n ht
   | none=>exact acy C.xe (hS _)
 | Pass _=>exact UZ
 | Break _=>exact LR
 | Continue _=>exact U0
 | _=>exact bK
theorem gU (n:Nat):∀ (m:Nat) (L:Lc) (X:Cx),B5 M ai k L X->∀ B3,fD X B3 (tS (M.P.kt X) (mj M ai n m L B3))
 | 0,_,_,_,_=>Fz
 | m+1,L,X,C,[]=>acn
 | m+1,L,X,C,[st]=>FF (GC C n (gU n m L X C) st)
 | m+1,L,X,C,st::s2::rest=>UY (GC C n (gU n m L X C) st) (gU n m L X C (s2::rest))
theorem VU {st:Stmt}(h:VI st=some e):∃ p,st=.Raise (some e) none p:=by
 cases st<;>first | (cases h;done) | skip
 rename_i o c p
 match o,c,h with
 | some e',none,h=>cases h;exact ⟨_,rfl⟩
theorem BH {st:Stmt}(h:jn M L st=some c):vq L M.xc=true/\∃ np l kk lp cp rp p,st=.If c [.Raise (some (.Call (.Name M.xc np) [.Constant (.str l) kk lp] [] cp)) none rp] [] p:=by
 cases st<;>first | (cases h;done) | skip
 rename_i c' a b p
 match a,b,h with
 | [st],[],h=>
  obtain ⟨e,h0,h⟩:=cJ.mp (show (VI st).bind _=some c from h)
  obtain ⟨⟨f,as,ks⟩,h1,h⟩:=cJ.mp h
  obtain ⟨rp,rfl⟩:=VU h0
  obtain ⟨np,cp,rfl⟩:=dF h1
  match as,ks,h with
  | [t],[],h=>
   obtain ⟨l,h2,h⟩:=cJ.mp h
   obtain ⟨kk,lp,rfl⟩:=str_inv h2
   split at h
   ·rename_i q
    obtain ⟨q1,q2⟩:=q
    cases h
    have q1:f=M.xc:=q1
    subst q1
    exact ⟨q2,_,_,_,_,_,_,_,rfl⟩
   ·cases h
theorem VV (C:CxOk M ai k L X) (n:Nat) (hN:X.N.Nodup) (hf:∀ x,X.fn x=true) (st:Stmt):fD X [st] (tS (M.P.kt X) (Gk M ai n L st)):=by
 obtain ⟨hE,hT,hI,hO⟩:=bW (M:=M) (ai:=ai) (k:=k) n L X C
 cases st<;>first | exact Fz | skip
 rename_i o p
 cases o with
 | none=>exact Fz
 | some e=>exact FF (P9 (hE e))
theorem xD {n:Nat}{st s2:Stmt}{rest:List Stmt}(h:jn M L st=some c):ko M ai n L (st::s2::rest)=xF ((comp M ai n).T L c) (ko M ai n L (s2::rest)):=by
 rw [ko,h]
 exact fun z=>nomatch z
theorem xE {n:Nat}{st s2:Stmt}{rest:List Stmt}(h:jn M L st=none):ko M ai n L (st::s2::rest)=br:=by
 rw [ko,h]
 exact fun z=>nomatch z
theorem uA {Cx:Addr}{E:XK}(n:Nat) (C:CxOk M ai k L X) (Z:WO X Cx E) (F:Ig M X.K X.mg Cx) (one:∀ st,fD X [st] (tS (M.P.kt X) (Gk M ai n L st))):∀ B3,fD X B3 (tX (M.P.kt X) (fun H=>E (.ref Cx) none H) (ko M ai n L B3))
 | []=>Qh
 | [st]=>afo (one st)
 | st::s2::rest=>by
  obtain ⟨hE,hT,hI,hO⟩:=bW (M:=M) (ai:=ai) (k:=k) n L X C
  cases h:jn M L st with
  | none=>rw [xE h];exact Qh
  | some c=>
   rw [xD h]
   obtain ⟨q,np,l,kk,lp,cp,rp,p,rfl⟩:=BH h
   obtain ⟨g1,g2⟩:=fR C q
   exact afp Z PySem.F.excBase_ValueError F.ei F.at_ g1 g2 (hT c) (uA n C Z F one (s2::rest))
structure Fe where
 cls:Option Str
 x:Str
 qual:Str
 st:Stmt
 N:List Str
 ps:List Str
 mu:List Str
 sl:Bool
def noFn:Fn:=fun _ _=>.bad
def VW (b:Bool) (f:Fn):Fn:=if b then aO f else f
def MH (e:Fe):Bool:=e.mu.contains ("raise" : Str)
def uB (M:Gm) (ai:Nat->Fn) (e:Fe):FS:=match MH e with
 | false=>mj M ai 60 200 ⟨e.N,aw e.st,e.mu⟩ (bM e.st)
 | true=>ko M ai 60 ⟨e.N,aw e.st,e.mu⟩ (bM e.st)
def uC (M:Gm) (ai:Nat->Fn) (e:Fe):Fn:=VW e.sl (aQ e.ps.length e.N.length (uB M ai e))
def fS (M:Gm) (Ft:List Fe):Nat->Nat->Fn
 | 0,_=>noFn
 | n+1,i=>match Ft[i]? with
  | some e=>uC M (fS M Ft n) e
  | none=>noFn
section
def zx (K:bg) (x:Str):Option Addr:=match lh K mainGlobals x with
 | some (some (.ref a))=>some a
 | _=>none
theorem e9 {x:Str}{a:Addr}(h:zx K x=some a):lh K mainGlobals x=some (some (.ref a)):=by
 unfold zx at h
 split at h
 ·rename_i e;cases h;exact e
 ·cases h
def afx (K:bg) (C:Addr) (m:Str):Option Addr:=match d9 K (.ref C) m with
 | some (some (.ref a))=>some a
 | _=>none
def clB (K:bg) (C:Addr) (ns:List Str):Bool:=B7 K C Str.empty&&Ij K C&&Cd K C&&decide (d9 K (.ref C) "__setattr__" = some (some (.builtin "object.__setattr__"))) &&
 decide (d9 K (.ref C) "__class__" = some (some (.builtin "object.__class__")))&&decide (zX K C (.type "object")=some true)&&ns.all (fun f=>decide (d9 K (.ref C) f=some none))&&decide ns.Nodup&&decide (ns.length<=100)
def subB (K:bg) (cn:List Str) (C:Addr) (l:List Nat):Bool:=(pe cn.length).all fun d=>match cn[d]? with
 | none=>true
 | some n=>(match zx K n with
  | some D=>decide (gp K (.ref C) (.ref D)=some (decide (d∈l)))
  | none=>false)
def pgB (K:bg) (P:Pg):Bool:=(pe P.cn.length).all fun c=>match P.cn[c]? with
 | none=>true
 | some n=>(match zx K n,P.fn[c]?,P.sub[c]? with
  | some C,some ns,some l=>clB K C ns&&subB K P.cn C l
  | _,_,_=>false)
def gtB (K:bg):Bool:=decide (B_ K (.builtin "object.__class__") "__get__" = some (some (.builtin "getset_descriptor.__get__")))&&decide (Ca K (.builtin "object.__class__")=some true)
def MI (K:bg) (mg:Str->Option Value):Prop:=∀ x o,lh K mainGlobals x=some o->mg x=o
theorem VX {h:Heap}(X:K.In h) (G:h.Ns mainGlobals mg):MI K mg:=fun x o e=>by
 cases o with
 | none=>exact PySem.W.mg_none_of X G e
 | some v=>exact PySem.W.mg_of X G e
theorem uD {P:Pg}(h:pgB K P=true) {c:Nat}{n:Str}(hc:P.cn[c]?=some n):∃ C ns l,zx K n=some C/\P.fn[c]?=some ns/\P.sub[c]?=some l/\clB K C ns=true/\subB K P.cn C l=true:=by
 unfold pgB at h
 have:=dS.mp h c (Il.mpr (du.mp hc).1)
 rw [hc] at this
 dsimp only at this
 split at this
 ·rename_i C ns l h1 h2 h3
  rw [cy] at this
  exact ⟨C,ns,l,h1,h2,h3,this.1,this.2⟩
 ·cases this
theorem qO (g:MI K mg) {n:Str}{C:Addr}{ns:List Str}(ha:zx K n=some C) (h:clB K C ns=true):WJ K mg n ns C:=by
 unfold clB at h
 simp only [cy,decide_eq_true_eq] at h
 obtain ⟨⟨⟨⟨⟨⟨⟨⟨h1,h2⟩,h3⟩,h4⟩,h5⟩,h6⟩,h7⟩,h8⟩,h9⟩:=h
 have a:=e9 ha
 exact ⟨a,g _ _ a,h8,h9,⟨h1,h2,h3,h4⟩,fun f hf=>show d9 K (.ref C) f=some none from of_decide_eq_true (dS.mp h7 f hf),h5,h6⟩
theorem acN {P:Pg}(g:MI K mg) (h:pgB K P=true) (ht:gtB K=true):qv K mg P:=by
 refine ⟨fun c n ns h1 h2=>?_,fun c d n n' C D l h1 h2 h3 h4 h5=>?_,?_⟩
 ·obtain ⟨C,HZ,l,ha,hn,_,hb,_⟩:=uD h h1
  rw [h2] at hn
  cases hn
  exact ⟨C,qO g ha hb⟩
 ·obtain ⟨C',HZ,l',ha,_,hl,_,hs⟩:=uD h h1
  rw [h5] at hl
  cases hl
  have e:=(g _ _ (e9 ha)).symm.trans h3
  cases e
  unfold subB at hs
  have:=dS.mp hs d (Il.mpr (du.mp h2).1)
  rw [h2] at this
  dsimp only at this
  split at this
  ·rename_i D' hd
   have e:=(g _ _ (e9 hd)).symm.trans h4
   cases e
   exact of_decide_eq_true this
  ·cases this
 ·unfold gtB at ht
  rw [cy] at ht
  exact ⟨of_decide_eq_true ht.1,of_decide_eq_true ht.2⟩
def Qn (K:bg) (e:Fe):Option Addr:=match e.cls with
 | none=>zx K e.x
 | some c=>(zx K c).bind fun C=>afx K C e.x
def Qp (K:bg) (e:Fe):Option FuncData:=(Qn K e).bind fun f=>match K.lookup f with
 | some ⟨_,_,.func fd,_⟩=>some fd
 | _=>none
def VY (e:Fe) (fd:FuncData):FuncData:=zY e.x e.qual (iS e.st) (bM e.st) (aw e.st) .none fd.kwdefaults fd.doc fd.pyModule fd.annotations fd.code fd.closureTuple
def scB (e:Fe):Bool:=decide ((aw e.st).kind=.function)&&!(aw e.st).isCoroutine&&!(aw e.st).isGenerator&&decide e.N.Nodup&&decide (e.N.take e.ps.length=e.ps)&&e.ps.all (fun x=>decide ((aw e.st).names.lookup x=some .local) || decide ((aw e.st).names.lookup x=some .cell))&&(aw e.st).names.all (fun y=>decide (y.2≠.free))
def feB (K:bg) (e:Fe):Bool:=match Qn K e,Qp K e with
 | some f,some fd=>k_ K (.ref f)&&B8 K (.ref f)&&Cg K fd.code e.qual&&scB e
 | _,_=>false
def Bn (e:Fe):Prop:=∀ (kV doc pm:Value) (an:Option Addr) (fE ct:Value) (us:List Value),us.length=e.ps.length->bindArgs (zY e.x e.qual (iS e.st) (bM e.st) (aw e.st) .none kV doc pm an fE ct) ⟨us,[]⟩=pure (e.ps.zip us)
structure uE (K:bg) (e:Fe) (f:Addr) (fd:FuncData):Prop where
 at_:Qn K e=some f
 fn:HC K e.x e.qual e.st f fd
 sc:eU e.N e.ps (aw e.st)
 isf:B8 K (.ref f)=true
 bn:Binds K fd e.ps []
theorem acO {e:Fe}(h:feB K e=true) (q:Qp K e=(Qp K e).map (VY e)) (b:Bn e):∃ f fd,uE K e f fd:=by
 unfold feB at h
 split at h
 case h_2=>cases h
 rename_i f fd h1 h2
 simp only [cy] at h
 obtain ⟨⟨⟨h3,h4⟩,h5⟩,h6⟩:=h
 rw [h2] at q
 injection q with q
 have l:∃ oc od yr,K.lookup f=some ⟨oc,od,.func fd,yr⟩:=by
  unfold Qp at h2
  rw [h1] at h2
  dsimp only [Option.bind] at h2
  split at h2
  ·rename_i oc od fd' yr e
   cases h2
   exact ⟨oc,od,yr,e⟩
  ·cases h2
 obtain ⟨oc,od,yr,l⟩:=l
 have F:HC K e.x e.qual e.st f fd:=⟨⟨oc,od,fd.kwdefaults,fd.doc,fd.pyModule,fd.annotations,fd.code,fd.closureTuple,yr,q,l,h5⟩,h3⟩
 refine ⟨f,fd,h1,F,?_,h4,F.binds b⟩
 unfold scB at h6
 simp only [cy,decide_eq_true_eq] at h6
 obtain ⟨⟨⟨⟨⟨⟨g1,g2⟩,g3⟩,g4⟩,g5⟩,g6⟩,g7⟩:=h6
 refine ⟨g1,by simpa using g2,by simpa using g3,g4,g5,fun x hx=>?_,fun y hy=>of_decide_eq_true (dS.mp g7 y hy)⟩
 have:=dS.mp g6 x hx
 rw [CM] at this
 exact this.imp of_decide_eq_true of_decide_eq_true
end
abbrev MJ:=List (Str × Nat)
section
variable {Ft:List Fe}{It:MJ}
def hvB (e:Fe):Bool:=e.N.all fun x=>(decide ((aw e.st).names.lookup x=some .local) || decide ((aw e.st).names.lookup x=some .cell))&&!jl x
theorem Qq {e:Fe}(h:hvB e=true):∀ (i:Nat) (x:Str),e.N[i]?=some x->nq (aw e.st) x/\a_ x/\e_ x:=fun i x hx=>by
 have:=dS.mp h x (gv hx)
 rw [cy,CM] at this
 refine ⟨this.1.elim (fun h=>.inl (of_decide_eq_true h)) fun h=>.inr (.inl (of_decide_eq_true h)),VJ (by simpa using this.2)⟩
def mkB (K:bg) (C f:Addr):Bool:=B9 K C&&decide (d9 K (.ref C) "__init__" = some (some (.ref f)))&&k_ K (.ref C)
def GD (K:bg) (M:Gm) (Ft:List Fe) (It:MJ) (c:Nat) (x:Str) (t:List Str->Fe->Bool):Bool:=match M.P.cn[c]?,M.P.fn[c]?,(It.lookup x).bind fun i=>Ft[i]? with
 | some n,some ns,some e=>decide (n=x)&&(match zx K x,Qn K e with
  | some C,some f=>mkB K C f&&t ns e
  | _,_=>false)
 | _,_,_=>false
def fzB (n:Nat) (ns:List Str) (e:Fe):Bool:=hvB e&&l9 e.N 1 (bM e.st) ns&&decide (e.ps.length=ns.length+1)&&decide (ns.length=n)
noncomputable def cpB (K:bg) (ns:List Str) (e:Fe):Bool:=hvB e&&decide (e.ps.length=2)&&decide (lh K mainGlobals "list" = some none)&&decide ((aw e.st).names.lookup ("list" : Str)=some .globalImplicit)&&(match bM e.st with
 | [st1]=>(match qG st1 with
  | some (s0,n,q)=>decide (ns=[n])&&decide (e.N[0]?=some s0)&&decide (e.N[1]?=some q)
  | none=>false)
 | _=>false)
noncomputable def ckB (K:bg) (M:Gm) (Ft:List Fe) (It:MJ) (x:Str):Ck->Bool
 | .fz c n=>GD K M Ft It c x (fzB n)
 | .z0 c=>(match M.P.cn[c]?,zx K x with
  | some n,some C=>decide (n=x)&&B9 K C&&decide (d9 K (.ref C) "__init__" = some (some (.builtin "object.__init__")))&&k_ K (.ref C)
  | _,_=>false)
 | .cp c=>GD K M Ft It c x (cpB K)
 | .nw c i=>decide (It.lookup x=some i)&&GD K M Ft It c x fun _ _=>true
def fsB (K:bg) (Ft:List Fe) (p:Str × List T × Nat):Bool:=p.2.1.isEmpty&&(match Ft[p.2.2]? with
 | some e=>decide (e.cls=none)&&decide (e.x=p.1)
 | none=>false)
noncomputable def msB (K:bg) (M:Gm) (Ft:List Fe) (m:Str) (p:Nat × Nat):Bool:=match M.P.cn[p.1]?,M.P.fn[p.1]?,Ft[p.2]? with
 | some n,some ns,some e=>(match zx K n,Qn K e with
  | some C,some f=>decide (d9 K (.ref C) m=some (some (.ref f)))&&!ns.contains m
  | _,_=>false)
 | _,_,_=>false
noncomputable def ecB (K:bg) (C:Addr):Bool:=decide (d9 K (.ref C) "__getattribute__" = some (some (.builtin "BaseException.__getattribute__")))&&decide (d9 K (.ref C) "__getattr__" = some none)&&decide (d9 K (.ref C) "__class__" = some (some (.builtin "object.__class__"))) &&
 decide (B_ K (.builtin "object.__class__") "__get__" = some (some (.builtin "getset_descriptor.__get__")))&&decide (Ca K (.builtin "object.__class__")=some true)&&decide (zX K C (.type "BaseException")=some true)&&decide (zX K C (.type "object")=some true)
noncomputable def xiB (K:bg) (C:Addr) (p:Str × Bool):Bool:=!jl p.1&&(match lh K mainGlobals p.1 with
 | some (some (.ref D))=>decide (gp K (.ref C) (.ref D)=some p.2)
 | some none=>decide (p.1=("ValueError" : Str))&&decide (gp K (.ref C) (.type "ValueError")=some p.2)
 | _=>false)
def xmB (K:bg) (C:Addr) (y:Str):Bool:=!jl y&&(match zx K y with
 | some D=>decide (yc K (.ref C) (.ref D)=some true)
 | none=>false)
noncomputable def xcB (K:bg) (M:Gm):Bool:=match zx K M.xc with
 | some C=>!jl M.xc&&ecB K C&&Cj K C [.type "ValueError", .type "Exception", .type "BaseException", .type "object"] "ValueError.__new__" && M.xi.all (xiB K C)&&M.xm.all (xmB K C)
 | none=>false
def xsB (K:bg) (M:Gm) (Ft:List Fe):Bool:=match M.xs with
 | []=>Ft.all fun e=>!MH e
 | _::_=>xcB K M&&M.xs.all fun p=>(match Ft[p.2]? with
  | some e=>decide (e.cls=none)&&decide (e.x=p.1)&&MH e
  | none=>false)
theorem Qs (g:MI K mg) (h:xcB K M=true):∃ C,Ig M K mg C:=by
 unfold xcB at h
 cases ha:zx K M.xc with
 | none=>rw [ha] at h;cases h
 | some C=>
 rw [ha] at h
 simp only [cy] at h
 obtain ⟨⟨⟨⟨h1,h2⟩,h3⟩,h4⟩,h5⟩:=h
 unfold ecB at h2
 simp only [cy,decide_eq_true_eq] at h2
 obtain ⟨⟨⟨⟨⟨⟨a1,a2⟩,a3⟩,a4⟩,a5⟩,a6⟩,a7⟩:=h2
 refine ⟨C,g _ _ (e9 ha),(VJ (by simpa using h1)).1,⟨a1,a2,a3,a4,a5,a6,a7⟩,h3,fun y b hy=>?_,fun y hy=>?_⟩
 ·have q:=dS.mp h4 _ (bY hy)
  unfold xiB at q
  rw [cy] at q
  refine ⟨(VJ (by simpa using q.1)).1,?_⟩
  have q2:=q.2
  dsimp only at q2
  split at q2
  ·rename_i D hD
   exact .inl ⟨D,g _ _ hD,of_decide_eq_true q2⟩
  ·rename_i hD
   rw [cy] at q2
   have e:=of_decide_eq_true q2.1
   subst e
   exact .inr ⟨"ValueError", g _ _ hD,PyProof.Rows.Boot.«ValueError»,by decide,of_decide_eq_true q2.2⟩
  ·cases q2
 ·have q:=dS.mp h5 _ hy
  unfold xmB at q
  rw [cy] at q
  refine ⟨(VJ (by simpa using q.1)).1,?_⟩
  have q2:=q.2
  split at q2
  ·rename_i D hD
   exact ⟨D,g _ _ (e9 hD),of_decide_eq_true q2⟩
  ·cases q2
def VZ (K:bg) (M:Gm) (Ft:List Fe) (It:MJ):Bool:=pgB K M.P&&gtB K&&Ft.all (feB K)&&M.fs.all (fsB K Ft)&&M.cl.all (fun p=>ckB K M Ft It p.1 p.2)&&M.ms.all (fun p=>p.2.all (msB K M Ft p.1))&&M.bl.all (fun x=>decide (lh K mainGlobals x=some none))&&xsB K M Ft
structure ModOk (K:bg) (M:Gm) (Ft:List Fe) (It:MJ):Prop where
 b:VZ K M Ft It=true
 q:Ft.map (Qp K)=Ft.map fun e=>(Qp K e).map (VY e)
 bn:∀ e∈Ft,Bn e
theorem GF {α β:Type}{f g:α->β}:∀ {l:List α},l.map f=l.map g->∀ a∈l,f a=g a
 | [],_,a,h=>by simp at h
 | b::l,e,a,h=>by
  rw [gi,gi] at e
  injection e with e1 e2
  rcases fB.mp h with rfl | h
  ·exact e1
  ·exact GF e2 a h
theorem ModOk.split (O:ModOk K M Ft It):pgB K M.P=true/\gtB K=true/\(∀ e∈Ft,feB K e=true)/\(∀ p∈M.fs,fsB K Ft p=true)/\(∀ p∈M.cl,ckB K M Ft It p.1 p.2=true)/\(∀ p∈M.ms,∀ q∈p.2,msB K M Ft p.1 q=true)/\(∀ x∈M.bl,lh K mainGlobals x=some none)/\xsB K M Ft=true:=by
 have h:=O.b
 unfold VZ at h
 simp only [cy] at h
 obtain ⟨⟨⟨⟨⟨⟨⟨h1,h2⟩,h3⟩,h4⟩,h5⟩,h6⟩,h7⟩,h8⟩:=h
 exact ⟨h1,h2,dS.mp h3,dS.mp h4,dS.mp h5,fun p hp=>dS.mp (dS.mp h6 p hp),fun x hx=>of_decide_eq_true (dS.mp h7 x hx),h8⟩
theorem ModOk.fe (O:ModOk K M Ft It) {e:Fe}(h:e∈Ft):∃ f fd,uE K e f fd:=acO (O.split.2.2.1 e h) (GF O.q e h) (O.bn e h)
theorem MK {B:KT}{P:Program}{w:World}{base:Heap}{k:Nat}{f:Addr}{fd:FuncData}{ps:List Str}:bU P w K mg base kh k f fd ps (nA B noFn):=
 ⟨fun vs H Q E ⟨_,_,_,_,_,_,_,h,_⟩=>(by cases h),fun _ _ _ _ _ _ _ _ _ _ _ _ _ ⟨_,_,_,_,_,_,_,h,_⟩=>(by cases h)⟩
theorem xG (g:MI K mg) (O:ModOk K M Ft It) {c:Nat}{x:Str}{t:List Str->Fe->Bool}(h:GD K M Ft It c x t=true):∃ C ns e i f fd,M.P.cn[c]?=some x/\M.P.fn[c]?=some ns/\It.lookup x=some i/\Ft[i]?=some e/\uE K e f fd/\Mk K C f/\WJ K mg x ns C/\t ns e=true:=by
 unfold GD at h
 split at h
 case h_2=>cases h
 rename_i n ns e h1 h2 h3
 obtain ⟨i,h4,h5⟩:=cJ.mp h3
 rw [cy] at h
 obtain ⟨hn,h⟩:=h
 have hn:=of_decide_eq_true hn
 subst hn
 split at h
 case h_2=>cases h
 rename_i C f h6 h7
 rw [cy] at h
 obtain ⟨f',fd,F⟩:=O.fe (gv h5)
 have:=F.at_.symm.trans h7
 cases this
 obtain ⟨C',HZ,l,g1,g2,_,g3,_⟩:=uD O.split.1 h1
 rw [h6] at g1
 cases g1
 rw [h2] at g2
 cases g2
 unfold mkB at h
 simp only [cy,decide_eq_true_eq] at h
 exact ⟨C,ns,e,i,_,fd,h1,h2,h4,h5,F,⟨h.1.1.1,h.1.1.2,F.isf,h.1.2⟩,qO g h6 g3,h.2⟩
theorem BI {α:Type}{l:List (Nat × α)}{x:Nat}{a:α}(h:l.lookup x=some a):(x,a)∈l:=by
 induction l with
 | nil=>simp at h
 | cons p l ih=>
  obtain ⟨q,b⟩:=p
  rw [ib] at h
  split at h
  ·rename_i e
   cases h
   rw [eq_of_beq e]
   exact eK ..
  ·exact fG _ (ih h)
variable {Pr:Program}{w:World}{base:Heap}
theorem WJ.GG {P:Pg}{c:Nat}{x:Str}{ns:List Str}{C:Addr}(F:WJ K mg x ns C) (h1:P.cn[c]?=some x) (h2:P.fn[c]?=some ns):gj (fP P K Pr w) c C ns:=⟨x,h1,h2,F.nd,F.at_⟩
theorem uF {e:Fe}{f C:Addr}{fd:FuncData}{ai:Nat->Fn}{k:Nat}(F:uE K e f fd) (G:xx M Pr w K mg base ai k) (FC:Ig M K mg C) (hx:MH e=true):bU Pr w K mg base (zf Pr w C) (k+2) f fd e.ps (Ic (fP M.P K Pr w) C (uC M ai e)):=by
 have main:bU Pr w K mg base (zf Pr w C) (k+2) f fd e.ps (Ic (fP M.P K Pr w) C (aQ e.ps.length e.N.length (uB M ai e))):=by
  refine Ml F.fn F.sc fun fE A outer s H E hr Z=>?_
  unfold uB
  rw [hx]
  have c0:CxOk M ai k ⟨e.N,aw e.st,e.mu⟩ (jL (zf Pr w C) Pr w K mg base e.N e.qual (aw e.st) f fE A outer s H E):=⟨G,rfl,rfl,rfl,k+1,dU _,hr⟩
  exact uA 60 c0 Z FC (fun st=>VV c0 60 F.sc.nd (fun _=>rfl) st) (bM e.st)
 unfold uC VW
 split
 ·exact F4 main
 ·exact main
theorem ML {e:Fe}{f:Addr}{fd:FuncData}{ai:Nat->Fn}{k:Nat}(F:uE K e f fd) (G:xx M Pr w K mg base ai k) (hX:MH e=true->∃ C,Ig M K mg C):bU Pr w K mg base kh (k+2) f fd e.ps (nA (fP M.P K Pr w) (uC M ai e)):=by
 cases hx:MH e with
 | true=>
  obtain ⟨C,FC⟩:=hX hx
  exact Vk (uF F G FC hx)
 | false=>
 have main:bU Pr w K mg base kh (k+2) f fd e.ps (nA (fP M.P K Pr w) (aQ e.ps.length e.N.length (uB M ai e))):=by
  refine U5 F.fn F.sc fun fE A outer s H E hr=>?_
  unfold uB
  rw [hx]
  exact gU 60 200 ⟨e.N,aw e.st,e.mu⟩ (jL kh Pr w K mg base e.N e.qual (aw e.st) f fE A outer s H E).Of ⟨⟨G,rfl,rfl,rfl,k+1,dU _,hr⟩,fun _=>rfl,F.sc.nd,rfl,rfl,rfl⟩ (bM e.st)
 unfold uC VW
 split
 ·exact LU main
 ·exact main
theorem zy {n:Nat}{i:Nat}{e:Fe}{f:Addr}{fd:FuncData}(F:uE K e f fd) (he:Ft[i]?=some e) (hX:MH e=true->∃ C,Ig M K mg C) (h:∀ m,n=m+1->xx M Pr w K mg base (fS M Ft m) (2*m+1)):bU Pr w K mg base kh (2*n+1) f fd e.ps (nA (fP M.P K Pr w) (fS M Ft n i)):=by
 cases n with
 | zero=>exact MK
 | succ m=>
  have:=ML F (h m rfl) hX
  unfold fS
  rw [he]
  exact this
theorem GH {n:Nat}{i:Nat}{e:Fe}{f C:Addr}{fd:FuncData}(F:uE K e f fd) (he:Ft[i]?=some e) (FC:Ig M K mg C) (hx:MH e=true) (h:∀ m,n=m+1->xx M Pr w K mg base (fS M Ft m) (2*m+1)):bU Pr w K mg base (zf Pr w C) (2*n+1) f fd e.ps (Ic (fP M.P K Pr w) C (fS M Ft n i)):=by
 cases n with
 | zero=>exact ⟨fun vs H Q E ⟨_,_,_,_,_,z⟩=>(by rcases z with ⟨_,_,h,_⟩ | ⟨_,_,_,h,_⟩<;>cases h),fun _ _ _ _ _ _ _ _ _ _ _ _ _ ⟨_,_,_,_,_,z⟩=>(by rcases z with ⟨_,_,h,_⟩ | ⟨_,_,_,h,_⟩<;>cases h)⟩
 | succ m=>
  have:=uF F (h m rfl) FC hx
  unfold fS
  rw [he]
  exact this
theorem Qt (g:MI K mg) (h:xsB K M Ft=true) {e:Fe}(he:e∈Ft) (hx:MH e=true):∃ C,Ig M K mg C:=by
 unfold xsB at h
 split at h
 ·have:=dS.mp h e he
  rw [hx] at this;cases this
 ·rw [cy] at h
  exact Qs g h.1
theorem V0 (g:MI K mg) (O:ModOk K M Ft It) (hc:∀ x t,M.cs.lookup x=some t->y9 K mg x t):∀ n,xx M Pr w K mg base (fS M Ft n) (2*n+1):=by
 intro n
 induction n using Nat.strongRecOn with
 | ind n ih=>
 have call:∀ {i:Nat} {e:Fe} {f:Addr} {fd:FuncData},uE K e f fd->Ft[i]?=some e->bU Pr w K mg base kh (2*n+1) f fd e.ps (nA (fP M.P K Pr w) (fS M Ft n i)):=fun F he=>zy F he (Qt g O.split.2.2.2.2.2.2.2 (gv he)) fun m hm=>ih m (by omega)
 obtain ⟨o1,o2,o3,o4,o5,o6,o7,o8⟩:=O.split
 have pg:=acN g o1 o2
 refine ⟨pg,hc,fun x ds i h=>?_,fun x c k h=>?_,fun x c h=>?_,fun x c h=>?_,fun x c i h=>?_,fun m l c i h1 h2=>?_,fun x h=>g x none (o7 x h),fun x i h=>?_⟩
 ·have q:=o4 _ (bY h)
  unfold fsB at q
  rw [cy] at q
  obtain ⟨q1,q2⟩:=q
  dsimp only at q1 q2
  split at q2
  case h_2=>cases q2
  rename_i e he
  rw [cy] at q2
  obtain ⟨q2,q3⟩:=q2
  have q2:=of_decide_eq_true q2
  have q3:=of_decide_eq_true q3
  subst q3
  obtain ⟨f,fd,F⟩:=O.fe (gv he)
  have ha:=F.at_
  unfold Qn at ha
  rw [q2] at ha
  have:ds=[]:=by simpa using q1
  subst this
  exact ⟨f,fd,e.ps,[],[],call F he,g _ _ (e9 ha),F.fn.kp,F.bn,.nil,fun _ _=>rfl⟩
 ·obtain ⟨C,ns,e,i,f,fd,c1,c2,c3,c4,F,m,cl,q⟩:=xG g O (o5 _ (bY h))
  unfold fzB at q
  simp only [cy,decide_eq_true_eq] at q
  obtain ⟨⟨⟨q1,q2⟩,q3⟩,q4⟩:=q
  exact ⟨C,f,fd,e.ps,ns,cl.GG c1 c2,q4,cl.gl,m,L8 F.fn F.sc (Qq q1) q2 q3 cl.cl cl.na cl.nd cl.vp,F.bn⟩
 ·have q:=o5 _ (bY h)
  unfold ckB at q
  dsimp only at q
  split at q
  case h_2=>cases q
  rename_i n' C h1 h2
  simp only [cy,decide_eq_true_eq] at q
  obtain ⟨⟨⟨q1,q2⟩,q3⟩,q4⟩:=q
  subst q1
  obtain ⟨C',ns,l,g1,g2,_,g3,_⟩:=uD o1 h1
  rw [h2] at g1
  cases g1
  have cl:=qO g h2 g3
  exact ⟨C,ns,cl.GG h1 g2,cl.gl,q2,q3,q4⟩
 ·obtain ⟨C,ns,e,i,f,fd,c1,c2,c3,c4,F,m,cl,q⟩:=xG g O (o5 _ (bY h))
  unfold cpB at q
  simp only [cy,decide_eq_true_eq] at q
  obtain ⟨⟨⟨⟨q1,q2⟩,q3⟩,q4⟩,q5⟩:=q
  split at q5
  case h_2=>cases q5
  rename_i st1 hb
  split at q5
  case h_2=>cases q5
  rename_i s0 n' q' hi
  simp only [cy,decide_eq_true_eq] at q5
  obtain ⟨⟨r1,r2⟩,r3⟩:=q5
  subst r1
  exact ⟨C,f,fd,e.ps,n',cl.GG c1 c2,cl.gl,m,FJ F.fn F.sc hb hi r2 r3 (Qq q1) (g _ _ q3) q4 q2 cl.cl (cl.na _ (eK ..)),F.bn⟩
 ·have q:=o5 _ (bY h)
  unfold ckB at q
  dsimp only at q
  rw [cy] at q
  obtain ⟨q0,q⟩:=q
  have q0:=of_decide_eq_true q0
  obtain ⟨C,ns,e,i',f,fd,c1,c2,c3,c4,F,m,cl,_⟩:=xG g O q
  rw [q0] at c3
  cases c3
  exact ⟨C,f,fd,e.ps,ns,cl.GG c1 c2,cl.gl,m,call F c4,F.bn⟩
 ·have q:=o6 _ (bY h1) (c,i) (BI h2)
  unfold msB at q
  dsimp only at q
  split at q
  case h_2=>cases q
  rename_i n' ns e d1 d2 d3
  split at q
  case h_2=>cases q
  rename_i C f d4 d5
  rw [cy] at q
  obtain ⟨q1,q2⟩:=q
  obtain ⟨C',HZ,l',g1,g2,_,g3,_⟩:=uD o1 d1
  rw [d4] at g1
  cases g1
  rw [d2] at g2
  cases g2
  have cl:=qO g d4 g3
  obtain ⟨f',fd,F⟩:=O.fe (gv d3)
  have:=F.at_.symm.trans d5
  cases this
  exact ⟨C,_,fd,e.ps,ns,cl.GG d1 d2,cl.cl,⟨of_decide_eq_true q1,F.isf,F.fn.kp⟩,call F d3,F.bn,fun z=>by rw [CL.mpr z] at q2;cases q2⟩
 ·unfold xsB at o8
  split at o8
  ·rename_i hz;rw [hz] at h;cases h
  rw [cy] at o8
  obtain ⟨C,FC⟩:=Qs g o8.1
  have q:=dS.mp o8.2 _ (bY h)
  dsimp only at q
  split at q
  case h_2=>cases q
  rename_i e he
  simp only [cy,decide_eq_true_eq] at q
  obtain ⟨⟨q1,q2⟩,q3⟩:=q
  subst q2
  obtain ⟨f,fd,F⟩:=O.fe (gv he)
  have ha:=F.at_
  unfold Qn at ha
  rw [q1] at ha
  exact ⟨C,FC,f,fd,e.ps,GH F he FC q3 fun m hm=>ih m (by omega),g _ _ (e9 ha),F.fn.kp,F.bn⟩
end
section
variable {Ft:List Fe}{It:MJ}
def zA:T->Value->Bool
 | .int i,.int j _=>decide (i=j)
 | .str l,.str s _=>decide (s.cps.toList=l)&&decide (l.length<=1000000)
 | .bl b,.bool c=>b == c
 | .non,.none=>true
 | _,_=>false
def dC:T->V
 | .int i=>.int i
 | .str l=>SV l
 | .bl b=>.bl b
 | _=>.non
theorem zB {t:T}{u:Value}(h:zA t u=true):RelV (dC t) u/\∀ (B:KT) al H,Rep B al H t (dC t):=by
 unfold zA at h
 split at h
 ·have h:=of_decide_eq_true h
  subst h
  exact ⟨⟨_,rfl⟩,fun _ _ _=>rfl⟩
 ·rename_i l s tk
  rw [cy] at h
  have h1:=of_decide_eq_true h.1
  subst h1
  exact ⟨⟨tk,rfl⟩,fun _ _ _=>⟨rfl,of_decide_eq_true h.2⟩⟩
 ·have h:=eq_of_beq h
  subst h
  exact ⟨rfl,fun _ _ _=>rfl⟩
 ·exact ⟨rfl,fun _ _ _=>rfl⟩
 ·cases h
def qP:List T->List Value->Bool
 | [],[]=>true
 | t::ts,u::us=>zA t u&&qP ts us
 | _,_=>false
theorem uG:∀ {ts:List T}{us:List Value},qP ts us=true->Vals (ts.map dC) us/\∀ (B:KT) al H,aA B al H ts (ts.map dC)
 | [],[],_=>⟨.nil,fun _ _ _=>rfl⟩
 | t::ts,u::us,h=>by
  rw [qP,cy] at h
  obtain ⟨a,b⟩:=zB h.1
  obtain ⟨c,d⟩:=uG h.2
  exact ⟨.cons a c,fun B al H=>⟨_,_,rfl,b B al H,d B al H⟩⟩
 | [],_::_,h=>by cases h
 | _::_,[],h=>by cases h
def MM (K:bg) (p:Str × T):Bool:=match lh K mainGlobals p.1 with
 | some (some u)=>(match p.2,u with
  | .tup ts,.ref a=>(match K.lookup a with
   | some ⟨.type c,_,.seq its _,_⟩=>decide (c = "tuple")&&decide (its.size<=sizeLine)&&qP ts its.toList
   | _=>false)
  | t,u=>zA t u)
 | _=>false
theorem V1 (g:MI K mg) {x:Str}{t:T}(h:MM K (x,t)=true):y9 K mg x t:=by
 unfold MM at h
 dsimp only at h
 split at h
 case h_2=>cases h
 rename_i u hu
 have hm:=g _ _ hu
 split at h
 ·rename_i ts a
  split at h
  ·rename_i c od its n sl hl
   simp only [cy,decide_eq_true_eq] at h
   obtain ⟨⟨h1,h2⟩,h3⟩:=h
   subst h1
   obtain ⟨v1,v2⟩:=uG h3
   exact ⟨_,.ref a,hm,rfl,fun B al H hB=>⟨a,ts.map dC,rfl,.inr ⟨_,its,n,hB ▸ hl,rfl,rfl,h2,v1⟩,v2 B al H⟩⟩
  ·cases h
 ·obtain ⟨v1,v2⟩:=zB h
  exact ⟨u,dC t,hm,v1,fun B al H _=>v2 B al H⟩
structure GI (K:bg) (M:Gm) (Ft:List Fe) (It:MJ):Prop extends ModOk K M Ft It where
 cs:M.cs.all (MM K)=true
variable {Pr:Program}{w:World}{base:Heap}
theorem MN (g:MI K mg) (O:GI K M Ft It) (n:Nat):xx M Pr w K mg base (fS M Ft n) (2*n+1):=V0 g O.toModOk (fun x t h=>V1 g (dS.mp O.cs _ (bY h))) n
theorem MO {B:KT}{f:Fn}{k:Nat}(ns:List Int) (h:∃ m',f [.scr ns] []=.ok (.bl true,m')) {H:Hp}{a:Addr}(hO:Rt H) (hS:cY B.K H a (ns.map V.int)):nA B f [.ref a] H (fun v _=>v=.bl true) fun _ _ _=>False:=by
 obtain ⟨m',h⟩:=h
 refine ⟨⟨H,fun _=>none,[]⟩,[.scr ns],[],_,m',⟨fun _ _ e=>e,fun b p e=>(by cases e),rfl,fun k ob e=>(by simp at e)⟩,⟨_,_,rfl,⟨a,rfl,hS⟩,rfl⟩,h,fun v g' H' _ _ r=>r⟩
end
theorem acP {l:PySem.W.OpenLaw}{m n:Nat}{q:Program}{loose:List Str}{XP:(Str->Option Value)->Heap->Prop}{YP:World->Heap->Prop}{d:DefRec}{K:Params->bg}{M:Gm}{Ft:List Fe}{It:MJ}{i:Nat}{e:Fe}
  (hn:l.most=some m) (hm:m<=sizeLine) (hdf:d.params.defaults=[]) (hr:bB (2*n+1) callerA) (hY:∀ (w:World) (h:Heap),YP w h->(K w.params).In h)
  (he:Ft[i]?=some e) (hp:e.ps=[("_law_script" : Str)]) (hx:e.x=d.name) (Jd:e.cls=none) (O:∀ P,GI (K P) M Ft It) (hT:∀ ns:List Int,ns.length<=m->(∀ i∈ns,i.natAbs.log2<1048577)->∃ m',fS M Ft n i [.scr ns] []=.ok (.bl true,m')) :
  PySem.W.WalkO q loose XP YP l.row.toRowW d [] (fun f vs=>PySem.call f vs):=by
 intro w s₀ s₁ mg mb G Y fa o pm cd doc dV kV ho hd fH hD hmg hg args vals as Jc afy hrd hwl hlo
 obtain rfl:dV=.none:=NH.none hD hdf
 obtain rfl:kV=.none:=NH.noKw hD
 obtain ⟨a,vs,ns,rfl,rfl,afz,hints,cL⟩:=Att.Au hn Jc hwl
 have bits:∀ i∈ns,i.natAbs.log2<1048577:=fun i hi=>by
  have h1:=PySem.W.layableW_item (PySem.W.layableW_arg afy _ (ie.mpr rfl)) (.int i) (jH.mpr ⟨i,hi,rfl⟩)
  have h2:=PyData.bits_of_layable (PyProof.Rows.Da.lay0_int (PySem.W.layable_int h1))
  unfold Builtin.Int.intBits at h2
  split at h2
  ·rename_i z
   rw [show i=0 from of_decide_eq_true z];decide
  ·omega
 refine PySem.W.enter_call (codeAny_mono (?_:codeAny (model l.prog w) callerA (.call (.ref fa) ⟨[.ref a],[]⟩) (fun r s'=>r=.ok (.ret (.bool true))/\OldK s₁.heap s'.heap/\s'.os=s₁.os/\PyProof.Rows.AllBare s'.gens) s₁) fun r s' hq=>?_)
 ·have KX:=hY w _ Y
  have g:=VX KX G.T.g
  obtain ⟨f,fd,F⟩:=(O w.params).fe (gv he)
  have ha:=F.at_
  unfold Qn at ha
  rw [Jd] at ha
  have ea:=(g _ _ (e9 ha)).symm.trans (hx ▸ hmg)
  cases ea
  refine DI (k:=2*n+1) (fd:=fd) (x:=("_law_script" : Str)) (CX:=kh) (sp:=nA (fP M.P (K w.params) l.prog w) (fS M Ft n i)) KX G.T.g G.T.b G.T.builtins G.T.nolimit hg afz hints (ig cL hm) hr (fun base KB GB=>?_) (fun s u=>?_) (fun H hO hS=>MO (k:=0) ns (hT ns cL bits) hO hS) fun _ _ _ z=>z
  ·have:=zy (Pr:=l.prog) (w:=w) (base:=base) (mg:=mg) F he (n:=n) (Qt g (O w.params).split.2.2.2.2.2.2.2 (gv he)) fun m hm=>MN g (O w.params) m
   rw [hp] at this
   exact this
  ·obtain ⟨oc,od,kV,doc,pm,an,fE,ct,yr,rfl,_⟩:=F.fn.ex
   have:=(O w.params).bn e (gv he) kV doc pm an fE ct [u] (by rw [hp];rfl)
   rw [hp] at this
   exact .of_eq this
 ·obtain ⟨rfl,h2,h3,h4⟩:=hq
  exact ⟨.inl ⟨.bool true,.bool true,[],rfl,fun _=>rfl,.bool true,Att.Av l _,fun _=>⟨List.Pairwise.nil,fun _ hm=>(nomatch hm)⟩⟩,h2,h3,h4⟩
end D
namespace D
theorem bA {α β:Type}(a:α) (f:α->Res β):Res.bind (.ok a) f=f a:=rfl
theorem cW {α:Type}(a:α):cT (some a)=.ok a:=rfl
section
variable {a b:FS}{s s':S}{r:Res (Out × S)}{t:T}{c:FT}{np n:Nat}{ts:List T}{m m':List Ob}{e:FE}
theorem seq1 (h:a s=.ok (.nx,s')) (k:b s'=r):aj a b s=r:=by unfold aj;rw [h];exact k
theorem fm (h:a s=.ok (.rt t,s')):aj a b s=.ok (.rt t,s'):=by unfold aj;rw [h];rfl
theorem k7 (h:c s=.ok (true,s')) (k:a s'=r):bu c a b s=r:=by unfold bu;rw [h];exact k
theorem ed (h:c s=.ok (false,s')) (k:b s'=r):bu c a b s=r:=by unfold bu;rw [h];exact k
theorem aK (h:e s=.ok (t,s')):av e s=.ok (.rt t,s'):=by unfold av;rw [h];rfl
theorem aL (h:ts.length=np) (k:b ⟨ts.map (fun t=>some (.val t))++dJ (n-ts.length) none,m⟩=.ok (.rt t,s')) (hm:s'.m=m'):aQ np n b ts m=.ok (t,m'):=by
 unfold aQ;rw [if_pos h,k,<- hm];rfl
theorem acQ (h:ts.length=np) (k:b ⟨ts.map (fun t=>some (.val t))++dJ (n-ts.length) none,m⟩=.ok (.nx,s')) (hm:s'.m=m'):aQ np n b ts m=.ok (.non,m'):=by
 unfold aQ;rw [if_pos h,k,<- hm];rfl
theorem aI {g:Fn}(h:aF ts=true) (k:g ts []=.ok (t,m')) (ht:noOwn t=true):aO g ts m=.ok (t,m):=by
 unfold aO;rw [if_pos h,k];exact if_pos ht
theorem aC {g:Fn}{ds:List T}{fl:FL}(h:fl s=.ok (ts,s')) (k:g (ts++ds) s'.m=.ok (t,m')):ah g ds fl s=.ok (t,⟨s'.r,m'⟩):=by
 unfold ah;rw [h];show (match g (ts++ds) s'.m with | .ok q=>_ | .bad=>_ | .exc c fs s'=>_)=_;rw [k]
end
theorem acR {g:Nat->Option Fn}{o:FE}{fl:FL}{k:Nat}{ob:Ob}{f:Fn}{ts:List T}{t:T}{s s1 s2:S}{m':List Ob}(h:o s=.ok (.own k,s1)) (hm:s1.m[k]?=some ob) (hg:g ob.c=some f) (ha:fl s1=.ok (ts,s2)) (hc:f (.own k::ts) s2.m=.ok (t,m')) :
  aJ g o fl s=.ok (t,⟨s2.r,m'⟩):=by
 unfold aJ
 rw [h]
 show Res.bind (cT ((s1.m[k]?).bind fun ob=>g ob.c)) _=_
 rw [hm]
 show Res.bind (cT (g ob.c)) _=_
 rw [hg]
 refine Eq.trans (bA f _) ?_
 exact aC (ts:=.own k::ts) (s':=s2) (by rw [ha];rfl) (by rw [dR];exact hc)
theorem nS {α:Type}{p:Prop} [Decidable p] {x:α}(h:p):gd p x=some x:=if_pos h
theorem ev:(∀ t s,cF t s=.ok (t,s))/\(∀ g a s,b8 g a s=(a s).bind fun p=>(cT (g p.1)).bind fun t=>.ok (t,p.2))/\(∀ g a b s,cz g a b s=(a s).bind fun p=>(b p.2).bind fun q=>(cT (g p.1 q.1)).bind fun t=>.ok (t,q.2)) /\
  (∀ s,cA s=.ok ([],s))/\(∀ a r s,cj a r s=(a s).bind fun p=>(r p.2).bind fun q=>.ok (p.1::q.1,q.2))/\(∀ g a s,bC g a s=(a s).bind fun p=>(cT (g p.1)).bind fun t=>.ok (t,p.2)) /\
  (∀ a s,tB a s=(a s).bind fun p=>(cT (Lp p.1)).bind fun b=>.ok (b,p.2))/\(∀ a s,cD a s=(a s).bind fun p=>(cT (Uq p.1)).bind fun b=>.ok (b,p.2))/\(∀ a s,c_ a s=(a s).bind fun p=>.ok (!p.1,p.2)) /\
  (∀ s,ny s=.ok (none,s))/\(∀ a s,g9 a s=(a s).bind fun p=>(cT (PK p.1)).bind fun i=>.ok (some i,p.2))/\(∀ a lo hi s,jC a lo hi s=(a s).bind fun p=>(lo p.2).bind fun q=>(hi q.2).bind fun z=>(cT (rB q.1 z.1 p.1)).bind fun t=>.ok (t,z.2)) /\
  (∀ i a s,aV i a s=(a s).bind fun p=>.ok (.nx,iE p.2 i (.val p.1)))/\(∀ a s,cU a s=(a s).bind fun p=>.ok (.nx,p.2))/\(∀ s,aG s=.ok (.nx,s)) /\
  (∀ r m i c,iE ⟨r,m⟩ i c=⟨r.set i (some c),m⟩)/\(∀ f o fl s,jD f o fl s=(o s).bind fun p=>(cT (LI p.1)).bind fun l=>(fl p.2).bind fun q=>(cT (f l q.1)).bind fun t=>.ok (t,q.2)) /\
  (∀ t,Lp (.bl t)=some t)/\(∀ t,Uq (.bl t)=some t)/\(∀ i,PK (.int i)=some i)/\(∀ l,LI (.str l)=some l):=
 ⟨fun _ _=>rfl,fun _ _ _=>rfl,fun _ _ _ _=>rfl,fun _=>rfl,fun _ _ _=>rfl,fun _ _ _=>rfl,fun _ _=>rfl,fun _ _=>rfl,fun _ _=>rfl,fun _=>rfl,fun _ _=>rfl,fun _ _ _ _=>rfl,fun _ _ _=>rfl,fun _ _=>rfl,fun _=>rfl,fun _ _ _ _=>rfl,fun _ _ _ _=>rfl,fun _=>rfl,fun _=>rfl,fun _=>rfl,fun _=>rfl⟩
theorem dI:(∀ r m t,vF 0 ⟨some (.val t)::r,m⟩=.ok (t,⟨some (.val t)::r,m⟩))/\(∀ x0 r m t,vF 1 ⟨x0::some (.val t)::r,m⟩=.ok (t,⟨x0::some (.val t)::r,m⟩))/\(∀ x0 x1 r m t,vF 2 ⟨x0::x1::some (.val t)::r,m⟩=.ok (t,⟨x0::x1::some (.val t)::r,m⟩))/\(∀ x0 x1 x2 r m t,vF 3 ⟨x0::x1::x2::some (.val t)::r,m⟩=.ok (t,⟨x0::x1::x2::some (.val t)::r,m⟩))/\(∀ x0 x1 x2 x3 r m t,vF 4 ⟨x0::x1::x2::x3::some (.val t)::r,m⟩=.ok (t,⟨x0::x1::x2::x3::some (.val t)::r,m⟩))/\(∀ x0 x1 x2 x3 x4 r m t,vF 5 ⟨x0::x1::x2::x3::x4::some (.val t)::r,m⟩=.ok (t,⟨x0::x1::x2::x3::x4::some (.val t)::r,m⟩))/\(∀ x0 x1 x2 x3 x4 x5 r m t,vF 6 ⟨x0::x1::x2::x3::x4::x5::some (.val t)::r,m⟩=.ok (t,⟨x0::x1::x2::x3::x4::x5::some (.val t)::r,m⟩))/\(∀ x0 x1 x2 x3 x4 x5 x6 r m t,vF 7 ⟨x0::x1::x2::x3::x4::x5::x6::some (.val t)::r,m⟩=.ok (t,⟨x0::x1::x2::x3::x4::x5::x6::some (.val t)::r,m⟩))/\(∀ y r c,rK (α:=Option C) (y::r) 0 c=c::r)/\(∀ x0 y r c,rK (α:=Option C) (x0::y::r) 1 c=x0::c::r)/\(∀ x0 x1 y r c,rK (α:=Option C) (x0::x1::y::r) 2 c=x0::x1::c::r)/\(∀ x0 x1 x2 y r c,rK (α:=Option C) (x0::x1::x2::y::r) 3 c=x0::x1::x2::c::r)/\(∀ x0 x1 x2 x3 y r c,rK (α:=Option C) (x0::x1::x2::x3::y::r) 4 c=x0::x1::x2::x3::c::r)/\(∀ x0 x1 x2 x3 x4 y r c,rK (α:=Option C) (x0::x1::x2::x3::x4::y::r) 5 c=x0::x1::x2::x3::x4::c::r)/\(∀ x0 x1 x2 x3 x4 x5 y r c,rK (α:=Option C) (x0::x1::x2::x3::x4::x5::y::r) 6 c=x0::x1::x2::x3::x4::x5::c::r)/\(∀ x0 x1 x2 x3 x4 x5 x6 y r c,rK (α:=Option C) (x0::x1::x2::x3::x4::x5::x6::y::r) 7 c=x0::x1::x2::x3::x4::x5::x6::c::r):=
 ⟨fun _ _ _=>rfl,fun _ _ _ _=>rfl,fun _ _ _ _ _=>rfl,fun _ _ _ _ _ _=>rfl,fun _ _ _ _ _ _ _=>rfl,fun _ _ _ _ _ _ _ _=>rfl,fun _ _ _ _ _ _ _ _ _=>rfl,fun _ _ _ _ _ _ _ _ _ _=>rfl,fun _ _ _=>rfl,fun _ _ _ _=>rfl,fun _ _ _ _ _=>rfl,fun _ _ _ _ _ _=>rfl,fun _ _ _ _ _ _ _=>rfl,fun _ _ _ _ _ _ _ _=>rfl,fun _ _ _ _ _ _ _ _ _=>rfl,fun _ _ _ _ _ _ _ _ _ _=>rfl⟩
end D
namespace D
open PySem L2 PyProof.Rows
theorem GJ (l:List Nat):(⟨l.toArray⟩:Str).length=l.length:=by show l.toArray.size=_;simp
open PySem.StrLaws in
theorem uH (s sub:Str) (hi:Nat):∀ (l:List Nat) (a fr:Nat),(forIn l ((#[a]:Array Nat),fr) (occBody s sub hi 1)).run.fst=#[a]
 | [],_,_=>rfl
 | b::l,a,fr=>by
  rw [Ip]
  unfold occBody
  rw [if_neg (by simp)]
  exact uH s sub hi l a fr
open PySem.StrLaws Builtin.Str in
theorem occ_first (s sub:Str) (hi:Nat):∀ (n lo fr:Nat),fr<=lo ->
  ((forIn (NQ lo n) ((#[]:Array Nat),fr) (occBody s sub hi 1)).run.fst=#[]/\∀ i,lo<=i->i<lo+n->¬ (i+sub.length<=hi/\subAt s sub i=true)) \/
  ∃ i,(forIn (NQ lo n) ((#[]:Array Nat),fr) (occBody s sub hi 1)).run.fst=#[i]/\lo<=i/\i<lo+n/\(i+sub.length<=hi/\subAt s sub i=true)/\∀ j,lo<=j->j<i->¬ (j+sub.length<=hi/\subAt s sub j=true)
 | 0,lo,fr,_=>.inl ⟨rfl,fun i a b=>by omega⟩
 | n+1,lo,fr,h=>by
  rw [List.range'_succ,Ip]
  by_cases hc:lo+sub.length<=hi/\subAt s sub lo=true
  ·right
   refine ⟨lo,?_,dU _,by omega,hc,fun j a b=>by omega⟩
   unfold occBody
   rw [if_pos ⟨⟨⟨by simp,h⟩,hc.1⟩,hc.2⟩]
   exact uH s sub hi _ lo _
  ·have e:∀ k,(occBody s sub hi 1 lo ((#[]:Array Nat),fr) >>= k:Id (Array Nat × Nat))=k (ForInStep.yield ((#[]:Array Nat),fr)):=fun k=>by
    unfold occBody
    rw [if_neg (fun z=>hc ⟨z.1.2,z.2⟩)]
    rfl
   rw [e]
   rcases occ_first s sub hi n (lo+1) fr (by omega) with ⟨a,b⟩ | ⟨i,a,b,c,d,g⟩
   ·refine .inl ⟨a,fun i h1 h2=>?_⟩
    by_cases z:i=lo
    ·subst z;exact hc
    ·exact b i (by omega) (by omega)
   ·refine .inr ⟨i,a,by omega,by omega,d,fun j h1 h2=>?_⟩
    by_cases z:j=lo
    ·subst z;exact hc
    ·exact g j (by omega) h2
theorem xH (c:Nat) (r:List Nat) (i:Nat):(i+(⟨[c].toArray⟩:Str).length<=r.length/\Builtin.Str.subAt ⟨r.toArray⟩ ⟨[c].toArray⟩ i=true) ↔ r[i]?=some c:=by
 rw [StrLaws.subAt_eq,GJ,beq_iff_eq]
 show (i + [c].length<=r.length/\(r.drop i).take [c].length=[c]) ↔ _
 constructor
 ·rintro ⟨h1,h2⟩
  have:=congrArg (fun q=>q[0]?) h2
  simpa using this
 ·intro h
  have hi:=(du.mp h).1
  refine ⟨hi,?_⟩
  rw [ye hi]
  have:=(du.mp h).2
  simp [this]
theorem zC (c:Nat) (D S R:List Nat) (h:c ∉ S):Builtin.Str.occurrences ⟨(D++(S++c::R)).toArray⟩ ⟨[c].toArray⟩ D.length (D++(S++c::R)).length 1=[D.length+S.length]:=by
 have hat:(D++(S++c::R))[D.length+S.length]?=some c:=by
  rw [gX (by omega),gX (by omega)]
  simp
 have hno:∀ j,D.length<=j->j<D.length+S.length->¬ (D++(S++c::R))[j]?=some c:=fun j h1 h2 z=>by
  rw [gX h1,iH (by omega)] at z
  exact h (gv z)
 rw [StrLaws.occ_eq]
 rcases occ_first ⟨(D++(S++c::R)).toArray⟩ ⟨[c].toArray⟩ (D++(S++c::R)).length ((D++(S++c::R)).length+1-D.length) D.length D.length (dU _) with ⟨a,b⟩ | ⟨i,a,b,c',d,g⟩
 ·exact absurd ((xH c _ _).mpr hat) (b _ (by omega) (by simp;omega))
 ·rw [a]
  have hi:=(xH c _ _).mp d
  have:i=D.length+S.length:=by
   rcases Nat.lt_trichotomy i (D.length+S.length) with z | z | z
   ·exact absurd hi (hno i b z)
   ·exact z
   ·exact absurd ((xH c _ _).mpr hat) (g _ (by omega) z)
  rw [this]
theorem GK (c:Nat) (D S R:List Nat) (h:c ∉ S):lX (D++(S++c::R)) [.str [c],.int (D.length:Nat)]=some (.int ((D.length+S.length:Nat):Int)):=by
 show some (T.int (Txt.find3 _ _ _))=_
 unfold Txt.find3
 have hfi:PySem.fromIndex (⟨(D++(S++c::R)).toArray⟩:Str).length ((D.length:Nat):Int)=D.length:=by
  unfold PySem.fromIndex
  rw [if_neg (by omega)]
  omega
 rw [hfi,GJ,zC c D S R h]
theorem BJ (c:Nat) (S R:List Nat) (h:c ∉ S):lX (S++c::R) [.str [c]]=some (.int ((S.length:Nat):Int)):=by
 have:=zC c [] S R h
 rw [Io] at this
 show some (T.int (Txt.find _ _))=_
 unfold Txt.find
 rw [GJ]
 have e:Builtin.Str.occurrences ⟨(S++c::R).toArray⟩ ⟨[c].toArray⟩ 0 (S++c::R).length 1=[0+S.length]:=this
 rw [e,yj]
theorem k8 (n d k:Nat):dX n d (some (k:Int))=min k n:=by
 unfold dX
 dsimp only
 rw [if_neg (by omega)];rfl
theorem GL (n d:Nat):dX n d none=d:=rfl
theorem gP {α:Type}(w r:List α):ba (w++r) (some (w.length:Int)) none=r:=by
 unfold ba
 rw [k8,GL,bL,yk (by omega),yh]
 simp
theorem GN {α:Type}(w r:List α):ba (w++r) none (some (w.length:Int))=w:=by
 unfold ba
 rw [k8,GL,bL,yk (by omega)]
 simp
theorem MP {α:Type}(a b c:List α):ba (a++(b++c)) (some (a.length:Int)) (some ((a.length+b.length:Nat):Int))=b:=by
 unfold ba
 rw [k8,k8,bL,bL,yk (by omega),yk (by omega),yh]
 have:a.length+b.length-a.length=b.length:=by omega
 rw [this,List.take_left]
theorem pre_app (w r:List Nat):pre w (w++r)=true:=by unfold pre;simp
theorem aX {c d:Nat}{w r:List Nat}(h:c≠d):pre (c::w) (d::r)=false:=by
 unfold pre
 rw [dq,dq,CK]
 have:(d::yf w.length r == c::w)=false:=by
  rw [beq_eq_false_iff_ne]
  intro z
  injection z with z _
  exact h z.symm
 rw [this,Iu]
theorem fU (c:Nat) (w r:List Nat):pre (c::w) (c::r)=pre w r:=by
 unfold pre
 rw [dq,dq,CK]
 have:(c::yf w.length r == c::w)=(yf w.length r == w):=by
  rw [Ir];simp
 rw [this]
 congr 1
 apply decide_eq_decide.mpr
 omega
end D
namespace D
abbrev sv (t:T):Option C:=some (.val t)
abbrev cI (i:Int):FE:=cF (.int i)
abbrev cS (l:List Nat):FE:=cF (.str l)
abbrev oA:FE->FE->FE:=cz (fj .Add)
abbrev oM:FE->FE->FE:=cz (fj .Mod)
abbrev oD:FE->FE->FE:=cz (fj .FloorDiv)
abbrev oE:FE->FE->FE:=cz (aU .Eq)
abbrev oI:FE->FE->FE:=cz jf
abbrev k1 (a:FE):FL:=cj a cA
abbrev k2 (a b:FE):FL:=cj a (k1 b)
abbrev k3 (a b c:FE):FL:=cj a (k2 b c)
def W {α:Type}(x:Res α) (Q:α->Prop):Prop:=∃ a,x=.ok a/\Q a
section
variable {α β:Type}{x:Res α}{f:α->Res β}{P:α->Prop}{R:β->Prop}
end
section
variable {s s1 s':S}{a b:FE}{fl:FL}{g:T->T->Option T}{gN:List T->Option T}{Q:T × S->Prop}{t u:T}{ts:List T}{i:Nat}{c:FT}{A B:FS}{QS:Out × S->Prop}{QB:Bool × S->Prop}{QL:List T × S->Prop}{G:T × List Ob->Prop}
end
end D
namespace K74
open PySem D L2
variable (n:Nat){m:List _root_.D.Ob}
abbrev GO:List Nat:=[97,98,99,100,101,102,103,104,105,106,107,108,109,110,111,112,113,114,115,116,117,118,119,120,121,122,65,66,67,68,69,70,71,72,73,74,75,76,77,78,79,80,81,82,83,84,85,86,87,88,89,90,48,49,50,51,52,53,54,55,56,57,32,33,34,35,36,38,39,40,41,42,43,44,45,46,47,58,59,60,61,62,63,64,91,92,93,94,95,96,123,124,125,126]
abbrev V2:List Nat:=[97,98,99,100,101,102,103,104,105,106,107,108,109,110,111,112,113,114,115,116,117,118,119,120,121,122]
abbrev acS:List Nat:=[33,35,38,39,40,41,44,45,48,49,50,51,52,53,54,55,56,57,58,59,60,61,62,64,65,66,67,68,69,70,71,72,73,74,75,76,77,78,79,80,81,82,83,84,85,86,87,88,89,90,92,95,96,97,98,99,100,101,102,103,104,105,106,107,108,109,110,111,112,113,114,115,116,117,118,119,120,121,122,123,124,125,126,32]
noncomputable abbrev fx (x:Str) (i:Nat):Str × List T × Nat:=(x,[],i)
noncomputable def M:Gm:={
 P:={ cn:=["Program", "Line", "Cond", "Always", "RowIs", "Last", "Like", "Soon", "FromTo", "Not", "End", "Deed", "Mark", "Drop", "Print", "Done", "Say", "Swap", "Join", "Pile", "Bring", "Go", "Add", "Tell", "Scan"],an:=["lines", "cond", "deed", "number", "pattern", "many", "first", "second", "inner", "name", "words", "every", "most", "shelf", "rest"],tab:=[[0],[1,2],[],[],[3],[],[4],[5,4],[6,7],[8],[],[],[9],[],[],[],[10],[4,10,11],[12],[13,12],[13],[9],[6,7],[],[14,3]],sub:=[[0],[1],[2],[2,3],[2,4],[2,5],[2,6],[2,7],[2,8],[2,9],[2,10],[11],[11,12],[11,13],[11,14],[11,15],[11,16],[11,17],[11,18],[11,19],[11,20],[11,21],[11,22],[11,23],[24]] },
 cs:=[("SIGNS", .str GO),("SMALL_LETTERS", .str V2),("FIGURES", .str [48,49,50,51,52,53,54,55,56,57]),("MOST_ITEMS", .int 8),("MOST_SIGNS", .int 12),("NEVER_PLAIN", .str [94,36,46,91,93,42,43,63,47]),("NEVER_IN_A_SET", .str [93,94,47]),("ONCE", .str [49]),("HOW_MANY", .str [42,43,63]),("COND_BEGINNINGS", .tup [.str [114,111,119,32],.str [108,97,115,116],.str [47],.str [115,111,111,110,32],.str [102,114,111,109,32],.str [110,111,116,32],.str [101,110,100]]),("MOST_ROW", .int 999),("MOST_FIGURES", .int 3),("MOST_SOON", .int 3),("LEAST_JOIN", .int 2),("MOST_SMALL", .int 9),("MOST_LETTERS", .int 8),("MOST_TEXT", .int 40),("MOST_LINES", .int 24)],
 fs:=[fx "made_of" 0,fx "beginning_of" 1,fx "may_stand_plain" 2,fx "pattern" 3,fx "items_of" 4,fx "place_behind_core" 5,fx "many_at" 6,fx "item_of" 7,fx "set_item" 8,fx "is_written_plain" 9,fx "written" 10,fx "written_core" 11,fx "may_be_empty" 12,fx "least_length" 13,fx "may_be_left_out" 14,fx "line_of" 15,fx "line_next" 16,fx "cond_next" 17,fx "plain_cond_next" 18,fx "row_or_pattern_next" 19,fx "deed_next" 20,fx "swap_next" 21,fx "pile_next" 22,fx "add_next" 23,fx "number_next" 24,fx "name_next" 25,fx "words_next" 26,fx "pattern_next" 27,fx "may_stand" 28,fx "may_swap" 29,fx "cut" 30,fx "read" 31,fx "lines_of" 32,fx "marks_of" 33,fx "refuse_go_without_mark" 34,fx "shown" 35,fx "line_text" 36,fx "cond_text" 37,fx "deed_text" 38,fx "pattern_text" 39,fx "quoted" 40,fx "woven" 41,fx "sees_the_row_alone" 42,fx "_law_cell_at" 43,fx "_law_word" 44,fx "_law_far" 45,fx "_law_near" 46,fx "_law_drop" 47,fx "_law_deed" 48,fx "_law_line" 49,fx "_law_marked" 50,fx "_law_programs" 51,fx "_law_sorts" 52,fx "_law_named" 53,fx "law" 54],
 cl:=[("Program", .cp 0),("Line", .fz 1 2),("Cond", .z0 2),("Always", .z0 3),("RowIs", .fz 4 1),("Last", .z0 5),("Like", .fz 6 1),("Soon", .fz 7 2),("FromTo", .fz 8 2),("Not", .fz 9 1),("End", .z0 10),("Deed", .z0 11),("Mark", .fz 12 1),("Drop", .z0 13),("Print", .z0 14),("Done", .z0 15),("Say", .fz 16 1),("Swap", .fz 17 3),("Join", .fz 18 1),("Pile", .fz 19 2),("Bring", .fz 20 1),("Go", .fz 21 1),("Add", .fz 22 2),("Tell", .z0 23),("Scan", .nw 24 70)],
 ms:=[("refuse", [(24,71)]),("passes", [(24,72)]),("must_pass", [(24,73)]),("while_made_of", [(24,74)]),("between", [(24,75)])],
 bl:=["isinstance", "len", "all", "any", "str", "int", "list", "enumerate", "set"],bx:=[],yg:=[],lv:=["_law_lines"],lu:=["_law_one"],xc := "NotWoven", xs:=[("woven", 41)],xi:=[("NotWoven", true),("ValueError", true),("NoPattern", false),("NotThat", false),("Finished", false),("NoLine", false),("TwoMarks", false),("NoMark", false),("Endless", false)],xm:=["BladeError", "NotWoven"] }
noncomputable def Ft:List Fe:=[
 ⟨none, "made_of", "made_of", top 39,["text", "signs"],["text", "signs"],[],true⟩,
 ⟨none, "beginning_of", "beginning_of", top 40,["text", "signs", "many"],["text", "signs"],[],true⟩,
 ⟨none, "may_stand_plain", "may_stand_plain", top 48,["sign"],["sign"],[],true⟩,
 ⟨none, "pattern", "pattern", top 49,["text", "front", "body", "back", "items"],["text"],[],true⟩,
 ⟨none, "items_of", "items_of", top 50,["body", "items", "place", "behind", "many"],["body"],["items"],true⟩,
 ⟨none, "place_behind_core", "place_behind_core", top 51,["body", "place", "bracket"],["body", "place"],[],true⟩,
 ⟨none, "many_at", "many_at", top 52,["body", "place"],["body", "place"],[],true⟩,
 ⟨none, "item_of", "item_of", top 53,["core", "many"],["core", "many"],[],true⟩,
 ⟨none, "set_item", "set_item", top 54,["inside", "many", "others", "signs"],["inside", "many"],[],true⟩,
 ⟨none, "is_written_plain", "is_written_plain", top 55,["signs", "others"],["signs", "others"],[],true⟩,
 ⟨none, "written", "written", top 56,["one", "parts", "signs", "others", "many"],["one"],["parts"],true⟩,
 ⟨none, "written_core", "written_core", top 57,["signs", "others"],["signs", "others"],[],true⟩,
 ⟨none, "may_be_empty", "may_be_empty", top 58,["one"],["one"],[],true⟩,
 ⟨none, "least_length", "least_length", top 59,["one"],["one"],[],true⟩,
 ⟨none, "may_be_left_out", "may_be_left_out", top 60,["item"],["item"],[],true⟩,
 ⟨none, "line_of", "line_of", top 71,["row", "number", "scan", "line"],["row", "number"],[],true⟩,
 ⟨none, "line_next", "line_next", top 72,["scan", "cond"],["scan"],[],false⟩,
 ⟨none, "cond_next", "cond_next", top 73,["scan"],["scan"],[],false⟩,
 ⟨none, "plain_cond_next", "plain_cond_next", top 74,["scan", "many", "first"],["scan"],[],false⟩,
 ⟨none, "row_or_pattern_next", "row_or_pattern_next", top 75,["scan"],["scan"],[],false⟩,
 ⟨none, "deed_next", "deed_next", top 76,["scan"],["scan"],[],false⟩,
 ⟨none, "swap_next", "swap_next", top 77,["scan", "every", "one"],["scan", "every"],[],false⟩,
 ⟨none, "pile_next", "pile_next", top 78,["scan", "shelf"],["scan"],[],false⟩,
 ⟨none, "add_next", "add_next", top 79,["scan", "first"],["scan"],[],false⟩,
 ⟨none, "number_next", "number_next", top 80,["scan", "least", "most", "figures", "number"],["scan", "least", "most"],[],false⟩,
 ⟨none, "name_next", "name_next", top 81,["scan", "name"],["scan"],[],false⟩,
 ⟨none, "words_next", "words_next", top 82,["scan", "words"],["scan"],[],false⟩,
 ⟨none, "pattern_next", "pattern_next", top 83,["scan", "text"],["scan"],[],false⟩,
 ⟨none, "may_stand", "may_stand", top 84,["cond", "deed"],["cond", "deed"],[],true⟩,
 ⟨none, "may_swap", "may_swap", top 85,["deed"],["deed"],[],true⟩,
 ⟨none, "cut", "cut", top 87,["text", "rows"],["text"],[],true⟩,
 ⟨none, "read", "read", top 90,["text", "lines", "marks"],["text"],[],true⟩,
 ⟨none, "lines_of", "lines_of", top 91,["rows", "lines", "number", "row"],["rows"],["lines"],true⟩,
 ⟨none, "marks_of", "marks_of", top 92,["lines", "marks", "number", "line"],["lines"],["marks"],true⟩,
 ⟨none, "refuse_go_without_mark", "refuse_go_without_mark", top 93,["lines", "marks", "number", "line"],["lines", "marks"],[],true⟩,
 ⟨none, "shown", "shown", top 95,["program"],["program"],[],true⟩,
 ⟨none, "line_text", "line_text", top 96,["line"],["line"],[],true⟩,
 ⟨none, "cond_text", "cond_text", top 97,["cond"],["cond"],[],true⟩,
 ⟨none, "deed_text", "deed_text", top 98,["deed"],["deed"],[],true⟩,
 ⟨none, "pattern_text", "pattern_text", top 99,["one"],["one"],[],true⟩,
 ⟨none, "quoted", "quoted", top 100,["words"],["words"],[],true⟩,
 ⟨none, "woven", "woven", top 102,["first", "second"],["first", "second"],["raise"],true⟩,
 ⟨none, "sees_the_row_alone", "sees_the_row_alone", top 103,["cond"],["cond"],[],true⟩,
 ⟨none, "_law_cell_at", "_law_cell_at", top 105,["_law_script", "_law_k"],["_law_script", "_law_k"],[],true⟩,
 ⟨none, "_law_word", "_law_word", top 106,["_law_number", "_law_some"],["_law_number"],[],true⟩,
 ⟨none, "_law_far", "_law_far", top 107,["_law_number", "_law_cond"],["_law_number"],["_law_cond"],true⟩,
 ⟨none, "_law_near", "_law_near", top 108,["_law_number"],["_law_number"],[],true⟩,
 ⟨none, "_law_drop", "_law_drop", top 109,["_law_cell", "_law_number"],["_law_cell"],[],true⟩,
 ⟨none, "_law_deed", "_law_deed", top 110,["_law_number", "_law_some"],["_law_number"],[],true⟩,
 ⟨none, "_law_line", "_law_line", top 111,["_law_cell", "_law_number"],["_law_cell"],[],true⟩,
 ⟨none, "_law_marked", "_law_marked", top 112,["_law_lines", "_law_spot"],["_law_lines", "_law_spot"],[],true⟩,
 ⟨none, "_law_programs", "_law_programs", top 113,["_law_script", "_law_first", "_law_second", "_law_cells", "_law_many", "_law_drops", "_law_lines", "_law_spot", "_law_way", "_law_good"],["_law_script"],["_law_drops", "_law_lines"],true⟩,
 ⟨none, "_law_sorts", "_law_sorts", top 114,["_law_programs_here", "_law_sorts_here", "e"],["_law_programs_here"],[],true⟩,
 ⟨none, "_law_named", "_law_named", top 115,["_law_programs_here", "_law_refused"],["_law_programs_here"],[],true⟩,
 ⟨none, "law", "law", top 116,["_law_script", "_law_programs_here", "_law_sorts_here", "_law_one", "_law_other", "_law_good"],["_law_script"],[],true⟩,
 ⟨some "Program", "__init__", "Program.__init__", inClass (top 11) 0,["self", "lines"],["self", "lines"],[],false⟩,
 ⟨some "Line", "__init__", "Line.__init__", inClass (top 12) 0,["self", "cond", "deed"],["self", "cond", "deed"],[],false⟩,
 ⟨some "RowIs", "__init__", "RowIs.__init__", inClass (top 15) 0,["self", "number"],["self", "number"],[],false⟩,
 ⟨some "Like", "__init__", "Like.__init__", inClass (top 17) 0,["self", "pattern"],["self", "pattern"],[],false⟩,
 ⟨some "Soon", "__init__", "Soon.__init__", inClass (top 18) 0,["self", "many", "pattern"],["self", "many", "pattern"],[],false⟩,
 ⟨some "FromTo", "__init__", "FromTo.__init__", inClass (top 19) 0,["self", "first", "second"],["self", "first", "second"],[],false⟩,
 ⟨some "Not", "__init__", "Not.__init__", inClass (top 20) 0,["self", "inner"],["self", "inner"],[],false⟩,
 ⟨some "Mark", "__init__", "Mark.__init__", inClass (top 23) 0,["self", "name"],["self", "name"],[],false⟩,
 ⟨some "Say", "__init__", "Say.__init__", inClass (top 27) 0,["self", "words"],["self", "words"],[],false⟩,
 ⟨some "Swap", "__init__", "Swap.__init__", inClass (top 28) 0,["self", "pattern", "words", "every"],["self", "pattern", "words", "every"],[],false⟩,
 ⟨some "Join", "__init__", "Join.__init__", inClass (top 29) 0,["self", "most"],["self", "most"],[],false⟩,
 ⟨some "Pile", "__init__", "Pile.__init__", inClass (top 30) 0,["self", "shelf", "most"],["self", "shelf", "most"],[],false⟩,
 ⟨some "Bring", "__init__", "Bring.__init__", inClass (top 31) 0,["self", "shelf"],["self", "shelf"],[],false⟩,
 ⟨some "Go", "__init__", "Go.__init__", inClass (top 32) 0,["self", "name"],["self", "name"],[],false⟩,
 ⟨some "Add", "__init__", "Add.__init__", inClass (top 33) 0,["self", "first", "second"],["self", "first", "second"],[],false⟩,
 ⟨some "Scan", "__init__", "Scan.__init__", inClass (top 70) 0,["self", "row", "number"],["self", "row", "number"],[],false⟩,
 ⟨some "Scan", "refuse", "Scan.refuse", inClass (top 70) 1,["self"],["self"],[],false⟩,
 ⟨some "Scan", "passes", "Scan.passes", inClass (top 70) 2,["self", "words"],["self", "words"],[],false⟩,
 ⟨some "Scan", "must_pass", "Scan.must_pass", inClass (top 70) 3,["self", "words"],["self", "words"],[],false⟩,
 ⟨some "Scan", "while_made_of", "Scan.while_made_of", inClass (top 70) 4,["self", "signs", "taken"],["self", "signs"],[],false⟩,
 ⟨some "Scan", "between", "Scan.between", inClass (top 70) 5,["self", "sign", "place", "inside"],["self", "sign"],[],false⟩]
noncomputable def It:MJ:=[("Program", 55),("Line", 56),("RowIs", 57),("Like", 58),("Soon", 59),("FromTo", 60),("Not", 61),("Mark", 62),("Say", 63),("Swap", 64),("Join", 65),("Pile", 66),("Bring", 67),("Go", 68),("Add", 69),("Scan", 70)]
noncomputable abbrev cN:=fS M Ft
def t0 (ai:Nat->Fn):Fn:=aO (aQ 2 2 (av (bC qu (k1 (c6 (bo (h_ (vF 0)) 2 [1] (setG 1) cC (cz (aU .In) (vF 1) (vF 2))))))))
theorem w0:cN (n+1) 0=t0 (cN n):=rfl
def t1 (ai:Nat->Fn):Fn:=aO (aQ 2 3 (aj (aV 2 (cI 0))
 (aj (qp many (iY (cD (cz (aU .Lt) (vF 2) (bC bq (k1 (vF 0))))) (cD (cz (aU .In) (oI (vF 0) (vF 2)) (vF 1))))
  (EO yZ 2 (cI 1)))
 (av (jC (vF 0) ny (g9 (vF 2)))))))
theorem w1:cN (n+1) 1=t1 (cN n):=rfl
def t2 (ai:Nat->Fn):Fn:=aO (aQ 1 1 (av (jO (cz (aU .In) (vF 0) (cS GO)) (cz (aU .NotIn) (vF 0) (cS [94,36,46,91,93,42,43,63,47])))))
theorem w2:cN (n+1) 2=t2 (cN n):=rfl
def t3 (ai:Nat->Fn):Fn:=aO (aQ 1 5 (aj (bu (c_ (tB (b8 (tyD "str") (vF 0))))
  br
  aG)
 (aj (bu (c_ (tB (ah (ai 0) [] (k2 (vF 0) (cS GO)))))
  br
  aG)
 (aj (aV 1 (jD rE (vF 0) (k1 (cS [94]))))
 (aj (aV 2 (rC (tB (vF 1)) (jC (vF 0) (g9 (cI 1)) ny) (vF 0)))
 (aj (aV 3 (jD WI (vF 2) (k1 (cS [36]))))
 (aj (aV 4 (ah (ai 4) [] (k1 (rC (tB (vF 3)) (jC (vF 2) ny (g9 (b8 nL (cI 1)))) (vF 2)))))
 (aj (bu (cD (cz (aU .Gt) (bC bq (k1 (vF 4))) (cI 8)))
  br
  aG)
 (av (bC lO (k3 (vF 1) (vF 4) (vF 3))))))))))))
theorem w3:cN (n+1) 3=t3 (cN n):=rfl
def t4 (ai:Nat->Fn):Fn:=aO (aQ 1 5 (aj (i7 1 (tN cA))
 (aj (aV 2 (cI 0))
 (aj (qp many (cD (cz (aU .Lt) (vF 2) (bC bq (k1 (vF 0)))))
  (aj (aV 3 (ah (ai 5) [] (k2 (vF 0) (vF 2))))
 (aj (aV 4 (ah (ai 6) [] (k2 (vF 0) (vF 3))))
 (aj (i8 1 (ah (ai 7) [] (k2 (jC (vF 0) (g9 (vF 2)) (g9 (vF 3))) (vF 4))))
 (aV 2 (rC (cD (oE (vF 4) (cS [49]))) (vF 3) (oA (vF 3) (cI 1))))))))
 (av (vF 1))))))
theorem w4:cN (n+1) 4=t4 (cN n):=rfl
def t5 (ai:Nat->Fn):Fn:=aO (aQ 2 3 (aj (bu (cD (cz (aU .NotEq) (oI (vF 0) (vF 1)) (cS [91])))
  (av (oA (vF 1) (cI 1)))
  aG)
 (aj (aV 2 (jD lX (vF 0) (k2 (cS [93]) (vF 1))))
 (aj (bu (cD (oE (vF 2) (b8 nL (cI 1))))
  br
  aG)
 (av (oA (vF 2) (cI 1)))))))
theorem w5:cN (n+1) 5=t5 (cN n):=rfl
def t6 (ai:Nat->Fn):Fn:=aO (aQ 2 2 (aj (bu (iY (cD (cz (aU .Lt) (vF 1) (bC bq (k1 (vF 0))))) (cD (cz (aU .In) (oI (vF 0) (vF 1)) (cS [42,43,63]))))
  (av (oI (vF 0) (vF 1)))
  aG)
 (av (cS [49]))))
theorem w6:cN (n+1) 6=t6 (cN n):=rfl
def t7 (ai:Nat->Fn):Fn:=aO (aQ 2 2 (aj (bu (cD (oE (vF 0) (cS [46])))
  (av (bC lO (k3 (cS []) (cF (.bl true)) (vF 1))))
  aG)
 (aj (bu (tB (jD rE (vF 0) (k1 (cS [91]))))
  (av (ah (ai 8) [] (k2 (jC (vF 0) (g9 (cI 1)) (g9 (b8 nL (cI 1)))) (vF 1))))
  aG)
 (aj (bu (c_ (tB (ah (ai 2) [] (k1 (vF 0)))))
  br
  aG)
 (av (bC lO (k3 (vF 0) (cF (.bl false)) (vF 1))))))))
theorem w7:cN (n+1) 7=t7 (cN n):=rfl
def t8 (ai:Nat->Fn):Fn:=aO (aQ 2 4 (aj (aV 2 (jD rE (vF 0) (k1 (cS [94]))))
 (aj (aV 3 (rC (tB (vF 2)) (jC (vF 0) (g9 (cI 1)) ny) (vF 0)))
 (aj (bu (nu (cD (oE (vF 3) (cS []))) (cD (cz (aU .Gt) (bC bq (k1 (vF 3))) (cI 12))))
  br
  aG)
 (aj (bu (tB (bC jS (k1 (c6 (bo (h_ (vF 3)) 2 [] (setG 1) cC (cz (aU .In) (vF 1) (cS [93,94,47])))))))
  br
  aG)
 (aj (bu (cD (cz (aU .NotEq) (b8 qH (vF 3)) (bC bq (k1 (vF 3)))))
  br
  aG)
 (aj (bu (tB (ah (ai 9) [] (k2 (vF 3) (vF 2))))
  br
  aG)
 (av (bC lO (k3 (vF 3) (vF 2) (vF 1)))))))))))
theorem w8:cN (n+1) 8=t8 (cN n):=rfl
def t9 (ai:Nat->Fn):Fn:=aO (aQ 2 2 (av (jO (wY (vF 1)) (jO (oE (bC bq (k1 (vF 0))) (cI 1)) (ah (ai 2) [] (k1 (vF 0)))))))
theorem w9:cN (n+1) 9=t9 (cN n):=rfl
def t10 (ai:Nat->Fn):Fn:=aO (aQ 1 5 (aj (i7 1 (tN (k1 (rC (tB (oI (vF 0) (cI 0))) (cS [94]) (cS [])))))
 (aj (tK (LQ (oI (vF 0) (cI 1))) (ia [2,3,4])
  (aj (i8 1 (ah (ai 11) [] (k2 (vF 2) (vF 3))))
 (i8 1 (rC (cD (oE (vF 4) (cS [49]))) (cS []) (vF 4)))))
 (aj (i8 1 (rC (tB (oI (vF 0) (cI 2))) (cS [36]) (cS [])))
 (av (jD joinM (cS []) (k1 (vF 1))))))))
theorem w10:cN (n+1) 10=t10 (cN n):=rfl
def t11 (ai:Nat->Fn):Fn:=aO (aQ 2 2 (aj (bu (cD (oE (vF 0) (cS [])))
  (av (cS [46]))
  aG)
 (aj (bu (tB (vF 1))
  (av (b8 (oH [91,94] [93]) (vF 0)))
  aG)
 (aj (bu (tB (ah (ai 9) [] (k2 (vF 0) (vF 1))))
  (av (vF 0))
  aG)
 (av (b8 (oH [91] [93]) (vF 0)))))))
theorem w11:cN (n+1) 11=t11 (cN n):=rfl
def t12 (ai:Nat->Fn):Fn:=aO (aQ 1 1 (av (oE (ah (ai 13) [] (k1 (vF 0))) (cI 0))))
theorem w12:cN (n+1) 12=t12 (cN n):=rfl
def t13 (ai:Nat->Fn):Fn:=aO (aQ 1 1 (av (bC bq (k1 (c6 (bo (h_ (oI (vF 0) (cI 1))) 2 [] (setG 1) (c_ (tB (ah (ai 14) [] (k1 (vF 1))))) (vF 1)))))))
theorem w13:cN (n+1) 13=t13 (cN n):=rfl
def t14 (ai:Nat->Fn):Fn:=aO (aQ 1 1 (av (cz (aU .In) (oI (vF 0) (cI 2)) (bC lO (k2 (cS [42]) (cS [63]))))))
theorem w14:cN (n+1) 14=t14 (cN n):=rfl
def t15 (ai:Nat->Fn):Fn:=aO (aQ 2 4 (aj (aV 2 (Bt 24 (ai 70) (k2 (vF 0) (vF 1))))
 (aj (aV 3 (ah (ai 16) [] (k1 (vF 2))))
 (aj (bu (nu (cD (cz (aU .NotEq) (aE M.P.tab 14 (vF 2)) (cS []))) (c_ (tB (ah (ai 28) [] (k2 (aE M.P.tab 1 (vF 3)) (aE M.P.tab 2 (vF 3)))))))
  (cU (aJ (az [(24,71)] ai) (vF 2) cA))
  aG)
 (av (vF 3))))))
theorem w15:cN (n+1) 15=t15 (cN n):=rfl
def t16 (ai:Nat->Fn):Fn:=aQ 1 2 (aj (bu (tB (aJ (az [(24,72)] ai) (vF 0) (k1 (cS [109,97,114,107,32]))))
  (av (c5 1 2 (k2 (c5 3 0 cA) (c5 12 1 (k1 (ah (ai 25) [] (k1 (vF 0))))))))
  aG)
 (aj (bu (c_ (tB (bC jS (k1 (c6 (bo (h_ (cF (.tup [(.str [114,111,119,32]),(.str [108,97,115,116]),(.str [47]),(.str [115,111,111,110,32]),(.str [102,114,111,109,32]),(.str [110,111,116,32]),(.str [101,110,100])]))) 2 [0] (setG 1) cC (jD rE (aE M.P.tab 14 (vF 2)) (k1 (vF 1)))))))))
  (av (c5 1 2 (k2 (c5 3 0 cA) (ah (ai 20) [] (k1 (vF 0))))))
  aG)
 (aj (aV 1 (ah (ai 17) [] (k1 (vF 0))))
 (aj (cU (aJ (az [(24,73)] ai) (vF 0) (k1 (cS [58,32]))))
 (av (c5 1 2 (k2 (vF 1) (ah (ai 20) [] (k1 (vF 0))))))))))
theorem w16:cN (n+1) 16=t16 (cN n):=rfl
def t17 (ai:Nat->Fn):Fn:=aQ 1 1 (aj (bu (tB (aJ (az [(24,72)] ai) (vF 0) (k1 (cS [101,110,100]))))
  (av (c5 10 0 cA))
  aG)
 (aj (bu (tB (aJ (az [(24,72)] ai) (vF 0) (k1 (cS [110,111,116,32]))))
  (av (c5 9 1 (k1 (ah (ai 18) [] (k1 (vF 0))))))
  aG)
 (av (ah (ai 18) [] (k1 (vF 0))))))
theorem w17:cN (n+1) 17=t17 (cN n):=rfl
def t18 (ai:Nat->Fn):Fn:=aQ 1 3 (aj (bu (tB (aJ (az [(24,72)] ai) (vF 0) (k1 (cS [108,97,115,116]))))
  (av (c5 5 0 cA))
  aG)
 (aj (bu (tB (aJ (az [(24,72)] ai) (vF 0) (k1 (cS [115,111,111,110,32]))))
  (aj (aV 1 (ah (ai 24) [] (k3 (vF 0) (cI 1) (cI 3))))
 (aj (cU (aJ (az [(24,73)] ai) (vF 0) (k1 (cS [32]))))
 (av (c5 7 2 (k2 (vF 1) (ah (ai 27) [] (k1 (vF 0))))))))
  aG)
 (aj (bu (tB (aJ (az [(24,72)] ai) (vF 0) (k1 (cS [102,114,111,109,32]))))
  (aj (aV 2 (ah (ai 19) [] (k1 (vF 0))))
 (aj (cU (aJ (az [(24,73)] ai) (vF 0) (k1 (cS [32,116,111,32]))))
 (av (c5 8 2 (k2 (vF 2) (ah (ai 19) [] (k1 (vF 0))))))))
  aG)
 (av (ah (ai 19) [] (k1 (vF 0)))))))
theorem w18:cN (n+1) 18=t18 (cN n):=rfl
def t19 (ai:Nat->Fn):Fn:=aQ 1 1 (aj (bu (tB (aJ (az [(24,72)] ai) (vF 0) (k1 (cS [114,111,119,32]))))
  (av (c5 4 1 (k1 (ah (ai 24) [] (k3 (vF 0) (cI 1) (cI 999))))))
  aG)
 (av (c5 6 1 (k1 (ah (ai 27) [] (k1 (vF 0)))))))
theorem w19:cN (n+1) 19=t19 (cN n):=rfl
def t20 (ai:Nat->Fn):Fn:=aQ 1 1 (aj (bu (tB (aJ (az [(24,72)] ai) (vF 0) (k1 (cS [100,114,111,112]))))
  (av (c5 13 0 cA))
  aG)
 (aj (bu (tB (aJ (az [(24,72)] ai) (vF 0) (k1 (cS [112,114,105,110,116]))))
  (av (c5 14 0 cA))
  aG)
 (aj (bu (tB (aJ (az [(24,72)] ai) (vF 0) (k1 (cS [100,111,110,101]))))
  (av (c5 15 0 cA))
  aG)
 (aj (bu (tB (aJ (az [(24,72)] ai) (vF 0) (k1 (cS [116,101,108,108]))))
  (av (c5 23 0 cA))
  aG)
 (aj (bu (tB (aJ (az [(24,72)] ai) (vF 0) (k1 (cS [115,97,121,32]))))
  (av (c5 16 1 (k1 (ah (ai 26) [] (k1 (vF 0))))))
  aG)
 (aj (bu (tB (aJ (az [(24,72)] ai) (vF 0) (k1 (cS [115,119,97,112,32,101,118,101,114,121,32]))))
  (av (ah (ai 21) [] (k2 (vF 0) (cF (.bl true)))))
  aG)
 (aj (bu (tB (aJ (az [(24,72)] ai) (vF 0) (k1 (cS [115,119,97,112,32]))))
  (av (ah (ai 21) [] (k2 (vF 0) (cF (.bl false)))))
  aG)
 (aj (bu (tB (aJ (az [(24,72)] ai) (vF 0) (k1 (cS [106,111,105,110,32]))))
  (av (c5 18 1 (k1 (ah (ai 24) [] (k3 (vF 0) (cI 2) (cI 9))))))
  aG)
 (aj (bu (tB (aJ (az [(24,72)] ai) (vF 0) (k1 (cS [112,105,108,101,32]))))
  (av (ah (ai 22) [] (k1 (vF 0))))
  aG)
 (aj (bu (tB (aJ (az [(24,72)] ai) (vF 0) (k1 (cS [98,114,105,110,103,32]))))
  (av (c5 20 1 (k1 (ah (ai 25) [] (k1 (vF 0))))))
  aG)
 (aj (bu (tB (aJ (az [(24,72)] ai) (vF 0) (k1 (cS [103,111,32]))))
  (av (c5 21 1 (k1 (ah (ai 25) [] (k1 (vF 0))))))
  aG)
 (aj (cU (aJ (az [(24,73)] ai) (vF 0) (k1 (cS [97,100,100,32]))))
 (av (ah (ai 23) [] (k1 (vF 0))))))))))))))))
theorem w20:cN (n+1) 20=t20 (cN n):=rfl
def t21 (ai:Nat->Fn):Fn:=aQ 2 3 (aj (aV 2 (ah (ai 27) [] (k1 (vF 0))))
 (aj (cU (aJ (az [(24,73)] ai) (vF 0) (k1 (cS [32]))))
 (av (c5 17 3 (k3 (vF 2) (ah (ai 26) [] (k1 (vF 0))) (vF 1))))))
theorem w21:cN (n+1) 21=t21 (cN n):=rfl
def t22 (ai:Nat->Fn):Fn:=aQ 1 2 (aj (aV 1 (ah (ai 25) [] (k1 (vF 0))))
 (aj (bu (c_ (tB (aJ (az [(24,72)] ai) (vF 0) (k1 (cS [32])))))
  (av (c5 19 2 (k2 (vF 1) (cF .non))))
  aG)
 (av (c5 19 2 (k2 (vF 1) (ah (ai 24) [] (k3 (vF 0) (cI 1) (cI 9))))))))
theorem w22:cN (n+1) 22=t22 (cN n):=rfl
def t23 (ai:Nat->Fn):Fn:=aQ 1 2 (aj (aV 1 (ah (ai 24) [] (k3 (vF 0) (cI 1) (cI 9))))
 (aj (cU (aJ (az [(24,73)] ai) (vF 0) (k1 (cS [32]))))
 (av (c5 22 2 (k2 (vF 1) (ah (ai 24) [] (k3 (vF 0) (cI 1) (cI 9))))))))
theorem w23:cN (n+1) 23=t23 (cN n):=rfl
def t24 (ai:Nat->Fn):Fn:=aQ 3 5 (aj (aV 3 (aJ (az [(24,74)] ai) (vF 0) (k1 (cS [48,49,50,51,52,53,54,55,56,57]))))
 (aj (bu (nu (cD (oE (vF 3) (cS []))) (nu (tB (jD rE (vF 3) (k1 (cS [48])))) (cD (cz (aU .Gt) (bC bq (k1 (vF 3))) (cI 3)))))
  (cU (aJ (az [(24,71)] ai) (vF 0) cA))
  aG)
 (aj (aV 4 (bC Fj (k1 (vF 3))))
 (aj (bu (nu (cD (cz (aU .Lt) (vF 4) (vF 1))) (cD (cz (aU .Gt) (vF 4) (vF 2))))
  (cU (aJ (az [(24,71)] ai) (vF 0) cA))
  aG)
 (av (vF 4))))))
theorem w24:cN (n+1) 24=t24 (cN n):=rfl
def t25 (ai:Nat->Fn):Fn:=aQ 1 2 (aj (aV 1 (aJ (az [(24,74)] ai) (vF 0) (k1 (cS V2))))
 (aj (bu (nu (cD (oE (vF 1) (cS []))) (cD (cz (aU .Gt) (bC bq (k1 (vF 1))) (cI 8))))
  (cU (aJ (az [(24,71)] ai) (vF 0) cA))
  aG)
 (av (vF 1))))
theorem w25:cN (n+1) 25=t25 (cN n):=rfl
def t26 (ai:Nat->Fn):Fn:=aQ 1 2 (aj (aV 1 (aJ (az [(24,75)] ai) (vF 0) (k1 (cS [34]))))
 (aj (bu (nu (cD (cz (aU .Gt) (bC bq (k1 (vF 1))) (cI 40))) (c_ (tB (ah (ai 0) [] (k2 (vF 1) (cS GO))))))
  (cU (aJ (az [(24,71)] ai) (vF 0) cA))
  aG)
 (av (vF 1))))
theorem w26:cN (n+1) 26=t26 (cN n):=rfl
def t27 (ai:Nat->Fn):Fn:=aQ 1 2 (aj (aV 1 (aJ (az [(24,75)] ai) (vF 0) (k1 (cS [47]))))
 (av (ah (ai 3) [] (k1 (vF 1)))))
theorem w27:cN (n+1) 27=t27 (cN n):=rfl
def t28 (ai:Nat->Fn):Fn:=aO (aQ 2 2 (aj (bu (tB (b8 (dc M.P.sub [10]) (vF 0)))
  (av (b8 (dc M.P.sub [16,20,23]) (vF 1)))
  aG)
 (aj (bu (tB (b8 (dc M.P.sub [17]) (vF 1)))
  (av (ah (ai 29) [] (k1 (vF 1))))
  aG)
 (av (wY (b8 (dc M.P.sub [23]) (vF 1)))))))
theorem w28:cN (n+1) 28=t28 (cN n):=rfl
def t29 (ai:Nat->Fn):Fn:=aO (aQ 1 1 (aj (bu (tB (ah (ai 12) [] (k1 (aE M.P.tab 4 (vF 0)))))
  (av (cF (.bl false)))
  aG)
 (av (Ur (wY (aE M.P.tab 11 (vF 0))) (cz (aU .LtE) (bC bq (k1 (aE M.P.tab 10 (vF 0)))) (ah (ai 13) [] (k1 (aE M.P.tab 4 (vF 0)))))))))
theorem w29:cN (n+1) 29=t29 (cN n):=rfl
def t30 (ai:Nat->Fn):Fn:=aO (aQ 1 2 (aj (aV 1 (jD splitM (vF 0) (k1 (cS [10]))))
 (aj (bu (cD (oE (oI (vF 1) (b8 nL (cI 1))) (cS [])))
  (av (bC lO (k2 (jC (vF 1) ny (g9 (b8 nL (cI 1)))) (cF (.bl true)))))
  aG)
 (av (bC lO (k2 (vF 1) (cF (.bl false))))))))
theorem w30:cN (n+1) 30=t30 (cN n):=rfl
def t31 (ai:Nat->Fn):Fn:=aO (aQ 1 3 (aj (aV 1 (ah (ai 32) [] (k1 (oI (ah (ai 30) [] (k1 (vF 0))) (cI 0)))))
 (aj (aV 2 (ah (ai 33) [] (k1 (vF 1))))
 (aj (cU (ah (ai 34) [] (k2 (vF 1) (vF 2))))
 (av (b8 (Us 0) (vF 1)))))))
theorem w31:cN (n+1) 31=t31 (cN n):=rfl
def t32 (ai:Nat->Fn):Fn:=aO (aQ 1 4 (aj (i7 1 (tN cA))
 (aj (tK (lP 1 (vF 0)) (ia [2,3])
  (aj (bu (cD (cz (aU .Gt) (vF 2) (cI 24)))
  br
  aG)
 (i8 1 (ah (ai 15) [] (k2 (vF 3) (vF 2))))))
 (av (vF 1)))))
theorem w32:cN (n+1) 32=t32 (cN n):=rfl
def t33 (ai:Nat->Fn):Fn:=aO (aQ 1 4 (aj (FN 1)
 (aj (tK (lP 1 (vF 0)) (ia [2,3])
  (bu (tB (b8 (dc M.P.sub [12]) (aE M.P.tab 2 (vF 3))))
  (aj (bu (cD (U_ .In false 1 (aE M.P.tab 9 (aE M.P.tab 2 (vF 3)))))
  br
  aG)
 (y_ 1 (aE M.P.tab 9 (aE M.P.tab 2 (vF 3))) (cF (.bl true))))
  aG))
 (av (vF 1)))))
theorem w33:cN (n+1) 33=t33 (cN n):=rfl
def t34 (ai:Nat->Fn):Fn:=aO (aQ 2 4 (tK (lP 1 (vF 0)) (ia [2,3])
  (bu (iY (tB (b8 (dc M.P.sub [21]) (aE M.P.tab 2 (vF 3)))) (cD (cz (aU .NotIn) (aE M.P.tab 9 (aE M.P.tab 2 (vF 3))) (vF 1))))
  br
  aG)))
theorem w34:cN (n+1) 34=t34 (cN n):=rfl
def t35 (ai:Nat->Fn):Fn:=aO (aQ 1 1 (av (jD joinM (cS []) (k1 (c6 (bo (h_ (aE M.P.tab 0 (vF 0))) 2 [] (setG 1) cC (oA (ah (ai 36) [] (k1 (vF 1))) (cS [10]))))))))
theorem w35:cN (n+1) 35=t35 (cN n):=rfl
def t36 (ai:Nat->Fn):Fn:=aO (aQ 1 1 (aj (bu (tB (b8 (dc M.P.sub [3]) (aE M.P.tab 1 (vF 0))))
  (av (ah (ai 38) [] (k1 (aE M.P.tab 2 (vF 0)))))
  aG)
 (av (oA (oA (ah (ai 37) [] (k1 (aE M.P.tab 1 (vF 0)))) (cS [58,32])) (ah (ai 38) [] (k1 (aE M.P.tab 2 (vF 0))))))))
theorem w36:cN (n+1) 36=t36 (cN n):=rfl
def t37 (ai:Nat->Fn):Fn:=aO (aQ 1 1 (aj (bu (tB (b8 (dc M.P.sub [4]) (vF 0)))
  (av (oA (cS [114,111,119,32]) (bC strN (k1 (aE M.P.tab 3 (vF 0))))))
  aG)
 (aj (bu (tB (b8 (dc M.P.sub [5]) (vF 0)))
  (av (cS [108,97,115,116]))
  aG)
 (aj (bu (tB (b8 (dc M.P.sub [6]) (vF 0)))
  (av (ah (ai 39) [] (k1 (aE M.P.tab 4 (vF 0)))))
  aG)
 (aj (bu (tB (b8 (dc M.P.sub [7]) (vF 0)))
  (av (oA (oA (oA (cS [115,111,111,110,32]) (bC strN (k1 (aE M.P.tab 5 (vF 0))))) (cS [32])) (ah (ai 39) [] (k1 (aE M.P.tab 4 (vF 0))))))
  aG)
 (aj (bu (tB (b8 (dc M.P.sub [8]) (vF 0)))
  (av (oA (oA (oA (cS [102,114,111,109,32]) (ah (ai 37) [] (k1 (aE M.P.tab 6 (vF 0))))) (cS [32,116,111,32])) (ah (ai 37) [] (k1 (aE M.P.tab 7 (vF 0))))))
  aG)
 (aj (bu (tB (b8 (dc M.P.sub [9]) (vF 0)))
  (av (oA (cS [110,111,116,32]) (ah (ai 37) [] (k1 (aE M.P.tab 8 (vF 0))))))
  aG)
 (av (cS [101,110,100])))))))))
theorem WV:cN (n+1) 37=t37 (cN n):=rfl
def t38 (ai:Nat->Fn):Fn:=aO (aQ 1 1 (aj (bu (tB (b8 (dc M.P.sub [12]) (vF 0)))
  (av (oA (cS [109,97,114,107,32]) (aE M.P.tab 9 (vF 0))))
  aG)
 (aj (bu (tB (b8 (dc M.P.sub [13]) (vF 0)))
  (av (cS [100,114,111,112]))
  aG)
 (aj (bu (tB (b8 (dc M.P.sub [14]) (vF 0)))
  (av (cS [112,114,105,110,116]))
  aG)
 (aj (bu (tB (b8 (dc M.P.sub [15]) (vF 0)))
  (av (cS [100,111,110,101]))
  aG)
 (aj (bu (tB (b8 (dc M.P.sub [16]) (vF 0)))
  (av (oA (cS [115,97,121,32]) (ah (ai 40) [] (k1 (aE M.P.tab 10 (vF 0))))))
  aG)
 (aj (bu (tB (b8 (dc M.P.sub [17]) (vF 0)))
  (av (oA (oA (oA (rC (tB (aE M.P.tab 11 (vF 0))) (cS [115,119,97,112,32,101,118,101,114,121,32]) (cS [115,119,97,112,32])) (ah (ai 39) [] (k1 (aE M.P.tab 4 (vF 0))))) (cS [32])) (ah (ai 40) [] (k1 (aE M.P.tab 10 (vF 0))))))
  aG)
 (aj (bu (tB (b8 (dc M.P.sub [18]) (vF 0)))
  (av (oA (cS [106,111,105,110,32]) (bC strN (k1 (aE M.P.tab 12 (vF 0))))))
  aG)
 (aj (bu (tB (b8 (dc M.P.sub [19]) (vF 0)))
  (av (oA (oA (cS [112,105,108,101,32]) (aE M.P.tab 13 (vF 0))) (rC (cD (cz (aU .Is) (aE M.P.tab 12 (vF 0)) (cF .non))) (cS []) (oA (cS [32]) (bC strN (k1 (aE M.P.tab 12 (vF 0))))))))
  aG)
 (aj (bu (tB (b8 (dc M.P.sub [20]) (vF 0)))
  (av (oA (cS [98,114,105,110,103,32]) (aE M.P.tab 13 (vF 0))))
  aG)
 (aj (bu (tB (b8 (dc M.P.sub [21]) (vF 0)))
  (av (oA (cS [103,111,32]) (aE M.P.tab 9 (vF 0))))
  aG)
 (aj (bu (tB (b8 (dc M.P.sub [22]) (vF 0)))
  (av (oA (oA (oA (cS [97,100,100,32]) (bC strN (k1 (aE M.P.tab 6 (vF 0))))) (cS [32])) (bC strN (k1 (aE M.P.tab 7 (vF 0))))))
  aG)
 (av (cS [116,101,108,108]))))))))))))))
theorem w38:cN (n+1) 38=t38 (cN n):=rfl
def t39 (ai:Nat->Fn):Fn:=aO (aQ 1 1 (av (oA (oA (cS [47]) (ah (ai 10) [] (k1 (vF 0)))) (cS [47]))))
theorem w39:cN (n+1) 39=t39 (cN n):=rfl
def t40 (ai:Nat->Fn):Fn:=aO (aQ 1 1 (av (oA (oA (cS [34]) (vF 0)) (cS [34]))))
theorem w40:cN (n+1) 40=t40 (cN n):=rfl
def t41 (ai:Nat->Fn):Fn:=aO (aQ 2 2 (xF (cD (cz (aU .Gt) (oA (bC bq (k1 (aE M.P.tab 0 (vF 0)))) (bC bq (k1 (aE M.P.tab 0 (vF 1))))) (cI 24)))
 (xF (c_ (tB (bC qu (k1 (c6 (bo (h_ (aE M.P.tab 0 (vF 0))) 2 [] (setG 1) cC (b8 (dc M.P.sub [13]) (aE M.P.tab 2 (vF 1)))))))))
 (xF (tB (bC jS (k1 (c6 (bo (h_ (aE M.P.tab 0 (vF 1))) 2 [] (setG 1) cC (b8 (dc M.P.sub [18]) (aE M.P.tab 2 (vF 1))))))))
 (xF (c_ (tB (bC qu (k1 (c6 (bo (h_ (aE M.P.tab 0 (vF 1))) 2 [] (setG 1) cC (ah (ai 42) [] (k1 (aE M.P.tab 1 (vF 1))))))))))
 (okF (av (ah (ai 31) [] (k1 (oA (ah (ai 35) [] (k1 (vF 0))) (ah (ai 35) [] (k1 (vF 1)))))))))))))
theorem w41:cN (n+1) 41=t41 (cN n):=rfl
def t42 (ai:Nat->Fn):Fn:=aO (aQ 1 1 (aj (bu (tB (b8 (dc M.P.sub [9]) (vF 0)))
  (av (b8 (dc M.P.sub [6]) (aE M.P.tab 8 (vF 0))))
  aG)
 (av (b8 (dc M.P.sub [3,6,10]) (vF 0)))))
theorem w42:cN (n+1) 42=t42 (cN n):=rfl
def t43 (ai:Nat->Fn):Fn:=aO (aQ 2 2 (aj (bu (cD (cz (aU .Lt) (vF 1) (bC bq (k1 (vF 0)))))
  (av (oI (vF 0) (vF 1)))
  aG)
 (av (cI 0))))
theorem w43:cN (n+1) 43=t43 (cN n):=rfl
def t44 (ai:Nat->Fn):Fn:=aO (aQ 1 2 (aj (aV 1 (cS acS))
 (av (oA (oA (oA (cS [47]) (oI (vF 1) (oM (vF 0) (bC bq (k1 (vF 1)))))) (jC (cS [97,98]) ny (g9 (oM (oD (vF 0) (cI 7)) (cI 3))))) (cS [47])))))
theorem w44:cN (n+1) 44=t44 (cN n):=rfl
def t45 (ai:Nat->Fn):Fn:=aO (aQ 1 2 (aj (i7 1 (tN (k3 (oA (cS [114,111,119,32]) (bC strN (k1 (oA (cI 1) (oM (oD (vF 0) (cI 8)) (cI 999)))))) (cS [108,97,115,116]) (oA (oA (oA (cS [115,111,111,110,32]) (bC strN (k1 (oA (cI 1) (oM (oD (vF 0) (cI 8)) (cI 3)))))) (cS [32])) (ah (ai 44) [] (k1 (vF 0)))))))
 (aj (i8 1 (oA (oA (oA (cS [102,114,111,109,32]) (ah (ai 44) [] (k1 (vF 0)))) (cS [32,116,111,32,114,111,119,32])) (bC strN (k1 (oA (cI 1) (oM (oD (vF 0) (cI 8)) (cI 99)))))))
 (av (oA (oA (oI (bC eO (k2 (cS []) (cS [110,111,116,32]))) (oM (oD (vF 0) (cI 4)) (cI 2))) (EM 1 (oM (vF 0) (cI 4)))) (cS [58,32]))))))
theorem w45:cN (n+1) 45=t45 (cN n):=rfl
def t46 (ai:Nat->Fn):Fn:=aO (aQ 1 1 (av (oI (bC eO (k3 (cS []) (oA (ah (ai 44) [] (k1 (oD (vF 0) (cI 3)))) (cS [58,32])) (oA (oA (cS [110,111,116,32]) (ah (ai 44) [] (k1 (oD (vF 0) (cI 3))))) (cS [58,32])))) (oM (vF 0) (cI 3)))))
theorem w46:cN (n+1) 46=t46 (cN n):=rfl
def t47 (ai:Nat->Fn):Fn:=aO (aQ 1 2 (aj (aV 1 (oM (cz (fj .Mult) (vF 0) (cI 48271)) (cI 1000003)))
 (aj (aV 1 (oM (cz (fj .Mult) (vF 1) (vF 1)) (cI 999983)))
 (av (oA (oI (bC eO (k2 (ah (ai 46) [] (k1 (oD (vF 1) (cI 2)))) (ah (ai 45) [] (k1 (oD (vF 1) (cI 2)))))) (oM (vF 1) (cI 2))) (cS [100,114,111,112]))))))
theorem w47:cN (n+1) 47=t47 (cN n):=rfl
def t48 (ai:Nat->Fn):Fn:=aO (aQ 1 2 (aj (aV 1 (bC eO (cj (cS [112,114,105,110,116]) (cj (cS [100,111,110,101]) (cj (cS [100,114,111,112]) (cj (cS [115,97,121,32,34,105,116,32,105,115,34]) (cj (cS [112,105,108,101,32,115]) (cj (cS [112,105,108,101,32,115,32,51]) (k3 (cS [98,114,105,110,103,32,115]) (cS [97,100,100,32,49,32,50]) (cS [115,119,97,112,32,47,97,47,32,34,98,34]))))))))))
 (av (oI (oA (vF 1) (bC eO (k2 (cS [115,119,97,112,32,101,118,101,114,121,32,47,97,47,32,34,34]) (cS [103,111,32,104,101,114,101])))) (oM (vF 0) (cI 11))))))
theorem w48:cN (n+1) 48=t48 (cN n):=rfl
def t49 (ai:Nat->Fn):Fn:=aO (aQ 1 2 (aj (aV 1 (oM (cz (fj .Mult) (vF 0) (cI 48271)) (cI 1000003)))
 (aj (aV 1 (oM (cz (fj .Mult) (vF 1) (vF 1)) (cI 1000033)))
 (aj (bu (cD (oE (oM (vF 1) (cI 13)) (cI 5)))
  (av (oI (bC eO (k3 (cS [101,110,100,58,32,116,101,108,108]) (cS [101,110,100,58,32,98,114,105,110,103,32,115]) (cS [101,110,100,58,32,115,97,121,32,34,105,116,32,119,97,115,34]))) (oM (oD (vF 1) (cI 13)) (cI 3))))
  aG)
 (av (oA (ah (ai 46) [] (k1 (oD (vF 1) (cI 11)))) (ah (ai 48) [] (k1 (vF 1)))))))))
theorem w49:cN (n+1) 49=t49 (cN n):=rfl
def t50 (ai:Nat->Fn):Fn:=aO (aQ 2 2 (aj (bu (tB (bC jS (k1 (c6 (bo (h_ (vF 0)) 2 [] (setG 1) cC (jD WI (vF 1) (k1 (cS [103,111,32,104,101,114,101]))))))))
  (av (oA (oA (jC (vF 0) ny (g9 (vF 1))) (bC eO (k1 (cS [109,97,114,107,32,104,101,114,101])))) (jC (vF 0) (g9 (vF 1)) ny)))
  aG)
 (av (vF 0))))
theorem w50:cN (n+1) 50=t50 (cN n):=rfl
def t51 (ai:Nat->Fn):Fn:=aO (aQ 1 10 (aj (aV 1 (ah (ai 43) [] (k2 (vF 0) (cI 0))))
 (aj (aV 2 (ah (ai 43) [] (k2 (vF 0) (cI 1))))
 (aj (aV 3 (jC (vF 0) (g9 (cI 2)) ny))
 (aj (aV 4 (oM (oD (vF 1) (cI 8)) (cI 14)))
 (aj (i7 5 (bo (h_ (jC (vF 3) ny (g9 (vF 4)))) 2 [] (setG 1) cC (ah (ai 47) [] (k1 (vF 1)))))
 (aj (i7 6 (bo (h_ (jC (vF 3) (g9 (vF 4)) (g9 (oA (vF 4) (oM (oD (vF 1) (cI 112)) (cI 14)))))) 2 [] (setG 1) cC (ah (ai 49) [] (k1 (vF 1)))))
 (aj (aV 7 (oD (vF 2) (cI 6)))
 (aj (aV 8 (oM (vF 1) (cI 8)))
 (aj (bu (cD (oE (vF 8) (cI 1)))
  (nR 5 (k2 (oM (vF 7) (oA (i6 5) (cI 1))) (oA (ah (ai 46) [] (k1 (vF 2))) (oI (bC eO (cj (cS [112,114,105,110,116]) (k3 (cS [100,111,110,101]) (cS [115,97,121,32,34,34]) (cS [97,100,100,32,49,32,49])))) (oM (vF 2) (cI 4))))))
  aG)
 (aj (bu (cD (oE (vF 8) (cI 2)))
  (nR 5 (k2 (oM (vF 7) (oA (i6 5) (cI 1))) (cS [109,97,114,107,32,111,116,104,101,114])))
  aG)
 (aj (bu (cD (oE (vF 8) (cI 3)))
  (nR 6 (k2 (oM (vF 7) (oA (mh 6) (cI 1))) (oA (oA (ah (ai 46) [] (k1 (vF 2))) (cS [106,111,105,110,32])) (bC strN (k1 (oA (cI 2) (oM (oD (vF 2) (cI 3)) (cI 8))))))))
  aG)
 (aj (bu (cD (oE (vF 8) (cI 4)))
  (nR 6 (k2 (oM (vF 7) (oA (mh 6) (cI 1))) (oA (ah (ai 45) [] (k1 (vF 2))) (ah (ai 48) [] (k1 (oM (oD (vF 2) (cI 5)) (cI 10)))))))
  aG)
 (aj (aV 6 (ah (ai 50) [] (k2 (vF 6) (oM (vF 7) (oA (mh 6) (cI 1))))))
 (aj (aV 9 (jO (Ur (cz (aU .Lt) (vF 8) (cI 1)) (cz (aU .Gt) (vF 8) (cI 4))) (cz (aU .LtE) (oA (i6 5) (mh 6)) (cI 24))))
 (av (bC eO (k3 (jD joinM (cS []) (k1 (c6 (bo (h_ (vF 5)) 2 [] (setG 1) cC (oA (vF 1) (cS [10])))))) (jD joinM (cS []) (k1 (c6 (bo (h_ (vF 6)) 2 [] (setG 1) cC (oA (vF 1) (cS [10])))))) (vF 9)))))))))))))))))))
theorem w51:cN (n+1) 51=t51 (cN n):=rfl
def t52 (ai:Nat->Fn):Fn:=aO (aQ 1 3 (aj (aV 1 (bC eO cA))
 (aj (nQ (ai 41) (k2 (oI (vF 0) (cI 0)) (oI (vF 0) (cI 1))) (zh 2 1 [true,true,false,false,false,false,false,false,false]))
 (av (vF 1)))))
theorem w52:cN (n+1) 52=t52 (cN n):=rfl
def t53 (ai:Nat->Fn):Fn:=aO (aQ 1 2 (aj (aV 1 (cF (.bl false)))
 (aj (nQ (ai 41) (k2 (oI (vF 0) (cI 0)) (oI (vF 0) (cI 1))) (aV 1 (cF (.bl true))))
 (av (vF 1)))))
theorem w53:cN (n+1) 53=t53 (cN n):=rfl
def t54 (ai:Nat->Fn):Fn:=aO (aQ 1 6 (aj (Bu (F7 [3,4,5]) (ah (ai 51) [] (k1 (vF 0))))
 (aj (aV 1 (bC eO (k2 (ah (ai 31) [] (k1 (vF 3))) (ah (ai 31) [] (k1 (vF 4))))))
 (aj (aV 2 (ah (ai 52) [] (k1 (vF 1))))
 (aj (bu (nu (cD (cz (aU .NotEq) (c6 (bo (h_ (vF 1)) 2 [] (setG 1) cC (ah (ai 35) [] (k1 (vF 1))))) (bC eO (k2 (vF 3) (vF 4))))) (cD (oE (ah (ai 53) [] (k1 (vF 1))) (vF 5))))
  (av (cF (.bl false)))
  aG)
 (aj (bu (tB (vF 5))
  (av (jO (oE (vF 2) (bC eO cA)) (oE (ah (ai 35) [] (k1 (ah (ai 41) [] (k2 (oI (vF 1) (cI 0)) (oI (vF 1) (cI 1)))))) (oA (vF 3) (vF 4)))))
  aG)
 (av (oE (vF 2) (bC eO (cj (cF (.bl true)) (cj (cF (.bl true)) (cj (cF (.bl false)) (cj (cF (.bl false)) (cj (cF (.bl false)) (cj (cF (.bl false)) (k3 (cF (.bl false)) (cF (.bl false)) (cF (.bl false))))))))))))))))))
theorem w54:cN (n+1) 54=t54 (cN n):=rfl
def t70 (ai:Nat->Fn):Fn:=aQ 3 3 (aj (i9 M.P.tab 14 (vF 0) (vF 1))
 (i9 M.P.tab 3 (vF 0) (vF 2)))
theorem w70:cN (n+1) 70=t70 (cN n):=rfl
def t72 (ai:Nat->Fn):Fn:=aQ 2 2 (aj (bu (c_ (tB (jD rE (aE M.P.tab 14 (vF 0)) (k1 (vF 1)))))
  (av (cF (.bl false)))
  aG)
 (aj (i9 M.P.tab 14 (vF 0) (jC (aE M.P.tab 14 (vF 0)) (g9 (bC bq (k1 (vF 1)))) ny))
 (av (cF (.bl true)))))
theorem w72:cN (n+1) 72=t72 (cN n):=rfl
def t73 (ai:Nat->Fn):Fn:=aQ 2 2 (bu (c_ (tB (aJ (az [(24,72)] ai) (vF 0) (k1 (vF 1)))))
  (cU (aJ (az [(24,71)] ai) (vF 0) cA))
  aG)
theorem w73:cN (n+1) 73=t73 (cN n):=rfl
def t74 (ai:Nat->Fn):Fn:=aQ 2 3 (aj (aV 2 (ah (ai 1) [] (k2 (aE M.P.tab 14 (vF 0)) (vF 1))))
 (aj (i9 M.P.tab 14 (vF 0) (jC (aE M.P.tab 14 (vF 0)) (g9 (bC bq (k1 (vF 2)))) ny))
 (av (vF 2))))
theorem w74:cN (n+1) 74=t74 (cN n):=rfl
def t75 (ai:Nat->Fn):Fn:=aQ 2 4 (aj (cU (aJ (az [(24,73)] ai) (vF 0) (k1 (vF 1))))
 (aj (aV 2 (jD lX (aE M.P.tab 14 (vF 0)) (k1 (vF 1))))
 (aj (bu (cD (oE (vF 2) (b8 nL (cI 1))))
  (cU (aJ (az [(24,71)] ai) (vF 0) cA))
  aG)
 (aj (aV 3 (jC (aE M.P.tab 14 (vF 0)) ny (g9 (vF 2))))
 (aj (i9 M.P.tab 14 (vF 0) (jC (aE M.P.tab 14 (vF 0)) (g9 (oA (vF 2) (cI 1))) ny))
 (av (vF 3)))))))
theorem w75:cN (n+1) 75=t75 (cN n):=rfl
end K74
namespace K74
open D
variable (n:Nat){m:List _root_.D.Ob}
def SC (rest:List Nat) (k:Int):List Ob:=[⟨24,[.val (.str rest),.val (.int k)]⟩]
abbrev St (r:List (Option C)) (rest:List Nat) (k:Int):S:=⟨sv (.own 0)::r,SC rest k⟩
section
variable {r:List (Option C)}{rest uI l w:List Nat}{k:Int}{a:FE}{ai:Nat->Fn}{fl:FL}{ts:List T}{t:T}{i:Nat}
theorem V3:aE M.P.tab 14 (vF 0) (St r rest k)=.ok (.str rest,St r rest k):=rfl
theorem V4 (h:a (St r rest k)=.ok (.str l,St r rest k)):i9 M.P.tab 14 (vF 0) a (St r rest k)=.ok (.nx,St r l k):=by
 unfold i9;rw [h];rfl
theorem sm (ha:fl (St r rest k)=.ok (ts,St r rest k)) (hc:ai i (.own 0::ts) (SC rest k)=.ok (t,SC uI k)):aJ (az [(24,i)] ai) (vF 0) fl (St r rest k)=.ok (t,St r uI k):=by
 exact acR (ob:=⟨24,[.val (.str rest),.val (.int k)]⟩) (s1:=St r rest k) rfl rfl rfl ha hc
theorem BK (h:pre w rest=false):cN (n+1) 72 [.own 0,.str w] (SC rest k)=.ok (.bl false,SC rest k):=by
 rw [w72]
 refine aL rfl (fm (k7 (s':=St [sv (.str w)] rest k) ?_ rfl)) rfl
 show c_ _ (St [sv (.str w)] rest k)=_
 simp only [ev,dI,V3,bA,cW,rE,h,CU]
theorem mw:cN (n+1) 72 [.own 0,.str w] (SC (w++rest) k)=.ok (.bl true,SC rest k):=by
 rw [w72]
 refine aL rfl (seq1 (s':=St [sv (.str w)] (w++rest) k) (ed (s':=St [sv (.str w)] (w++rest) k) ?_ rfl) (seq1 (V4 (l:=rest) ?_) rfl)) rfl
 ·show c_ _ (St [sv (.str w)] (w++rest) k)=_
  simp only [ev,dI,V3,bA,cW,rE,pre_app,CN]
 ·simp only [ev,dI,V3,bA,cW,bq,gH,rB,gP]
theorem zD:cN (n+2) 73 [.own 0,.str w] (SC (w++rest) k)=.ok (.non,SC rest k):=by
 rw [w73]
 refine acQ rfl (ed (s':=St [sv (.str w)] rest k) ?_ rfl) rfl
 show c_ (D.tB (aJ _ _ _)) (St [sv (.str w)] (w++rest) k)=_
 have e:aJ (az [(24,72)] (cN (n+1))) (vF 0) (k1 (vF 1)) (St [sv (.str w)] (w++rest) k)=.ok (.bl true,St [sv (.str w)] rest k):=sm rfl (mw n)
 simp only [ev,e,bA,cW,CN]
end
theorem my {α:Type}{l:List α}{j:Nat}(h:j<l.length):atT l (j:Int)=l[j]?:=by
 unfold atT
 rw [if_pos (by omega),if_pos (by omega)];rfl
section
variable {a b signs:List Nat}{m:List Ob}
theorem uJ (ha:∀ c∈a,c∈signs) (hb:∀ c,b.head?=some c->c ∉ signs) {j:Nat}(hj:j<=a.length) :
  iY (D.cD (cz (aU .Lt) (vF 2) (bC bq (k1 (vF 0))))) (D.cD (cz (aU .In) (oI (vF 0) (vF 2)) (vF 1))) ⟨[sv (.str (a++b)),sv (.str signs),sv (.int (j:Nat))],m⟩=.ok (decide (j<a.length),⟨[sv (.str (a++b)),sv (.str signs),sv (.int (j:Nat))],m⟩):=by
 unfold iY
 have lt:∀ i j:Int,aU .Lt (.int i) (.int j)=some (.bl (decide (i<j))):=fun _ _=>rfl
 have inn:∀ (c:Nat) (l:List Nat),aU .In (.str [c]) (.str l)=some (.bl (decide (c∈l))):=fun _ _=>rfl
 simp only [ev,dI,bA,cW,bq,gH,lt]
 by_cases h:j<(a++b).length
 ·rw [decide_eq_true (by omega),if_pos rfl]
  have e:jf (.str (a++b)) (.int (j:Nat))=some (.str [(a++b)[j]]):=by
   show (atT (a++b) (j:Int)).map _=_
   rw [my h,cX h];rfl
  simp only [ev,dI,bA,cW,e,inn]
  by_cases hja:j<a.length
  ·rw [List.getElem_append_left hja,decide_eq_true (ha _ (Cq hja)),decide_eq_true hja]
  ·have:j=a.length:=by omega
   subst this
   rw [decide_eq_false hja]
   have:(a++b)[a.length] ∉ signs:=by
    apply hb
    rw [List.head?_eq_getElem?,List.getElem_append_right (by omega)]
    simp only [CZ]
    rw [cX]
   rw [decide_eq_false this]
 ·rw [decide_eq_false (by omega),decide_eq_false (by rw [bL] at h;omega)]
  rw [if_neg d_]
theorem uK (ha:∀ c∈a,c∈signs) (hb:∀ c,b.head?=some c->c ∉ signs):∀ (d j fuel:Nat),j+d=a.length->d<fuel ->
  bV (iY (D.cD (cz (aU .Lt) (vF 2) (bC bq (k1 (vF 0))))) (D.cD (cz (aU .In) (oI (vF 0) (vF 2)) (vF 1)))) (EO yZ 2 (cI 1)) fuel ⟨[sv (.str (a++b)),sv (.str signs),sv (.int (j:Nat))],m⟩=.ok (.nx,⟨[sv (.str (a++b)),sv (.str signs),sv (.int (a.length:Nat))],m⟩)
 | _,_,0,_,h=>absurd h (N2 _)
 | 0,j,f+1,h,_=>by
  have:j=a.length:=h
  subst this
  unfold bV
  rw [uJ ha hb (dU _),decide_eq_false (pA _)]
  rfl
 | d+1,j,f+1,h,hf=>by
  unfold bV
  rw [uJ ha hb (by omega),decide_eq_true (by omega)]
  show bV _ _ f ⟨[sv (.str (a++b)),sv (.str signs),sv (.int ((j:Int)+1))],m⟩=_
  have:=uK ha hb d (j+1) f (by omega) (by omega)
  rw [Int.natCast_add] at this
  exact this
theorem V5 (ha:∀ c∈a,c∈signs) (hb:∀ c,b.head?=some c->c ∉ signs) (hl:a.length<1000):cN (n+1) 1 [.str (a++b),.str signs] m=.ok (.str a,m):=by
 rw [w1]
 refine aI (m':=[]) rfl (aL rfl (seq1 (s':=⟨[sv (.str (a++b)),sv (.str signs),sv (.int 0)],[]⟩) rfl (seq1 (uK ha hb a.length 0 many (by omega) (by show a.length<1000000;omega)) (aK (t:=.str a) (s':=⟨[sv (.str (a++b)),sv (.str signs),sv (.int (a.length:Nat))],[]⟩) ?_))) rfl) rfl
 simp only [ev,dI,bA,cW,rB,GN]
theorem zE {k:Int}(ha:∀ c∈a,c∈signs) (hb:∀ c,b.head?=some c->c ∉ signs) (hl:a.length<1000):cN (n+2) 74 [.own 0,.str signs] (SC (a++b) k)=.ok (.str a,SC b k):=by
 rw [w74]
 refine aL (s':=St [sv (.str signs),sv (.str a)] b k) rfl (seq1 (s':=St [sv (.str signs),sv (.str a)] (a++b) k) ?_ (seq1 (V4 (l:=b) ?_) rfl)) rfl
 ·show aV 2 (ah _ _ _) (St [sv (.str signs),none] (a++b) k)=_
  have e:ah (cN (n+1) 1) [] (k2 (aE M.P.tab 14 (vF 0)) (vF 1)) (St [sv (.str signs),none] (a++b) k)=.ok (.str a,St [sv (.str signs),none] (a++b) k):=aC (ts:=[.str (a++b),.str signs]) (s':=St [sv (.str signs),none] (a++b) k) rfl (V5 n ha hb hl)
  simp only [ev,dI,e,bA]
 ·simp only [ev,dI,V3,bA,cW,bq,gH,rB,gP]
end
theorem mz {c:Nat}{l b:List Nat}{k:Int}(h:c ∉ l):cN (n+3) 75 [.own 0,.str [c]] (SC (c::(l++c::b)) k)=.ok (.str l,SC b k):=by
 rw [w75]
 refine aL (s':=St [sv (.str [c]),sv (.int (l.length:Nat)),sv (.str l)] b k) rfl ?_ rfl
 refine seq1 (s':=St [sv (.str [c]),none,none] (l++c::b) k) ?_ (seq1 (s':=St [sv (.str [c]),sv (.int (l.length:Nat)),none] (l++c::b) k) ?_ (seq1 (s':=St [sv (.str [c]),sv (.int (l.length:Nat)),none] (l++c::b) k) (ed (s':=St [sv (.str [c]),sv (.int (l.length:Nat)),none] (l++c::b) k) ?_ rfl) (seq1 (s':=St [sv (.str [c]),sv (.int (l.length:Nat)),sv (.str l)] (l++c::b) k) ?_ (seq1 (V4 (l:=b) ?_) rfl))))
 ·have e:aJ (az [(24,73)] (cN (n+2))) (vF 0) (k1 (vF 1)) (St [sv (.str [c]),none,none] ([c]++(l++c::b)) k)=.ok (.non,St [sv (.str [c]),none,none] (l++c::b) k):=sm rfl (zD n)
  show cU _ (St [sv (.str [c]),none,none] ([c]++(l++c::b)) k)=_
  simp only [ev,e,bA]
 ·simp only [ev,dI,V3,bA,cW,BJ c l b h]
 ·have e:aU .Eq (.int (l.length:Nat)) (.int (-1))=some (.bl (decide ((l.length:Int)=-1))):=rfl
  simp only [ev,dI,bA,cW,nL,e]
  rw [decide_eq_false (by omega)]
 ·simp only [ev,dI,V3,bA,cW,rB,GN]
 ·have e:fj .Add (.int (l.length:Nat)) (.int 1)=some (.int ((l++[c]).length:Nat)):=by
   rw [bL];rfl
  have e2:ba (l++c::b) (some ((l++[c]).length:Int)) none=b:=by
   have:=gP (l++[c]) b
   rw [lj] at this
   exact this
  simp only [ev,dI,V3,bA,cW,e,rB,e2]
section
variable {r:List (Option C)}{rest uI l w:List Nat}{k:Int}{ai:Nat->Fn}{fl:FL}{ts:List T}{t:T}{i:Nat}{A B:FS}{R:Res (Out × S)}{s s' s1 s2:S}{a:FE}
theorem pT:D.tB (aJ (az [(24,72)] (cN (n+1))) (vF 0) (k1 (cS w))) (St r (w++rest) k)=.ok (true,St r rest k):=by
 have e:aJ (az [(24,72)] (cN (n+1))) (vF 0) (k1 (cS w)) (St r (w++rest) k)=.ok (.bl true,St r rest k):=sm rfl (mw n)
 simp only [ev,e,bA,cW]
theorem pN (h:pre w rest=false):D.tB (aJ (az [(24,72)] (cN (n+1))) (vF 0) (k1 (cS w))) (St r rest k)=.ok (false,St r rest k):=by
 have e:aJ (az [(24,72)] (cN (n+1))) (vF 0) (k1 (cS w)) (St r rest k)=.ok (.bl false,St r rest k):=sm rfl (BK n h)
 simp only [ev,e,bA,cW]
theorem mP:cU (aJ (az [(24,73)] (cN (n+2))) (vF 0) (k1 (cS w))) (St r (w++rest) k)=.ok (.nx,St r rest k):=by
 have e:aJ (az [(24,73)] (cN (n+2))) (vF 0) (k1 (cS w)) (St r (w++rest) k)=.ok (.non,St r rest k):=sm rfl (zD n)
 simp only [ev,e,bA]
theorem skip (h:pre w rest=false) (q:B (St r rest k)=R):aj (bu (D.tB (aJ (az [(24,72)] (cN (n+1))) (vF 0) (k1 (cS w)))) A aG) B (St r rest k)=R:=seq1 (ed (pN n h) rfl) q
theorem hit (q:A (St r rest k)=.ok (.rt t,s')):aj (bu (D.tB (aJ (az [(24,72)] (cN (n+1))) (vF 0) (k1 (cS w)))) A aG) B (St r (w++rest) k)=.ok (.rt t,s'):=fm (k7 (pT n) q)
theorem cR (ha:fl (St r rest k)=.ok (ts,St r rest k)) (hc:ai i (.own 0::ts) (SC rest k)=.ok (t,SC uI k)):ah (ai i) [] (cj (vF 0) fl) (St r rest k)=.ok (t,St r uI k):=by
 refine aC (ts:=.own 0::ts) (s':=St r rest k) ?_ (by rw [dR];exact hc)
 show Res.bind (fl (St r rest k)) _=_
 rw [ha];rfl
theorem eF {c m:Nat}(h:fl s=.ok (ts,s')) (hl:ts.length=m):c5 c m fl s=.ok (.obj c ts,s'):=by
 unfold c5;rw [h];exact if_pos hl
theorem aD (h:a s=.ok (t,s1)) (h2:fl s1=.ok (ts,s2)):cj a fl s=.ok (t::ts,s2):=by
 unfold cj;rw [h];show Res.bind (fl s1) _=_;rw [h2];rfl
theorem df {i:Nat}(h:a s=.ok (t,s')):aV i a s=.ok (.nx,iE s' i (.val t)):=by unfold aV;rw [h];rfl
end
theorem mC (a b:List Nat):aU .Eq (.str a) (.str b)=some (.bl (decide (a=b))):=rfl
theorem qQ (a b:Int):aU .Gt (.int a) (.int b)=some (.bl (decide (b<a))):=rfl
theorem qR (a b:Int):aU .Lt (.int a) (.int b)=some (.bl (decide (a<b))):=rfl
def BL:List Nat:=[48,49,50,51,52,53,54,55,56,57]
def mD:List Nat:=V2
theorem jY {d b:List Nat}{v lo hi k:Int}(hd:∀ c∈d,c∈BL) (h0:d≠[]) (hz:pre [48] d=false) (hl:d.length<=3) (hi':Fj [.str d]=some (.int v)) (h1:lo<=v) (h2:v<=hi) (hb:∀ c,b.head?=some c->c ∉ BL) :
  cN (n+3) 24 [.own 0,.int lo,.int hi] (SC (d++b) k)=.ok (.int v,SC b k):=by
 rw [w24]
 refine aL (s':=St [sv (.int lo),sv (.int hi),sv (.str d),sv (.int v)] b k) rfl ?_ rfl
 have e:aJ (az [(24,74)] (cN (n+2))) (vF 0) (k1 (cS BL)) (St [sv (.int lo),sv (.int hi),none,none] (d++b) k)=.ok (.str d,St [sv (.int lo),sv (.int hi),none,none] b k):=sm rfl (zE n hd hb (by omega))
 refine seq1 (df e) (seq1 (ed (s':=St [sv (.int lo),sv (.int hi),sv (.str d),none] b k) ?_ rfl) (seq1 (s':=St [sv (.int lo),sv (.int hi),sv (.str d),sv (.int v)] b k) ?_ (seq1 (ed (s':=St [sv (.int lo),sv (.int hi),sv (.str d),sv (.int v)] b k) ?_ rfl) rfl)))
 ·show nu _ _ (St [sv (.int lo),sv (.int hi),sv (.str d),none] b k)=_
  have g1:decide (d=[])=false:=decide_eq_false h0
  have g2:decide ((3:Int)<(d.length:Nat))=false:=decide_eq_false (by omega)
  simp only [nu,ev,dI,bA,cW,mC,g1,rE,hz,bq,gH,qQ,g2,vA,if_false]
 ·simp only [ev,dI,bA,cW,hi']
 ·have g1:decide (v<lo)=false:=decide_eq_false (by omega)
  have g2:decide (hi<v)=false:=decide_eq_false (by omega)
  simp only [nu,ev,dI,bA,cW,qR,qQ,g1,g2,vA,if_false]
theorem MQ {d b:List Nat}{k:Int}(hd:∀ c∈d,c∈mD) (h0:d≠[]) (hl:d.length<=8) (hb:∀ c,b.head?=some c->c ∉ mD):cN (n+3) 25 [.own 0] (SC (d++b) k)=.ok (.str d,SC b k):=by
 rw [w25]
 refine aL (s':=St [sv (.str d)] b k) rfl ?_ rfl
 have e:aJ (az [(24,74)] (cN (n+2))) (vF 0) (k1 (cS mD)) (St [none] (d++b) k)=.ok (.str d,St [none] b k):=sm rfl (zE n hd hb (by omega))
 refine seq1 (df e) (seq1 (ed (s':=St [sv (.str d)] b k) ?_ rfl) rfl)
 show nu _ _ (St [sv (.str d)] b k)=_
 have g1:decide (d=[])=false:=decide_eq_false h0
 have g2:decide ((8:Int)<(d.length:Nat))=false:=decide_eq_false (by omega)
 simp only [nu,ev,dI,bA,cW,mC,g1,bq,gH,qQ,g2,vA,if_false]
theorem fZ {g:FG}{e:FE}{b:List (Option C)}{m:List Ob}{f:T->T}:∀ {ts:List T},(∀ t∈ts,∃ b1 b2,g t b=some b1/\e ⟨b1,m⟩=.ok (f t,⟨b2,m⟩))->cM g cC e b ts m=.ok (ts.map f,m)
 | [],_=>rfl
 | t::ts,h=>by
  obtain ⟨b1,b2,h1,h2⟩:=h t (eK ..)
  unfold cM
  rw [h1]
  show Res.bind (e ⟨b1,m⟩) _=_
  rw [h2]
  show Res.bind (cM g cC e b ts m) _=_
  rw [fZ fun t ht=>h t (fG _ ht)]
  rfl
theorem kq {src:FL}{n:Nat}{js:List Nat}{g:FG}{c:FT}{e:FE}{s s1:S}{ts us:List T}{m':List Ob}(h:src s=.ok (ts,s1)) (z:ts.length<=1000000) (q:cM g c e (gJ n js (kL js s1.r)) ts s1.m=.ok (us,m')):bo src n js g c e s=.ok (us,⟨kL js s1.r,m'⟩):=by
 unfold bo
 rw [h]
 show (if ts.length<=1000000 then _ else _)=_
 rw [if_pos z,q]
 rfl
theorem mE {fl:FL}{s s':S}{ts:List T}(h:fl s=.ok (ts,s')):c6 fl s=.ok (.lst ts,s'):=by unfold c6;rw [h];rfl
theorem dB {g:List T->Option T}{fl:FL}{s s':S}{ts:List T}{t:T}(h:fl s=.ok (ts,s')) (q:g ts=some t):bC g fl s=.ok (t,s'):=by unfold bC;rw [h];show Res.bind (cT (g ts)) _=_;rw [q];rfl
theorem GP (c:Nat) (l:List Nat):aU .In (.str [c]) (.str l)=some (.bl (decide (c∈l))):=rfl
def zF:T->T:=fun _=>.bl true
theorem all_true:∀ (l:List T),boolsOf (l.map zF)=some (l.map fun _=>true)
 | []=>rfl
 | _::l=>by
  show (boolsOf (l.map zF)).map _=_
  rw [all_true l];rfl
theorem mF {l signs:List Nat}(h:∀ c∈l,c∈signs) (hl:l.length<=1000):cN (n+1) 0 [.str l,.str signs] m=.ok (.bl true,m):=by
 rw [w0]
 refine aI (m':=[]) rfl (aL (s':=⟨[sv (.str l),sv (.str signs)],[]⟩) rfl (aK (dB (ts:=[.lst ((l.map fun c=>T.str [c]).map zF)]) (aD (mE (kq (ts:=l.map fun c=>T.str [c]) (s1:=⟨[sv (.str l),sv (.str signs)],[]⟩) rfl (by rw [dg];omega) (fZ fun t ht=>?_))) rfl) ?_)) rfl) rfl
 ·obtain ⟨c,hc,rfl⟩:=jH.mp ht
  refine ⟨[none,sv (.str [c]),sv (.str signs)],[none,sv (.str [c]),sv (.str signs)],rfl,?_⟩
  simp only [ev,dI,bA,cW,GP,decide_eq_true (h c hc),zF]
 ·simp only [qu,Up,all_true]
  simp
noncomputable def g_:List Nat:=GO
theorem GQ {l b:List Nat}{k:Int}(h:∀ c∈l,c∈g_/\c≠34) (hl:l.length<=40):cN (n+4) 26 [.own 0] (SC (34::(l++34::b)) k)=.ok (.str l,SC b k):=by
 rw [w26]
 have hq:34 ∉ l:=fun z=>(h 34 z).2 rfl
 refine aL (s':=St [sv (.str l)] b k) rfl ?_ rfl
 have e:aJ (az [(24,75)] (cN (n+3))) (vF 0) (k1 (cS [34])) (St [none] (34::(l++34::b)) k)=.ok (.str l,St [none] b k):=sm rfl (mz n hq)
 refine seq1 (df e) (seq1 (ed (s':=St [sv (.str l)] b k) ?_ rfl) rfl)
 show nu _ _ (St [sv (.str l)] b k)=_
 have e2:ah (cN (n+3) 0) [] (k2 (vF 1) (cS g_)) (St [sv (.str l)] b k)=.ok (.bl true,St [sv (.str l)] b k):=aC (ts:=[.str l,.str g_]) (s':=St [sv (.str l)] b k) rfl (mF (n+2) (fun c hc=>(h c hc).1) (by omega))
 unfold g_ at e2
 have g2:decide ((40:Int)<(l.length:Nat))=false:=decide_eq_false (by omega)
 unfold nu c_
 rw [show D.cD (cz (aU .Gt) (bC bq (k1 (vF 1))) (cI 40)) (St [sv (.str l)] b k)=.ok (false,St [sv (.str l)] b k) by simp only [ev,dI,bA,cW,bq,gH,qQ,g2]]
 show Res.bind (D.tB (ah _ _ _) (St [sv (.str l)] b k)) _=_
 unfold D.tB
 rw [e2]
 rfl
structure Nm (d:List Nat) (v:Int):Prop where
 hd:∀ c∈d,c∈BL
 h0:d≠[]
 hz:pre [48] d=false
 hl:d.length<=3
 hi:Fj [.str d]=some (.int v)
structure Pt (w:List Nat) (t:T):Prop where
 no:47 ∉ w
 eq:∀ n m,cN (n+7) 3 [.str w] m=.ok (t,m)
theorem dW {w b:List Nat}{t:T}{k:Int}(P:Pt w t):cN (n+8) 27 [.own 0] (SC (47::(w++47::b)) k)=.ok (t,SC b k):=by
 rw [w27]
 have e:aJ (az [(24,75)] (cN (n+7))) (vF 0) (k1 (cS [47])) (St [none] (47::(w++47::b)) k)=.ok (.str w,St [none] b k):=sm rfl (mz (n+4) P.no)
 exact aL (s':=St [sv (.str w)] b k) rfl (seq1 (df e) (aK (aC (ts:=[.str w]) (s':=St [sv (.str w)] b k) rfl (P.eq n _)))) rfl
def V6 (b:List Nat):Prop:=∀ c,b.head?=some c->c ∉ BL
def NoL (b:List Nat):Prop:=∀ c,b.head?=some c->c ∉ mD
inductive RP where
 | row (d:List Nat) (v:Int) | like (w:List Nat) (t:T)
def RP.ok:RP->Prop
 | .row d v=>Nm d v/\1<=v/\v<=999
 | .like w t=>Pt w t
noncomputable def RP.txt:RP->List Nat->List Nat
 | .row d _,b=>114::111::119::32::(d++b)
 | .like w _,b=>47::(w++47::b)
noncomputable def RP.val:RP->T
 | .row _ v=>.obj 4 [.int v]
 | .like _ t=>.obj 6 [t]
theorem GR {x:RP}{b:List Nat}{k:Int}(h:x.ok) (hb:V6 b):cN (n+9) 19 [.own 0] (SC (x.txt b) k)=.ok (x.val,SC b k):=by
 rw [w19]
 cases x with
 | row d v=>
  obtain ⟨N,h1,h2⟩:=h
  exact aL (s':=St [] b k) rfl (hit (w:=[114,111,119,32]) (rest:=d++b) (n+7) (aK (eF (ts:=[.int v]) (aD (cR (ts:=[.int 1,.int 999]) rfl (jY (n+5) N.hd N.h0 N.hz N.hl N.hi h1 h2 hb)) rfl) rfl))) rfl
 | like w t=>
  exact aL (s':=St [] b k) rfl (skip (n+7) (aX (by decide)) (aK (eF (ts:=[t]) (aD (cR (ts:=[]) rfl (dW n h)) rfl) rfl))) rfl
inductive PC where
 | last | soon (d:List Nat) (v:Int) (w:List Nat) (t:T) | ft (x y:RP) | rp (x:RP)
def PC.ok:PC->Prop
 | .last=>True
 | .soon d v w t=>Nm d v/\1<=v/\v<=3/\Pt w t
 | .ft x y=>x.ok/\y.ok
 | .rp x=>x.ok
noncomputable def PC.txt:PC->List Nat->List Nat
 | .last,b=>108::97::115::116::b
 | .soon d _ w _,b=>115::111::111::110::32::(d++32::47::(w++47::b))
 | .ft x y,b=>102::114::111::109::32::x.txt (32::116::111::32::y.txt b)
 | .rp x,b=>x.txt b
noncomputable def PC.val:PC->T
 | .last=>.obj 5 []
 | .soon _ v _ t=>.obj 7 [.int v,t]
 | .ft x y=>.obj 8 [x.val,y.val]
 | .rp x=>x.val
theorem GS (b:List Nat):V6 (32::b):=fun c h=>by cases h;decide
theorem qS {x:RP}{b w:List Nat}{c:Nat}(h1:c≠114) (h2:c≠47):pre (c::w) (x.txt b)=false:=by
 cases x with
 | row d v=>exact aX h1
 | like w t=>exact aX h2
theorem uL {x:PC}{b:List Nat}{k:Int}(h:x.ok) (hb:V6 b):cN (n+10) 18 [.own 0] (SC (x.txt b) k)=.ok (x.val,SC b k):=by
 rw [w18]
 cases x with
 | last=>exact aL (s':=St [none,none] b k) rfl (hit (w:=[108,97,115,116]) (rest:=b) (n+8) (aK (eF (ts:=[]) rfl rfl))) rfl
 | soon d v w t=>
  obtain ⟨N,h1,h2,P⟩:=h
  refine aL (s':=St [sv (.int v),none] b k) rfl (skip (n+8) (aX (by decide)) (hit (w:=[115,111,111,110,32]) (rest:=d++32::47::(w++47::b)) (n+8) ?_)) rfl
  refine seq1 (s':=St [sv (.int v),none] (32::47::(w++47::b)) k) (df (cR (ts:=[.int 1,.int 3]) rfl (jY (n+6) N.hd N.h0 N.hz N.hl N.hi h1 h2 (GS _)))) (seq1 (mP (w:=[32]) (rest:=47::(w++47::b)) (n+7)) (aK (eF (ts:=[.int v,t]) (aD (t:=.int v) rfl (aD (cR (ts:=[]) rfl (dW (n+1) P)) rfl)) rfl)))
 | ft x y=>
  obtain ⟨h1,h2⟩:=h
  refine aL (s':=St [none,sv x.val] b k) rfl (skip (n+8) (aX (by decide)) (skip (n+8) (aX (by decide)) (hit (w:=[102,114,111,109,32]) (rest:=x.txt (32::116::111::32::y.txt b)) (n+8) ?_))) rfl
  exact seq1 (s':=St [none,sv x.val] (32::116::111::32::y.txt b) k) (df (cR (ts:=[]) rfl (GR n h1 (GS _)))) (seq1 (mP (w:=[32,116,111,32]) (rest:=y.txt b) (n+7)) (aK (eF (ts:=[x.val,y.val]) (aD (t:=x.val) rfl (aD (cR (ts:=[]) rfl (GR n h2 hb)) rfl)) rfl)))
 | rp x=>
  exact aL (s':=St [none,none] b k) rfl (skip (n+8) (qS (by decide) (by decide)) (skip (n+8) (qS (by decide) (by decide)) (skip (n+8) (qS (by decide) (by decide)) (aK (cR (ts:=[]) rfl (GR n h hb)))))) rfl
inductive CD where
 | fin | no (x:PC) | pc (x:PC)
def CD.ok:CD->Prop
 | .fin=>True
 | .no x=>x.ok
 | .pc x=>x.ok
noncomputable def CD.txt:CD->List Nat->List Nat
 | .fin,b=>101::110::100::b
 | .no x,b=>110::111::116::32::x.txt b
 | .pc x,b=>x.txt b
noncomputable def CD.val:CD->T
 | .fin=>.obj 10 []
 | .no x=>.obj 9 [x.val]
 | .pc x=>x.val
theorem xJ {x:PC}{b w:List Nat}{c:Nat}(h:c≠114/\c≠47/\c≠108/\c≠115/\c≠102):pre (c::w) (x.txt b)=false:=by
 obtain ⟨h1,h2,h3,h4,h5⟩:=h
 cases x with
 | last=>exact aX h3
 | soon d v w t=>exact aX h4
 | ft x y=>exact aX h5
 | rp x=>exact qS h1 h2
theorem MR {x:CD}{b:List Nat}{k:Int}(h:x.ok) (hb:V6 b):cN (n+11) 17 [.own 0] (SC (x.txt b) k)=.ok (x.val,SC b k):=by
 rw [w17]
 cases x with
 | fin=>exact aL (s':=St [] b k) rfl (hit (w:=[101,110,100]) (rest:=b) (n+9) (aK (eF (ts:=[]) rfl rfl))) rfl
 | no x=>exact aL (s':=St [] b k) rfl (skip (n+9) (aX (by decide)) (hit (w:=[110,111,116,32]) (rest:=x.txt b) (n+9) (aK (eF (ts:=[x.val]) (aD (cR (ts:=[]) rfl (uL n h hb)) rfl) rfl)))) rfl
 | pc x=>exact aL (s':=St [] b k) rfl (skip (n+9) (xJ (by decide)) (skip (n+9) (xJ (by decide)) (aK (cR (ts:=[]) rfl (uL n h hb))))) rfl
structure qT (d:List Nat):Prop where
 hd:∀ c∈d,c∈mD
 h0:d≠[]
 hl:d.length<=8
structure GU (l:List Nat):Prop where
 h:∀ c∈l,c∈g_/\c≠34
 hl:l.length<=40
inductive DD where
 | drop | print | done | tell | say (l:List Nat) | swap (e:Bool) (w:List Nat) (t:T) (l:List Nat) | join (d:List Nat) (v:Int) | pile (a:List Nat) | pileN (a d:List Nat) (v:Int) | bring (a:List Nat) | go (a:List Nat) | add (d:List Nat) (v:Int) (d2:List Nat) (v2:Int)
def DD.ok:DD->Prop
 | .say l=>GU l
 | .swap _ w t l=>Pt w t/\GU l
 | .join d v=>Nm d v/\2<=v/\v<=9
 | .pile a=>qT a
 | .pileN a d v=>qT a/\Nm d v/\1<=v/\v<=9
 | .bring a=>qT a
 | .go a=>qT a
 | .add d v d2 v2=>(Nm d v/\1<=v/\v<=9)/\Nm d2 v2/\1<=v2/\v2<=9
 | _=>True
def WW (w l b:List Nat):List Nat:=47::(w++47::32::34::(l++34::b))
structure WX (b:List Nat):Prop where
 f:V6 b
 l:NoL b
 s:pre [32] b=false
noncomputable def DD.txt:DD->List Nat->List Nat
 | .drop,b=>100::114::111::112::b
 | .print,b=>112::114::105::110::116::b
 | .done,b=>100::111::110::101::b
 | .tell,b=>116::101::108::108::b
 | .say l,b=>115::97::121::32::34::(l++34::b)
 | .swap true w _ l,b=>115::119::97::112::32::101::118::101::114::121::32::WW w l b
 | .swap false w _ l,b=>115::119::97::112::32::WW w l b
 | .join d _,b=>106::111::105::110::32::(d++b)
 | .pile a,b=>112::105::108::101::32::(a++b)
 | .pileN a d _,b=>112::105::108::101::32::(a++32::(d++b))
 | .bring a,b=>98::114::105::110::103::32::(a++b)
 | .go a,b=>103::111::32::(a++b)
 | .add d _ d2 _,b=>97::100::100::32::(d++32::(d2++b))
noncomputable def DD.val:DD->T
 | .drop=>.obj 13 []
 | .print=>.obj 14 []
 | .done=>.obj 15 []
 | .tell=>.obj 23 []
 | .say l=>.obj 16 [.str l]
 | .swap e _ t l=>.obj 17 [t,.str l,.bl e]
 | .join _ v=>.obj 18 [.int v]
 | .pile a=>.obj 19 [.str a,.non]
 | .pileN a _ v=>.obj 19 [.str a,.int v]
 | .bring a=>.obj 20 [.str a]
 | .go a=>.obj 21 [.str a]
 | .add _ v _ v2=>.obj 22 [.int v,.int v2]
theorem afA:WX []:=⟨fun c h=>(by cases h),fun c h=>(by cases h),rfl⟩
theorem acT (b:List Nat):NoL (32::b):=fun c h=>by cases h;decide
section
variable {k:Int}
theorem qU {d b:List Nat}{v lo hi:Int}(N:Nm d v) (h1:lo<=v) (h2:v<=hi) (hb:V6 b):cN (n+3) 24 [.own 0,.int lo,.int hi] (SC (d++b) k)=.ok (.int v,SC b k):=jY n N.hd N.h0 N.hz N.hl N.hi h1 h2 hb
theorem mG {d b:List Nat}(N:qT d) (hb:NoL b):cN (n+3) 25 [.own 0] (SC (d++b) k)=.ok (.str d,SC b k):=MQ n N.hd N.h0 N.hl hb
theorem GV {l b:List Nat}(W:GU l):cN (n+4) 26 [.own 0] (SC (34::(l++34::b)) k)=.ok (.str l,SC b k):=GQ n W.h W.hl
theorem swap_eq {e:Bool}{w l b:List Nat}{t:T}(P:Pt w t) (W:GU l):cN (n+9) 21 [.own 0,.bl e] (SC (WW w l b) k)=.ok (.obj 17 [t,.str l,.bl e],SC b k):=by
 rw [w21]
 exact aL (s':=St [sv (.bl e),sv t] b k) rfl (seq1 (s':=St [sv (.bl e),sv t] (32::34::(l++34::b)) k) (df (cR (ts:=[]) rfl (dW n P))) (seq1 (mP (w:=[32]) (rest:=34::(l++34::b)) (n+6)) (aK (eF (ts:=[t,.str l,.bl e]) (aD (t:=t) rfl (aD (cR (ts:=[]) rfl (GV (n+4) W)) rfl)) rfl)))) rfl
theorem MS {a b:List Nat}(E:WX b) (N:qT a):cN (n+9) 22 [.own 0] (SC (a++b) k)=.ok (.obj 19 [.str a,.non],SC b k):=by
 rw [w22]
 refine aL (s':=St [sv (.str a)] b k) rfl (seq1 (s':=St [sv (.str a)] b k) (df (cR (ts:=[]) rfl (mG (n+5) N E.l))) (fm (k7 (s':=St [sv (.str a)] b k) ?_ (aK (eF (ts:=[.str a,.non]) rfl rfl))))) rfl
 unfold c_
 rw [pN (n+7) (E.s)];rfl
theorem GW {a d b:List Nat}{v:Int}(E:WX b) (N:qT a) (D1:Nm d v) (h1:1<=v) (h2:v<=9):cN (n+9) 22 [.own 0] (SC (a++32::(d++b)) k)=.ok (.obj 19 [.str a,.int v],SC b k):=by
 rw [w22]
 refine aL (s':=St [sv (.str a)] b k) rfl (seq1 (s':=St [sv (.str a)] (32::(d++b)) k) (df (cR (ts:=[]) rfl (mG (n+5) N (acT _)))) (seq1 (s':=St [sv (.str a)] (d++b) k) (ed (s':=St [sv (.str a)] (d++b) k) ?_ rfl) (aK (eF (ts:=[.str a,.int v]) (aD (t:=.str a) rfl (aD (cR (ts:=[.int 1,.int 9]) rfl (qU (n+5) D1 h1 h2 E.f)) rfl)) rfl)))) rfl
 unfold c_
 have:=pT (r:=[sv (.str a)]) (w:=[32]) (rest:=d++b) (k:=k) (n+7)
 show Res.bind (D.tB _ (St [sv (.str a)] ([32]++(d++b)) k)) _=_
 rw [this];rfl
theorem add_eq {d d2 b:List Nat}{v v2:Int}(E:WX b) (D1:Nm d v) (h1:1<=v) (h2:v<=9) (D2:Nm d2 v2) (h3:1<=v2) (h4:v2<=9):cN (n+9) 23 [.own 0] (SC (d++32::(d2++b)) k)=.ok (.obj 22 [.int v,.int v2],SC b k):=by
 rw [w23]
 refine aL (s':=St [sv (.int v)] b k) rfl (seq1 (s':=St [sv (.int v)] (32::(d2++b)) k) ?_ (seq1 (s':=St [sv (.int v)] (d2++b) k) ?_ ?_)) rfl
 ·exact df (cR (ts:=[.int 1,.int 9]) rfl (qU (n+5) D1 h1 h2 (GS _)))
 ·exact mP (w:=[32]) (rest:=d2++b) (n+6)
 ·refine aK (eF (ts:=[.int v,.int v2]) (aD (t:=.int v) (ts:=[.int v2]) (s1:=St [sv (.int v)] (d2++b) k) rfl (aD (s1:=St [sv (.int v)] b k) ?_ rfl)) rfl)
  exact cR (ts:=[.int 1,.int 9]) rfl (qU (n+5) D2 h3 h4 E.f)
theorem p2 {a c d:Nat}{w r:List Nat}(h:c≠d):pre (a::c::w) (a::d::r)=false:=by rw [fU];exact aX h
theorem p6 {w r:List Nat}{c d:Nat}(h:c≠d):pre (115::119::97::112::32::c::w) (115::119::97::112::32::d::r)=false:=by
 rw [fU,fU,fU,fU,fU];exact aX h
theorem sk {c d:Nat}{w' q':List Nat}(n:Nat) {r:List (Option C)}{A B:FS}{R:Res (Out × S)}(q:B (St r (d::q') k)=R) (h:c≠d:=by decide):aj (bu (D.tB (aJ (az [(24,72)] (cN (n+8+1))) (vF 0) (k1 (cS (c::w'))))) A aG) B (St r (d::q') k)=R:=skip (n+8) (aX h) q
theorem zG {x:DD}{b:List Nat}(E:WX b) (h:x.ok):cN (n+10) 20 [.own 0] (SC (x.txt b) k)=.ok (x.val,SC b k):=by
 rw [w20]
 refine aL (s':=St [] b k) rfl ?_ rfl
 show aj _ _ (St [] (x.txt b) k)=_
 cases x with
 | drop=>exact hit (w:=[100,114,111,112]) (rest:=b) (n+8) (aK (eF (ts:=[]) rfl rfl))
 | print=>exact sk n (hit (w:=[112,114,105,110,116]) (rest:=b) (n+8) (aK (eF (ts:=[]) rfl rfl)))
 | done=>exact skip (n+8) (p2 (by decide)) (sk n (hit (w:=[100,111,110,101]) (rest:=b) (n+8) (aK (eF (ts:=[]) rfl rfl))))
 | tell=>exact sk n (sk n (sk n (hit (w:=[116,101,108,108]) (rest:=b) (n+8) (aK (eF (ts:=[]) rfl rfl)))))
 | say l=>exact sk n (sk n (sk n (sk n (hit (w:=[115,97,121,32]) (rest:=34::(l++34::b)) (n+8) (aK (eF (ts:=[.str l]) (aD (cR (ts:=[]) rfl (GV (n+5) h)) rfl) rfl))))))
 | swap e w t l=>
  cases e with
  | true=>exact sk n (sk n (sk n (sk n (skip (n+8) (p2 (by decide)) (hit (w:=[115,119,97,112,32,101,118,101,114,121,32]) (rest:=WW w l b) (n+8) (aK (cR (ts:=[.bl true]) rfl (swap_eq n h.1 h.2))))))))
  | false=>exact sk n (sk n (sk n (sk n (skip (n+8) (p2 (by decide)) (skip (n+8) (p6 (by decide)) (hit (w:=[115,119,97,112,32]) (rest:=WW w l b) (n+8) (aK (cR (ts:=[.bl false]) rfl (swap_eq n h.1 h.2)))))))))
 | join d v=>exact sk n (sk n (sk n (sk n (sk n (sk n (sk n (hit (w:=[106,111,105,110,32]) (rest:=d++b) (n+8) (aK (eF (ts:=[.int v]) (aD (cR (ts:=[.int 2,.int 9]) rfl (qU (n+6) h.1 h.2.1 h.2.2 E.f)) rfl) rfl)))))))))
 | pile a=>exact sk n (skip (n+8) (p2 (by decide)) (sk n (sk n (sk n (sk n (sk n (sk n (hit (w:=[112,105,108,101,32]) (rest:=a++b) (n+8) (aK (cR (ts:=[]) rfl (MS n E h)))))))))))
 | pileN a d v=>exact sk n (skip (n+8) (p2 (by decide)) (sk n (sk n (sk n (sk n (sk n (sk n (hit (w:=[112,105,108,101,32]) (rest:=a++32::(d++b)) (n+8) (aK (cR (ts:=[]) rfl (GW n E h.1 h.2.1 h.2.2.1 h.2.2.2)))))))))))
 | bring a=>exact sk n (sk n (sk n (sk n (sk n (sk n (sk n (sk n (sk n (hit (w:=[98,114,105,110,103,32]) (rest:=a++b) (n+8) (aK (eF (ts:=[.str a]) (aD (cR (ts:=[]) rfl (mG (n+6) h E.l)) rfl) rfl)))))))))))
 | go a=>exact sk n (sk n (sk n (sk n (sk n (sk n (sk n (sk n (sk n (sk n (hit (w:=[103,111,32]) (rest:=a++b) (n+8) (aK (eF (ts:=[.str a]) (aD (cR (ts:=[]) rfl (mG (n+6) h E.l)) rfl) rfl))))))))))))
 | add d v d2 v2=>exact sk n (sk n (sk n (sk n (sk n (sk n (sk n (sk n (sk n (sk n (sk n (seq1 (mP (w:=[97,100,100,32]) (rest:=d++32::(d2++b)) (n+7)) (aK (cR (ts:=[]) rfl (add_eq n E h.1.1 h.1.2.1 h.1.2.2 h.2.1 h.2.2.1 h.2.2.2))))))))))))))
end
def uM:List (List Nat):=[[114,111,119,32],[108,97,115,116],[47],[115,111,111,110,32],[102,114,111,109,32],[110,111,116,32],[101,110,100]]
def kM (rest:List Nat):Bool:=uM.any fun w=>pre w rest
theorem V7 {c:Nat}{r:List Nat}(h:c≠114/\c≠108/\c≠47/\c≠115/\c≠102/\c≠110/\c≠101):kM (c::r)=false:=by
 obtain ⟨h1,h2,h3,h4,h5,h6,h7⟩:=h
 unfold kM uM
 simp only [kG,NR,aX (Ne.symm h1),aX (Ne.symm h2),aX (Ne.symm h3),aX (Ne.symm h4),aX (Ne.symm h5),aX (Ne.symm h6),aX (Ne.symm h7),CP]
theorem Qu {d:Nat}{r:List Nat}(h:d≠111):kM (115::d::r)=false:=by
 unfold kM uM
 simp only [kG,NR,p2 (Ne.symm h),aX (show 114≠115 by decide),aX (show 108≠115 by decide),aX (show 47≠115 by decide),aX (show 102≠115 by decide),aX (show 110≠115 by decide),aX (show 101≠115 by decide),CP]
theorem f6 {w r:List Nat}(h:w∈uM):kM (w++r)=true:=Cp.mpr ⟨w,h,pre_app w r⟩
theorem GX (x:DD) (b:List Nat):kM (x.txt b)=false:=by
 cases x with
 | say l=>exact Qu (by decide)
 | swap e w t l=>cases e<;>exact Qu (by decide)
 | _=>exact V7 (by decide)
theorem GY (x:CD) (b:List Nat):kM (x.txt b)=true:=by
 have rp:∀ (x:RP) (b:List Nat),kM (x.txt b)=true:=fun x b=>by
  cases x with
  | row d v=>exact f6 (w:=[114,111,119,32]) (by decide)
  | like w t=>exact f6 (w:=[47]) (by decide)
 have pc:∀ (x:PC) (b:List Nat),kM (x.txt b)=true:=fun x b=>by
  cases x with
  | last=>exact f6 (w:=[108,97,115,116]) (by decide)
  | soon d v w t=>exact f6 (w:=[115,111,111,110,32]) (by decide)
  | ft x y=>exact f6 (w:=[102,114,111,109,32]) (by decide)
  | rp x=>exact rp x b
 cases x with
 | fin=>exact f6 (w:=[101,110,100]) (by decide)
 | no x=>exact f6 (w:=[110,111,116,32]) (by decide)
 | pc x=>exact pc x b
def prT (rest:List Nat):T->T
 | .str w=>.bl (pre w rest)
 | _=>.non
theorem oQ (f:List Nat->Bool):∀ l:List (List Nat),boolsOf (l.map fun w=>T.bl (f w))=some (l.map f)
 | []=>rfl
 | w::l=>by
  show (boolsOf (l.map fun w=>T.bl (f w))).map _=_
  rw [oQ f l];rfl
theorem any_eq {rest:List Nat}{k:Int}:D.tB (bC jS (k1 (c6 (bo (h_ (cF (.tup [(.str [114,111,119,32]),(.str [108,97,115,116]),(.str [47]),(.str [115,111,111,110,32]),(.str [102,114,111,109,32]),(.str [110,111,116,32]),(.str [101,110,100])]))) 2 [0] (setG 1) cC (jD rE (aE M.P.tab 14 (vF 2)) (k1 (vF 1))))))) (St [none] rest k)=.ok (kM rest,St [none] rest k):=by
 have e:bC jS (k1 (c6 (bo (h_ (cF (.tup [(.str [114,111,119,32]),(.str [108,97,115,116]),(.str [47]),(.str [115,111,111,110,32]),(.str [102,114,111,109,32]),(.str [110,111,116,32]),(.str [101,110,100])]))) 2 [0] (setG 1) cC (jD rE (aE M.P.tab 14 (vF 2)) (k1 (vF 1)))))) (St [none] rest k)=.ok (.bl (kM rest),St [none] rest k):=by
  refine dB (ts:=[.lst ((uM.map T.str).map (prT rest))]) (aD (mE (kq (ts:=uM.map T.str) (s1:=St [none] rest k) rfl (by decide) (fZ fun t ht=>?_))) rfl) ?_
  ·obtain ⟨w,_,rfl⟩:=jH.mp ht
   exact ⟨[none,sv (.str w),sv (.own 0)],[none,sv (.str w),sv (.own 0)],rfl,rfl⟩
  ·have:(uM.map T.str).map (prT rest)=uM.map fun w=>T.bl (pre w rest):=by rw [rH];rfl
   rw [this]
   simp only [jS,Lq,oQ]
   unfold kM
   rw [NY,Cn]
   rfl
 unfold D.tB
 rw [e]
 rfl
theorem afB {c:FT}{s s':S}(h:c s=.ok (false,s')):c_ c s=.ok (true,s'):=by unfold c_;rw [h];rfl
theorem MT {c:FT}{s s':S}(h:c s=.ok (true,s')):c_ c s=.ok (false,s'):=by unfold c_;rw [h];rfl
theorem orN {c d:FT}{s s1:S}{q:Res (Bool × S)}(h:c s=.ok (false,s1)) (h2:d s1=q):nu c d s=q:=by unfold nu;rw [h];exact h2
theorem afC {c:Nat}{g:Fn}{fl:FL}{s s':S}{ts:List T}{m':List Ob}(h:fl s=.ok (ts,s')) (k:g (.own s'.m.length::ts) (s'.m++[⟨c,[]⟩])=.ok (.non,m')):Bt c g fl s=.ok (.own s'.m.length,⟨s'.r,m'⟩):=by
 unfold Bt
 rw [h]
 refine Eq.trans (bA _ _) ?_
 dsimp only
 rw [k]
inductive LN where
 | mark (a:List Nat) | bare (x:DD) | full (c:CD) (x:DD)
def LN.ok:LN->Prop
 | .mark a=>qT a
 | .bare x=>x.ok
 | .full c x=>c.ok/\x.ok
noncomputable def LN.txt:LN->List Nat->List Nat
 | .mark a,b=>109::97::114::107::32::(a++b)
 | .bare x,b=>x.txt b
 | .full c x,b=>c.txt (58::32::x.txt b)
def LN.cond:LN->T
 | .full c _=>c.val
 | _=>.obj 3 []
def LN.eS:LN->T
 | .mark a=>.obj 12 [.str a]
 | .bare x=>x.val
 | .full _ x=>x.val
noncomputable def LN.val (x:LN):T:=.obj 1 [x.cond,x.eS]
theorem afD (x:DD) (b w:List Nat):pre (109::w) (x.txt b)=false:=by
 cases x with
 | swap e w t l=>cases e<;>exact aX (by decide)
 | _=>exact aX (by decide)
theorem afE (x:CD) (b w:List Nat):pre (109::w) (x.txt b)=false:=by
 cases x with
 | fin=>exact aX (by decide)
 | no x=>exact aX (by decide)
 | pc x=>exact xJ (by decide)
theorem acU (b:List Nat):V6 (58::b):=fun c h=>by cases h;decide
theorem qV {x:LN}{b:List Nat}{k:Int}(E:WX b) (h:x.ok):cN (n+12) 16 [.own 0] (SC (x.txt b) k)=.ok (x.val,SC b k):=by
 rw [w16]
 cases x with
 | mark a=>exact aL (s':=St [none] b k) rfl (hit (w:=[109,97,114,107,32]) (rest:=a++b) (n+10) (aK (eF (ts:=[.obj 3 [],.obj 12 [.str a]]) (aD (t:=.obj 3 []) rfl (aD (eF (ts:=[.str a]) (aD (cR (ts:=[]) rfl (mG (n+8) h E.l)) rfl) rfl) rfl)) rfl))) rfl
 | bare x=>
  refine aL (s':=St [none] b k) rfl (skip (n+10) (afD x b _) (fm (k7 (s':=St [none] (x.txt b) k) ?_ (aK (eF (ts:=[.obj 3 [],x.val]) (aD (t:=.obj 3 []) rfl (aD (cR (ts:=[]) rfl (zG (n+1) E h)) rfl)) rfl))))) rfl
  exact afB ((any_eq (rest:=x.txt b)).trans (by rw [GX]))
 | full c x=>
  refine aL (s':=St [sv c.val] b k) rfl (skip (n+10) (afE c _ _) (seq1 (s':=St [none] (c.txt (58::32::x.txt b)) k) (ed (s':=St [none] (c.txt (58::32::x.txt b)) k) ?_ rfl) (seq1 (s':=St [sv c.val] (58::32::x.txt b) k) (df (cR (ts:=[]) rfl (MR n h.1 (acU _)))) (seq1 (s':=St [sv c.val] (x.txt b) k) (mP (w:=[58,32]) (rest:=x.txt b) (n+9)) (aK (eF (ts:=[c.val,x.val]) (aD (t:=c.val) rfl (aD (cR (ts:=[]) rfl (zG (n+1) E h.2)) rfl)) rfl)))))) rfl
  exact MT ((any_eq (rest:=c.txt (58::32::x.txt b))).trans (by rw [GY]))
theorem MU {row:List Nat}{k:Int}:cN (n+1) 70 [.own 0,.str row,.int k] [⟨24,[]⟩]=.ok (.non,SC row k):=by
 rw [w70];rfl
def mH (x:LN):Prop:=∀ n m,cN (n+7) 28 [x.cond,x.eS] m=.ok (.bl true,m)
theorem xK {x:LN}{k:Int}(h:x.ok) (hs:mH x) (hw:noOwn x.val=true):cN (n+13) 15 [.str (x.txt []),.int k] m=.ok (x.val,m):=by
 rw [w15]
 refine aI (m':=SC [] k) rfl ?_ hw
 refine aL (s':=⟨[sv (.str (x.txt [])),sv (.int k),sv (.own 0),sv x.val],SC [] k⟩) rfl ?_ rfl
 refine seq1 (s':=⟨[sv (.str (x.txt [])),sv (.int k),sv (.own 0),none],SC (x.txt []) k⟩) ?_ (seq1 (s':=⟨[sv (.str (x.txt [])),sv (.int k),sv (.own 0),sv x.val],SC [] k⟩) ?_ (seq1 (s':=⟨[sv (.str (x.txt [])),sv (.int k),sv (.own 0),sv x.val],SC [] k⟩) (ed (s':=⟨[sv (.str (x.txt [])),sv (.int k),sv (.own 0),sv x.val],SC [] k⟩) ?_ rfl) rfl))
 ·refine df (t:=.own 0) (s':=⟨[sv (.str (x.txt [])),sv (.int k),none,none],SC (x.txt []) k⟩) ?_
  exact afC (ts:=[.str (x.txt []),.int k]) (s':=⟨[sv (.str (x.txt [])),sv (.int k),none,none],[]⟩) rfl (MU (n+11))
 ·exact df (aC (ts:=[.own 0]) (s':=⟨[sv (.str (x.txt [])),sv (.int k),sv (.own 0),none],SC (x.txt []) k⟩) rfl (qV n afA h))
 ·have e:ah (cN (n+12) 28) [] (k2 (aE M.P.tab 1 (vF 3)) (aE M.P.tab 2 (vF 3))) ⟨[sv (.str (x.txt [])),sv (.int k),sv (.own 0),sv x.val],SC [] k⟩=.ok (.bl true,⟨[sv (.str (x.txt [])),sv (.int k),sv (.own 0),sv x.val],SC [] k⟩):=aC (ts:=[x.cond,x.eS]) (s':=⟨[sv (.str (x.txt [])),sv (.int k),sv (.own 0),sv x.val],SC [] k⟩) rfl (hs (n+5) _)
  refine orN (s1:=⟨[sv (.str (x.txt [])),sv (.int k),sv (.own 0),sv x.val],SC [] k⟩) rfl (MT ?_)
  unfold D.tB
  rw [e];rfl
theorem jv {g:FG}{b:FS}{t:T}{ts:List T}{s s1:S}{r:List (Option C)}{q:Res (Out × S)}(h:g t s.r=some r) (hb:b ⟨r,s.m⟩=.ok (.nx,s1)) (k:fL g b ts s1=q):fL g b (t::ts) s=q:=by
 unfold fL
 rw [h]
 refine Eq.trans (bA _ _) ?_
 rw [hb]
 exact k
theorem MV {src:FL}{g:FG}{b:FS}{s s1:S}{ts:List T}{q:Res (Out × S)}(h:src s=.ok (ts,s1)) (k:fL g b ts s1=q):tK src g b s=q:=by unfold tK;rw [h];exact k
theorem BN {i:Nat}{a:FE}{s s1:S}{V8 ts:List T}{t:T}(h0:s.r[i]?=some (some (.ol V8))) (h:a s=.ok (t,s1)) (h2:s1.r[i]?=some (some (.ol ts))) (z:ts.length<1000000):i8 i a s=.ok (.nx,iE s1 i (.ol (ts++[t]))):=by
 unfold i8
 rw [h0]
 refine Eq.trans (bA V8 _) ?_
 rw [h]
 refine Eq.trans (bA _ _) ?_
 dsimp only
 rw [h2]
 refine Eq.trans (bA ts _) ?_
 rw [nS z]
 rfl
structure Lk (x:LN):Prop where
 ok:x.ok
 ms:mH x
 no:noOwn x.val=true
abbrev dP (xs:List LN):List T:=xs.map fun x=>.str (x.txt [])
abbrev aN (xs:List LN):List T:=xs.map LN.val
theorem uN (n:Nat) {R:Option C}:∀ (xs:List LN) (j:Nat) (done:List T) (u v:Option C),(∀ x∈xs,Lk x)->j+xs.length<=25->done.length<=j->∃ u' v',fL (ia [2,3]) (aj (bu (D.cD (cz (aU .Gt) (vF 2) (cI 24))) br aG) (i8 1 (ah (cN (n+13) 15) [] (k2 (vF 3) (vF 2))))) (gI (j:Nat) (dP xs)) ⟨[R,some (.ol done),u,v],[]⟩=.ok (.nx,⟨[R,some (.ol (done++aN xs)),u',v'],[]⟩)
 | [],j,done,u,v,_,_,_=>⟨u,v,by rw [show done++aN []=done from dR _];rfl⟩
 | x::xs,j,done,u,v,h,hj,hd=>by
  have hx:=h x (eK ..)
  rw [dq] at hj
  obtain ⟨u',v',e⟩:=uN n xs (j+1) (done++[x.val]) (sv (.int (j:Nat))) (sv (.str (x.txt []))) (fun y hy=>h y (fG _ hy)) (by omega) (by rw [bL];show done.length+1<=_;omega)
  refine ⟨u',v',jv (r:=[R,some (.ol done),sv (.int (j:Nat)),sv (.str (x.txt []))]) rfl (seq1 (s':=⟨[R,some (.ol done),sv (.int (j:Nat)),sv (.str (x.txt []))],[]⟩) (ed (s':=⟨[R,some (.ol done),sv (.int (j:Nat)),sv (.str (x.txt []))],[]⟩) ?_ rfl) (BN (V8:=done) (ts:=done) rfl (aC (ts:=[.str (x.txt []),.int (j:Nat)]) (s':=⟨[R,some (.ol done),sv (.int (j:Nat)),sv (.str (x.txt []))],[]⟩) rfl (xK n hx.ok hx.ms hx.no)) rfl (by omega))) ?_⟩
  ·have g:decide ((24:Int)<(j:Nat))=false:=decide_eq_false (by omega)
   simp only [ev,dI,bA,cW,qQ,g]
  ·have e2:done++aN (x::xs)=done++[x.val]++aN xs:=by simp
   rw [e2]
   exact e
theorem eG:∀ (a:List LN),(∀ x∈a,Lk x)->aF (aN a)=true
 | [],_=>rfl
 | x::a,h=>by
  show (noOwn x.val&&aF (aN a))=true
  rw [(h x (eK ..)).no,eG a fun y hy=>h y (fG _ hy)];rfl
theorem kr:∀ (a:List LN),aF (dP a)=true
 | []=>rfl
 | x::a=>by
  show (true&&aF (dP a))=true
  rw [kr a];rfl
theorem uO {xs:List LN}(h:∀ x∈xs,Lk x) (hl:xs.length<=24):cN (n+14) 32 [.lst (dP xs)] m=.ok (.lst (aN xs),m):=by
 rw [w32]
 obtain ⟨u,v,e⟩:=uN n (R:=sv (.lst (dP xs))) xs 1 [] none none h (by omega) (iI _)
 refine aI (m':=[]) ?_ (aL (s':=⟨[sv (.lst (dP xs)),sv (.lst (aN xs)),u,v],[]⟩) rfl (seq1 (s':=⟨[sv (.lst (dP xs)),some (.ol []),none,none],[]⟩) rfl (seq1 (MV (ts:=gI 1 (dP xs)) (s1:=⟨[sv (.lst (dP xs)),some (.ol []),none,none],[]⟩) rfl e) rfl)) rfl) ?_
 ·show (aF (dP xs)&&true)=true
  rw [kr];rfl
 ·exact eG xs h
def LN.name:LN->Option (List Nat)
 | .mark a=>some a
 | _=>none
def LN.jZ:LN->Option (List Nat)
 | .bare (.go a)=>some a
 | .full _ (.go a)=>some a
 | _=>none
theorem GZ (x:LN):dc M.P.sub [12] x.eS=some (.bl x.name.isSome):=by
 cases x with
 | mark a=>rfl
 | bare d=>cases d<;>rfl
 | full c d=>cases d<;>rfl
theorem afF (x:LN):dc M.P.sub [21] x.eS=some (.bl x.jZ.isSome):=by
 cases x with
 | mark a=>rfl
 | bare d=>cases d<;>rfl
 | full c d=>cases d<;>rfl
def marks (xs:List LN):List (List Nat):=xs.filterMap LN.name
abbrev gk (l:List (List Nat)):List Ky:=l.map Ky.s
abbrev gf (l:List (List Nat)):List T:=l.map fun _=>T.bl true
theorem xM {a:List Nat}{l:List (List Nat)}:(Ky.s a∈gk l) ↔ a∈l:=by
 constructor
 ·intro h
  obtain ⟨b,h1,h2⟩:=jH.mp h
  cases h2
  exact h1
 ·exact fun h=>jH.mpr ⟨a,h,rfl⟩
theorem ifY {c:FT}{A B:FS}{s s':S}{q:Res (Out × S)}(h:c s=.ok (true,s')) (k:A s'=q):bu c A B s=q:=k7 h k
theorem dH {g:T->Option T}{a:FE}{s:S}{t:T}{b:Bool}(h:a s=.ok (t,s)) (k:g t=some (.bl b)):D.tB (b8 g a) s=.ok (b,s):=by
 unfold D.tB b8
 rw [h]
 refine Eq.trans (congrArg (fun z=>Res.bind z _) (bA _ _)) ?_
 dsimp only
 rw [k]
 rfl
theorem mJ {R:Option C}:∀ (xs:List LN) (j:Nat) (done:List (List Nat)) (u v:Option C),(done++marks xs).Nodup->done.length+xs.length<=100->∃ u' v',fL (ia [2,3]) (bu (D.tB (b8 (dc M.P.sub [12]) (aE M.P.tab 2 (vF 3)))) (aj (bu (D.cD (U_ .In false 1 (aE M.P.tab 9 (aE M.P.tab 2 (vF 3))))) br aG) (y_ 1 (aE M.P.tab 9 (aE M.P.tab 2 (vF 3))) (cF (.bl true)))) aG) (gI (j:Nat) (aN xs)) ⟨[R,some (.od (gk done) (gf done)),u,v],[]⟩=.ok (.nx,⟨[R,some (.od (gk (done++marks xs)) (gf (done++marks xs))),u',v'],[]⟩)
 | [],j,done,u,v,_,_=>⟨u,v,by rw [show done++marks []=done from dR _];rfl⟩
 | x::xs,j,done,u,v,hn,hl=>by
  rw [dq] at hl
  cases hx:x.name with
  | none=>
   have em:marks (x::xs)=marks xs:=by unfold marks;rw [zZ,hx]
   rw [em] at hn ⊢
   obtain ⟨u',v',e⟩:=mJ xs (j+1) done (sv (.int (j:Nat))) (sv x.val) hn (by omega)
   refine ⟨u',v',jv (r:=[R,some (.od (gk done) (gf done)),sv (.int (j:Nat)),sv x.val]) rfl (ed (s':=⟨[R,some (.od (gk done) (gf done)),sv (.int (j:Nat)),sv x.val],[]⟩) (dH (t:=x.eS) rfl (by rw [GZ,hx];rfl)) rfl) e⟩
  | some a=>
   have ex:x=.mark a:=by
    cases x with
    | mark b=>cases hx;rfl
    | bare d=>cases hx
    | full c d=>cases hx
   subst ex
   have em:marks (.mark a::xs)=a::marks xs:=rfl
   rw [em] at hn ⊢
   have hna:a ∉ done:=fun z=>(CH.mp hn).2.2 a z a (eK ..) rfl
   have eq:done++a::marks xs=(done++[a])++marks xs:=by simp
   rw [eq] at hn ⊢
   obtain ⟨u',v',e⟩:=mJ xs (j+1) (done++[a]) (sv (.int (j:Nat))) (sv (LN.mark a).val) hn (by rw [bL];show done.length+1+xs.length<=100;omega)
   refine ⟨u',v',jv (r:=[R,some (.od (gk done) (gf done)),sv (.int (j:Nat)),sv (LN.mark a).val]) rfl (ifY (s':=⟨[R,some (.od (gk done) (gf done)),sv (.int (j:Nat)),sv (LN.mark a).val],[]⟩) (dH (t:=(LN.mark a).eS) rfl (by rw [GZ,hx];rfl)) (seq1 (s':=⟨[R,some (.od (gk done) (gf done)),sv (.int (j:Nat)),sv (LN.mark a).val],[]⟩) (ed (s':=⟨[R,some (.od (gk done) (gf done)),sv (.int (j:Nat)),sv (LN.mark a).val],[]⟩) ?_ rfl) ?_)) e⟩
   ·show Res.ok (decide (Ky.s a∈gk done),_)=_
    rw [decide_eq_false (fun z=>hna (xM.mp z))]
   ·have hk:jj (gk done) (gf done) (.s a) (.bl true)=(gk (done++[a]),gf (done++[a])):=by
     unfold jj
     rw [if_neg (fun z=>hna (xM.mp z))]
     simp [gk,gf]
    show Res.bind (cT (gd ((gk done).length<1000000) ())) _=_
    rw [nS (by rw [dg];omega)]
    show Res.ok (Out.nx,iE _ 1 (.od (jj (gk done) (gf done) (.s a) (.bl true)).1 (jj (gk done) (gf done) (.s a) (.bl true)).2))=_
    rw [hk]
    rfl
theorem uP {xs:List LN}(hv:∀ x∈xs,Lk x) (h:(marks xs).Nodup) (hl:xs.length<=24):cN (n+1) 33 [.lst (aN xs)] m=.ok (.dO (gk (marks xs)) (gf (marks xs)),m):=by
 rw [w33]
 obtain ⟨u,v,e⟩:=mJ (R:=sv (.lst (aN xs))) xs 1 [] none none h (by show 0+_<=_;omega)
 refine aI (m':=[]) ?_ (aL (s':=⟨[sv (.lst (aN xs)),sv (.dO (gk (marks xs)) (gf (marks xs))),u,v],[]⟩) rfl (seq1 (s':=⟨[sv (.lst (aN xs)),some (.od [] []),none,none],[]⟩) rfl (seq1 (MV (ts:=gI 1 (aN xs)) (s1:=⟨[sv (.lst (aN xs)),some (.od [] []),none,none],[]⟩) rfl e) rfl)) rfl) ?_
 ·show (aF (aN xs)&&true)=true
  rw [eG xs hv];rfl
 ·have:∀ l:List (List Nat),aF (gf l)=true:=fun l=>by
   induction l with
   | nil=>rfl
   | cons a l ih=>show (true&&aF (gf l))=true;rw [ih];rfl
  exact this _
theorem BO {x:LN}{a:List Nat}(h:x.jZ=some a):x.eS=.obj 21 [.str a]:=by
 cases x with
 | mark b=>cases h
 | bare d=>cases d<;>first | (cases h;done) | (cases h;rfl)
 | full c d=>cases d<;>first | (cases h;done) | (cases h;rfl)
theorem oR {R:Option C}{ms:List (List Nat)}:∀ (xs:List LN) (j:Nat) (u v:Option C),(∀ x∈xs,∀ a,x.jZ=some a->a∈ms)->∃ u' v',fL (ia [2,3]) (bu (iY (D.tB (b8 (dc M.P.sub [21]) (aE M.P.tab 2 (vF 3)))) (D.cD (cz (aU .NotIn) (aE M.P.tab 9 (aE M.P.tab 2 (vF 3))) (vF 1)))) br aG) (gI (j:Nat) (aN xs)) ⟨[R,sv (.dO (gk ms) (gf ms)),u,v],[]⟩=.ok (.nx,⟨[R,sv (.dO (gk ms) (gf ms)),u',v'],[]⟩)
 | [],j,u,v,_=>⟨u,v,rfl⟩
 | x::xs,j,u,v,h=>by
  obtain ⟨u',v',e⟩:=oR (R:=R) xs (j+1) (sv (.int (j:Nat))) (sv x.val) fun y hy=>h y (fG _ hy)
  refine ⟨u',v',jv (r:=[R,sv (.dO (gk ms) (gf ms)),sv (.int (j:Nat)),sv x.val]) rfl (ed (s':=⟨[R,sv (.dO (gk ms) (gf ms)),sv (.int (j:Nat)),sv x.val],[]⟩) ?_ rfl) e⟩
  unfold iY
  rw [dH (s:=⟨[R,sv (.dO (gk ms) (gf ms)),sv (.int (j:Nat)),sv x.val],[]⟩) (t:=x.eS) (b:=x.jZ.isSome) rfl (afF x)]
  refine Eq.trans (bA _ _) ?_
  cases hg:x.jZ with
  | none=>rfl
  | some a=>
   have ha:=h x (eK ..) a hg
   have hd:=BO hg
   show Res.bind (cz (aU .NotIn) (aE M.P.tab 9 (aE M.P.tab 2 (vF 3))) (vF 1) ⟨[R,sv (.dO (gk ms) (gf ms)),sv (.int (j:Nat)),sv (.obj 1 [x.cond,x.eS])],[]⟩) _=_
   rw [hd]
   show Res.ok (!decide (Ky.s a∈gk ms),_)=_
   rw [decide_eq_true (xM.mpr ha)]
   show Res.ok (false,(⟨[R,sv (.dO (gk ms) (gf ms)),sv (.int (j:Nat)),sv (.obj 1 [x.cond,.obj 21 [.str a]])],[]⟩:S))=Res.ok (false,⟨[R,sv (.dO (gk ms) (gf ms)),sv (.int (j:Nat)),sv (.obj 1 [x.cond,x.eS])],[]⟩)
   rw [hd]
theorem refuse_eq {xs:List LN}{ms:List (List Nat)}(hv:∀ x∈xs,Lk x) (h:∀ x∈xs,∀ a,x.jZ=some a->a∈ms):cN (n+1) 34 [.lst (aN xs),.dO (gk ms) (gf ms)] m=.ok (.non,m):=by
 rw [w34]
 obtain ⟨u,v,e⟩:=oR (R:=sv (.lst (aN xs))) xs 1 none none h
 refine aI (m':=[]) ?_ (acQ (s':=⟨[sv (.lst (aN xs)),sv (.dO (gk ms) (gf ms)),u,v],[]⟩) rfl (MV (ts:=gI 1 (aN xs)) (s1:=⟨[sv (.lst (aN xs)),sv (.dO (gk ms) (gf ms)),none,none],[]⟩) rfl e) rfl) rfl
 have:∀ l:List (List Nat),aF (gf l)=true:=fun l=>by
  induction l with
  | nil=>rfl
  | cons a l ih=>show (true&&aF (gf l))=true;rw [ih];rfl
 show (aF (aN xs)&&(aF (gf ms)&&true))=true
 rw [eG xs hv,this];rfl
theorem f9 {c:Nat}:∀ {p q:List Nat},c ∉ p->aZ c (p++c::q)=p::aZ c q
 | [],q,_=>by show aZ c (c::q)=_;rw [aZ,if_pos rfl]
 | d::p,q,h=>by
  have hd:d≠c:=fun e=>h (by rw [e];exact eK ..)
  show aZ c (d::(p++c::q))=_
  rw [aZ,if_neg hd,f9 (fun z=>h (fG _ z))]
theorem mK {c:Nat}:∀ {ls:List (List Nat)},ls≠[]->(∀ l∈ls,c ∉ l)->aZ c (a8 [c] ls)=ls
 | [],h,_=>absurd rfl h
 | [a],_,h=>iA (h a (eK ..))
 | a::b::r,_,h=>by
  show aZ c (a++[c]++a8 [c] (b::r))=_
  rw [lj]
  show aZ c (a++c::a8 [c] (b::r))=_
  rw [f9 (h a (eK ..)),mK (by simp) fun l hl=>h l (fG _ hl)]
theorem ku {c:Nat}:∀ {ls:List (List Nat)},ls≠[]->(∀ l∈ls,c ∉ l)->aZ c (a8 [c] ls++[c])=ls++[[]]
 | [],h,_=>absurd rfl h
 | [a],_,h=>by
  show aZ c (a++c::[])=_
  rw [f9 (h a (eK ..))];rfl
 | a::b::r,_,h=>by
  show aZ c (a++[c]++a8 [c] (b::r)++[c])=_
  rw [lj,lj]
  show aZ c (a++c::(a8 [c] (b::r)++[c]))=_
  rw [f9 (h a (eK ..)),ku (by simp) fun l hl=>h l (fG _ hl)]
  rfl
theorem zH {α:Type}(xs:List α) (x:α):atT (xs++[x]) (-1)=some x:=by
 unfold atT
 rw [if_neg (by decide),if_pos (by rw [bL,Aa];omega)]
 have:(-1+((xs++[x]).length:Int)).toNat=xs.length:=by rw [bL,Aa];omega
 rw [this]
 simp
theorem mL {α:Type}(xs:List α) (x:α):ba (xs++[x]) none (some (-1))=xs:=by
 unfold ba dX
 dsimp only
 rw [if_pos (by decide)]
 have:(-1+((xs++[x]).length:Int)).toNat=xs.length:=by rw [bL,Aa];omega
 rw [this]
 simp
theorem G0:nL (.int 1)=some (.int (-1)):=rfl
theorem gQ:∀ (l:List (List Nat)),aF (l.map T.str)=true
 | []=>rfl
 | x::a=>by
  show (true&&aF (a.map T.str))=true
  rw [gQ a];rfl
theorem acV (a b:T):lO [a,b]=some (.tup [a,b]):=nS (by show 2<=1000;decide)
theorem MW (a b c:T):lO [a,b,c]=some (.tup [a,b,c]):=nS (by show 3<=1000;decide)
theorem MX {ls:List (List Nat)}{last:List Nat}(h:∀ l∈ls++[last],10 ∉ l) (h0:last≠[]) (hz:(a8 [10] (ls++[last])).length<=100000):cN (n+1) 30 [.str (a8 [10] (ls++[last]))] m=.ok (.tup [.lst ((ls++[last]).map T.str),.bl false],m):=by
 rw [w30]
 refine aI (m':=[]) rfl (aL (s':=⟨[sv (.str (a8 [10] (ls++[last]))),sv (.lst ((ls++[last]).map T.str))],[]⟩) rfl (seq1 (s':=⟨[sv (.str (a8 [10] (ls++[last]))),sv (.lst ((ls++[last]).map T.str))],[]⟩) ?_ (seq1 (s':=⟨[sv (.str (a8 [10] (ls++[last]))),sv (.lst ((ls++[last]).map T.str))],[]⟩) (ed (s':=⟨[sv (.str (a8 [10] (ls++[last]))),sv (.lst ((ls++[last]).map T.str))],[]⟩) ?_ rfl) (aK (dB (ts:=[.lst ((ls++[last]).map T.str),.bl false]) rfl (acV _ _))))) rfl) ?_
 ·have e:splitM (a8 [10] (ls++[last])) [.str [10]]=some (.lst ((ls++[last]).map T.str)):=by
   show gd _ _=_
   rw [nS hz,mK (by simp) h]
  show aV 1 (jD splitM (vF 0) (k1 (cS [10]))) ⟨[sv (.str (a8 [10] (ls++[last]))),none],[]⟩=_
  simp only [ev,dI,bA,cW,e]
 ·have e:jf (.lst ((ls++[last]).map T.str)) (.int (-1))=some (.str last):=by
   show atT _ (-1)=_
   rw [rJ];exact zH _ _
  simp only [ev,dI,bA,cW,G0,e,mC]
  rw [decide_eq_false h0]
 ·show (aF ((ls++[last]).map T.str)&&(true&&true))=true
  rw [gQ];rfl
theorem MY {ls:List (List Nat)}(h:∀ l∈ls,10 ∉ l) (h0:ls≠[]) (hz:(a8 [10] ls++[10]).length<=100000):cN (n+1) 30 [.str (a8 [10] ls++[10])] m=.ok (.tup [.lst (ls.map T.str),.bl true],m):=by
 rw [w30]
 refine aI (m':=[]) rfl (aL (s':=⟨[sv (.str (a8 [10] ls++[10])),sv (.lst ((ls++[[]]).map T.str))],[]⟩) rfl (seq1 (s':=⟨[sv (.str (a8 [10] ls++[10])),sv (.lst ((ls++[[]]).map T.str))],[]⟩) ?_ (fm (k7 (s':=⟨[sv (.str (a8 [10] ls++[10])),sv (.lst ((ls++[[]]).map T.str))],[]⟩) ?_ (aK (dB (ts:=[.lst (ls.map T.str),.bl true]) ?_ (acV _ _)))))) rfl) ?_
 ·have e:splitM (a8 [10] ls++[10]) [.str [10]]=some (.lst ((ls++[[]]).map T.str)):=by
   show gd _ _=_
   rw [nS hz,ku h0 h]
  show aV 1 (jD splitM (vF 0) (k1 (cS [10]))) ⟨[sv (.str (a8 [10] ls++[10])),none],[]⟩=_
  simp only [ev,dI,bA,cW,e]
 ·have e:jf (.lst ((ls++[[]]).map T.str)) (.int (-1))=some (.str []):=by
   show atT _ (-1)=_
   rw [rJ];exact zH _ _
  simp only [ev,dI,bA,cW,G0,e,mC,decide_true]
 ·have e:ba ((ls++[[]]).map T.str) none (some (-1))=ls.map T.str:=by
   rw [rJ];exact mL _ _
  simp only [ev,dI,bA,cW,G0,rB,e]
 ·show (aF (ls.map T.str)&&(true&&true))=true
  rw [gQ];rfl
theorem aR {g:T->T->Option T}{a b:FE}{s s1 s2:S}{t u v:T}(h:a s=.ok (t,s1)) (h2:b s1=.ok (u,s2)) (k:g t u=some v):cz g a b s=.ok (v,s2):=by
 unfold cz
 rw [h]
 refine Eq.trans (bA _ _) ?_
 dsimp only
 rw [h2]
 refine Eq.trans (bA _ _) ?_
 dsimp only
 rw [k]
 rfl
theorem MZ {xs:List LN}{text:List Nat}{b:Bool}(hv:∀ x∈xs,Lk x) (hl:xs.length<=24) (hn:(marks xs).Nodup) (hg:∀ x∈xs,∀ a,x.jZ=some a->a∈marks xs) (hc:∀ m,cN (n+14) 30 [.str text] m=.ok (.tup [.lst (dP xs),.bl b],m)):cN (n+15) 31 [.str text] m=.ok (.obj 0 [.lst (aN xs)],m):=by
 rw [w31]
 refine aI (m':=[]) rfl (aL (s':=⟨[sv (.str text),sv (.lst (aN xs)),sv (.dO (gk (marks xs)) (gf (marks xs)))],[]⟩) rfl (seq1 (s':=⟨[sv (.str text),sv (.lst (aN xs)),none],[]⟩) ?_ (seq1 (s':=⟨[sv (.str text),sv (.lst (aN xs)),sv (.dO (gk (marks xs)) (gf (marks xs)))],[]⟩) ?_ (seq1 (s':=⟨[sv (.str text),sv (.lst (aN xs)),sv (.dO (gk (marks xs)) (gf (marks xs)))],[]⟩) ?_ rfl))) rfl) ?_
 ·refine Eq.trans (df (t:=.lst (aN xs)) (s':=⟨[sv (.str text),none,none],[]⟩) (aC (ts:=[.lst (dP xs)]) (s':=⟨[sv (.str text),none,none],[]⟩) (aD (t:=.lst (dP xs)) (s1:=⟨[sv (.str text),none,none],[]⟩) ?_ rfl) (uO n hv hl))) rfl
  have e:ah (cN (n+14) 30) [] (k1 (vF 0)) ⟨[sv (.str text),none,none],[]⟩=.ok (.tup [.lst (dP xs),.bl b],⟨[sv (.str text),none,none],[]⟩):=aC (ts:=[.str text]) (s':=⟨[sv (.str text),none,none],[]⟩) rfl (hc _)
  exact aR e rfl rfl
 ·exact df (aC (ts:=[.lst (aN xs)]) (s':=⟨[sv (.str text),sv (.lst (aN xs)),none],[]⟩) rfl (uP (n+13) hv hn hl))
 ·have e:ah (cN (n+14) 34) [] (k2 (vF 1) (vF 2)) ⟨[sv (.str text),sv (.lst (aN xs)),sv (.dO (gk (marks xs)) (gf (marks xs)))],[]⟩=.ok (.non,⟨[sv (.str text),sv (.lst (aN xs)),sv (.dO (gk (marks xs)) (gf (marks xs)))],[]⟩):=aC (ts:=[.lst (aN xs),.dO (gk (marks xs)) (gf (marks xs))]) (s':=⟨[sv (.str text),sv (.lst (aN xs)),sv (.dO (gk (marks xs)) (gf (marks xs)))],[]⟩) rfl (refuse_eq (n+13) hv hg)
  unfold cU
  rw [e]
  rfl
 ·show (aF (aN xs)&&true)=true
  rw [eG xs hv];rfl
def npl:List Nat:=[94,36,46,91,93,42,43,63,47]
def Ih (c:Nat):Bool:=decide (c∈g_)&&!decide (c∈npl)
theorem acW (c:Nat) (l:List Nat):aU .NotIn (.str [c]) (.str l)=some (.bl (!decide (c∈l))):=rfl
theorem oS {a b:FE}{s s1:S}{x y:Bool}(h:a s=.ok (.bl x,s1)) (h2:x=true->b s1=.ok (.bl y,s1)):jO a b s=.ok (.bl (x&&y),s1):=by
 unfold jO
 rw [h]
 refine Eq.trans (bA _ _) ?_
 cases x with
 | true=>exact h2 rfl
 | false=>rfl
theorem xO {c:Nat}:cN (n+1) 2 [.str [c]] m=.ok (.bl (Ih c),m):=by
 rw [w2]
 refine aI (m':=[]) rfl (aL (s':=⟨[sv (.str [c])],[]⟩) rfl (aK (oS (x:=decide (c∈g_)) (y:=!decide (c∈npl)) ?_ fun _=>?_)) rfl) rfl
 ·exact aR rfl rfl (GP c g_)
 ·exact aR rfl rfl (acW c npl)
theorem V9 (a b:Int):aU .Eq (.int a) (.int b)=some (.bl (decide (a=b))):=rfl
theorem afG (a b:Int):aU .NotEq (.int a) (.int b)=some (.bl (!decide (a=b))):=rfl
def zI (sg:List Nat) (ot:Bool):Prop:=ot=true\/∀ c,sg=[c]->Ih c=false
theorem G1 {sg:List Nat}{ot:Bool}(h:zI sg ot):cN (n+2) 9 [.str sg,.bl ot] m=.ok (.bl false,m):=by
 rw [w9]
 refine aI (m':=[]) rfl (aL (s':=⟨[sv (.str sg),sv (.bl ot)],[]⟩) (t:=.bl false) rfl (aK ?_) rfl) rfl
 have e:=oS (a:=wY (vF 1)) (b:=jO (oE (bC bq (k1 (vF 0))) (cI 1)) (ah (cN (n+1) 2) [] (k1 (vF 0)))) (s:=⟨[sv (.str sg),sv (.bl ot)],[]⟩) (s1:=⟨[sv (.str sg),sv (.bl ot)],[]⟩) (x:=!ot) (y:=false) rfl fun ho=>?_
 ·rw [Iu] at e
  exact e
 ·have e2:=oS (a:=oE (bC bq (k1 (vF 0))) (cI 1)) (b:=ah (cN (n+1) 2) [] (k1 (vF 0))) (s:=⟨[sv (.str sg),sv (.bl ot)],[]⟩) (s1:=⟨[sv (.str sg),sv (.bl ot)],[]⟩) (x:=decide ((sg.length:Int)=1)) (y:=false) rfl fun hx=>?_
  ·rw [Iu] at e2
   exact e2
  ·have hl:sg.length=1:=by have:=of_decide_eq_true hx;omega
   obtain ⟨c,rfl⟩:=List.length_eq_one_iff.mp hl
   have hp:Ih c=false:=by
    rcases h with h | h
    ·rw [h] at ho;cases ho
    ·exact h c rfl
   have:=aC (ds:=[]) (ts:=[.str [c]]) (s':=⟨[sv (.str [c]),sv (.bl ot)],[]⟩) (fl:=k1 (vF 0)) (s:=⟨[sv (.str [c]),sv (.bl ot)],[]⟩) rfl (xO n (c:=c) (m:=[]))
   rw [hp] at this
   exact this
theorem uQ:∀ (l bR:List Nat),(∀ c∈l,c ∉ bR)->l.Nodup->(Pf.gc bR l).length=bR.length+l.length
 | [],bR,_,_=>rfl
 | c::l,bR,h,hn=>by
  rw [Pf.gc,if_neg (h c (eK ..)),uQ l (c::bR) (fun d hd z=>?_) (kF.mp hn).2]
  ·rw [dq,dq];omega
  ·rcases fB.mp z with rfl | z
   ·exact (kF.mp hn).1 hd
   ·exact h d (fG _ hd) z
structure Sg (sg:List Nat):Prop where
 ne:sg≠[]
 vp:sg.length<=12
 nd:sg.Nodup
 mem:∀ c∈sg,c∈g_/\c≠93/\c≠94/\c≠47/\c<128
def V_:T->T:=fun _=>.bl false
theorem uR:∀ (l:List T),boolsOf (l.map V_)=some (l.map fun _=>false)
 | []=>rfl
 | _::l=>by
  show (boolsOf (l.map V_)).map _=_
  rw [uR l];rfl
abbrev s8 (ins:List Nat) (mn:Nat) (ot:Bool) (sg:List Nat):S:=⟨[sv (.str ins),sv (.str [mn]),sv (.bl ot),sv (.str sg)],[]⟩
theorem uS {sg ins:List Nat}{ot:Bool}{mn:Nat}(g:Sg sg) (hs:zI sg ot) (hi:ins=if ot then 94::sg else sg):cN (n+3) 8 [.str ins,.str [mn]] m=.ok (.tup [.str sg,.bl ot,.str [mn]],m):=by
 have hp:pre [94] ins=ot:=by
  subst hi
  cases ot with
  | true=>exact pre_app [94] sg
  | false=>
   cases sg with
   | nil=>exact absurd rfl g.ne
   | cons c l=>exact aX (Ne.symm (g.mem c (eK ..)).2.2.1)
 have hc:ot=true->ba ins (some 1) none=sg:=fun ho=>by
  subst hi
  rw [ho]
  exact gP [94] sg
 rw [w8]
 refine aI (m':=[]) rfl (aL (s':=s8 ins mn ot sg) rfl (seq1 (s':=⟨[sv (.str ins),sv (.str [mn]),sv (.bl ot),none],[]⟩) ?_ (seq1 (s':=s8 ins mn ot sg) ?_ (seq1 (s':=s8 ins mn ot sg) (ed (s':=s8 ins mn ot sg) ?_ rfl) (seq1 (s':=s8 ins mn ot sg) (ed (s':=s8 ins mn ot sg) ?_ rfl) (seq1 (s':=s8 ins mn ot sg) (ed (s':=s8 ins mn ot sg) ?_ rfl) (seq1 (s':=s8 ins mn ot sg) (ed (s':=s8 ins mn ot sg) ?_ rfl) (aK (dB (ts:=[.str sg,.bl ot,.str [mn]]) rfl (MW _ _ _))))))))) rfl) rfl
 ·show aV 2 (jD rE (vF 0) (k1 (cS [94]))) ⟨[sv (.str ins),sv (.str [mn]),none,none],[]⟩=_
  simp only [ev,dI,bA,cW,rE,hp]
 ·cases ot with
  | true=>
   show Res.ok (Out.nx,iE _ 3 (.val (.str (ba ins (some 1) none))))=_
   rw [hc rfl];rfl
  | false=>
   rw [if_neg d_] at hi
   subst hi
   rfl
 ·have g1:decide (sg=[])=false:=decide_eq_false g.ne
  have g2:decide ((12:Int)<(sg.length:Nat))=false:=decide_eq_false (by have:=g.vp;omega)
  simp only [nu,ev,dI,bA,cW,mC,g1,bq,gH,qQ,g2,vA,if_false]
 ·have e:bC jS (k1 (c6 (bo (h_ (vF 3)) 2 [] (setG 1) cC (cz (aU .In) (vF 1) (cS [93,94,47]))))) (s8 ins mn ot sg)=.ok (.bl false,s8 ins mn ot sg):=by
   refine dB (ts:=[.lst ((sg.map fun c=>T.str [c]).map V_)]) (aD (mE (kq (ts:=sg.map fun c=>T.str [c]) (s1:=s8 ins mn ot sg) rfl (by rw [dg];have:=g.vp;omega) (fZ fun t ht=>?_))) rfl) ?_
   ·obtain ⟨c,Wy,rfl⟩:=jH.mp ht
    obtain ⟨_,h1,h2,h3,_⟩:=g.mem c Wy
    refine ⟨[none,sv (.str [c])],[none,sv (.str [c])],rfl,?_⟩
    have:decide (c∈[93,94,47])=false:=decide_eq_false (by simp [h1,h2,h3])
    exact aR rfl rfl ((GP c [93,94,47]).trans (by rw [this];rfl))
   ·simp only [jS,Lq,uR]
    rw [NY,Cn]
    congr 2
    simp
  unfold D.tB
  rw [e];rfl
 ·have e1:qH (.str sg)=some (.int (sg.length:Nat)):=by
   show gd _ _=_
   rw [nS ⟨dS.mpr fun c Wy=>decide_eq_true (g.mem c Wy).2.2.2.2,by have:=g.vp;omega⟩]
   show some (T.int ((Pf.gc [] sg).length:Nat))=_
   rw [uQ sg [] (fun _ _ z=>by cases z) g.nd]
   simp
  simp only [ev,dI,bA,cW,e1,bq,gH,afG,decide_true,CN]
 ·have e:ah (cN (n+2) 9) [] (k2 (vF 3) (vF 2)) (s8 ins mn ot sg)=.ok (.bl false,s8 ins mn ot sg):=aC (ts:=[.str sg,.bl ot]) (s':=s8 ins mn ot sg) rfl (G1 n hs)
  unfold D.tB
  rw [e];rfl
inductive IT where
 | any | neg (sg:List Nat) | set (sg:List Nat) | pl (c:Nat)
structure Itm where
 k:IT
 mn:Nat
def IT.core:IT->List Nat
 | .any=>[46]
 | .neg sg=>91::(94::sg++[93])
 | .set sg=>91::(sg++[93])
 | .pl c=>[c]
def IT.sg:IT->List Nat
 | .any=>[]
 | .neg sg=>sg
 | .set sg=>sg
 | .pl c=>[c]
def IT.ot:IT->Bool
 | .any=>true
 | .neg _=>true
 | _=>false
def IT.ok:IT->Prop
 | .any=>True
 | .neg sg=>Sg sg
 | .set sg=>Sg sg/\zI sg false
 | .pl c=>Ih c=true
def ky (mn:Nat):List Nat:=if mn=49 then [] else [mn]
noncomputable def Itm.txt (i:Itm):List Nat:=i.k.core++ky i.mn
noncomputable def Itm.val (i:Itm):T:=.tup [.str i.k.sg,.bl i.k.ot,.str [i.mn]]
structure Itm.ok (i:Itm):Prop where
 k:i.k.ok
 m:i.mn=49\/i.mn=42\/i.mn=43\/i.mn=63
theorem Wa (a b:Nat) (l:List Nat):ba (a::(l++[b])) (some 1) (some (-1))=l:=by
 have h1:dX (a::(l++[b])).length 0 (some 1)=1:=by
  unfold dX
  dsimp only
  rw [if_neg (by decide)]
  simp
 have h2:dX (a::(l++[b])).length (a::(l++[b])).length (some (-1))=l.length+1:=by
  unfold dX
  dsimp only
  rw [if_pos (by decide)]
  simp;omega
 unfold ba
 rw [h1,h2]
 simp
theorem j0 {c:Nat}(h:Ih c=true):c∈g_/\c ∉ npl:=by
 unfold Ih at h
 rw [cy] at h
 refine ⟨of_decide_eq_true h.1,fun z=>?_⟩
 rw [decide_eq_true z] at h
 cases h.2
abbrev s7 (c:List Nat) (mn:Nat):S:=⟨[sv (.str c),sv (.str [mn])],[]⟩
theorem uT {sg ins:List Nat}{ot:Bool}{mn:Nat}(g:Sg sg) (hs:zI sg ot) (hi:ins=if ot then 94::sg else sg):cN (n+4) 7 [.str (91::(ins++[93])),.str [mn]] m=.ok (.tup [.str sg,.bl ot,.str [mn]],m):=by
 rw [w7]
 refine aI (m':=[]) rfl (aL (s':=s7 (91::(ins++[93])) mn) rfl (seq1 (s':=s7 (91::(ins++[93])) mn) (ed (s':=s7 (91::(ins++[93])) mn) ?_ rfl) (fm (k7 (s':=s7 (91::(ins++[93])) mn) ?_ (aK (aC (ts:=[.str ins,.str [mn]]) (s':=s7 (91::(ins++[93])) mn) ?_ (uS n g hs hi)))))) rfl) rfl
 ·have e:decide (91::(ins++[93])=[46])=false:=decide_eq_false (fun z=>by injection z with z _;cases z)
  show D.cD _ (s7 (91::(ins++[93])) mn)=_
  simp only [ev,dI,bA,cW,mC,e]
 ·have e:pre [91] (91::(ins++[93]))=true:=pre_app [91] (ins++[93])
  simp only [ev,dI,bA,cW,rE,e]
 ·simp only [ev,dI,bA,cW,G0,rB,Wa]
theorem xP {i:Itm}(h:i.ok):cN (n+4) 7 [.str i.k.core,.str [i.mn]] m=.ok (i.val,m):=by
 obtain ⟨k,mn⟩:=i
 obtain ⟨hk,hm⟩:=h
 cases k with
 | any=>
  rw [w7]
  exact aI (m':=[]) rfl (aL (s':=s7 [46] mn) rfl (fm (k7 (s':=s7 [46] mn) rfl (aK (dB (ts:=[.str [],.bl true,.str [mn]]) rfl (MW _ _ _))))) rfl) rfl
 | neg sg=>exact uT n hk (.inl rfl) rfl
 | set sg=>exact uT n hk.1 hk.2 rfl
 | pl c=>
  obtain ⟨h1,h2⟩:=j0 hk
  rw [w7]
  refine aI (m':=[]) rfl (aL (s':=s7 [c] mn) rfl (seq1 (s':=s7 [c] mn) (ed (s':=s7 [c] mn) ?_ rfl) (seq1 (s':=s7 [c] mn) (ed (s':=s7 [c] mn) ?_ rfl) (seq1 (s':=s7 [c] mn) (ed (s':=s7 [c] mn) ?_ rfl) (aK (dB (ts:=[.str [c],.bl false,.str [mn]]) rfl (MW _ _ _)))))) rfl) rfl
  ·have e:decide ([c]=[46])=false:=decide_eq_false (fun z=>h2 (by injection z with z _;rw [z];decide))
   show D.cD _ (s7 [c] mn)=_
   simp only [ev,dI,bA,cW,mC,e]
  ·have e:pre [91] [c]=false:=aX (fun z=>h2 (by rw [<- z];decide))
   simp only [ev,dI,bA,cW,rE,e]
  ·have e:=aC (ds:=[]) (ts:=[.str [c]]) (s':=s7 [c] mn) (fl:=k1 (vF 0)) (s:=s7 [c] mn) rfl (xO (n+2) (c:=c) (m:=[]))
   rw [hk] at e
   refine MT ?_
   unfold D.tB
   rw [e];rfl
abbrev s5 (b:List Nat) (p:Nat):S:=⟨[sv (.str b),sv (.int (p:Nat)),none],[]⟩
theorem uU {D R:List Nat}{c:Nat}:jf (.str (D++c::R)) (.int (D.length:Nat))=some (.str [c]):=by
 show (atT (D++c::R) (D.length:Int)).map _=_
 rw [my (by simp)]
 simp
theorem acX (a b:List Nat):aU .NotEq (.str a) (.str b)=some (.bl (!decide (a=b))):=rfl
theorem acY (p:Nat):fj .Add (.int (p:Nat)) (.int 1)=some (.int ((p+1:Nat):Int)):=rfl
theorem mO {D R:List Nat}{c:Nat}(h:c≠91):cN (n+1) 5 [.str (D++c::R),.int (D.length:Nat)] m=.ok (.int ((D.length+1:Nat):Int),m):=by
 rw [w5]
 refine aI (m':=[]) rfl (aL (s':=s5 (D++c::R) D.length) rfl (fm (k7 (s':=s5 (D++c::R) D.length) ?_ (aK (aR rfl rfl (acY D.length))))) rfl) rfl
 have e:decide ([c]=[91])=false:=decide_eq_false (fun z=>h (by injection z))
 show _root_.D.cD _ (s5 (D++c::R) D.length)=_
 simp only [ev,dI,bA,cW,uU,acX,e,CU]
theorem mQ {D R ins:List Nat}(h:93 ∉ ins):cN (n+1) 5 [.str (D++91::(ins++93::R)),.int (D.length:Nat)] m=.ok (.int ((D.length+(ins.length+2):Nat):Int),m):=by
 rw [w5]
 have hf:=GK 93 D (91::ins) R (by intro z;rcases fB.mp z with z | z;(cases z);exact h z)
 have hf:lX (D++91::(ins++93::R)) [.str [93],.int (D.length:Nat)]=some (.int ((D.length+(ins.length+1):Nat):Int)):=hf
 refine aI (m':=[]) rfl (aL (s':=⟨[sv (.str (D++91::(ins++93::R))),sv (.int (D.length:Nat)),sv (.int ((D.length+(ins.length+1):Nat):Int))],[]⟩) rfl (seq1 (s':=s5 (D++91::(ins++93::R)) D.length) (ed (s':=s5 (D++91::(ins++93::R)) D.length) ?_ rfl) (seq1 (s':=⟨[sv (.str (D++91::(ins++93::R))),sv (.int (D.length:Nat)),sv (.int ((D.length+(ins.length+1):Nat):Int))],[]⟩) ?_ (seq1 (s':=⟨[sv (.str (D++91::(ins++93::R))),sv (.int (D.length:Nat)),sv (.int ((D.length+(ins.length+1):Nat):Int))],[]⟩) (ed (s':=⟨[sv (.str (D++91::(ins++93::R))),sv (.int (D.length:Nat)),sv (.int ((D.length+(ins.length+1):Nat):Int))],[]⟩) ?_ rfl) (aK (aR rfl rfl (acY (D.length+(ins.length+1)))))))) rfl) rfl
 ·show _root_.D.cD _ (s5 (D++91::(ins++93::R)) D.length)=_
  simp only [ev,dI,bA,cW,uU,acX,decide_true,CN]
 ·simp only [ev,dI,bA,cW,hf]
 ·have e:decide (((D.length+(ins.length+1):Nat):Int)=-1)=false:=decide_eq_false (by omega)
  simp only [ev,dI,bA,cW,G0,V9,e]
theorem BP {i:Itm}{D R:List Nat}(h:i.ok):cN (n+1) 5 [.str (D++(i.k.core++R)),.int (D.length:Nat)] m=.ok (.int ((D.length+i.k.core.length:Nat):Int),m):=by
 obtain ⟨k,mn⟩:=i
 obtain ⟨hk,hm⟩:=h
 cases k with
 | any=>exact mO n (by decide)
 | pl c=>exact mO n (fun z=>(j0 hk).2 (by rw [z];decide))
 | neg sg=>
  have:=mQ n (D:=D) (R:=R) (ins:=94::sg) (m:=m) (fun z=>by
   rcases fB.mp z with z | z
   ·cases z
   ·exact ((show Sg sg from hk).mem 93 z).2.1 rfl)
  simp only [IT.core,CI,lj,Io,dq,bL,dD] at this ⊢
  exact this
 | set sg=>
  have:=mQ n (D:=D) (R:=R) (ins:=sg) (m:=m) (fun z=>(hk.1.mem 93 z).2.1 rfl)
  simp only [IT.core,CI,lj,Io,dq,bL,dD] at this ⊢
  exact this
theorem Wb {c:FT}{b:FS}{f:Nat}{s s1 s2:S}{q:Res (Out × S)}(h:c s=.ok (true,s1)) (hb:b s1=.ok (.nx,s2)) (k:bV c b f s2=q):bV c b (f+1) s=q:=by
 rw [bV,h]
 refine Eq.trans (bA _ _) ?_
 dsimp only
 rw [if_pos rfl,hb]
 exact k
theorem acZ {c:FT}{b:FS}{f:Nat}{s s1:S}(h:c s=.ok (false,s1)):bV c b (f+1) s=.ok (.nx,s1):=by
 rw [bV,h]
 rfl
def aY:List Itm->List Nat
 | []=>[]
 | i::r=>i.k.core++(ky i.mn++aY r)
abbrev s6 (b:List Nat) (p:Nat):S:=⟨[sv (.str b),sv (.int (p:Nat))],[]⟩
theorem M0 {P R:List Nat}(h:∀ c,R.head?=some c->c ∉ [42,43,63]):cN (n+1) 6 [.str (P++R),.int (P.length:Nat)] m=.ok (.str [49],m):=by
 rw [w6]
 refine aI (m':=[]) rfl (aL (s':=s6 (P++R) P.length) rfl (seq1 (s':=s6 (P++R) P.length) (ed (s':=s6 (P++R) P.length) ?_ rfl) rfl) rfl) rfl
 show iY _ _ (s6 (P++R) P.length)=_
 unfold iY
 cases R with
 | nil=>
  have e:decide (((P.length:Nat):Int)<((P++[]).length:Nat))=false:=decide_eq_false (by simp)
  simp only [ev,dI,bA,cW,bq,gH,qR,e,vA,if_false]
 | cons c R=>
  have e:decide (((P.length:Nat):Int)<((P++c::R).length:Nat))=true:=decide_eq_true (by simp;omega)
  have e2:decide (c∈[42,43,63])=false:=decide_eq_false (h c rfl)
  simp only [ev,dI,bA,cW,bq,gH,qR,e,if_true,uU,GP,e2]
theorem mR {P R:List Nat}{c:Nat}(h:c∈[42,43,63]):cN (n+1) 6 [.str (P++c::R),.int (P.length:Nat)] m=.ok (.str [c],m):=by
 rw [w6]
 refine aI (m':=[]) rfl (aL (s':=s6 (P++c::R) P.length) rfl (fm (k7 (s':=s6 (P++c::R) P.length) ?_ (aK (aR rfl rfl uU)))) rfl) rfl
 show iY _ _ (s6 (P++c::R) P.length)=_
 unfold iY
 have e:decide (((P.length:Nat):Int)<((P++c::R).length:Nat))=true:=decide_eq_true (by simp;omega)
 have e2:decide (c∈[42,43,63])=true:=decide_eq_true h
 simp only [ev,dI,bA,cW,bq,gH,qR,e,if_true,uU,GP,e2]
theorem oU {i:Itm}(h:i.ok):∃ c l,i.k.core=c::l/\c ∉ [42,43,63]/\c≠94/\c≠36:=by
 obtain ⟨k,mn⟩:=i
 obtain ⟨hk,hm⟩:=h
 cases k with
 | any=>exact ⟨46,[],rfl,by decide,by decide,by decide⟩
 | neg sg=>exact ⟨91,_,rfl,by decide,by decide,by decide⟩
 | set sg=>exact ⟨91,_,rfl,by decide,by decide,by decide⟩
 | pl c=>
  have:=(j0 hk).2
  refine ⟨c,[],rfl,fun z=>this ?_,fun z=>this ?_,fun z=>this ?_⟩
  ·unfold npl;simp at z ⊢;omega
  ·rw [z];decide
  ·rw [z];decide
theorem oV {its:List Itm}(h:∀ i∈its,i.ok):∀ c,(aY its).head?=some c->c ∉ [42,43,63]/\c≠94:=by
 cases its with
 | nil=>intro c z;cases z
 | cons i r=>
  obtain ⟨d,l,e,h1,h2,_⟩:=oU (h i (eK ..))
  intro c z
  rw [aY,e] at z
  cases z
  exact ⟨h1,h2⟩
theorem M1 {i:Itm}{r:List Itm}{P:List Nat}(h:i.ok) (hr:∀ j∈r,j.ok):cN (n+1) 6 [.str (P++(i.k.core++(ky i.mn++aY r))),.int ((P.length+i.k.core.length:Nat):Int)] m=.ok (.str [i.mn],m):=by
 rw [<- lj,<- bL]
 unfold ky
 rcases h.m with e | e | e | e<;>rw [e]
 ·exact M0 n fun c z=>(oV hr c z).1
 ·exact mR n (by decide)
 ·exact mR n (by decide)
 ·exact mR n (by decide)
abbrev s4 (b:List Nat) (bR:List T) (p:Nat) (u v:Option C):S:=⟨[sv (.str b),some (.ol bR),sv (.int (p:Nat)),u,v],[]⟩
theorem uV (n:Nat):∀ (its:List Itm) (P:List Nat) (bR:List T) (f:Nat) (u v:Option C),(∀ i∈its,i.ok)->its.length<f->bR.length+its.length<=1000 ->
  ∃ p u' v',bV (_root_.D.cD (cz (aU .Lt) (vF 2) (bC bq (k1 (vF 0))))) (aj (aV 3 (ah (cN (n+4) 5) [] (k2 (vF 0) (vF 2)))) (aj (aV 4 (ah (cN (n+4) 6) [] (k2 (vF 0) (vF 3)))) (aj (i8 1 (ah (cN (n+4) 7) [] (k2 (jC (vF 0) (g9 (vF 2)) (g9 (vF 3))) (vF 4)))) (aV 2 (rC (_root_.D.cD (oE (vF 4) (cS [49]))) (vF 3) (oA (vF 3) (cI 1))))))) f (s4 (P++aY its) bR P.length u v)=.ok (.nx,s4 (P++aY its) (bR++its.map Itm.val) p u' v')
 | its,P,bR,0,u,v,_,hf,_=>absurd hf (N2 _)
 | [],P,bR,f+1,u,v,_,_,_=>by
  refine ⟨P.length,u,v,?_⟩
  rw [Cv,dR bR]
  refine acZ ?_
  have e:decide (((P.length:Nat):Int)<((P++aY []).length:Nat))=false:=decide_eq_false (by simp [aY])
  simp only [ev,dI,bA,cW,bq,gH,qR,e]
 | i::r,P,bR,f+1,u,v,h,hf,hl=>by
  have hi:=h i (eK ..)
  have hr:∀ j∈r,j.ok:=fun j hj=>h j (fG _ hj)
  rw [dq] at hf hl
  obtain ⟨c,l,ec,_⟩:=oU hi
  have eP:P++aY (i::r)=(P++i.k.core++ky i.mn)++aY r:=by rw [aY];simp
  obtain ⟨p,u',v',e⟩:=uV n r (P++i.k.core++ky i.mn) (bR++[i.val]) f (sv (.int ((P.length+i.k.core.length:Nat):Int))) (sv (.str [i.mn])) hr (by omega) (by rw [bL,Aa];omega)
  have ea:bR++(i::r).map Itm.val=bR++[i.val]++r.map Itm.val:=by simp
  refine ⟨p,u',v',Wb (s1:=s4 (P++aY (i::r)) bR P.length u v) (s2:=s4 (P++aY (i::r)) (bR++[i.val]) (P++i.k.core++ky i.mn).length (sv (.int ((P.length+i.k.core.length:Nat):Int))) (sv (.str [i.mn]))) ?_ (seq1 (s':=s4 (P++aY (i::r)) bR P.length (sv (.int ((P.length+i.k.core.length:Nat):Int))) v) ?_ (seq1 (s':=s4 (P++aY (i::r)) bR P.length (sv (.int ((P.length+i.k.core.length:Nat):Int))) (sv (.str [i.mn]))) ?_ (seq1 (s':=s4 (P++aY (i::r)) (bR++[i.val]) P.length (sv (.int ((P.length+i.k.core.length:Nat):Int))) (sv (.str [i.mn]))) ?_ ?_))) ?_⟩
  ·have e:decide (((P.length:Nat):Int)<((P++aY (i::r)).length:Nat))=true:=decide_eq_true (by rw [aY,ec];simp;omega)
   simp only [ev,dI,bA,cW,bq,gH,qR,e]
  ·exact df (aC (ts:=[.str (P++aY (i::r)),.int (P.length:Nat)]) (s':=s4 (P++aY (i::r)) bR P.length u v) rfl (BP (n+3) hi))
  ·exact df (aC (ts:=[.str (P++aY (i::r)),.int ((P.length+i.k.core.length:Nat):Int)]) (s':=s4 (P++aY (i::r)) bR P.length (sv (.int ((P.length+i.k.core.length:Nat):Int))) v) rfl (M1 (n+3) hi hr))
  ·refine BN (V8:=bR) (ts:=bR) rfl (aC (ts:=[.str i.k.core,.str [i.mn]]) (s':=s4 (P++aY (i::r)) bR P.length (sv (.int ((P.length+i.k.core.length:Nat):Int))) (sv (.str [i.mn]))) ?_ (xP n hi)) rfl (by omega)
   have ek:ba (P++aY (i::r)) (some ((P.length:Nat):Int)) (some ((P.length+i.k.core.length:Nat):Int))=i.k.core:=by rw [aY];exact MP P i.k.core _
   simp only [ev,dI,bA,cW,rB,ek]
  ·have cL:(P++i.k.core++ky i.mn).length=if i.mn=49 then P.length+i.k.core.length else P.length+i.k.core.length+1:=by
    unfold ky
    split
    ·simp
    ·rw [bL,bL];rfl
   have e49:decide ([i.mn]=[49])=decide (i.mn=49):=by apply decide_eq_decide.mpr;simp
   unfold rC
   simp only [ev,dI,bA,cW,mC,e49]
   rw [cL]
   by_cases z:i.mn=49
   ·rw [if_pos z,decide_eq_true z,if_pos rfl];rfl
   ·rw [if_neg z,decide_eq_false z,if_neg d_];rfl
  ·rw [ea,eP]
   exact e
theorem uW {its:List Itm}(h:∀ i∈its,i.ok) (hl:its.length<=8):cN (n+5) 4 [.str (aY its)] m=.ok (.lst (its.map Itm.val),m):=by
 rw [w4]
 obtain ⟨p,u,v,e⟩:=uV n its [] [] many none none h (by show its.length<1000000;omega) (by show 0+_<=_;omega)
 refine aI (m':=[]) rfl (aL (s':=⟨[sv (.str (aY its)),sv (.lst (its.map Itm.val)),sv (.int (p:Nat)),u,v],[]⟩) rfl (seq1 (s':=⟨[sv (.str (aY its)),some (.ol []),none,none,none],[]⟩) rfl (seq1 (s':=s4 (aY its) [] 0 none none) rfl (seq1 e rfl))) rfl) ?_
 have:∀ l:List Itm,aF (l.map Itm.val)=true:=fun l=>by
  induction l with
  | nil=>rfl
  | cons a l ih=>show ((true&&(true&&(true&&true)))&&aF (l.map Itm.val))=true;rw [ih];rfl
 exact this its
def fT (b:Bool):List Nat:=if b then [94] else []
def bT (b:Bool):List Nat:=if b then [36] else []
def cO (f:Bool) (its:List Itm) (b:Bool):List Nat:=fT f++(aY its++bT b)
def bX (f:Bool) (its:List Itm) (b:Bool):T:=.tup [.bl f,.lst (its.map Itm.val),.bl b]
theorem uX (a:List Nat) (c:Nat):HX [36] (a++[c])=decide (c=36):=by
 unfold HX
 have h1:decide ([36].length<=(a++[c]).length)=true:=decide_eq_true (by simp)
 have h2:(a++[c]).drop ((a++[c]).length - [36].length)=[c]:=by
  rw [show (a++[c]).length - [36].length=a.length by simp,yh]
 rw [h1,h2,CS,Ir]
 simp
theorem G2 {i:Itm}(h:i.ok):∃ a c,i.k.core++ky i.mn=a++[c]/\c≠36:=by
 have hc:∃ a c,i.k.core=a++[c]/\c≠36:=by
  obtain ⟨k,mn⟩:=i
  obtain ⟨hk,hm⟩:=h
  cases k with
  | any=>exact ⟨[],46,rfl,by decide⟩
  | neg sg=>exact ⟨91::94::sg,93,rfl,by decide⟩
  | set sg=>exact ⟨91::sg,93,rfl,by decide⟩
  | pl c=>exact ⟨[],c,rfl,fun z=>(j0 hk).2 (by rw [z];decide)⟩
 obtain ⟨a,c,e,gC⟩:=hc
 unfold ky
 split
 ·exact ⟨a,c,by rw [dR,e],gC⟩
 ·rename_i z
  refine ⟨i.k.core,i.mn,rfl,?_⟩
  rcases h.m with q | q | q | q<;>rw [q]<;>decide
theorem oW:∀ {its:List Itm},(∀ i∈its,i.ok)->aY its=[]\/∃ a c,aY its=a++[c]/\c≠36
 | [],_=>.inl rfl
 | i::r,h=>by
  right
  rcases oW (its:=r) fun j hj=>h j (fG _ hj) with e | ⟨a,c,e,hc⟩
  ·obtain ⟨a,c,e1,hc⟩:=G2 (h i (eK ..))
   exact ⟨a,c,by rw [aY,e,dR,e1],hc⟩
  ·exact ⟨i.k.core++(ky i.mn++a),c,by rw [aY,e];simp,hc⟩
theorem G3 {its:List Itm}(h:∀ i∈its,i.ok):HX [36] (aY its)=false:=by
 rcases oW h with e | ⟨a,c,e,hc⟩
 ·rw [e];rfl
 ·rw [e,uX,decide_eq_false hc]
theorem G4 {its:List Itm}(h:∀ i∈its,i.ok) (b:Bool):pre [94] (aY its++bT b)=false:=by
 cases e:aY its with
 | nil=>cases b<;>rfl
 | cons c l=>exact aX (Ne.symm (oV h c (by rw [e];rfl)).2)
theorem M3 {i:Itm}(h:i.ok):∀ c∈i.k.core++ky i.mn,c∈g_/\c≠47:=by
 intro c hc
 rcases iG.mp hc with z | z
 ·obtain ⟨k,mn⟩:=i
  obtain ⟨hk,hm⟩:=h
  have set:∀ sg,Sg sg->c∈sg->c∈g_/\c≠47:=fun sg g q=>⟨(g.mem c q).1,(g.mem c q).2.2.2.1⟩
  cases k with
  | any=>cases ie.mp z;decide
  | neg sg=>
   rcases fB.mp z with z | z
   ·rw [z];decide
   ·rcases iG.mp z with z | z
    ·rcases fB.mp z with z | z
     ·rw [z];decide
     ·exact set sg hk z
    ·rw [ie.mp z];decide
  | set sg=>
   rcases fB.mp z with z | z
   ·rw [z];decide
   ·rcases iG.mp z with z | z
    ·exact set sg hk.1 z
    ·rw [ie.mp z];decide
  | pl d=>
   rw [ie.mp z]
   exact ⟨(j0 hk).1,fun q=>(j0 hk).2 (by rw [q];decide)⟩
 ·unfold ky at z
  split at z
  ·cases z
  ·rw [ie.mp z]
   rcases h.m with q | q | q | q<;>rw [q]<;>decide
theorem uY:∀ {its:List Itm},(∀ i∈its,i.ok)->∀ c∈aY its,c∈g_/\c≠47
 | [],_,c,h=>by cases h
 | i::r,h,c,hc=>by
  rw [aY,<- lj] at hc
  rcases iG.mp hc with z | z
  ·exact M3 (h i (eK ..)) c z
  ·exact uY (fun j hj=>h j (fG _ hj)) c z
theorem mS {f b:Bool}{its:List Itm}(h:∀ i∈its,i.ok):∀ c∈cO f its b,c∈g_/\c≠47:=by
 intro c hc
 unfold cO at hc
 rcases iG.mp hc with z | z
 ·cases f with
  | true=>rw [ie.mp z];decide
  | false=>cases z
 ·rcases iG.mp z with z | z
  ·exact uY h c z
  ·cases b with
   | true=>rw [ie.mp z];decide
   | false=>cases z
theorem G5 {i:Itm}(h:i.ok):i.k.core.length<=15:=by
 obtain ⟨k,mn⟩:=i
 obtain ⟨hk,hm⟩:=h
 cases k with
 | any=>show 1<=15;decide
 | neg sg=>have:=(show Sg sg from hk).vp;simp [IT.core];omega
 | set sg=>have:=hk.1.vp;simp [IT.core];omega
 | pl c=>show 1<=15;decide
theorem uZ:∀ {its:List Itm},(∀ i∈its,i.ok)->(aY its).length<=16*its.length
 | [],_=>dU _
 | i::r,h=>by
  have h1:=G5 (h i (eK ..))
  have h2:=uZ (its:=r) fun j hj=>h j (fG _ hj)
  have h3:(ky i.mn).length<=1:=by unfold ky;split<;>simp
  rw [aY,bL,bL,dq]
  omega
theorem mT {f b:Bool}{its:List Itm}(h:∀ i∈its,i.ok) (hl:its.length<=8):(cO f its b).length<=130:=by
 have h1:=uZ h
 have h2:(fT f).length<=1:=by cases f<;>decide
 have h3:(bT b).length<=1:=by cases b<;>decide
 unfold cO
 rw [bL,bL]
 omega
abbrev s3 (x:List Nat) (a b c d:Option C):S:=⟨[sv (.str x),a,b,c,d],[]⟩
theorem xQ {f b:Bool}{its:List Itm}(h:∀ i∈its,i.ok) (hl:its.length<=8):cN (n+7) 3 [.str (cO f its b)] m=.ok (bX f its b,m):=by
 rw [w3]
 have e1:ah (cN (n+6) 0) [] (k2 (vF 0) (cS g_)) (s3 (cO f its b) none none none none)=.ok (.bl true,s3 (cO f its b) none none none none):=aC (ts:=[.str (cO f its b),.str g_]) (s':=s3 (cO f its b) none none none none) rfl (mF (n+5) (fun c hc=>(mS h c hc).1) (by have:=mT (f:=f) (b:=b) h hl;omega))
 refine aI (m':=[]) rfl (aL (s':=s3 (cO f its b) (sv (.bl f)) (sv (.str (aY its++bT b))) (sv (.bl b)) (sv (.lst (its.map Itm.val)))) rfl (seq1 (s':=s3 (cO f its b) none none none none) (ed (s':=s3 (cO f its b) none none none none) rfl rfl) (seq1 (s':=s3 (cO f its b) none none none none) (ed (s':=s3 (cO f its b) none none none none) ?_ rfl) (seq1 (s':=s3 (cO f its b) (sv (.bl f)) none none none) ?_ (seq1 (s':=s3 (cO f its b) (sv (.bl f)) (sv (.str (aY its++bT b))) none none) ?_ (seq1 (s':=s3 (cO f its b) (sv (.bl f)) (sv (.str (aY its++bT b))) (sv (.bl b)) none) ?_ (seq1 (s':=s3 (cO f its b) (sv (.bl f)) (sv (.str (aY its++bT b))) (sv (.bl b)) (sv (.lst (its.map Itm.val)))) ?_ (seq1 (s':=s3 (cO f its b) (sv (.bl f)) (sv (.str (aY its++bT b))) (sv (.bl b)) (sv (.lst (its.map Itm.val)))) (ed (s':=s3 (cO f its b) (sv (.bl f)) (sv (.str (aY its++bT b))) (sv (.bl b)) (sv (.lst (its.map Itm.val)))) ?_ rfl) (aK (dB (ts:=[.bl f,.lst (its.map Itm.val),.bl b]) rfl (MW _ _ _))))))))))  rfl) ?_
 ·refine MT ?_
  unfold D.tB
  exact Eq.trans (congrArg (fun z=>Res.bind z _) e1) rfl
 ·have e:pre [94] (cO f its b)=f:=by
   cases f with
   | true=>exact pre_app [94] (aY its++bT b)
   | false=>exact G4 h b
  simp only [ev,dI,bA,cW,rE,e]
 ·cases f with
  | true=>
   show Res.ok (Out.nx,iE _ 2 (.val (.str (ba (cO true its b) (some 1) none))))=_
   rw [show ba (cO true its b) (some 1) none=aY its++bT b from gP [94] (aY its++bT b)];rfl
  | false=>rfl
 ·have e:HX [36] (aY its++bT b)=b:=by
   cases b with
   | true=>rw [show aY its++bT true=aY its++[36] from rfl,uX];rfl
   | false=>rw [show aY its++bT false=aY its from dR _];exact G3 h
  simp only [ev,dI,bA,cW,WI,e]
 ·refine Eq.trans (df (t:=.lst (its.map Itm.val)) (s':=s3 (cO f its b) (sv (.bl f)) (sv (.str (aY its++bT b))) (sv (.bl b)) none) (aC (ts:=[.str (aY its)]) (s':=s3 (cO f its b) (sv (.bl f)) (sv (.str (aY its++bT b))) (sv (.bl b)) none) (aD (t:=.str (aY its)) (s1:=s3 (cO f its b) (sv (.bl f)) (sv (.str (aY its++bT b))) (sv (.bl b)) none) ?_ rfl) (uW (n+1) h hl))) rfl
  cases b with
  | true=>
   show Res.ok (T.str (ba (aY its++[36]) none (some (-1))),_)=_
   rw [mL]
  | false=>
   show Res.ok (T.str (aY its++[]),_)=_
   rw [dR]
 ·have e:decide ((8:Int)<((its.map Itm.val).length:Nat))=false:=decide_eq_false (by rw [dg];omega)
  simp only [ev,dI,bA,cW,bq,gH,qQ,e]
 ·have:∀ l:List Itm,aF (l.map Itm.val)=true:=fun l=>by
   induction l with
   | nil=>rfl
   | cons a l ih=>show ((true&&(true&&(true&&true)))&&aF (l.map Itm.val))=true;rw [ih];rfl
  show (true&&(aF (its.map Itm.val)&&(true&&true)))=true
  rw [this];rfl
theorem ac0 {f b:Bool}{its:List Itm}(h:∀ i∈its,i.ok) (hl:its.length<=8):Pt (cO f its b) (bX f its b):=⟨fun z=>(mS h 47 z).2 rfl,fun n m=>xQ n h hl⟩
theorem mU {α:Type}{g:FG}{c:FT}{e:FE}{b:List (Option C)}{m:List Ob}(v:α->T) (p:α->Bool):∀ {l:List α},(∀ x∈l,∃ b1 b2 b3,g (v x) b=some b1/\c ⟨b1,m⟩=.ok (p x,⟨b2,m⟩)/\e ⟨b2,m⟩=.ok (v x,⟨b3,m⟩))->cM g c e b (l.map v) m=.ok ((l.filter p).map v,m)
 | [],_=>rfl
 | x::l,h=>by
  obtain ⟨b1,b2,b3,h1,h2,h3⟩:=h x (eK ..)
  rw [gi,cM,h1]
  refine Eq.trans (bA _ _) ?_
  rw [h2]
  refine Eq.trans (bA _ _) ?_
  dsimp only
  have ih:=mU v p (l:=l) fun y hy=>h y (fG _ hy)
  cases hp:p x with
  | true=>
   rw [if_pos rfl,h3]
   refine Eq.trans (bA _ _) ?_
   dsimp only
   rw [ih,List.filter_cons_of_pos hp]
   rfl
  | false=>rw [if_neg d_,ih,List.filter_cons_of_neg (by rw [hp];exact d_)]
def WY (i:Itm):Bool:=eqT (.str [42]) (.str [i.mn]) || (eqT (.str [63]) (.str [i.mn]) || false)
theorem M4 {i:Itm}:cN (n+1) 14 [i.val] m=.ok (.bl (WY i),m):=by
 rw [w14]
 exact aI (m':=[]) rfl (aL (s':=⟨[sv i.val],[]⟩) rfl (aK (aR (t:=.str [i.mn]) (u:=.tup [.str [42],.str [63]]) rfl rfl rfl)) rfl) rfl
def least (its:List Itm):Nat:=(its.filter fun i=>!WY i).length
theorem xR (l:List Itm):aF (l.map Itm.val)=true:=by
 induction l with
 | nil=>rfl
 | cons a l ih=>show ((true&&(true&&(true&&true)))&&aF (l.map Itm.val))=true;rw [ih];rfl
theorem ee (f b:Bool) (its:List Itm):noOwn (bX f its b)=true:=by
 show (true&&(aF (its.map Itm.val)&&(true&&true)))=true
 rw [xR];rfl
theorem u4 {f b:Bool}{its:List Itm}(hl:its.length<=8):cN (n+2) 13 [bX f its b] m=.ok (.int (least its:Nat),m):=by
 rw [w13]
 refine aI (m':=[]) ?_ (aL (s':=⟨[sv (bX f its b)],[]⟩) rfl (aK (dB (ts:=[.lst ((its.filter fun i=>!WY i).map Itm.val)]) (aD (mE (kq (ts:=its.map Itm.val) (s1:=⟨[sv (bX f its b)],[]⟩) rfl (by rw [dg];omega) (mU Itm.val (fun i=>!WY i) fun i hi=>?_))) rfl) ?_)) rfl) rfl
 ·show (noOwn (bX f its b)&&true)=true
  rw [ee];rfl
 ·refine ⟨[none,sv i.val],[none,sv i.val],[none,sv i.val],rfl,?_,rfl⟩
  have e:ah (cN (n+1) 14) [] (k1 (vF 1)) ⟨[none,sv i.val],[]⟩=.ok (.bl (WY i),⟨[none,sv i.val],[]⟩):=aC (ts:=[i.val]) (s':=⟨[none,sv i.val],[]⟩) rfl (M4 n)
  unfold c_ D.tB
  rw [e];rfl
 ·show some (T.int (((its.filter fun i=>!WY i).map Itm.val).length:Nat))=_
  rw [dg];rfl
theorem empty_eq {f b:Bool}{its:List Itm}(hl:its.length<=8) (h0:0<least its):cN (n+3) 12 [bX f its b] m=.ok (.bl false,m):=by
 rw [w12]
 refine aI (m':=[]) ?_ (aL (s':=⟨[sv (bX f its b)],[]⟩) rfl (aK (aR (t:=.int (least its:Nat)) (u:=.int 0) (s1:=⟨[sv (bX f its b)],[]⟩) (aC (ts:=[bX f its b]) (s':=⟨[sv (bX f its b)],[]⟩) rfl (u4 n hl)) rfl ?_)) rfl) rfl
 ·show (noOwn (bX f its b)&&true)=true
  rw [ee];rfl
 ·rw [V9,decide_eq_false (by omega)]
abbrev oX (f b:Bool) (its:List Itm) (l:List Nat) (e:Bool):T:=.obj 17 [bX f its b,.str l,.bl e]
theorem u6 {f b e:Bool}{its:List Itm}{l:List Nat}(hl:its.length<=8) (h0:0<least its) (he:e=false\/l.length<=least its):cN (n+4) 29 [oX f b its l e] m=.ok (.bl true,m):=by
 rw [w29]
 refine aI (m':=[]) ?_ (aL (s':=⟨[sv (oX f b its l e)],[]⟩) rfl (seq1 (s':=⟨[sv (oX f b its l e)],[]⟩) (ed (s':=⟨[sv (oX f b its l e)],[]⟩) ?_ rfl) (aK ?_)) rfl) rfl
 ·show ((noOwn (bX f its b)&&(true&&(true&&true)))&&true)=true
  rw [ee];rfl
 ·have e1:ah (cN (n+3) 12) [] (k1 (aE M.P.tab 4 (vF 0))) ⟨[sv (oX f b its l e)],[]⟩=.ok (.bl false,⟨[sv (oX f b its l e)],[]⟩):=aC (ts:=[bX f its b]) (s':=⟨[sv (oX f b its l e)],[]⟩) rfl (empty_eq n hl h0)
  unfold D.tB
  exact Eq.trans (congrArg (fun z=>Res.bind z _) e1) rfl
 ·cases e with
  | false=>rfl
  | true=>
   have hle:l.length<=least its:=he.resolve_left (by decide)
   have e1:ah (cN (n+3) 13) [] (k1 (aE M.P.tab 4 (vF 0))) ⟨[sv (oX f b its l true)],[]⟩=.ok (.int (least its:Nat),⟨[sv (oX f b its l true)],[]⟩):=aC (ts:=[bX f its b]) (s':=⟨[sv (oX f b its l true)],[]⟩) rfl (u4 (n+1) hl)
   have e2:aU .LtE (.int (l.length:Nat)) (.int (least its:Nat))=some (.bl true):=by
    show some (T.bl (decide (((l.length:Nat):Int)<=(least its:Nat))))=_
    rw [decide_eq_true (by omega)]
   show cz (aU .LtE) (bC bq (k1 (aE M.P.tab 10 (vF 0)))) (ah (cN (n+3) 13) [] (k1 (aE M.P.tab 4 (vF 0)))) ⟨[sv (oX f b its l true)],[]⟩=_
   exact aR (t:=.int (l.length:Nat)) (s1:=⟨[sv (oX f b its l true)],[]⟩) rfl e1 e2
def DD.u7:DD->Prop
 | .tell=>False
 | .swap e _ t l=>∃ f its b,t=bX f its b/\its.length<=8/\0<least its/\(e=false\/l.length<=least its)
 | _=>True
def DD.atEnd:DD->Prop
 | .tell=>True
 | .say _=>True
 | .bring _=>True
 | _=>False
def LN.u7:LN->Prop
 | .mark _=>True
 | .bare x=>x.u7
 | .full .fin x=>x.atEnd
 | .full _ x=>x.u7
abbrev s2 (a b:T):S:=⟨[sv a,sv b],[]⟩
theorem G6 {cv dv:T}(h1:dc M.P.sub [10] cv=some (.bl false)) (h2:dc M.P.sub [17] dv=some (.bl false)) (h3:dc M.P.sub [23] dv=some (.bl false)) (hc:noOwn cv=true) (hd:noOwn dv=true):cN (n+7) 28 [cv,dv] m=.ok (.bl true,m):=by
 rw [w28]
 refine aI (m':=[]) ?_ (aL (s':=s2 cv dv) rfl (seq1 (s':=s2 cv dv) (ed (s':=s2 cv dv) (dH (t:=cv) rfl h1) rfl) (seq1 (s':=s2 cv dv) (ed (s':=s2 cv dv) (dH (t:=dv) rfl h2) rfl) (aK ?_))) rfl) rfl
 ·show (noOwn cv&&(noOwn dv&&true))=true
  rw [hc,hd];rfl
 ·have e:b8 (dc M.P.sub [23]) (vF 1) (s2 cv dv)=.ok (.bl false,s2 cv dv):=by
   simp only [ev,dI,bA,cW,h3]
  unfold wY
  exact Eq.trans (congrArg (fun z=>Res.bind z _) e) rfl
theorem M5 {cv:T}{f b e:Bool}{its:List Itm}{l:List Nat}(h1:dc M.P.sub [10] cv=some (.bl false)) (hl:its.length<=8) (h0:0<least its) (he:e=false\/l.length<=least its) (hc:noOwn cv=true):cN (n+7) 28 [cv,oX f b its l e] m=.ok (.bl true,m):=by
 rw [w28]
 refine aI (m':=[]) ?_ (aL (s':=s2 cv (oX f b its l e)) rfl (seq1 (s':=s2 cv (oX f b its l e)) (ed (s':=s2 cv (oX f b its l e)) (dH (t:=cv) rfl h1) rfl) (fm (k7 (s':=s2 cv (oX f b its l e)) (dH (t:=oX f b its l e) rfl rfl) (aK (aC (ts:=[oX f b its l e]) (s':=s2 cv (oX f b its l e)) rfl (u6 (n+2) hl h0 he)))))) rfl) rfl
 show (noOwn cv&&((noOwn (bX f its b)&&(true&&(true&&true)))&&true))=true
 rw [hc,ee];rfl
theorem xS {cv dv:T}(h1:dc M.P.sub [10] cv=some (.bl true)) (h2:dc M.P.sub [16,20,23] dv=some (.bl true)) (hc:noOwn cv=true) (hd:noOwn dv=true):cN (n+7) 28 [cv,dv] m=.ok (.bl true,m):=by
 rw [w28]
 refine aI (m':=[]) ?_ (aL (s':=s2 cv dv) rfl (fm (k7 (s':=s2 cv dv) (dH (t:=cv) rfl h1) (aK ?_))) rfl) rfl
 ·show (noOwn cv&&(noOwn dv&&true))=true
  rw [hc,hd];rfl
 ·simp only [ev,dI,bA,cW,h2]
theorem G7 (x:RP):dc M.P.sub [10] x.val=some (.bl false):=by cases x<;>rfl
theorem G8 (x:PC):dc M.P.sub [10] x.val=some (.bl false):=by
 cases x with
 | rp x=>exact G7 x
 | _=>rfl
theorem qW {cv:T}{x:DD}(h1:dc M.P.sub [10] cv=some (.bl false)) (hf:x.u7) (hc:noOwn cv=true) (hd:noOwn x.val=true) (n:Nat) (m:List Ob):cN (n+7) 28 [cv,x.val] m=.ok (.bl true,m):=by
 cases x with
 | tell=>cases hf
 | swap e w t l=>
  obtain ⟨f,its,b,rfl,h2,h3,h4⟩:=hf
  exact M5 n h1 h2 h3 h4 hc
 | _=>exact G6 n h1 rfl rfl hc hd
theorem qX {x:LN}(h:x.u7) (hc:noOwn x.cond=true) (hd:noOwn x.eS=true):mH x:=fun n m=>by
 cases x with
 | mark a=>exact G6 n rfl rfl rfl hc hd
 | bare x=>exact qW rfl h hc hd n m
 | full c x=>
  cases c with
  | fin=>
   cases x with
   | tell=>exact xS n rfl rfl hc hd
   | say l=>exact xS n rfl rfl hc hd
   | bring a=>exact xS n rfl rfl hc hd
   | _=>cases h
  | no y=>exact qW rfl h hc hd n m
  | pc y=>exact qW (G8 y) h hc hd n m
theorem ac1 {x:LN}(h:x.ok) (hf:x.u7) (hc:noOwn x.cond=true) (hd:noOwn x.eS=true):Lk x:=⟨h,qX hf hc hd,by
 show (noOwn x.cond&&(noOwn x.eS&&true))=true
 rw [hc,hd];rfl⟩
theorem G9 {c:Nat}(h:Ih c=true):cN (n+2) 9 [.str [c],.bl false] m=.ok (.bl true,m):=by
 rw [w9]
 refine aI (m':=[]) rfl (aL (s':=s2 (.str [c]) (.bl false)) rfl (aK (oS (x:=true) (y:=true) (s1:=s2 (.str [c]) (.bl false)) rfl fun _=>oS (x:=true) (y:=true) (s1:=s2 (.str [c]) (.bl false)) rfl fun _=>?_)) rfl) rfl
 have:=aC (ds:=[]) (ts:=[.str [c]]) (s':=s2 (.str [c]) (.bl false)) (fl:=k1 (vF 0)) (s:=s2 (.str [c]) (.bl false)) rfl (xO n (c:=c) (m:=[]))
 rw [h] at this
 exact this
theorem G_ {i:Itm}(h:i.ok):cN (n+3) 11 [.str i.k.sg,.bl i.k.ot] m=.ok (.str i.k.core,m):=by
 obtain ⟨k,mn⟩:=i
 obtain ⟨hk,hm⟩:=h
 rw [w11]
 have ne:∀ sg:List Nat,sg≠[]->∀ ot,_root_.D.cD (oE (vF 0) (cS [])) (s2 (.str sg) (.bl ot))=.ok (false,s2 (.str sg) (.bl ot)):=fun sg gC ot=>by
  have e:decide (sg=[])=false:=decide_eq_false gC
  simp only [ev,dI,bA,cW,mC,e]
 have iw:∀ (sg:List Nat) (b:Bool),cN (n+2) 9 [.str sg,.bl false] []=.ok (.bl b,[])->_root_.D.tB (ah (cN (n+2) 9) [] (k2 (vF 0) (vF 1))) (s2 (.str sg) (.bl false))=.ok (b,s2 (.str sg) (.bl false)):=fun sg b q=>by
  have e:=aC (ds:=[]) (ts:=[.str sg,.bl false]) (s':=s2 (.str sg) (.bl false)) (fl:=k2 (vF 0) (vF 1)) (s:=s2 (.str sg) (.bl false)) rfl q
  unfold _root_.D.tB
  exact Eq.trans (congrArg (fun z=>Res.bind z _) e) rfl
 have wr:∀ (u v sg:List Nat) (ot:Bool),sg.length<=12->b8 (oH u v) (vF 0) (s2 (.str sg) (.bl ot))=.ok (.str (u++sg++v),s2 (.str sg) (.bl ot)):=fun u v sg ot hl=>by
  have e:oH u v (.str sg)=some (.str (u++sg++v)):=nS (by omega)
  simp only [ev,dI,bA,cW,e]
 cases k with
 | any=>exact aI (m':=[]) rfl (aL (s':=s2 (.str []) (.bl true)) rfl (fm (k7 (s':=s2 (.str []) (.bl true)) rfl rfl)) rfl) rfl
 | neg sg=>
  have g:Sg sg:=hk
  exact aI (m':=[]) rfl (aL (s':=s2 (.str sg) (.bl true)) rfl (seq1 (ed (ne sg g.ne true) rfl) (fm (k7 (s':=s2 (.str sg) (.bl true)) rfl (aK (wr [91,94] [93] sg true g.vp))))) rfl) rfl
 | set sg=>
  obtain ⟨g,hs⟩:=hk
  exact aI (m':=[]) rfl (aL (s':=s2 (.str sg) (.bl false)) rfl (seq1 (ed (ne sg g.ne false) rfl) (seq1 (s':=s2 (.str sg) (.bl false)) (ed (s':=s2 (.str sg) (.bl false)) rfl rfl) (seq1 (ed (iw sg false (G1 n hs)) rfl) (aK (wr [91] [93] sg false g.vp))))) rfl) rfl
 | pl c=>
  exact aI (m':=[]) rfl (aL (s':=s2 (.str [c]) (.bl false)) rfl (seq1 (ed (ne [c] (by simp) false) rfl) (seq1 (s':=s2 (.str [c]) (.bl false)) (ed (s':=s2 (.str [c]) (.bl false)) rfl rfl) (fm (k7 (iw [c] true (G9 n hk)) rfl)))) rfl) rfl
def mV:List Itm->List (List Nat)
 | []=>[]
 | i::r=>i.k.core::ky i.mn::mV r
theorem u9:∀ its:List Itm,(mV its).flatten=aY its
 | []=>rfl
 | i::r=>by
  show i.k.core++(ky i.mn++(mV r).flatten)=_
  rw [u9 r];rfl
theorem zJ:∀ its:List Itm,(mV its).length=2*its.length
 | []=>rfl
 | i::r=>by
  show (mV r).length+1+1=2*(r.length+1)
  rw [zJ r];omega
abbrev DJ (o:T) (bR:List (List Nat)) (u v w:Option C):S:=⟨[sv o,some (.ol (bR.map T.str)),u,v,w],[]⟩
theorem mW (n:Nat) {o:T}:∀ (its:List Itm) (bR:List (List Nat)) (u v w:Option C),(∀ i∈its,i.ok)->bR.length+2*its.length<=1000->∃ u' v' w',fL (ia [2,3,4]) (aj (i8 1 (ah (cN (n+3) 11) [] (k2 (vF 2) (vF 3)))) (i8 1 (rC (_root_.D.cD (oE (vF 4) (cS [49]))) (cS []) (vF 4)))) (its.map Itm.val) (DJ o bR u v w)=.ok (.nx,DJ o (bR++mV its) u' v' w')
 | [],bR,u,v,w,_,_=>⟨u,v,w,by rw [show bR++mV []=bR from dR _];rfl⟩
 | i::r,bR,u,v,w,h,hl=>by
  have hi:=h i (eK ..)
  rw [dq] at hl
  obtain ⟨u',v',w',e⟩:=mW n r (bR++[i.k.core,ky i.mn]) (sv (.str i.k.sg)) (sv (.bl i.k.ot)) (sv (.str [i.mn])) (fun j hj=>h j (fG _ hj)) (by rw [bL];show bR.length+2+_<=_;omega)
  have e1:bR++mV (i::r)=bR++[i.k.core,ky i.mn]++mV r:=by simp [mV]
  rw [e1]
  refine ⟨u',v',w',jv (r:=[sv o,some (.ol (bR.map T.str)),sv (.str i.k.sg),sv (.bl i.k.ot),sv (.str [i.mn])]) rfl (s1:=DJ o (bR++[i.k.core,ky i.mn]) (sv (.str i.k.sg)) (sv (.bl i.k.ot)) (sv (.str [i.mn]))) (seq1 (BN (V8:=bR.map T.str) (ts:=bR.map T.str) (t:=.str i.k.core) rfl (aC (ts:=[.str i.k.sg,.bl i.k.ot]) (s':=DJ o bR (sv (.str i.k.sg)) (sv (.bl i.k.ot)) (sv (.str [i.mn]))) rfl (G_ n hi)) rfl (by rw [dg];omega)) ?_) e⟩
  refine Eq.trans (BN (V8:=bR.map T.str++[.str i.k.core]) (ts:=bR.map T.str++[.str i.k.core]) (t:=.str (ky i.mn)) (s1:=⟨[sv o,some (.ol (bR.map T.str++[.str i.k.core])),sv (.str i.k.sg),sv (.bl i.k.ot),sv (.str [i.mn])],[]⟩) rfl ?_ rfl (by rw [bL,dg];show _+1<_;omega)) ?_
  ·have e49:decide ([i.mn]=[49])=decide (i.mn=49):=by apply decide_eq_decide.mpr;simp
   show rC _ _ _ ⟨[sv o,some (.ol (bR.map T.str++[.str i.k.core])),sv (.str i.k.sg),sv (.bl i.k.ot),sv (.str [i.mn])],[]⟩=_
   unfold rC ky
   simp only [ev,dI,bA,cW,mC,e49]
   by_cases z:i.mn=49
   ·rw [decide_eq_true z,if_pos rfl,if_pos z]
   ·rw [decide_eq_false z,if_neg d_,if_neg z]
  ·show Res.ok (Out.nx,(⟨[sv o,some (.ol (bR.map T.str++[.str i.k.core]++[.str (ky i.mn)])),_,_,_],[]⟩:S))=_
   rw [show bR.map T.str++[.str i.k.core]++[.str (ky i.mn)]=(bR++[i.k.core,ky i.mn]).map T.str by simp]
theorem strs_map:∀ l:List (List Nat),strsOf (l.map T.str)=some l
 | []=>rfl
 | a::l=>by
  show (strsOf (l.map T.str)).map (a::·)=_
  rw [strs_map l];rfl
theorem join_nil:∀ l:List (List Nat),a8 [] l=l.flatten
 | []=>rfl
 | [a]=>by simp [a8]
 | a::b::r=>by
  show a++[]++a8 [] (b::r)=_
  rw [join_nil (b::r)];simp
theorem join_eq {l:List (List Nat)}(h:l.flatten.length<=100000):joinM [] [.lst (l.map T.str)]=some (.str l.flatten):=by
 show yz (.str []) (.lst (l.map T.str))=_
 unfold yz
 dsimp only
 rw [strs_map]
 show gd _ _=_
 rw [List.length_flatten] at h
 have h:(l.map (·.length)).sum<=100000:=h
 rw [nS (by rw [dD,Nat.mul_zero];omega),join_nil]
theorem xU {f b:Bool}{its:List Itm}(h:∀ i∈its,i.ok) (hl:its.length<=8):cN (n+4) 10 [bX f its b] m=.ok (.str (cO f its b),m):=by
 rw [w10]
 obtain ⟨u,v,w,e⟩:=mW n (o:=bX f its b) its [fT f] none none none h (by show 1+_<=_;omega)
 have ef:([fT f]++mV its++[bT b]).flatten=cO f its b:=by
  rw [yi,yi,u9]
  simp [cO]
 refine aI (m':=[]) ?_ (aL (s':=⟨[sv (bX f its b),sv (.lst (([fT f]++mV its++[bT b]).map T.str)),u,v,w],[]⟩) rfl (seq1 (s':=DJ (bX f its b) [fT f] none none none) ?_ (seq1 (MV (ts:=its.map Itm.val) (s1:=DJ (bX f its b) [fT f] none none none) rfl e) (seq1 (s':=DJ (bX f its b) ([fT f]++mV its++[bT b]) u v w) ?_ (aK ?_)))) rfl) rfl
 ·show (noOwn (bX f its b)&&true)=true
  rw [ee];rfl
 ·cases f<;>rfl
 ·refine Eq.trans (BN (V8:=([fT f]++mV its).map T.str) (ts:=([fT f]++mV its).map T.str) (t:=.str (bT b)) (s1:=DJ (bX f its b) ([fT f]++mV its) u v w) rfl (by cases b<;>rfl) rfl (by rw [dg,bL,zJ];show 1+_<_;omega)) ?_
  show Res.ok (Out.nx,(⟨[sv (bX f its b),some (.ol (([fT f]++mV its).map T.str++[.str (bT b)])),u,v,w],[]⟩:S))=_
  rw [show ([fT f]++mV its).map T.str++[.str (bT b)]=([fT f]++mV its++[bT b]).map T.str by simp]
 ·have ej:=join_eq (l:=[fT f]++mV its++[bT b]) (by rw [ef];have:=mT (f:=f) (b:=b) h hl;omega)
  rw [ef] at ej
  have e1:vF 1 (DJ (bX f its b) ([fT f]++mV its++[bT b]) u v w)=.ok (.lst (([fT f]++mV its++[bT b]).map T.str),⟨[sv (bX f its b),sv (.lst (([fT f]++mV its++[bT b]).map T.str)),u,v,w],[]⟩):=rfl
  simp only [ev,bA,cW,e1,ej]
abbrev S1 (v:T):S:=⟨[sv v],[]⟩
theorem bh {a b:List Nat}(h:a.length+b.length<=1000000):fj .Add (.str a) (.str b)=some (.str (a++b)):=nS h
section
variable {d:List Nat}{v t:T}{A B:FS}{R:Res (Out × S)}{s':S}
theorem bN (h:dc M.P.sub d v=some (.bl false)) (q:B (S1 v)=R):aj (bu (_root_.D.tB (b8 (dc M.P.sub d) (vF 0))) A aG) B (S1 v)=R:=seq1 (ed (dH (t:=v) rfl h) rfl) q
theorem qY (h:dc M.P.sub d v=some (.bl true)) (q:A (S1 v)=.ok (.rt t,s')):aj (bu (_root_.D.tB (b8 (dc M.P.sub d) (vF 0))) A aG) B (S1 v)=.ok (.rt t,s'):=fm (k7 (dH (t:=v) rfl h) q)
end
def qZ (w:List Nat) (t:T):Prop:=∃ f its b,(∀ i∈its,i.ok)/\its.length<=8/\w=cO f its b/\t=bX f its b
theorem qZ.pt {w:List Nat}{t:T}(h:qZ w t):Pt w t:=by
 obtain ⟨f,its,b,h1,h2,rfl,rfl⟩:=h
 exact ac0 h1 h2
theorem qZ.no {w:List Nat}{t:T}(h:qZ w t):noOwn t=true:=by
 obtain ⟨f,its,b,h1,h2,rfl,rfl⟩:=h
 exact ee _ _ _
theorem qZ.len {w:List Nat}{t:T}(h:qZ w t):w.length<=130:=by
 obtain ⟨f,its,b,h1,h2,rfl,rfl⟩:=h
 exact mT h1 h2
structure nT (d:List Nat) (v:Int):Prop where
 nm:Nm d v
 st:strN [.int v]=some (.str d)
abbrev j1 (w:List Nat):List Nat:=47::(w++[47])
theorem mX {w:List Nat}{t:T}(h:qZ w t):cN (n+5) 39 [t] m=.ok (.str (j1 w),m):=by
 have hl:=h.len
 have hn:=h.no
 obtain ⟨f,its,b,h1,h2,rfl,rfl⟩:=h
 rw [w39]
 refine aI (m':=[]) ?_ (aL (s':=S1 (bX f its b)) rfl (aK (aR (t:=.str ([47]++cO f its b)) (u:=.str [47]) (s1:=S1 (bX f its b)) (aR (t:=.str [47]) (u:=.str (cO f its b)) (s1:=S1 (bX f its b)) rfl (aC (ts:=[bX f its b]) (s':=S1 (bX f its b)) rfl (xU n h1 h2)) (bh (by show 1+_<=_;omega))) rfl (bh (by rw [bL];show 1+_+1<=_;omega)))) rfl) rfl
 show (noOwn (bX f its b)&&true)=true
 rw [hn];rfl
theorem oY {l:List Nat}(h:l.length<=40):cN (n+1) 40 [.str l] m=.ok (.str (34::(l++[34])),m):=by
 rw [w40]
 exact aI (m':=[]) rfl (aL (s':=S1 (.str l)) rfl (aK (aR (t:=.str ([34]++l)) (u:=.str [34]) (s1:=S1 (.str l)) (aR (t:=.str [34]) (u:=.str l) (s1:=S1 (.str l)) rfl rfl (bh (by show 1+_<=_;omega))) rfl (bh (by rw [bL];show 1+_+1<=_;omega)))) rfl) rfl
def RP.dQ:RP->Prop
 | .row d v=>nT d v
 | .like w t=>qZ w t
noncomputable def RP.sh:RP->List Nat
 | .row d _=>[114,111,119,32]++d
 | .like w _=>j1 w
theorem zK {x:RP}(h:x.dQ):noOwn x.val=true:=by
 cases x with
 | row d v=>rfl
 | like w t=>
  show (noOwn t&&true)=true
  rw [(show qZ w t from h).no];rfl
theorem mY {x:RP}(h:x.dQ):x.sh.length<=140:=by
 cases x with
 | row d v=>
  have:=(show nT d v from h).nm.hl
  show ([114,111,119,32]++d).length<=140
  rw [bL];show 4+_<=_;omega
 | like w t=>
  have:=(show qZ w t from h).len
  show (47::(w++[47])).length<=140
  rw [dq,bL];show _+1+1<=_;omega
theorem B6 {t:T}(h:noOwn t=true):aF [t]=true:=by
 show (noOwn t&&true)=true
 rw [h];rfl
theorem q_ {x:RP}(h:x.dQ):cN (n+6) 37 [x.val] m=.ok (.str x.sh,m):=by
 rw [WV]
 refine aI (m':=[]) (B6 (zK h)) ?_ rfl
 refine aL (s':=S1 x.val) rfl ?_ rfl
 cases x with
 | row d v=>
  have hn:nT d v:=h
  have hl:=hn.nm.hl
  refine qY rfl (aK (aR (t:=.str [114,111,119,32]) (u:=.str d) (s1:=S1 (.obj 4 [.int v])) rfl (dB (ts:=[.int v]) rfl hn.st) (bh (by show 4+_<=_;omega))))
 | like w t=>exact bN rfl (bN rfl (qY rfl (aK (aC (ts:=[t]) (s':=S1 (.obj 6 [t])) rfl (mX n h)))))
def PC.dQ:PC->Prop
 | .last=>True
 | .soon d v w t=>nT d v/\qZ w t
 | .ft x y=>x.dQ/\y.dQ
 | .rp x=>x.dQ
noncomputable def PC.sh:PC->List Nat
 | .last=>[108,97,115,116]
 | .soon d _ w _=>[115,111,111,110,32]++d++[32]++j1 w
 | .ft x y=>[102,114,111,109,32]++x.sh++[32,116,111,32]++y.sh
 | .rp x=>x.sh
theorem mZ {x:PC}(h:x.dQ):noOwn x.val=true:=by
 cases x with
 | last=>rfl
 | soon d v w t=>
  show (true&&(noOwn t&&true))=true
  rw [h.2.no];rfl
 | ft x y=>
  show (noOwn x.val&&(noOwn y.val&&true))=true
  rw [zK h.1,zK h.2];rfl
 | rp x=>exact zK h
theorem zL {x:PC}(h:x.dQ):cN (n+7) 37 [x.val] m=.ok (.str x.sh,m):=by
 cases x with
 | rp x=>exact q_ (n+1) h
 | last=>
  rw [WV]
  exact aI (m':=[]) rfl (aL (s':=S1 (.obj 5 [])) rfl (bN rfl (qY rfl rfl)) rfl) rfl
 | soon d v w t=>
  obtain ⟨hn,hp⟩:=h
  have h1:=hn.nm.hl
  have h2:=hp.len
  rw [WV]
  refine aI (m':=[]) (B6 (mZ (x:=.soon d v w t) ⟨hn,hp⟩)) (aL (s':=S1 (.obj 7 [.int v,t])) rfl (bN rfl (bN rfl (bN rfl (qY rfl (aK (aR (t:=.str ([115,111,111,110,32]++d++[32])) (u:=.str (j1 w)) (s1:=S1 (.obj 7 [.int v,t])) (aR (t:=.str ([115,111,111,110,32]++d)) (u:=.str [32]) (s1:=S1 (.obj 7 [.int v,t])) (aR (t:=.str [115,111,111,110,32]) (u:=.str d) (s1:=S1 (.obj 7 [.int v,t])) rfl (dB (ts:=[.int v]) rfl hn.st) (bh (by show 5+_<=_;omega))) rfl (bh (by rw [bL];show 5+_+1<=_;omega))) (aC (ts:=[t]) (s':=S1 (.obj 7 [.int v,t])) rfl (mX (n+1) hp)) (bh (by simp only [bL,dq,dD];omega)))))))) rfl) rfl
 | ft x y=>
  have h1:=mY h.1
  have h2:=mY h.2
  rw [WV]
  refine aI (m':=[]) (B6 (mZ (x:=.ft x y) h)) (aL (s':=S1 (.obj 8 [x.val,y.val])) rfl (bN rfl (bN rfl (bN rfl (bN rfl (qY rfl (aK (aR (t:=.str ([102,114,111,109,32]++x.sh++[32,116,111,32])) (u:=.str y.sh) (s1:=S1 (.obj 8 [x.val,y.val])) (aR (t:=.str ([102,114,111,109,32]++x.sh)) (u:=.str [32,116,111,32]) (s1:=S1 (.obj 8 [x.val,y.val])) (aR (t:=.str [102,114,111,109,32]) (u:=.str x.sh) (s1:=S1 (.obj 8 [x.val,y.val])) rfl (aC (ts:=[x.val]) (s':=S1 (.obj 8 [x.val,y.val])) rfl (q_ n h.1)) (bh (by show 5+_<=_;omega))) rfl (bh (by rw [bL];show 5+_+4<=_;omega))) (aC (ts:=[y.val]) (s':=S1 (.obj 8 [x.val,y.val])) rfl (q_ n h.2)) (bh (by simp only [bL,dq,dD];omega))))))))) rfl) rfl
theorem afH {c:FT}{a b:FE}{s s1:S}{q:Res (T × S)}(h:c s=.ok (false,s1)) (k:b s1=q):rC c a b s=q:=by unfold rC;rw [h];exact k
def CD.dQ:CD->Prop
 | .fin=>True
 | .no x=>x.dQ
 | .pc x=>x.dQ
noncomputable def CD.sh:CD->List Nat
 | .fin=>[101,110,100]
 | .no x=>[110,111,116,32]++x.sh
 | .pc x=>x.sh
theorem rf {x:PC}(h:x.dQ):x.sh.length<=300:=by
 cases x with
 | last=>show 4<=300;decide
 | soon d v w t=>
  have h1:=h.1.nm.hl
  have h2:=h.2.len
  simp only [PC.sh,bL,dq,dD];omega
 | ft x y=>
  have h1:=mY h.1
  have h2:=mY h.2
  simp only [PC.sh,bL,dq,dD];omega
 | rp x=>have:=mY (show x.dQ from h);show x.sh.length<=300;omega
theorem Qv {x:CD}(h:x.dQ):noOwn x.val=true:=by
 cases x with
 | fin=>rfl
 | no x=>
  show (noOwn x.val&&true)=true
  rw [mZ h];rfl
 | pc x=>exact mZ h
theorem xV {x:CD}(h:x.dQ):x.sh.length<=310:=by
 cases x with
 | fin=>show 3<=310;decide
 | no x=>have:=rf (show x.dQ from h);simp only [CD.sh,bL,dq,dD];omega
 | pc x=>have:=rf (show x.dQ from h);show x.sh.length<=310;omega
theorem M6 {x:CD}(h:x.dQ):cN (n+8) 37 [x.val] m=.ok (.str x.sh,m):=by
 cases x with
 | pc x=>exact zL (n+1) h
 | fin=>
  rw [WV]
  exact aI (m':=[]) rfl (aL (s':=S1 (.obj 10 [])) rfl (bN rfl (bN rfl (bN rfl (bN rfl (bN rfl (bN rfl rfl)))))) rfl) rfl
 | no x=>
  have h1:=rf (show x.dQ from h)
  rw [WV]
  exact aI (m':=[]) (B6 (Qv (x:=.no x) h)) (aL (s':=S1 (.obj 9 [x.val])) rfl (bN rfl (bN rfl (bN rfl (bN rfl (bN rfl (qY rfl (aK (aR (t:=.str [110,111,116,32]) (u:=.str x.sh) (s1:=S1 (.obj 9 [x.val])) rfl (aC (ts:=[x.val]) (s':=S1 (.obj 9 [x.val])) rfl (zL n h)) (bh (by show 4+_<=_;omega))))))))))  rfl) rfl
def DD.dQ:DD->Prop
 | .swap _ w t _=>qZ w t
 | .join d v=>nT d v
 | .pileN _ d v=>nT d v
 | .add d v d2 v2=>nT d v/\nT d2 v2
 | _=>True
def M7 (e:Bool):List Nat:=if e then [115,119,97,112,32,101,118,101,114,121,32] else [115,119,97,112,32]
noncomputable def DD.sh:DD->List Nat
 | .drop=>[100,114,111,112]
 | .print=>[112,114,105,110,116]
 | .done=>[100,111,110,101]
 | .tell=>[116,101,108,108]
 | .say l=>[115,97,121,32]++(34::(l++[34]))
 | .swap e w _ l=>M7 e++j1 w++[32]++(34::(l++[34]))
 | .join d _=>[106,111,105,110,32]++d
 | .pile a=>[112,105,108,101,32]++a++[]
 | .pileN a d _=>[112,105,108,101,32]++a++([32]++d)
 | .bring a=>[98,114,105,110,103,32]++a
 | .go a=>[103,111,32]++a
 | .add d _ d2 _=>[97,100,100,32]++d++[32]++d2
theorem Hb {x:DD}(h:x.dQ):noOwn x.val=true:=by
 cases x with
 | swap e w t l=>
  show (noOwn t&&(true&&(true&&true)))=true
  rw [(show qZ w t from h).no];rfl
 | _=>rfl
theorem zM {x:DD}(ho:x.ok) (h:x.dQ):cN (n+6) 38 [x.val] m=.ok (.str x.sh,m):=by
 rw [w38]
 refine aI (m':=[]) (B6 (Hb h)) (aL (s':=S1 x.val) rfl ?_ rfl) rfl
 show aj _ _ (S1 x.val)=_
 refine bN (by cases x<;>rfl) ?_
 cases x with
 | drop=>exact qY rfl rfl
 | print=>exact bN rfl (qY rfl rfl)
 | done=>exact bN rfl (bN rfl (qY rfl rfl))
 | tell=>exact bN rfl (bN rfl (bN rfl (bN rfl (bN rfl (bN rfl (bN rfl (bN rfl (bN rfl (bN rfl rfl)))))))))
 | say l=>
  have hl:=(show GU l from ho).hl
  exact bN rfl (bN rfl (bN rfl (qY rfl (aK (aR (t:=.str [115,97,121,32]) (u:=.str (34::(l++[34]))) (s1:=S1 (.obj 16 [.str l])) rfl (aC (ts:=[.str l]) (s':=S1 (.obj 16 [.str l])) rfl (oY (n+4) hl)) (bh (by simp only [bL,dq,dD];omega)))))))
 | swap e w t l=>
  have hl:=ho.2.hl
  have hp:qZ w t:=h
  have h2:=hp.len
  have h3:(M7 e).length<=11:=by cases e<;>decide
  refine bN rfl (bN rfl (bN rfl (bN rfl (qY rfl (aK (aR (t:=.str (M7 e++j1 w++[32])) (u:=.str (34::(l++[34]))) (s1:=S1 (.obj 17 [t,.str l,.bl e])) (aR (t:=.str (M7 e++j1 w)) (u:=.str [32]) (s1:=S1 (.obj 17 [t,.str l,.bl e])) (aR (t:=.str (M7 e)) (u:=.str (j1 w)) (s1:=S1 (.obj 17 [t,.str l,.bl e])) (by cases e<;>rfl) (aC (ts:=[t]) (s':=S1 (.obj 17 [t,.str l,.bl e])) rfl (mX n hp)) (bh (by simp only [bL,dq,dD];omega))) rfl (bh (by simp only [bL,dq,dD];omega))) (aC (ts:=[.str l]) (s':=S1 (.obj 17 [t,.str l,.bl e])) rfl (oY (n+4) hl)) (bh (by simp only [bL,dq,dD];omega))))))))
 | join d v=>
  have hn:nT d v:=h
  have hl:=hn.nm.hl
  exact bN rfl (bN rfl (bN rfl (bN rfl (bN rfl (qY rfl (aK (aR (t:=.str [106,111,105,110,32]) (u:=.str d) (s1:=S1 (.obj 18 [.int v])) rfl (dB (ts:=[.int v]) rfl hn.st) (bh (by show 5+_<=_;omega)))))))))
 | pile a=>
  have hl:=(show qT a from ho).hl
  exact bN rfl (bN rfl (bN rfl (bN rfl (bN rfl (bN rfl (qY rfl (aK (aR (t:=.str ([112,105,108,101,32]++a)) (u:=.str []) (s1:=S1 (.obj 19 [.str a,.non])) (aR (t:=.str [112,105,108,101,32]) (u:=.str a) (s1:=S1 (.obj 19 [.str a,.non])) rfl rfl (bh (by show 5+_<=_;omega))) rfl (bh (by rw [bL];show 5+_+0<=_;omega))))))))))
 | pileN a d v=>
  have hl:=ho.1.hl
  have hn:nT d v:=h
  have hd:=hn.nm.hl
  exact bN rfl (bN rfl (bN rfl (bN rfl (bN rfl (bN rfl (qY rfl (aK (aR (t:=.str ([112,105,108,101,32]++a)) (u:=.str ([32]++d)) (s1:=S1 (.obj 19 [.str a,.int v])) (aR (t:=.str [112,105,108,101,32]) (u:=.str a) (s1:=S1 (.obj 19 [.str a,.int v])) rfl rfl (bh (by show 5+_<=_;omega))) (afH (s1:=S1 (.obj 19 [.str a,.int v])) rfl (aR (t:=.str [32]) (u:=.str d) (s1:=S1 (.obj 19 [.str a,.int v])) rfl (dB (ts:=[.int v]) rfl hn.st) (bh (by show 1+_<=_;omega)))) (bh (by simp only [bL,dq,dD];omega))))))))))
 | bring a=>
  have hl:=(show qT a from ho).hl
  exact bN rfl (bN rfl (bN rfl (bN rfl (bN rfl (bN rfl (bN rfl (qY rfl (aK (aR (t:=.str [98,114,105,110,103,32]) (u:=.str a) (s1:=S1 (.obj 20 [.str a])) rfl rfl (bh (by show 6+_<=_;omega)))))))))))
 | go a=>
  have hl:=(show qT a from ho).hl
  exact bN rfl (bN rfl (bN rfl (bN rfl (bN rfl (bN rfl (bN rfl (bN rfl (qY rfl (aK (aR (t:=.str [103,111,32]) (u:=.str a) (s1:=S1 (.obj 21 [.str a])) rfl rfl (bh (by show 3+_<=_;omega))))))))))))
 | add d v d2 v2=>
  have h1:=h.1.nm.hl
  have h2:=h.2.nm.hl
  exact bN rfl (bN rfl (bN rfl (bN rfl (bN rfl (bN rfl (bN rfl (bN rfl (bN rfl (qY rfl (aK (aR (t:=.str ([97,100,100,32]++d++[32])) (u:=.str d2) (s1:=S1 (.obj 22 [.int v,.int v2])) (aR (t:=.str ([97,100,100,32]++d)) (u:=.str [32]) (s1:=S1 (.obj 22 [.int v,.int v2])) (aR (t:=.str [97,100,100,32]) (u:=.str d) (s1:=S1 (.obj 22 [.int v,.int v2])) rfl (dB (ts:=[.int v]) rfl h.1.st) (bh (by show 4+_<=_;omega))) rfl (bh (by rw [bL];show 4+_+1<=_;omega))) (dB (ts:=[.int v2]) rfl h.2.st) (bh (by simp only [bL,dq,dD];omega)))))))))))))
theorem BQ {a:List Nat}(h:qT a):cN (n+1) 38 [.obj 12 [.str a]] m=.ok (.str ([109,97,114,107,32]++a),m):=by
 have hl:=h.hl
 rw [w38]
 exact aI (m':=[]) rfl (aL (s':=S1 (.obj 12 [.str a])) rfl (qY rfl (aK (aR (t:=.str [109,97,114,107,32]) (u:=.str a) (s1:=S1 (.obj 12 [.str a])) rfl rfl (bh (by show 5+_<=_;omega))))) rfl) rfl
def LN.dQ:LN->Prop
 | .mark _=>True
 | .bare x=>x.dQ
 | .full c x=>c.dQ/\x.dQ
noncomputable def LN.sh:LN->List Nat
 | .mark a=>[109,97,114,107,32]++a
 | .bare x=>x.sh
 | .full c x=>c.sh++[58,32]++x.sh
theorem ac2 (x:RP) (b:List Nat):x.txt b=x.sh++b:=by cases x<;>simp [RP.txt,RP.sh]
theorem ac3 (x:PC) (b:List Nat):x.txt b=x.sh++b:=by cases x<;>simp [PC.txt,PC.sh,ac2]
theorem ac4 (x:CD) (b:List Nat):x.txt b=x.sh++b:=by cases x<;>simp [CD.txt,CD.sh,ac3]
theorem ac5 (x:DD) (b:List Nat):x.txt b=x.sh++b:=by
 cases x with
 | swap e w t l=>cases e<;>simp [DD.txt,DD.sh,WW,M7]
 | _=>simp [DD.txt,DD.sh]
theorem ac6 (x:LN) (b:List Nat):x.txt b=x.sh++b:=by cases x<;>simp [LN.txt,LN.sh,ac4,ac5]
theorem rh {x:DD}(ho:x.ok) (h:x.dQ):x.sh.length<=300:=by
 cases x with
 | say l=>have:=(show GU l from ho).hl;simp only [DD.sh,bL,dq,dD];omega
 | swap e w t l=>
  have h1:=ho.2.hl
  have h2:=(show qZ w t from h).len
  have h3:(M7 e).length<=11:=by cases e<;>decide
  simp only [DD.sh,bL,dq,dD];omega
 | join d v=>have:=(show nT d v from h).nm.hl;simp only [DD.sh,bL,dq,dD];omega
 | pile a=>have:=(show qT a from ho).hl;simp only [DD.sh,bL,dq,dD];omega
 | pileN a d v=>have h1:=ho.1.hl;have:=(show nT d v from h).nm.hl;simp only [DD.sh,bL,dq,dD];omega
 | bring a=>have:=(show qT a from ho).hl;simp only [DD.sh,bL,dq,dD];omega
 | go a=>have:=(show qT a from ho).hl;simp only [DD.sh,bL,dq,dD];omega
 | add d v d2 v2=>have h1:=h.1.nm.hl;have h2:=h.2.nm.hl;simp only [DD.sh,bL,dq,dD];omega
 | _=>simp only [DD.sh,dq,dD];omega
theorem oZ {x:LN}(h:x.dQ):noOwn x.cond=true/\noOwn x.eS=true:=by
 cases x with
 | mark a=>exact ⟨rfl,rfl⟩
 | bare x=>exact ⟨rfl,Hb h⟩
 | full c x=>exact ⟨Qv h.1,Hb h.2⟩
theorem M8 (c:CD):dc M.P.sub [3] c.val=some (.bl false):=by
 cases c with
 | fin=>rfl
 | no x=>rfl
 | pc x=>
  cases x with
  | rp x=>cases x<;>rfl
  | _=>rfl
theorem ri {x:LN}(ho:x.ok) (h:x.dQ):cN (n+9) 36 [x.val] m=.ok (.str x.sh,m):=by
 rw [w36]
 obtain ⟨h1,h2⟩:=oZ h
 refine aI (m':=[]) ?_ (aL (s':=S1 x.val) rfl ?_ rfl) rfl
 ·show ((noOwn x.cond&&(noOwn x.eS&&true))&&true)=true
  rw [h1,h2];rfl
 ·cases x with
  | mark a=>exact fm (k7 (s':=S1 (LN.mark a).val) (dH (t:=(LN.mark a).cond) rfl rfl) (aK (aC (ts:=[.obj 12 [.str a]]) (s':=S1 (LN.mark a).val) rfl (BQ (n+7) ho))))
  | bare x=>exact fm (k7 (s':=S1 (LN.bare x).val) (dH (t:=(LN.bare x).cond) rfl rfl) (aK (aC (ts:=[x.val]) (s':=S1 (LN.bare x).val) rfl (zM (n+2) ho h))))
  | full c x=>
   have l1:=xV h.1
   have l2:=rh ho.2 h.2
   exact seq1 (s':=S1 (LN.full c x).val) (ed (s':=S1 (LN.full c x).val) (dH (t:=c.val) rfl (M8 c)) rfl) (aK (aR (t:=.str (c.sh++[58,32])) (u:=.str x.sh) (s1:=S1 (LN.full c x).val) (aR (t:=.str c.sh) (u:=.str [58,32]) (s1:=S1 (LN.full c x).val) (aC (ts:=[c.val]) (s':=S1 (LN.full c x).val) rfl (M6 n h.1)) rfl (bh (by show _+2<=_;omega))) (aC (ts:=[x.val]) (s':=S1 (LN.full c x).val) rfl (zM (n+2) ho.2 h.2)) (bh (by rw [bL];show _+2+_<=_;omega))))
theorem rj {x:LN}(ho:x.ok) (h:x.dQ):x.sh.length<=700:=by
 cases x with
 | mark a=>have:=(show qT a from ho).hl;simp only [LN.sh,bL,dq,dD];omega
 | bare x=>have:=rh (show x.ok from ho) h;show x.sh.length<=700;omega
 | full c x=>have l1:=xV h.1;have l2:=rh ho.2 h.2;simp only [LN.sh,bL,dq,dD];omega
theorem eo {α:Type}{g:FG}{e:FE}{b:List (Option C)}{m:List Ob}(v f:α->T):∀ {l:List α},(∀ x∈l,∃ b1 b2,g (v x) b=some b1/\e ⟨b1,m⟩=.ok (f x,⟨b2,m⟩))->cM g cC e b (l.map v) m=.ok (l.map f,m)
 | [],_=>rfl
 | x::l,h=>by
  obtain ⟨b1,b2,h1,h2⟩:=h x (eK ..)
  rw [gi,cM,h1]
  refine Eq.trans (bA _ _) ?_
  show Res.bind (e ⟨b1,m⟩) _=_
  rw [h2]
  show Res.bind (cM g cC e b (l.map v) m) _=_
  rw [eo v f fun y hy=>h y (fG _ hy)]
  rfl
def j3 (xs:List LN):List (List Nat):=xs.map fun x=>x.sh++[10]
theorem rk:∀ {xs:List LN},(∀ x∈xs,x.ok/\x.dQ)->(j3 xs).flatten.length<=701*xs.length
 | [],_=>dU _
 | x::xs,h=>by
  have h1:=h x (eK ..)
  have h2:=rj h1.1 h1.2
  have h3:=rk (xs:=xs) fun y hy=>h y (fG _ hy)
  show ((x.sh++[10])++(j3 xs).flatten).length<=_
  rw [bL,bL,Aa,dq]
  omega
theorem Hc {xs:List LN}(h:∀ x∈xs,x.ok/\x.dQ) (hl:xs.length<=24):cN (n+10) 35 [.obj 0 [.lst (aN xs)]] m=.ok (.str (j3 xs).flatten,m):=by
 rw [w35]
 have hno:∀ xs:List LN,(∀ x∈xs,x.ok/\x.dQ)->aF (aN xs)=true:=fun xs=>by
  induction xs with
  | nil=>exact fun _=>rfl
  | cons x xs ih=>
   intro h
   obtain ⟨h1,h2⟩:=oZ (h x (eK ..)).2
   show ((noOwn x.cond&&(noOwn x.eS&&true))&&aF (aN xs))=true
   rw [h1,h2,ih fun y hy=>h y (fG _ hy)];rfl
 have ej:=join_eq (l:=j3 xs) (by have:=rk h;omega)
 have e:c6 (bo (h_ (aE M.P.tab 0 (vF 0))) 2 [] (setG 1) cC (oA (ah (cN (n+9) 36) [] (k1 (vF 1))) (cS [10]))) (S1 (.obj 0 [.lst (aN xs)]))=.ok (.lst ((j3 xs).map T.str),S1 (.obj 0 [.lst (aN xs)])):=by
  have em:(j3 xs).map T.str=xs.map fun x=>T.str (x.sh++[10]):=by unfold j3;rw [rH];rfl
  rw [em]
  refine mE (kq (ts:=aN xs) (s1:=S1 (.obj 0 [.lst (aN xs)])) rfl (by rw [dg];omega) (eo LN.val (fun x=>T.str (x.sh++[10])) fun x hx=>?_))
  have HD:=h x hx
  have:=rj HD.1 HD.2
  exact ⟨[none,sv x.val],[none,sv x.val],rfl,aR (t:=.str x.sh) (u:=.str [10]) (s1:=⟨[none,sv x.val],[]⟩) (aC (ts:=[x.val]) (s':=⟨[none,sv x.val],[]⟩) rfl (ri n HD.1 HD.2)) rfl (bh (by show _+1<=_;omega))⟩
 refine aI (m':=[]) ?_ (aL (s':=S1 (.obj 0 [.lst (aN xs)])) rfl (aK ?_) rfl) rfl
 ·show ((aF (aN xs)&&true)&&true)=true
  rw [hno xs h];rfl
 ·show jD joinM (cS []) (k1 (c6 _)) (S1 (.obj 0 [.lst (aN xs)]))=_
  simp only [ev,bA,cW,e,ej]
theorem Wc {i j:Int}(h:0<j):fj .Mod (.int i) (.int j)=some (.int (i % j)):=nS h
theorem ac7 {i j:Int}(h:0<j/\j<1073741824):fj .FloorDiv (.int i) (.int j)=some (.int (i/j)):=nS h
def nmB (v:Int):Bool:=(fM v).all (fun c=>decide (c∈BL))&&!(fM v).isEmpty&&!pre [48] (fM v)&&decide ((fM v).length<=3)&&decide (PySem.intText? ⟨(fM v).toArray⟩=some v)&&decide (v.natAbs.log2<1920)
theorem Wd:(pe 999).all (fun i=>nmB ((i:Int)+1))=true:=by decide +kernel
theorem f_ {v:Int}(h1:1<=v) (h2:v<=999):nT (fM v) v:=by
 have h:=dS.mp Wd (v-1).toNat (Il.mpr (by omega))
 rw [show (((v-1).toNat:Int)+1)=v by omega] at h
 unfold nmB at h
 simp only [cy,decide_eq_true_eq] at h
 obtain ⟨⟨⟨⟨⟨a,b⟩,c⟩,d⟩,e⟩,f⟩:=h
 refine ⟨⟨fun x hx=>of_decide_eq_true (dS.mp a x hx),fun z=>?_,by simpa using c,d,?_⟩,nS ⟨f,by omega⟩⟩
 ·rw [z] at b;cases b
 ·show (PySem.intText? ⟨(fM v).toArray⟩).bind _=_
  rw [e]
  exact nS (by omega)
theorem M9 (i j:Int):fj .Add (.int i) (.int j)=some (.int (i+j)):=rfl
structure TE (a:FE) (s:S) (x:List Nat) (k:Nat):Prop where
 e:a s=.ok (.str x,s)
 l:x.length<=k
theorem TE.add {a b:FE}{s:S}{x y:List Nat}{i j:Nat}(h:TE a s x i) (g:TE b s y j) (q:i+j<=1000000:=by decide):TE (oA a b) s (x++y) (i+j):=
 ⟨aR h.e g.e (bh (by have:=h.l;have:=g.l;omega)),by rw [bL];have:=h.l;have:=g.l;omega⟩
theorem TE.c {s:S}(l:List Nat):TE (cS l) s l l.length:=⟨rfl,dU _⟩
theorem TE.nn {a:FE}{s:S}{d:List Nat}{v:Int}(h:a s=.ok (.int v,s)) (N:nT d v):TE (bC strN (k1 a)) s d 3:=⟨dB (ts:=[.int v]) (aD h rfl) N.st,N.nm.hl⟩
theorem afI (a:T):eO [a]=some (.lst [a]):=nS (by show 1<=1000;decide)
theorem M_ (a b:T):eO [a,b]=some (.lst [a,b]):=nS (by show 2<=1000;decide)
theorem ac8 (a b c:T):eO [a,b,c]=some (.lst [a,b,c]):=nS (by show 3<=1000;decide)
theorem Na {a:FE}{s s1:S}{b:Bool}(h:a s=.ok (.bl b,s1)):_root_.D.cD a s=.ok (b,s1):=by
 unfold _root_.D.cD
 rw [h];rfl
theorem eqI {s:S}{i j:Int}{a:FE}(h:a s=.ok (.int i,s)):_root_.D.cD (oE a (cI j)) s=.ok (decide (i=j),s):=Na (aR h (u:=.int j) rfl (V9 _ _))
theorem TE.as {a:FE}{s:S}{x y:List Nat}{k:Nat}(h:TE a s x k) (e:x=y):a s=.ok (.str y,s):=e ▸ h.e
def cellAt (ns:List Int) (k:Nat):Int:=ns.getD k 0
theorem zN {ns:List Int}{k:Nat}:cN (n+1) 43 [.scr ns,.int (k:Nat)] m=.ok (.int (cellAt ns k),m):=by
 rw [w43]
 refine aI (m':=[]) rfl (aL (s':=s2 (.scr ns) (.int (k:Nat))) rfl ?_ rfl) rfl
 show aj _ _ (s2 (.scr ns) (.int (k:Nat)))=_
 by_cases h:k<ns.length
 ·refine fm (k7 (s':=s2 (.scr ns) (.int (k:Nat))) ?_ (aK (aR (t:=.scr ns) (u:=.int (k:Nat)) rfl rfl ?_)))
  ·have e:decide (((k:Nat):Int)<(ns.length:Nat))=true:=decide_eq_true (by omega)
   simp only [ev,dI,bA,cW,bq,gH,qR,e]
  ·show (atT ns (k:Int)).map T.int=_
   rw [my h]
   unfold cellAt
   rw [kH,cX h]
   rfl
 ·refine seq1 (s':=s2 (.scr ns) (.int (k:Nat))) (ed (s':=s2 (.scr ns) (.int (k:Nat))) ?_ rfl) ?_
  ·have e:decide (((k:Nat):Int)<(ns.length:Nat))=false:=decide_eq_false (by omega)
   simp only [ev,dI,bA,cW,bq,gH,qR,e]
  ·have:cellAt ns k=0:=by
    unfold cellAt
    rw [kH,NP (by omega)]
    rfl
   rw [this]
   rfl
theorem WZ {a:FE}{s s1:S}{b:Bool}(h:a s=.ok (.bl b,s1)):_root_.D.tB a s=.ok (b,s1):=by
 unfold _root_.D.tB
 rw [h];rfl
theorem afJ {a b:FE}{s s1:S}{R:Res (T × S)}(h:a s=.ok (.bl true,s1)) (k:b s1=R):jO a b s=R:=by
 unfold jO
 rw [h];exact k
theorem afK (a:List Nat):aU .Eq (.str a) (.str a)=some (.bl true):=by rw [mC,decide_eq_true rfl]
theorem no2 {t u:T}(h:noOwn t=true) (h2:noOwn u=true):aF [t,u]=true:=by
 show (noOwn t&&(noOwn u&&true))=true
 rw [h,h2];rfl
theorem afL {g:FG}{a:FE}{s s1:S}{t:T}{r:List (Option C)}(h:a s=.ok (t,s1)) (k:g t s1.r=some r):Bu g a s=.ok (.nx,⟨r,s1.m⟩):=by
 unfold Bu
 rw [h]
 refine Eq.trans (bA _ _) ?_
 dsimp only
 rw [k];rfl
theorem j5 {d:List Nat}{v:Int}(h:nT d v):10 ∉ d:=fun z=>absurd (h.nm.hd 10 z) (by decide)
theorem xW {w:List Nat}{t:T}(h:qZ w t):10 ∉ w:=fun z=>by
 obtain ⟨f,its,b,h1,h2,rfl,rfl⟩:=h
 exact absurd (mS h1 10 z).1 (by decide)
theorem jw {a:List Nat}(h:qT a):10 ∉ a:=fun z=>absurd (h.hd 10 z) (by decide)
theorem zO {a:List Nat}(h:GU a):10 ∉ a:=fun z=>absurd (h.h 10 z).1 (by decide)
theorem xX {x:RP}(h:x.dQ):10 ∉ x.sh:=by
 cases x with
 | row d v=>simp [RP.sh,j5 h]
 | like w t=>simp [RP.sh,xW h]
theorem Hd {x:PC}(h:x.dQ):10 ∉ x.sh:=by
 cases x with
 | last=>simp [PC.sh]
 | soon d v w t=>simp [PC.sh,j5 h.1,xW h.2]
 | ft x y=>simp [PC.sh,xX h.1,xX h.2]
 | rp x=>exact xX h
theorem We {x:CD}(h:x.dQ):10 ∉ x.sh:=by
 cases x with
 | fin=>simp [CD.sh]
 | no x=>simp [CD.sh,Hd h]
 | pc x=>exact Hd h
theorem Hf {x:DD}(ho:x.ok) (h:x.dQ):10 ∉ x.sh:=by
 cases x with
 | say l=>simp [DD.sh,zO ho]
 | swap e w t l=>cases e<;>simp [DD.sh,M7,xW h,zO ho.2]
 | join d v=>simp [DD.sh,j5 h]
 | pile a=>simp [DD.sh,jw ho]
 | pileN a d v=>simp [DD.sh,jw ho.1,j5 h]
 | bring a=>simp [DD.sh,jw ho]
 | go a=>simp [DD.sh,jw ho]
 | add d v d2 v2=>simp [DD.sh,j5 h.1,j5 h.2]
 | _=>simp [DD.sh]
theorem Wf {x:LN}(ho:x.ok) (h:x.dQ):10 ∉ x.sh:=by
 cases x with
 | mark a=>simp [LN.sh,jw ho]
 | bare x=>exact Hf ho h
 | full c x=>simp [LN.sh,We h.1,Hf ho.2 h.2]
theorem ac9 (x:DD):x.sh≠[]:=by
 cases x with
 | swap e w t l=>cases e<;>simp [DD.sh,M7]
 | _=>simp [DD.sh]
theorem ac_ (x:LN):x.sh≠[]:=by
 cases x with
 | mark a=>simp [LN.sh]
 | bare x=>exact ac9 x
 | full c x=>simp [LN.sh]
theorem u_:∀ {xs:List LN},xs≠[]->a8 [10] (xs.map LN.sh)++[10]=(j3 xs).flatten
 | [],h=>absurd rfl h
 | [x],_=>by show x.sh++[10]=(x.sh++[10])++[];rw [dR]
 | x::y::r,_=>by
  show x.sh++[10]++a8 [10] ((y::r).map LN.sh)++[10]=(x.sh++[10])++(j3 (y::r)).flatten
  rw [lj,u_ (by simp)]
theorem vc:∀ (l:List (List Nat)) (k:Nat),(∀ x∈l,x.length<=k)->(l.map (·.length)).sum<=k*l.length/\(a8 [10] l).length<=(k+1)*l.length
 | [],k,_=>⟨iI _,iI _⟩
 | [a],k,h=>by
  have:=h a (ie.mpr rfl)
  constructor
  ·show a.length+0<=k*1;omega
  ·show a.length<=(k+1)*1;omega
 | a::b::r,k,h=>by
  obtain ⟨h1,h2⟩:=vc (b::r) k fun x hx=>h x (fG _ hx)
  have:=h a (eK ..)
  rw [dq (a:=a)]
  constructor
  ·show a.length+((b::r).map (·.length)).sum<=_
   rw [N3];omega
  ·show (a++[10]++a8 [10] (b::r)).length<=_
   rw [bL,bL,N3]
   show a.length+1+_<=_
   omega
theorem Nb (xs:List LN):dP xs=(xs.map LN.sh).map T.str:=by
 rw [rH]
 apply CF
 intro x _
 show T.str (x.txt [])=T.str x.sh
 rw [ac6,dR]
abbrev bF (xs:List LN):T:=.obj 0 [.lst (aN xs)]
def LG (x:LN):Prop:=x.ok/\x.u7/\x.dQ
theorem Wg {xs:List LN}(h:∀ x∈xs,LG x) (hl:xs.length<=24):(∀ m,cN (n+1) 30 [.str (j3 xs).flatten] m=.ok (.tup [.lst (dP xs),.bl true],m))/\∃ b,∀ m,cN (n+1) 30 [.str (ba (j3 xs).flatten none (some (-1)))] m=.ok (.tup [.lst (dP xs),.bl b],m):=by
 by_cases hx:xs=[]
 ·subst hx
  have e:∀ m,cN (n+1) 30 [.str []] m=.ok (.tup [.lst [],.bl true],m):=fun m=>by rw [w30];rfl
  exact ⟨e,true,e⟩
 ·have cL:∀ l∈xs.map LN.sh,l.length<=700:=fun l hl=>by
   obtain ⟨x,hx,rfl⟩:=jH.mp hl
   exact rj (h x hx).1 (h x hx).2.2
  have n10:∀ l∈xs.map LN.sh,10 ∉ l:=fun l hl=>by
   obtain ⟨x,hx,rfl⟩:=jH.mp hl
   exact Wf (h x hx).1 (h x hx).2.2
  have gC:xs.map LN.sh≠[]:=fun z=>hx (NJ.mp z)
  obtain ⟨_,j2⟩:=vc (xs.map LN.sh) 700 cL
  rw [dg] at j2
  rw [<- u_ hx,mL,Nb]
  refine ⟨fun m=>MY n n10 gC (by rw [bL];show _+1<=_;omega),false,fun m=>?_⟩
  have eg:=List.dropLast_concat_getLast gC
  rw [<- eg] at n10 j2 ⊢
  refine MX n n10 ?_ (by omega)
  obtain ⟨x,_,e⟩:=jH.mp (List.getLast_mem gC)
  rw [<- e]
  exact ac_ x
theorem ada {fl:FL}{s s1:S}{ts:List T}(h:fl s=.ok (ts,s1)) (k:ts.length<=1000):tN fl s=.ok (ts,s1):=by unfold tN;rw [h];exact if_pos k
theorem adb {a:FE}{s s1:S}{t:T}{ts:List T}(h:a s=.ok (t,s1)) (k:itD t=some ts):h_ a s=.ok (ts,s1):=by
 unfold h_
 rw [h];refine Eq.trans (bA _ _) ?_
 dsimp only
 rw [k];rfl
section
variable {a b:FE}{s:S}{i j:Int}
theorem md (h:a s=.ok (.int i,s)) (hj:0<j:=by decide):oM a (cI j) s=.ok (.int (i % j),s):=aR h rfl (Wc hj)
theorem fd (h:a s=.ok (.int i,s)) (hj:0<j/\j<1073741824:=by decide):oD a (cI j) s=.ok (.int (i/j),s):=aR h rfl (ac7 hj)
theorem ad (h:a s=.ok (.int i,s)):oA (cI j) a s=.ok (.int (j+i),s):=aR (t:=.int j) rfl h (M9 _ _)
theorem slH {t u:T}{k:Int}(h:a s=.ok (t,s)) (h2:b s=.ok (.int k,s)) (q:rB none (some k) t=some u):jC a ny (g9 b) s=.ok (u,s):=by
 simp only [jC,h,bA,ny,g9,h2,PK,cW,q]
theorem slL {t u:T}{k:Int}(h:a s=.ok (t,s)) (h2:b s=.ok (.int k,s)) (q:rB (some k) none t=some u):jC a (g9 b) ny s=.ok (u,s):=by
 simp only [jC,h,bA,ny,g9,h2,PK,cW,q]
theorem slB {c:FE}{t u:T}{k l:Int}(h:a s=.ok (t,s)) (h2:b s=.ok (.int k,s)) (h3:c s=.ok (.int l,s)) (q:rB (some k) (some l) t=some u):jC a (g9 b) (g9 c) s=.ok (u,s):=by
 simp only [jC,h,bA,g9,h2,h3,PK,cW,q]
theorem mlI {i j:Int}(h:-(2 ^ 64)<j/\j<2 ^ 64):fj .Mult (.int i) (.int j)=some (.int (i*j)):=nS (.inl (.inr h))
end
noncomputable def c7:List Nat:=acS
theorem ade:c7.all Ih=true:=by decide +kernel
def wd (v:Int):List Nat:=c7.getD (v % 84).toNat 97::[97,98].take (v/7 % 3).toNat
def Nc (c:Nat):Itm:=⟨.pl c,49⟩
def Wh (v:Int):T:=bX false ((wd v).map Nc) false
theorem zP:∀ l:List Nat,aY (l.map Nc)=l
 | []=>rfl
 | c::l=>by
  show [c]++([]++aY (l.map Nc))=c::l
  rw [zP l];rfl
theorem fq (v:Int):qZ (wd v) (Wh v):=by
 refine ⟨false,(wd v).map Nc,false,fun i hi=>?_,?_,?_,rfl⟩
 ·obtain ⟨c,hc,rfl⟩:=jH.mp hi
  refine ⟨?_,.inl rfl⟩
  show Ih c=true
  rcases fB.mp hc with z | z
  ·rw [z]
   have h:(v % 84).toNat<c7.length:=by show _<84;omega
   rw [kH,cX h]
   exact dS.mp ade _ (Cq h)
  ·have z:=NS z
   rcases fB.mp z with z | z
   ·rw [z];decide
   ·rw [ie.mp z];decide
 ·rw [dg]
  show ([97,98].take (v/7 % 3).toNat).length+1<=8
  rw [ph]
  show min _ 2+1<=8
  omega
 ·show wd v=[]++(aY ((wd v).map Nc)++[])
  rw [zP,dR];rfl
theorem Wi {k:Int}(h1:0<=k) (h2:k<3):ba [97,98] none (some k)=[97,98].take k.toNat:=by
 obtain rfl | rfl | rfl:k=0\/k=1\/k=2:=by omega
 all_goals rfl
theorem Nd {v:Int}:cN (n+1) 44 [.int v] m=.ok (.str (j1 (wd v)),m):=by
 rw [w44]
 refine aI (m':=[]) rfl (aL (s':=s2 (.int v) (.str c7)) rfl (seq1 (s':=s2 (.int v) (.str c7)) rfl (aK ?_)) rfl) rfl
 have x1:oI (vF 1) (oM (vF 0) (bC bq (k1 (vF 1)))) (s2 (.int v) (.str c7))=.ok (.str [c7.getD (v % 84).toNat 97],s2 (.int v) (.str c7)):=by
  refine aR (t:=.str c7) (u:=.int (v % 84)) (s1:=s2 (.int v) (.str c7)) rfl (aR (t:=.int v) (u:=.int 84) (s1:=s2 (.int v) (.str c7)) rfl rfl (Wc (by decide))) ?_
  show (atT c7 (v % 84)).map _=_
  have h:(v % 84).toNat<c7.length:=by show _<84;omega
  rw [show v % 84=((v % 84).toNat:Int) by omega,my h,cX h,kH]
  rw [show ((v % 84).toNat:Int).toNat=(v % 84).toNat by omega,cX h]
  rfl
 have x2:jC (cS [97,98]) ny (g9 (oM (oD (vF 0) (cI 7)) (cI 3))) (s2 (.int v) (.str c7))=.ok (.str ([97,98].take (v/7 % 3).toNat),s2 (.int v) (.str c7)):=by
  refine slH (t:=.str [97,98]) rfl (md (fd (i:=v) rfl)) ?_
  rw [rB,Wi (by omega) (by omega)]
 exact ((((TE.c [47]).add ⟨x1,dU 1⟩).add (j:=2) ⟨x2,by rw [ph];show min _ 2<=2;omega⟩).add (TE.c [47])).as (by simp [j1,wd])
theorem nmv (v:Int):nT (fM (1+v/8 % 999)) (1+v/8 % 999)/\nT (fM (1+v/8 % 3)) (1+v/8 % 3)/\nT (fM (1+v/8 % 99)) (1+v/8 % 99):=⟨f_ (by omega) (by omega),f_ (by omega) (by omega),f_ (by omega) (by omega)⟩
def jx (v:Int):PC:=if v % 4=0 then .rp (.row (fM (1+v/8 % 999)) (1+v/8 % 999)) else if v % 4=1 then .last else if v % 4=2 then .soon (fM (1+v/8 % 3)) (1+v/8 % 3) (wd v) (Wh v) else .ft (.like (wd v) (Wh v)) (.row (fM (1+v/8 % 99)) (1+v/8 % 99))
def kN (v:Int):CD:=if v/4 % 2=0 then .pc (jx v) else .no (jx v)
def Qw:Option CD->List Nat
 | none=>[]
 | some c=>c.sh++[58,32]
def rF:Option CD->DD->LN
 | none,d=>.bare d
 | some c,d=>.full c d
theorem j6 (o:Option CD) (d:DD):(rF o d).sh=Qw o++d.sh:=by cases o<;>rfl
abbrev j7 (v:Int) (c:Option C):S:=⟨[sv (.int v),c],[]⟩
section
variable {s:S}{v:Int}
theorem wd1 {fl:FL}(h:fl s=.ok ([.int v],s)):ah (cN (n+1) 44) [] fl s=.ok (.str (j1 (wd v)),s):=aC h (Nd n)
theorem sN {a:FE}{i:Int}(h:a s=.ok (.int i,s)) (h1:1<=i/\i<=999):TE (bC strN (k1 a)) s (fM i) 3:=TE.nn h (f_ h1.1 h1.2)
end
theorem adf {i:Nat}{fl:FL}{s s1:S}{ts:List T}(h:fl s=.ok (ts,s1)):i7 i fl s=.ok (.nx,iE s1 i (.ol ts)):=by unfold i7;rw [h];rfl
theorem vd {w:List Nat}{t:T}(h:qZ w t):(j1 w).length<=140:=by have:=h.len;simp [j1];omega
abbrev fr0 (v:Int):PC:=.rp (.row (fM (1+v/8 % 999)) (1+v/8 % 999))
abbrev fr2 (v:Int):PC:=.soon (fM (1+v/8 % 3)) (1+v/8 % 3) (wd v) (Wh v)
abbrev vG (v:Int):PC:=.ft (.like (wd v) (Wh v)) (.row (fM (1+v/8 % 99)) (1+v/8 % 99))
abbrev xY (v:Int):List T:=[.str (fr0 v).sh,.str PC.last.sh,.str (fr2 v).sh]
theorem Hg (v:Int):atT (xY v++[.str (vG v).sh]) (v % 4)=some (.str (jx v).sh):=by
 unfold jx
 obtain h | h | h | h:v % 4=0\/v % 4=1\/v % 4=2\/v % 4=3:=by omega
 all_goals rw [h];rfl
theorem Wj (v:Int):jf (.lst [.str [],.str [110,111,116,32]]) (.int (v/4 % 2))=some (.str (if v/4 % 2=0 then [] else [110,111,116,32])):=by
 obtain h | h:v/4 % 2=0\/v/4 % 2=1:=by omega
 all_goals rw [h];rfl
theorem Nf (v:Int):(kN v).sh=(if v/4 % 2=0 then [] else [110,111,116,32])++(jx v).sh:=by
 unfold kN
 split
 ·rfl
 ·rfl
theorem ve (v:Int):(jx v).dQ:=by
 obtain ⟨a,b,c⟩:=nmv v
 unfold jx
 split
 ·exact a
 split
 ·trivial
 split
 ·exact ⟨b,fq v⟩
 ·exact ⟨fq v,c⟩
theorem Ng (v:Int):(jx v).ok:=by
 obtain ⟨a,b,c⟩:=nmv v
 unfold jx
 split
 ·exact ⟨a.nm,by omega,by omega⟩
 split
 ·trivial
 split
 ·exact ⟨b.nm,by omega,by omega,(fq v).pt⟩
 ·exact ⟨(fq v).pt,c.nm,by omega,by omega⟩
theorem Wk {v:Int}:cN (n+2) 45 [.int v] m=.ok (.str (Qw (some (kN v))),m):=by
 rw [w45]
 have l1:1<=1+v/8 % 999/\1+v/8 % 999<=999:=by omega
 have l2:1<=1+v/8 % 3/\1+v/8 % 3<=999:=by omega
 have l3:1<=1+v/8 % 99/\1+v/8 % 99<=999:=by omega
 have lw:=vd (fq v)
 have pl:=rf (ve v)
 have e1:=((TE.c (s:=j7 v none) [114,111,119,32]).add (sN (a:=oA (cI 1) (oM (oD (vF 0) (cI 8)) (cI 999))) (ad (md (fd (i:=v) rfl))) l1)).as (y:=(fr0 v).sh) rfl
 have e2:=((((TE.c (s:=j7 v none) [115,111,111,110,32]).add (sN (a:=oA (cI 1) (oM (oD (vF 0) (cI 8)) (cI 3))) (ad (md (fd (i:=v) rfl))) l2)).add (TE.c [32])).add (j:=140) ⟨wd1 n (v:=v) (fl:=k1 (vF 0)) rfl,lw⟩).as (y:=(fr2 v).sh) rfl
 have e3:=((((TE.c (s:=j7 v (some (.ol (xY v)))) [102,114,111,109,32]).add (j:=140) ⟨wd1 n (v:=v) (fl:=k1 (vF 0)) rfl,lw⟩).add (TE.c [32,116,111,32,114,111,119,32])).add (sN (a:=oA (cI 1) (oM (oD (vF 0) (cI 8)) (cI 99))) (ad (md (fd (i:=v) rfl))) l3)).as (y:=(vG v).sh) (by simp [PC.sh,RP.sh])
 have e4:EM 1 (oM (vF 0) (cI 4)) (j7 v (some (.ol (xY v++[.str (vG v).sh]))))=.ok (.str (jx v).sh,j7 v (some (.ol (xY v++[.str (vG v).sh])))):=by
  unfold EM
  rw [show iZ (j7 v (some (.ol (xY v++[.str (vG v).sh])))).r[1]?=some (xY v++[.str (vG v).sh]) from rfl,cW,bA,md (i:=v) rfl,bA]
  show Res.bind (cT (some (xY v++[.str (vG v).sh]))) _=_
  rw [cW,bA]
  show Res.bind (cT (atT (xY v++[.str (vG v).sh]) (v % 4))) _=_
  rw [Hg];rfl
 refine aI (m':=[]) rfl (aL (s':=j7 v (some (.ol (xY v++[.str (vG v).sh])))) rfl (seq1 (s':=j7 v (some (.ol (xY v)))) ?_ (seq1 (s':=j7 v (some (.ol (xY v++[.str (vG v).sh])))) (BN (ts:=xY v) rfl e3 rfl (by show 3<1000000;decide)) (aK ?_))) rfl) rfl
 ·exact adf (ada (ts:=xY v) (s1:=j7 v none) (aD (s1:=j7 v none) e1 (aD (t:=.str [108,97,115,116]) (s1:=j7 v none) rfl (aD (s1:=j7 v none) e2 rfl))) (by show 3<=1000;decide))
 ·have e5:=aR (g:=jf) (a:=bC eO (k2 (cS []) (cS [110,111,116,32]))) (b:=oM (oD (vF 0) (cI 4)) (cI 2)) (s:=j7 v (some (.ol (xY v++[.str (vG v).sh])))) (s1:=j7 v (some (.ol (xY v++[.str (vG v).sh])))) (dB (ts:=[.str [],.str [110,111,116,32]]) rfl (M_ _ _)) (md (fd (i:=v) rfl)) (Wj v)
  have l5:(if v/4 % 2=0 then [] else [110,111,116,32]:List Nat).length<=4:=by split<;>decide
  exact (((TE.mk e5 l5).add (j:=300) ⟨e4,pl⟩).add (TE.c [58,32])).as (by rw [<- Nf];rfl)
def gR (v:Int):Option CD:=if v % 3=0 then none else if v % 3=1 then some (.pc (.rp (.like (wd (v/3)) (Wh (v/3))))) else some (.no (.rp (.like (wd (v/3)) (Wh (v/3)))))
theorem Nh {v:Int}:cN (n+2) 46 [.int v] m=.ok (.str (Qw (gR v)),m):=by
 rw [w46]
 have lw:=vd (fq (v/3))
 have ew:=wd1 n (v:=v/3) (s:=⟨[sv (.int v)],[]⟩) (fl:=k1 (oD (vF 0) (cI 3))) (aD (fd (i:=v) rfl) rfl)
 have e1:=((TE.mk (k:=140) ew lw).add (TE.c [58,32])).e
 have e2:=(((TE.c [110,111,116,32]).add (TE.mk (k:=140) ew lw)).add (TE.c [58,32])).e
 refine aI (m':=[]) rfl (aL (s':=⟨[sv (.int v)],[]⟩) rfl (aK (aR (dB (aD (t:=.str []) rfl (aD e1 (aD e2 rfl))) (ac8 _ _ _)) (md (i:=v) rfl) ?_)) rfl) rfl
 unfold gR
 obtain h | h | h:v % 3=0\/v % 3=1\/v % 3=2:=by omega
 all_goals rw [h];rfl
def mx (p c:Int):Int:=c*48271 % 1000003*(c*48271 % 1000003) % p
theorem mxA {c:Int}{x:Option C}:oM (cz (fj .Mult) (vF 0) (cI 48271)) (cI 1000003) (j7 c x)=.ok (.int (c*48271 % 1000003),j7 c x):=md (aR (t:=.int c) (u:=.int 48271) (s1:=j7 c x) rfl rfl (mlI (by decide)))
theorem mxB {c u p:Int}(h:0<=u/\u<1000003) (hp:0<p):oM (cz (fj .Mult) (vF 1) (vF 1)) (cI p) (j7 c (sv (.int u)))=.ok (.int (u*u % p),j7 c (sv (.int u))):=md (aR (t:=.int u) (u:=.int u) (s1:=j7 c (sv (.int u))) rfl rfl (mlI (by omega))) hp
abbrev BR (c p:Int):S:=j7 c (sv (.int (mx p c)))
theorem Qx {c p:Int}{F:FS}{R:Res (Out × S)}(hp:0<p) (k:F (BR c p)=R):aj (aV 1 (oM (cz (fj .Mult) (vF 0) (cI 48271)) (cI 1000003))) (aj (aV 1 (oM (cz (fj .Mult) (vF 1) (vF 1)) (cI p))) F) (j7 c none)=R:=
 seq1 (s':=j7 c (sv (.int (c*48271 % 1000003)))) (df mxA) (seq1 (s':=BR c p) (df (mxB (by omega) hp)) k)
def fV (c:Int):Option CD:=if mx 999983 c % 2=0 then gR (mx 999983 c/2) else some (kN (mx 999983 c/2))
def CD.near:CD->Bool
 | .fin=>true
 | .no (.rp (.like _ _))=>true
 | .pc (.rp (.like _ _))=>true
 | _=>false
theorem k9 {v:Int}{c:CD}(h:gR v=some c):c.ok/\c.dQ/\c≠.fin/\c.near=true:=by
 unfold gR at h
 split at h
 ·cases h
 split at h
 ·cases h;exact ⟨(fq _).pt,fq _,fun z=>(by cases z),rfl⟩
 ·cases h;exact ⟨(fq _).pt,fq _,fun z=>(by cases z),rfl⟩
theorem rl (v:Int):(kN v).ok/\(kN v).dQ/\kN v≠.fin/\(kN v).near=false:=by
 have h1:=Ng v
 have h2:=ve v
 have h3:∀ w t,jx v≠.rp (.like w t):=fun w t z=>by
  unfold jx at z
  split at z
  ·cases z
  split at z
  ·cases z
  split at z<;>cases z
 unfold kN
 split
 ·refine ⟨h1,h2,fun z=>(by cases z),?_⟩
  cases e:jx v with
  | rp x=>cases x with
   | like w t=>exact absurd e (h3 w t)
   | row=>rfl
  | _=>rfl
 ·refine ⟨h1,h2,fun z=>(by cases z),?_⟩
  cases e:jx v with
  | rp x=>cases x with
   | like w t=>exact absurd e (h3 w t)
   | row=>rfl
  | _=>rfl
theorem rm {o:Option CD}(h:∀ c,o=some c->c.dQ):(Qw o).length<=320:=by
 cases o with
 | none=>show 0<=320;decide
 | some c=>
  have:=xV (h c rfl)
  simp only [Qw,bL,dq,dD];omega
theorem nr1 {s:S}{fl:FL}{v:Int}(h:fl s=.ok ([.int v],s)):TE (ah (cN (n+2) 46) [] fl) s (Qw (gR v)) 320:=⟨aC h (Nh n),rm fun _ z=>(k9 z).2.1⟩
theorem fr1 {s:S}{fl:FL}{v:Int}(h:fl s=.ok ([.int v],s)):TE (ah (cN (n+2) 45) [] fl) s (Qw (some (kN v))) 320:=⟨aC h (Wk n),rm fun _ z=>by cases z;exact (rl v).2.1⟩
theorem zQ {c:Int}:∀ d,fV c=some d->d.ok/\d.dQ/\d≠.fin:=fun d h=>by
 unfold fV at h
 split at h
 ·obtain ⟨h1,h2,h3,_⟩:=k9 h;exact ⟨h1,h2,h3⟩
 ·cases h
  obtain ⟨h1,h2,h3,_⟩:=rl (mx 999983 c/2);exact ⟨h1,h2,h3⟩
theorem drop_eq {c:Int}:cN (n+3) 47 [.int c] m=.ok (.str (rF (fV c) .drop).sh,m):=by
 rw [w47]
 refine aI (m':=[]) rfl (aL (s':=BR c 999983) rfl (Qx (by decide) (aK ?_)) rfl) rfl
 have hf:oD (vF 1) (cI 2) (BR c 999983)=.ok (.int (mx 999983 c/2),BR c 999983):=fd rfl
 have e:=aR (g:=jf) (a:=bC eO (k2 (ah (cN (n+2) 46) [] (k1 (oD (vF 1) (cI 2)))) (ah (cN (n+2) 45) [] (k1 (oD (vF 1) (cI 2)))))) (b:=oM (vF 1) (cI 2)) (s:=BR c 999983) (s1:=BR c 999983) (s2:=BR c 999983) (v:=.str (Qw (fV c))) (dB (aD (nr1 n (aD hf rfl)).e (aD (fr1 n (aD hf rfl)).e rfl)) (M_ _ _)) (md (i:=mx 999983 c) rfl) (by
  unfold fV
  obtain h | h:mx 999983 c % 2=0\/mx 999983 c % 2=1:=by omega
  all_goals rw [h];rfl)
 exact ((TE.mk (k:=320) e (rm fun d z=>(zQ d z).2.1)).add (TE.c [100,114,111,112])).as (j6 (fV c) .drop).symm
abbrev ptA:T:=bX false [Nc 97] false
theorem Ni:qZ [97] ptA:=⟨false,[Nc 97],false,fun i hi=>by rw [ie.mp hi];exact ⟨by show Ih 97=true;decide,.inl rfl⟩,by decide,rfl,rfl⟩
noncomputable def jy:List DD:=[.print,.done,.drop,.say [105,116,32,105,115],.pile [115],.pileN [115] [51] 3,.bring [115],.add [49] 1 [50] 2,.swap false [97] ptA [98],.swap true [97] ptA [],.go [104,101,114,101]]
def vf (v:Int):DD:=jy.getD (v % 11).toNat .drop
theorem n1:nT [49] 1:=f_ (v:=1) (by decide) (by decide)
theorem n2:nT [50] 2:=f_ (v:=2) (by decide) (by decide)
theorem n3:nT [51] 3:=f_ (v:=3) (by decide) (by decide)
structure DG (d:DD):Prop where
 ok:d.ok
 sh:d.dQ
 fi:d.u7
theorem Nj:qT [115]:=⟨by decide,by decide,by decide⟩
theorem zR:qT [104,101,114,101]:=⟨by decide,by decide,by decide⟩
theorem rn:∀ d∈jy,DG d/\(∀ e v,d≠.join e v)/\(∀ a,d=.go a->a=[104,101,114,101]):=by
 have wa:GU [98]:=⟨by decide,by decide⟩
 have w0:GU []:=⟨by decide,by decide⟩
 have wi:GU [105,116,32,105,115]:=⟨by decide,by decide⟩
 intro d hd
 simp only [jy,fB,jG,or_false] at hd
 have go:∀ {e:DD},DG e->(∀ a b,e≠.join a b)->(∀ a,e≠.go a)->DG e/\(∀ a b,e≠.join a b)/\(∀ a,e=.go a->a=[104,101,114,101]):=fun h1 h2 h3=>⟨h1,h2,fun a z=>absurd z (h3 a)⟩
 rcases hd with rfl | rfl | rfl | rfl | rfl | rfl | rfl | rfl | rfl | rfl | rfl
 ·exact go ⟨trivial,trivial,trivial⟩ nofun nofun
 ·exact go ⟨trivial,trivial,trivial⟩ nofun nofun
 ·exact go ⟨trivial,trivial,trivial⟩ nofun nofun
 ·exact go ⟨wi,trivial,trivial⟩ nofun nofun
 ·exact go ⟨Nj,trivial,trivial⟩ nofun nofun
 ·exact go ⟨⟨Nj,n3.nm,by decide,by decide⟩,n3,trivial⟩ nofun nofun
 ·exact go ⟨Nj,trivial,trivial⟩ nofun nofun
 ·exact go ⟨⟨⟨n1.nm,by decide,by decide⟩,n2.nm,by decide,by decide⟩,⟨n1,n2⟩,trivial⟩ nofun nofun
 ·exact go ⟨⟨Ni.pt,wa⟩,Ni,false,[Nc 97],false,rfl,by decide,by decide,.inl rfl⟩ nofun nofun
 ·exact go ⟨⟨Ni.pt,w0⟩,Ni,false,[Nc 97],false,rfl,by decide,by decide,.inr (by decide)⟩ nofun nofun
 ·exact ⟨⟨zR,trivial,trivial⟩,nofun,fun a z=>by cases z;rfl⟩
theorem jz (v:Int):vf v∈jy:=by
 have h:(v % 11).toNat<jy.length:=by show _<11;omega
 unfold vf
 rw [kH,cX h]
 exact Cq h
theorem xZ {α:Type}{l:List α}{f:α->T}{k:Int}{d:α}(h1:0<=k) (h2:k<l.length):jf (.lst (l.map f)) (.int k)=some (f (l.getD k.toNat d)):=by
 have h:k.toNat<l.length:=by omega
 show atT (l.map f) k=_
 rw [show k=(k.toNat:Int) by omega,my (by rw [dg];exact h),gu,cX h,kH]
 rw [show (k.toNat:Int).toNat=k.toNat by omega,cX h]
 rfl
theorem vg {v:Int}:cN (n+1) 48 [.int v] m=.ok (.str (vf v).sh,m):=by
 rw [w48]
 refine aI (m':=[]) rfl (aL (s':=j7 v (sv (.lst ((jy.take 9).map fun d=>T.str d.sh)))) rfl (seq1 (s':=j7 v (sv (.lst ((jy.take 9).map fun d=>T.str d.sh)))) rfl (aK (aR (t:=.lst (jy.map fun d=>T.str d.sh)) (s1:=j7 v (sv (.lst ((jy.take 9).map fun d=>T.str d.sh)))) rfl (md (i:=v) rfl) (xZ (by omega) (by show _<(11:Int);omega))))) rfl) rfl
noncomputable def BS:List LN:=[.full .fin .tell,.full .fin (.bring [115]),.full .fin (.say [105,116,32,119,97,115])]
def kB (c:Int):LN:=if mx 1000033 c % 13=5 then BS.getD (mx 1000033 c/13 % 3).toNat (.bare .drop) else rF (gR (mx 1000033 c/11)) (vf (mx 1000033 c))
theorem Hh {d:DD}(h:DG d):d.sh.length<=300:=rh h.ok h.sh
theorem Nk {c:Int}:cN (n+3) 49 [.int c] m=.ok (.str (kB c).sh,m):=by
 rw [w49]
 refine aI (m':=[]) rfl (aL (s':=BR c 1000033) rfl (Qx (by decide) ?_) rfl) rfl
 have ht:_root_.D.cD (oE (oM (vF 1) (cI 13)) (cI 5)) (BR c 1000033)=.ok (decide (mx 1000033 c % 13=5),BR c 1000033):=eqI (md rfl)
 unfold kB
 by_cases h:mx 1000033 c % 13=5
 ·rw [if_pos h]
  rw [decide_eq_true h] at ht
  refine fm (k7 ht (aK (aR (t:=.lst (BS.map fun x=>T.str x.sh)) (s1:=BR c 1000033) rfl (md (fd rfl)) (xZ (by omega) (by show _<(3:Int);omega)))))
 ·rw [if_neg h]
  rw [decide_eq_false h] at ht
  refine seq1 (ed ht rfl) (aK ?_)
  have hd:=(rn _ (jz (mx 1000033 c))).1
  exact ((nr1 n (aD (fd rfl) rfl)).add (j:=300) ⟨aC (ts:=[.int (mx 1000033 c)]) (s':=BR c 1000033) rfl (vg (n+1)),Hh hd⟩).as (j6 _ _).symm
def LN.qo:LN->Bool
 | .bare .drop=>true
 | .full _ .drop=>true
 | _=>false
def LN.isJ:LN->Bool
 | .bare (.join _ _)=>true
 | .full _ (.join _ _)=>true
 | _=>false
def LN.nr:LN->Bool
 | .full c _=>c.near
 | _=>true
theorem Wl (x:LN):dc M.P.sub [13] x.eS=some (.bl x.qo):=by
 cases x with
 | mark a=>rfl
 | bare d=>cases d<;>rfl
 | full c d=>cases d<;>rfl
theorem Wm (x:LN):dc M.P.sub [18] x.eS=some (.bl x.isJ):=by
 cases x with
 | mark a=>rfl
 | bare d=>cases d<;>rfl
 | full c d=>cases d<;>rfl
theorem Nl {x:LN}(h:x.dQ):cN (n+1) 42 [x.cond] m=.ok (.bl x.nr,m):=by
 have hc:=(oZ h).1
 rw [w42]
 have fin:∀ {v:T} {b:Bool},noOwn v=true->dc M.P.sub [9] v=some (.bl false)->dc M.P.sub [3,6,10] v=some (.bl b)->t42 (cN n) [v] m=.ok (.bl b,m):=fun {v b} h0 h1 h2=>by
  refine aI (m':=[]) (B6 h0) (aL (s':=S1 v) rfl (bN h1 (aK ?_)) rfl) rfl
  show b8 _ _ (S1 v)=_
  simp only [ev,dI,bA,h2,cW]
 have neg:∀ {v:T} {b:Bool},noOwn v=true->dc M.P.sub [6] v=some (.bl b)->t42 (cN n) [.obj 9 [v]] m=.ok (.bl b,m):=fun {v b} h0 h2=>by
  refine aI (m':=[]) (B6 (show noOwn (.obj 9 [v])=true from B6 h0)) (aL (s':=S1 (.obj 9 [v])) rfl (qY rfl (aK ?_)) rfl) rfl
  show b8 _ _ (S1 (.obj 9 [v]))=_
  have e:aE M.P.tab 8 (vF 0) (S1 (.obj 9 [v]))=.ok (v,S1 (.obj 9 [v])):=rfl
  unfold b8
  rw [e,bA,h2];rfl
 cases x with
 | mark a=>exact fin hc rfl rfl
 | bare d=>exact fin hc rfl rfl
 | full c d=>
  have hs:c.dQ:=h.1
  cases c with
  | fin=>exact fin hc rfl rfl
  | no y=>
   cases y with
   | rp z=>cases z with
    | row _ _=>exact neg (mZ hs) rfl
    | like _ _=>exact neg (mZ hs) rfl
   | _=>exact neg (mZ hs) rfl
  | pc y=>
   cases y with
   | rp z=>cases z with
    | row _ _=>exact fin hc rfl rfl
    | like _ _=>exact fin hc rfl rfl
   | _=>exact fin hc rfl rfl
theorem xT {c:FT}{F:FS}{s s':S}(h:c s=.ok (true,s')):xF c F s=.exc 0 [] s':=by unfold xF;rw [h];rfl
theorem xN {c:FT}{F:FS}{s s':S}{R:Res (Out × S)}(h:c s=.ok (false,s')) (k:F s'=R):xF c F s=R:=by unfold xF;rw [h];exact k
theorem Nn {α:Type}{src:FL}{s:S}{k:Nat}{g:FG}{e:FE}{l:List α}{v f:α->T}(h:src s=.ok (l.map v,s)) (hl:l.length<=1000000) (hg:cM g cC e (gJ k [] s.r) (l.map v) s.m=.ok (l.map f,s.m)):c6 (bo src k [] g cC e) s=.ok (.lst (l.map f),s):=by
 unfold c6 bo
 rw [h]
 show Res.bind (if (l.map v).length<=1000000 then _ else _) _=_
 rw [if_pos (by rw [dg];exact hl)]
 show Res.bind (Res.bind (cM g cC e (gJ k [] s.r) (l.map v) s.m) _) _=_
 rw [hg];rfl
theorem m_ {α:Type}(f:α->Bool):∀ l:List α,boolsOf (l.map fun x=>T.bl (f x))=some (l.map f)
 | []=>rfl
 | x::l=>by
  show (boolsOf (l.map fun x=>T.bl (f x))).map _=_
  rw [m_ f l];rfl
theorem allB {α:Type}(f:α->Bool) (l:List α):qu [.lst (l.map fun x=>T.bl (f x))]=some (.bl (l.all f)):=by
 show (boolsOf _).map _=_
 rw [m_]
 show some (T.bl ((l.map f).all id))=_
 rw [Cy];rfl
theorem anyB {α:Type}(f:α->Bool) (l:List α):jS [.lst (l.map fun x=>T.bl (f x))]=some (.bl (l.any f)):=by
 show (boolsOf _).map _=_
 rw [m_]
 show some (T.bl ((l.map f).any id))=_
 rw [Cn];rfl
section
variable {xs ys:List LN}
abbrev sW (xs ys:List LN):S:=s2 (bF xs) (bF ys)
theorem Qy:_root_.D.cD (cz (aU .Gt) (oA (bC bq (k1 (aE M.P.tab 0 (vF 0)))) (bC bq (k1 (aE M.P.tab 0 (vF 1))))) (cI 24)) (sW xs ys)=.ok (decide (24<xs.length+ys.length),sW xs ys):=by
 refine Na (aR (t:=.int ((aN xs).length+(aN ys).length:Int)) (s1:=sW xs ys) (u:=.int 24) (aR (t:=.int ((aN xs).length:Nat)) (u:=.int ((aN ys).length:Nat)) (s1:=sW xs ys) rfl rfl rfl) rfl ?_)
 rw [qQ,dg,dg]
 congr 3
 exact propext (by omega)
theorem x8 {e:FE}{f:LN->Bool}{zs:List LN}(h:∀ x∈zs,e ⟨[none,sv x.val],m⟩=.ok (.bl (f x),⟨[none,sv x.val],m⟩)):cM (setG 1) cC e [none,none] (aN zs) m=.ok (zs.map fun x=>T.bl (f x),m):=eo LN.val (fun x=>T.bl (f x)) fun x hx=>⟨_,_,rfl,h x hx⟩
theorem Hi (hx:xs.length<=24):c_ (_root_.D.tB (bC qu (k1 (c6 (bo (h_ (aE M.P.tab 0 (vF 0))) 2 [] (setG 1) cC (b8 (dc M.P.sub [13]) (aE M.P.tab 2 (vF 1)))))))) (sW xs ys)=.ok (!xs.all LN.qo,sW xs ys):=by
 have e:=Nn (α:=LN) (s:=sW xs ys) (k:=2) (l:=xs) (v:=LN.val) (f:=fun x=>T.bl x.qo) (src:=h_ (aE M.P.tab 0 (vF 0))) (g:=setG 1) (e:=b8 (dc M.P.sub [13]) (aE M.P.tab 2 (vF 1))) rfl (by omega) (x8 fun x _=>by
  have q:aE M.P.tab 2 (vF 1) ⟨[none,sv x.val],[]⟩=.ok (x.eS,⟨[none,sv x.val],[]⟩):=rfl
  show b8 _ _ _=_
  unfold b8
  rw [q,bA,Wl];rfl)
 have e2:=WZ (dB (aD (fl:=cA) (s2:=sW xs ys) e rfl) (allB LN.qo xs))
 unfold c_
 rw [e2];rfl
theorem Hj (hy:ys.length<=24):_root_.D.tB (bC jS (k1 (c6 (bo (h_ (aE M.P.tab 0 (vF 1))) 2 [] (setG 1) cC (b8 (dc M.P.sub [18]) (aE M.P.tab 2 (vF 1))))))) (sW xs ys)=.ok (ys.any LN.isJ,sW xs ys):=by
 have e:=Nn (α:=LN) (s:=sW xs ys) (k:=2) (l:=ys) (v:=LN.val) (f:=fun x=>T.bl x.isJ) (src:=h_ (aE M.P.tab 0 (vF 1))) (g:=setG 1) (e:=b8 (dc M.P.sub [18]) (aE M.P.tab 2 (vF 1))) rfl (by omega) (x8 fun x _=>by
  have q:aE M.P.tab 2 (vF 1) ⟨[none,sv x.val],[]⟩=.ok (x.eS,⟨[none,sv x.val],[]⟩):=rfl
  show b8 _ _ _=_
  unfold b8
  rw [q,bA,Wm];rfl)
 exact WZ (dB (aD e rfl) (anyB LN.isJ ys))
theorem Hk (hy:ys.length<=24) (hs:∀ x∈ys,LG x):c_ (_root_.D.tB (bC qu (k1 (c6 (bo (h_ (aE M.P.tab 0 (vF 1))) 2 [] (setG 1) cC (ah (cN (n+1) 42) [] (k1 (aE M.P.tab 1 (vF 1))))))))) (sW xs ys)=.ok (!ys.all LN.nr,sW xs ys):=by
 have e:=Nn (α:=LN) (s:=sW xs ys) (k:=2) (l:=ys) (v:=LN.val) (f:=fun x=>T.bl x.nr) (src:=h_ (aE M.P.tab 0 (vF 1))) (g:=setG 1) (e:=ah (cN (n+1) 42) [] (k1 (aE M.P.tab 1 (vF 1)))) rfl (by omega) (x8 fun x hx=>aC (ts:=[x.cond]) (s':=⟨[none,sv x.val],[]⟩) rfl (Nl n (hs x hx).2.2))
 have e2:=WZ (dB (aD (fl:=cA) (s2:=sW xs ys) e rfl) (allB LN.nr ys))
 unfold c_
 rw [e2];rfl
end
def Wv (xs ys:List LN):Bool:=decide (xs.length+ys.length<=24)&&(xs.all LN.qo&&(!ys.any LN.isJ&&ys.all LN.nr))
theorem zS (xs ys:List LN):j3 (xs++ys)=j3 xs++j3 ys:=rJ
theorem ng {xs:List LN}(h:∀ x∈xs,LG x):noOwn (bF xs)=true:=by
 have:aF (aN xs)=true:=by
  induction xs with
  | nil=>rfl
  | cons x xs ih=>
   obtain ⟨a,b⟩:=oZ (h x (eK ..)).2.2
   show ((noOwn x.cond&&(noOwn x.eS&&true))&&aF (aN xs))=true
   rw [a,b,ih fun y hy=>h y (fG _ hy)];rfl
 show (aF (aN xs)&&true)=true
 rw [this];rfl
theorem adg {x:LN}(h:LG x):Lk x:=ac1 h.1 h.2.1 (oZ h.2.2).1 (oZ h.2.2).2
structure Rd (xs:List LN):Prop where
 lg:∀ x∈xs,LG x
 hl:xs.length<=24
 nd:(marks xs).Nodup
 go:∀ x∈xs,∀ a,x.jZ=some a->a∈marks xs
theorem Hl {xs:List LN}(h:Rd xs):cN (n+15) 31 [.str (j3 xs).flatten] m=.ok (bF xs,m):=MZ n (fun x hx=>adg (h.lg x hx)) h.hl h.nd h.go (Wg (n+13) h.lg h.hl).1
theorem nh {xs:List LN}(h:∀ x∈xs,LG x) (hl:xs.length<=24):cN (n+10) 35 [bF xs] m=.ok (.str (j3 xs).flatten,m):=Hc n (fun x hx=>⟨(h x hx).1,(h x hx).2.2⟩) hl
theorem ni {xs:List LN}(h:∀ x∈xs,LG x) (hl:xs.length<=24):(j3 xs).flatten.length<=20000:=by
 have:=rk fun x hx=>(⟨(h x hx).1,(h x hx).2.2⟩:x.ok/\x.dQ)
 omega
theorem nj {xs ys:List LN}(hx:Rd xs) (hy:Rd ys) (hz:Rd (xs++ys)) (hw:Wv xs ys=true):cN (n+16) 41 [bF xs,bF ys] m=.ok (bF (xs++ys),m):=by
 unfold Wv at hw
 simp only [cy,decide_eq_true_eq,CT] at hw
 obtain ⟨h1,h2,h3,h4⟩:=hw
 have e1:=Qy (xs:=xs) (ys:=ys)
 rw [decide_eq_false (by omega)] at e1
 have e2:=Hi (ys:=ys) hx.hl
 rw [h2] at e2
 have e3:=Hj (xs:=xs) hy.hl
 rw [h3] at e3
 have e4:=Hk (xs:=xs) (n+14) hy.hl hy.lg
 rw [h4] at e4
 rw [w41]
 refine aI (m':=[]) (no2 (ng hx.lg) (ng hy.lg)) (aL (s':=sW xs ys) rfl (xN e1 (xN e2 (xN e3 (xN e4 ?_)))) rfl) (ng hz.lg)
 have l1:=ni hx.lg hx.hl
 have l2:=ni hy.lg hy.hl
 have e5:oA (ah (cN (n+15) 35) [] (k1 (vF 0))) (ah (cN (n+15) 35) [] (k1 (vF 1))) (sW xs ys)=.ok (.str (j3 (xs++ys)).flatten,sW xs ys):=by
  rw [zS,yi]
  exact aR (aC (ts:=[bF xs]) (s':=sW xs ys) rfl (nh (n+5) hx.lg hx.hl)) (aC (ts:=[bF ys]) (s':=sW xs ys) rfl (nh (n+5) hy.lg hy.hl)) (bh (by omega))
 show WR (av _ (sW xs ys))=_
 rw [aK (aC (aD e5 rfl) (Hl n hz))];rfl
theorem o9 {xs ys:List LN}(hx:Rd xs) (hy:Rd ys) (hw:Wv xs ys=false):cN (n+16) 41 [bF xs,bF ys] m=.exc 0 [] ⟨(sW xs ys).r,m⟩:=by
 have e1:=Qy (xs:=xs) (ys:=ys)
 have e2:=Hi (ys:=ys) hx.hl
 have e3:=Hj (xs:=xs) hy.hl
 have e4:=Hk (xs:=xs) (n+14) hy.hl hy.lg
 rw [w41]
 have fin:∀ {F:FS},F (sW xs ys)=.exc 0 [] (sW xs ys)->aO (aQ 2 2 F) [bF xs,bF ys] m=.exc 0 [] ⟨(sW xs ys).r,m⟩:=fun {F} h=>by
  unfold aO
  rw [if_pos (no2 (ng hx.lg) (ng hy.lg))]
  have:aQ 2 2 F [bF xs,bF ys] []=.exc 0 [] (sW xs ys):=by
   unfold aQ
   rw [if_pos (show [bF xs,bF ys].length=2 from rfl)]
   show Res.bind (F (sW xs ys)) _=_
   rw [h];rfl
  rw [this];rfl
 refine fin ?_
 by_cases h1:24<xs.length+ys.length
 ·rw [decide_eq_true h1] at e1
  exact xT e1
 rw [decide_eq_false h1] at e1
 refine xN e1 ?_
 cases h2:xs.all LN.qo with
 | false=>rw [h2] at e2;exact xT e2
 | true=>
 rw [h2] at e2
 refine xN e2 ?_
 cases h3:ys.any LN.isJ with
 | true=>rw [h3] at e3;exact xT e3
 | false=>
 rw [h3] at e3
 refine xN e3 ?_
 cases h4:ys.all LN.nr with
 | false=>rw [h4] at e4;exact xT e4
 | true=>
  unfold Wv at hw
  rw [decide_eq_true (by omega),h2,h3,h4] at hw
  cases hw
abbrev tx (l:List LN):List T:=l.map fun x=>T.str x.sh
def dm (k:Nat) (y:LN) (l:List LN):List LN:=l.take k++y::l.drop k
theorem gW {k:Nat}{x y:LN}{l:List LN}:x∈dm k y l ↔ x=y\/x∈l:=by
 unfold dm
 have:x∈l ↔ x∈l.take k\/x∈l.drop k:=by rw [<- iG,List.take_append_drop]
 rw [iG,fB,this]
 constructor
 ·rintro (h | h | h)
  ·exact .inr (.inl h)
  ·exact .inl h
  ·exact .inr (.inr h)
 ·rintro (h | h | h)
  ·exact .inr (.inl h)
  ·exact .inl h
  ·exact .inr (.inr h)
theorem Np (k:Nat) (y:LN) (l:List LN):(dm k y l).length=l.length+1:=by
 unfold dm
 rw [bL,dq,ph,vt];omega
theorem x9 (k:Nat) (y:LN) (l:List LN):(tx l).take k++T.str y.sh::(tx l).drop k=tx (dm k y l):=by
 simp only [dm,tx,rJ,gi,Cz,CA]
theorem jA {l:List LN}(h:∀ x∈l,x.name=none):marks l=[]:=by
 induction l with
 | nil=>rfl
 | cons x l ih=>
  show Cr LN.name (x::l)=[]
  rw [zZ,h x (eK ..)]
  exact ih fun y hy=>h y (fG _ hy)
theorem j8 {k:Nat}{y:LN}{l:List LN}(h:∀ x∈l,x.name=none):marks (dm k y l)=y.name.toList:=by
 have h1:marks (l.take k)=[]:=jA fun x hx=>h x (NS hx)
 have h2:marks (l.drop k)=[]:=jA fun x hx=>h x (List.mem_of_mem_drop hx)
 unfold dm
 show Cr LN.name _=_
 rw [NT,zZ]
 rw [show Cr LN.name (l.take k)=[] from h1]
 cases y.name with
 | none=>exact h2
 | some a=>show a::Cr LN.name (l.drop k)=[a];rw [show Cr LN.name (l.drop k)=[] from h2]
section
variable (a b:Int)
abbrev here:List Nat:=[104,101,114,101]
abbrev Hm:List Nat:=[111,116,104,101,114]
def vh:DD:=[DD.print,.done,.say [],.add [49] 1 [49] 1].getD (b % 4).toNat .print
def BU (l:List LN):Int:=b/6 % (l.length+1)
def x_:LN:=rF (gR b) (vh b)
def ya:LN:=rF (gR b) (.join (fM (2+b/3 % 8)) (2+b/3 % 8))
def Hn:LN:=rF (some (kN b)) (vf (b/5 % 10))
def X1 (xs:List LN):List LN:=if a % 8=1 then dm (BU b xs).toNat (x_ b) xs else xs
def X2 (xs:List LN):List LN:=if a % 8=2 then dm (BU b xs).toNat (.mark Hm) xs else xs
def Y1 (ys:List LN):List LN:=if a % 8=3 then dm (BU b ys).toNat (ya b) ys else ys
def Y2 (ys:List LN):List LN:=if a % 8=4 then dm (BU b ys).toNat (Hn b) ys else ys
def ends (x:LN):Bool:=HX [103,111,32,104,101,114,101] x.sh
def Y3 (ys:List LN):List LN:=if ys.any ends then dm (BU b ys).toNat (.mark here) ys else ys
def Gd (xs ys:List LN):Bool:=(decide (a % 8<1) || decide (4<a % 8))&&decide (xs.length+ys.length<=24)
end
theorem Ho {o:Option CD}{d:DD}(ho:∀ c,o=some c->c.ok/\c.dQ/\c≠.fin) (hd:DG d):LG (rF o d):=by
 cases o with
 | none=>exact ⟨hd.ok,hd.fi,hd.sh⟩
 | some c=>
  obtain ⟨h1,h2,h3⟩:=ho c rfl
  refine ⟨⟨h1,hd.ok⟩,?_,h2,hd.sh⟩
  cases c with
  | fin=>exact absurd rfl h3
  | no _=>exact hd.fi
  | pc _=>exact hd.fi
theorem Hq (o:Option CD) (d:DD):(rF o d).name=none:=by cases o<;>rfl
theorem adh {o:Option CD}(d:DD) (h:∀ c,o=some c->c.near=true):(rF o d).nr=true:=by
 cases o with
 | none=>rfl
 | some c=>exact h c rfl
theorem Qz {o:Option CD}{d:DD}{a:List Nat}(h:(rF o d).jZ=some a):d=.go a:=by
 cases o<;>cases d<;>first | (cases h;done) | (cases h;rfl)
theorem afM (o:Option CD) (d:DD) (h:∀ e v,d≠.join e v):(rF o d).isJ=false:=by
 cases o<;>cases d<;>first | rfl | exact absurd rfl (h _ _)
theorem afN (o:Option CD) (d:DD) (h:d≠.drop):(rF o d).qo=false:=by
 cases o<;>cases d<;>first | rfl | exact absurd rfl h
theorem suf_app (p s:List Nat):HX s (p++s)=true:=by
 unfold HX
 rw [bL,decide_eq_true (by omega),show p.length+s.length-s.length=p.length by omega,yh]
 exact beq_self_eq_true s
structure LX (x:LN):Prop where
 lg:LG x
 go:x.jZ=none
structure LY (x:LN):Prop where
 lg:LG x
 nm:x.name=none
 go:∀ a,x.jZ=some a->a=here/\ends x=true
theorem Hr {o:Option CD}{d:DD}(ho:∀ c,o=some c->c.ok/\c.dQ/\c≠.fin) (hd:DG d) (hg:∀ a,d=.go a->a=here):LY (rF o d):=by
 refine ⟨Ho ho hd,Hq o d,fun a h=>?_⟩
 have e:=Qz h
 have e2:=hg a e
 subst e2
 subst e
 refine ⟨rfl,?_⟩
 unfold ends
 rw [j6]
 exact suf_app _ _
theorem nrO (v:Int):∀ c,gR v=some c->c.ok/\c.dQ/\c≠.fin:=fun _ h=>let ⟨a,b,c,_⟩:=k9 h;⟨a,b,c⟩
theorem frO (v:Int):∀ c,some (kN v)=some c->c.ok/\c.dQ/\c≠.fin:=fun c h=>by cases h;obtain ⟨a,b,c,_⟩:=rl v;exact ⟨a,b,c⟩
theorem Nq (c:Int):LX (rF (fV c) .drop)/\(rF (fV c) .drop).name=none/\(rF (fV c) .drop).qo=true:=by
 refine ⟨⟨Ho zQ ⟨trivial,trivial,trivial⟩,?_⟩,Hq _ _,?_⟩
 ·cases fV c<;>rfl
 ·cases fV c<;>rfl
theorem Nr (c:Int):LY (kB c)/\(kB c).isJ=false/\(kB c).nr=true:=by
 unfold kB
 split
 ·have wi:GU [105,116,32,119,97,115]:=⟨by decide,by decide⟩
  have h:(mx 1000033 c/13 % 3).toNat<BS.length:=by show _<3;omega
  rw [kH,cX h]
  have hm:=Cq h
  show LY BS[(mx 1000033 c/13 % 3).toNat]/\_
  generalize BS[(mx 1000033 c/13 % 3).toNat]=x at hm ⊢
  simp only [BS,fB,jG,or_false] at hm
  rcases hm with rfl | rfl | rfl
  ·exact ⟨⟨⟨⟨trivial,trivial⟩,trivial,trivial,trivial⟩,rfl,nofun⟩,rfl,rfl⟩
  ·exact ⟨⟨⟨⟨trivial,Nj⟩,trivial,trivial,trivial⟩,rfl,nofun⟩,rfl,rfl⟩
  ·exact ⟨⟨⟨⟨trivial,wi⟩,trivial,trivial,trivial⟩,rfl,nofun⟩,rfl,rfl⟩
 ·obtain ⟨h1,h2,h3⟩:=rn _ (jz (mx 1000033 c))
  exact ⟨Hr (nrO _) h1 h3,afM _ _ h2,adh _ fun _ h=>(k9 h).2.2.2⟩
theorem adi (b:Int):DG (vh b)/\vh b≠.drop/\∀ a,vh b≠.go a:=by
 have h:(b % 4).toNat < [DD.print,.done,.say [],.add [49] 1 [49] 1].length:=by show _<4;omega
 unfold vh
 rw [kH,cX h]
 have hm:=Cq h
 show DG [DD.print,.done,.say [],.add [49] 1 [49] 1][(b % 4).toNat]/\_
 generalize [DD.print,.done,.say [],.add [49] 1 [49] 1][(b % 4).toNat]=x at hm ⊢
 simp only [fB,jG,or_false] at hm
 rcases hm with rfl | rfl | rfl | rfl
 ·exact ⟨⟨trivial,trivial,trivial⟩,nofun,nofun⟩
 ·exact ⟨⟨trivial,trivial,trivial⟩,nofun,nofun⟩
 ·exact ⟨⟨⟨by decide,by decide⟩,trivial,trivial⟩,nofun,nofun⟩
 ·exact ⟨⟨⟨⟨n1.nm,by decide,by decide⟩,n1.nm,by decide,by decide⟩,⟨n1,n1⟩,trivial⟩,nofun,nofun⟩
theorem Wn (b:Int):LX (x_ b)/\(x_ b).name=none/\(x_ b).qo=false:=by
 obtain ⟨h1,h2,h3⟩:=adi b
 refine ⟨⟨Ho (nrO b) h1,?_⟩,Hq _ _,afN _ _ h2⟩
 cases e:(x_ b).jZ with
 | none=>rfl
 | some a=>exact absurd (Qz e) (h3 a)
theorem afO:LX (.mark Hm):=⟨⟨⟨by decide,by decide,by decide⟩,trivial,trivial⟩,rfl⟩
theorem adj (b:Int):LY (ya b)/\(ya b).isJ=true:=by
 have n:=f_ (v:=2+b/3 % 8) (by omega) (by omega)
 refine ⟨Hr (nrO b) ⟨⟨n.nm,by omega,by omega⟩,n,trivial⟩ nofun,?_⟩
 unfold ya
 cases gR b<;>rfl
theorem adk (b:Int):LY (Hn b)/\(Hn b).nr=false:=by
 obtain ⟨h1,h2,h3⟩:=rn _ (jz (b/5 % 10))
 exact ⟨Hr (frO b) h1 h3,(rl b).2.2.2⟩
section
variable {a b:Int}{xs ys:List LN}
theorem iC {p:Prop} [Decidable p] {k:Nat}{x y:LN}{l:List LN}(h:x∈(if p then dm k y l else l)):x=y\/x∈l:=by
 split at h
 ·exact gW.mp h
 ·exact .inr h
theorem Hs {p:Prop} [Decidable p] {k:Nat}{x y:LN}{l:List LN}(h:x∈l):x∈(if p then dm k y l else l):=by
 split
 ·exact gW.mpr (.inr h)
 ·exact h
theorem iD {p:Prop} [Decidable p] {k:Nat}{y:LN}{l:List LN}:(if p then dm k y l else l).length<=l.length+1:=by
 split
 ·rw [Np];exact dU _
 ·omega
structure Dx (xs:List LN):Prop where
 lx:∀ x∈xs,LX x/\x.name=none/\x.qo=true
 hl:xs.length<=13
structure Dy (ys:List LN):Prop where
 ly:∀ x∈ys,LY x/\x.isJ=false/\x.nr=true
 hl:ys.length<=13
theorem Ht (h:Dx xs):∀ x∈X1 a b xs,LX x/\x.name=none:=fun x hx=>by
 rcases iC hx with rfl | hx
 ·exact ⟨(Wn b).1,(Wn b).2.1⟩
 ·exact ⟨(h.lx x hx).1,(h.lx x hx).2.1⟩
theorem zT (h:Dx xs):∀ x∈X2 a b (X1 a b xs),LX x:=fun x hx=>by
 rcases iC hx with rfl | hx
 ·exact afO
 ·exact (Ht h x hx).1
theorem vj (h:Dx xs):marks (X2 a b (X1 a b xs))=[]\/marks (X2 a b (X1 a b xs))=[Hm]:=by
 unfold X2
 split
 ·exact .inr (j8 fun x hx=>(Ht h x hx).2)
 ·exact .inl (jA fun x hx=>(Ht h x hx).2)
theorem Hu (h:Dx xs):(X2 a b (X1 a b xs)).length<=15:=by
 have h1:(X1 a b xs).length<=xs.length+1:=iD
 have h2:(X2 a b (X1 a b xs)).length<=(X1 a b xs).length+1:=iD
 have:=h.hl
 omega
theorem Wo (h:Dx xs):Rd (X2 a b (X1 a b xs)):=by
 refine ⟨fun x hx=>(zT h x hx).lg,by have:=Hu (a:=a) (b:=b) h;omega,?_,fun x hx c hc=>?_⟩
 ·rcases vj (a:=a) (b:=b) h with e | e<;>rw [e]<;>decide
 ·rw [(zT h x hx).go] at hc;cases hc
theorem vm (h:Dy ys):∀ x∈Y2 a b (Y1 a b ys),LY x:=fun x hx=>by
 rcases iC hx with rfl | hx
 ·exact (adk b).1
 rcases iC hx with rfl | hx
 ·exact (adj b).1
 ·exact (h.ly x hx).1
theorem Hv (h:Dy ys):(Y2 a b (Y1 a b ys)).length<=15:=by
 have h1:(Y1 a b ys).length<=ys.length+1:=iD
 have h2:(Y2 a b (Y1 a b ys)).length<=(Y1 a b ys).length+1:=iD
 have:=h.hl
 omega
abbrev YY (a b:Int) (ys:List LN):List LN:=Y3 b (Y2 a b (Y1 a b ys))
abbrev XX (a b:Int) (xs:List LN):List LN:=X2 a b (X1 a b xs)
theorem Hw (h:Dy ys):(YY a b ys).length<=16:=by
 have h1:=Hv (a:=a) (b:=b) h
 have h2:(YY a b ys).length<=(Y2 a b (Y1 a b ys)).length+1:=iD
 omega
theorem Nt:LG (.mark here):=⟨zR,trivial,trivial⟩
theorem QA (h:Dy ys):∀ x∈YY a b ys,LG x:=fun x hx=>by
 rcases iC hx with rfl | hx
 ·exact Nt
 ·exact (vm h x hx).lg
theorem vn (h:Dy ys):marks (YY a b ys)=[]\/marks (YY a b ys)=[here]:=by
 show marks (Y3 b _)=[]\/marks (Y3 b _)=[here]
 unfold Y3
 split
 ·exact .inr (j8 fun x hx=>(vm h x hx).nm)
 ·exact .inl (jA fun x hx=>(vm h x hx).nm)
theorem QC (h:Dy ys):∀ x∈YY a b ys,∀ c,x.jZ=some c->c∈marks (YY a b ys):=fun x hx c hc=>by
 have HD:=hx
 rcases iC hx with rfl | hx
 ·cases hc
 obtain ⟨e1,e2⟩:=(vm h x hx).go c hc
 subst e1
 show _∈marks (Y3 b _)
 unfold Y3
 rw [if_pos (Cp.mpr ⟨x,hx,e2⟩),j8 fun x hx=>(vm h x hx).nm]
 exact ie.mpr rfl
theorem Wq (h:Dy ys):Rd (YY a b ys):=by
 refine ⟨QA h,by have:=Hw (a:=a) (b:=b) h;omega,?_,QC h⟩
 rcases vn (a:=a) (b:=b) h with e | e<;>rw [e]<;>decide
theorem adl (hx:Dx xs) (hy:Dy ys) (hl:(XX a b xs).length+(YY a b ys).length<=24):Rd (XX a b xs++YY a b ys):=by
 have em:marks (XX a b xs++YY a b ys)=marks (XX a b xs)++marks (YY a b ys):=NT
 refine ⟨fun x h=>?_,by rw [bL];exact hl,?_,fun x h c hc=>?_⟩
 ·rcases iG.mp h with h | h
  ·exact (zT hx x h).lg
  ·exact QA hy x h
 ·rw [em]
  rcases vj (a:=a) (b:=b) hx with e | e<;>rcases vn (a:=a) (b:=b) hy with e' | e'<;>rw [e,e']<;>decide
 ·rw [em]
  rcases iG.mp h with h | h
  ·rw [(zT hx x h).go] at hc;cases hc
  ·exact kD _ (QC hy x h c hc)
theorem yb {l:List LN}{f:LN->Bool}{x:LN}(h:x∈l) (e:f x=false):l.all f=false:=by
 cases q:l.all f with
 | false=>rfl
 | true=>have:=dS.mp q x h;rw [e] at this;cases this
theorem adm (hx:Dx xs) (hy:Dy ys):Wv (XX a b xs) (YY a b ys)=Gd a (XX a b xs) (YY a b ys):=by
 have inY:∀ {x:LN},x∈Y2 a b (Y1 a b ys)->x∈YY a b ys:=fun h=>Hs h
 unfold Wv Gd
 by_cases h1:a % 8=1
 ·have:(XX a b xs).all LN.qo=false:=yb (x:=x_ b) (by
   refine Hs ?_
   unfold X1
   rw [if_pos h1]
   exact gW.mpr (.inl rfl)) (Wn b).2.2
  rw [this,h1]
  cases decide ((XX a b xs).length+(YY a b ys).length<=24)<;>rfl
 by_cases h2:a % 8=2
 ·have:(XX a b xs).all LN.qo=false:=yb (x:=.mark Hm) (by
   show _∈X2 a b _
   unfold X2
   rw [if_pos h2]
   exact gW.mpr (.inl rfl)) rfl
  rw [this,h2]
  cases decide ((XX a b xs).length+(YY a b ys).length<=24)<;>rfl
 by_cases h3:a % 8=3
 ·have:(YY a b ys).any LN.isJ=true:=Cp.mpr ⟨ya b,inY (by
   refine Hs ?_
   unfold Y1
   rw [if_pos h3]
   exact gW.mpr (.inl rfl)),(adj b).2⟩
  rw [this,h3]
  cases decide ((XX a b xs).length+(YY a b ys).length<=24)<;>cases (XX a b xs).all LN.qo<;>rfl
 by_cases h4:a % 8=4
 ·have:(YY a b ys).all LN.nr=false:=yb (x:=Hn b) (inY (by
   unfold Y2
   rw [if_pos h4]
   exact gW.mpr (.inl rfl))) (adk b).2
  rw [this,h4]
  cases decide ((XX a b xs).length+(YY a b ys).length<=24)<;>cases (XX a b xs).all LN.qo<;>cases (YY a b ys).any LN.isJ<;>rfl
 have ex:XX a b xs=xs:=by
  show X2 a b (X1 a b xs)=xs
  unfold X2 X1
  rw [if_neg h2,if_neg h1]
 have ey:Y2 a b (Y1 a b ys)=ys:=by
  unfold Y2 Y1
  rw [if_neg h4,if_neg h3]
 have mem:∀ x∈YY a b ys,x.isJ=false/\x.nr=true:=fun x h=>by
  rcases iC h with rfl | h
  ·exact ⟨rfl,rfl⟩
  ·rw [ey] at h;exact (hy.ly x h).2
 have e1:(XX a b xs).all LN.qo=true:=by rw [ex];exact dS.mpr fun x h=>(hx.lx x h).2.2
 have e2:(YY a b ys).any LN.isJ=false:=by
  cases q:(YY a b ys).any LN.isJ with
  | false=>rfl
  | true=>obtain ⟨x,h,e⟩:=Cp.mp q;rw [(mem x h).1] at e;cases e
 have e3:(YY a b ys).all LN.nr=true:=dS.mpr fun x h=>(mem x h).2
 rw [e1,e2,e3]
 have e4:(decide (a % 8<1) || decide (4<a % 8))=true:=by
  rw [CM,decide_eq_true_eq,decide_eq_true_eq];omega
 rw [e4]
 cases decide ((XX a b xs).length+(YY a b ys).length<=24)<;>rfl
end
theorem kX {α β:Type}(f:α->β) (l:List α) (lo hi:Option Int):ba (l.map f) lo hi=(ba l lo hi).map f:=by
 unfold ba
 rw [dg,<- CA,<- Cz]
theorem Wr {α:Type}(l:List α) {k:Int}(h:0<=k) (h2:k<=l.length):ba l none (some k)=l.take k.toNat:=by
 unfold ba
 rw [show dX l.length 0 none=0 from rfl,show dX l.length l.length (some k)=min k.toNat l.length from if_neg (by omega),Ac]
 rw [show min k.toNat l.length-0=k.toNat by omega]
theorem Ws {α:Type}(l:List α) {k:Int}(h:0<=k) (h2:k<=l.length):ba l (some k) none=l.drop k.toNat:=by
 unfold ba
 rw [show dX l.length 0 (some k)=min k.toNat l.length from if_neg (by omega),show dX l.length l.length none=l.length from rfl]
 rw [show min k.toNat l.length=k.toNat by omega]
 exact yd (by rw [vt];exact dU _)
theorem Hx {α:Type}(l:List α) {k:Int}(h:0<=k):(ba l none (some k)).length<=k.toNat:=by
 unfold ba
 rw [show dX l.length 0 none=0 from rfl,show dX l.length l.length (some k)=min k.toNat l.length from if_neg (by omega),ph]
 omega
theorem zU {α:Type}(l:List α) {k j:Int}(h:0<=k) (hj:0<=j):(ba l (some k) (some (k+j))).length<=j.toNat:=by
 unfold ba
 rw [show dX l.length 0 (some k)=min k.toNat l.length from if_neg (by omega),show dX l.length l.length (some (k+j))=min (k+j).toNat l.length from if_neg (by omega),ph]
 omega
theorem bm1 {f:List Nat->List T->Option T}{o:FE}{fl:FL}{s s1 s2:S}{l:List Nat}{ts:List T}{t:T}(h:o s=.ok (.str l,s1)) (h2:fl s1=.ok (ts,s2)) (q:f l ts=some t):jD f o fl s=.ok (t,s2):=by
 simp only [ev,h,h2,bA,cW,q]
theorem adn {a b:List T}(h:a.length+b.length<=1000000):fj .Add (.lst a) (.lst b)=some (.lst (a++b)):=nS h
theorem ado (l:List LN):aF (tx l)=true:=by
 induction l with
 | nil=>rfl
 | cons x l ih=>exact ih
abbrev goh:List Nat:=[103,111,32,104,101,114,101]
theorem BV {ys:List LN}{k:Int}(h1:0<=k) (h2:k<=ys.length) (hl:ys.length<=1000):cN (n+1) 50 [.lst (tx ys),.int k] m=.ok (.lst (tx (if ys.any ends then dm k.toNat (.mark here) ys else ys)),m):=by
 rw [w50]
 have e:=Nn (α:=LN) (s:=s2 (.lst (tx ys)) (.int k)) (k:=2) (l:=ys) (v:=fun x=>T.str x.sh) (f:=fun x=>T.bl (ends x)) (src:=h_ (vF 0)) (g:=setG 1) (e:=jD WI (vF 1) (k1 (cS goh))) rfl (by omega) (eo (fun x:LN=>T.str x.sh) (fun x=>T.bl (ends x)) fun x _=>⟨_,_,rfl,rfl⟩)
 have e2:=WZ (dB (aD (fl:=cA) (s2:=s2 (.lst (tx ys)) (.int k)) e rfl) (anyB ends ys))
 refine aI (m':=[]) (by show (aF (tx ys)&&true)=true;rw [ado];rfl) (aL (s':=s2 (.lst (tx ys)) (.int k)) rfl ?_ rfl) (ado _)
 show aj _ _ (s2 (.lst (tx ys)) (.int k))=_
 cases hb:ys.any ends with
 | false=>
  rw [hb] at e2
  exact seq1 (ed e2 rfl) (aK rfl)
 | true=>
  rw [hb] at e2
  have Oa:(tx ys).length=ys.length:=dg _
  have s1:=slH (a:=vF 0) (b:=vF 1) (s:=s2 (.lst (tx ys)) (.int k)) (t:=.lst (tx ys)) (k:=k) rfl rfl rfl
  have s3:=slL (a:=vF 0) (b:=vF 1) (s:=s2 (.lst (tx ys)) (.int k)) (t:=.lst (tx ys)) (k:=k) rfl rfl rfl
  rw [Wr _ h1 (by omega)] at s1
  rw [Ws _ h1 (by omega)] at s3
  refine fm (k7 e2 (aK ?_))
  have l1:((tx ys).take k.toNat).length<=1000:=by rw [ph];omega
  have l2:((tx ys).drop k.toNat).length<=1000:=by rw [vt];omega
  have:=aR (aR s1 (dB (ts:=[.str [109,97,114,107,32,104,101,114,101]]) (fl:=k1 (cS [109,97,114,107,32,104,101,114,101])) (s':=s2 (.lst (tx ys)) (.int k)) rfl (afI _)) (adn (by show _+1<=_;omega))) s3 (adn (by rw [bL];show _+1+_<=_;omega))
  rw [lj] at this
  refine this.trans ?_
  show Res.ok (T.lst ((tx ys).take k.toNat++T.str (LN.mark here).sh::(tx ys).drop k.toNat),_)=_
  rw [x9];rfl
abbrev Wt (ns:List Int) (a b:Int) (cs:List Int) (k:Int) (u v w:Option C):S:=⟨[sv (.scr ns),sv (.int a),sv (.int b),sv (.lst (cs.map T.int)),sv (.int k),u,v,sv (.int (b/6)),sv (.int (a % 8)),w],[]⟩
abbrev hU (ns:List Int) (a b:Int) (cs:List Int) (k:Int) (xs ys:List LN):S:=Wt ns a b cs k (some (.ol (tx xs))) (some (.ol (tx ys))) none
theorem adp {i:Nat}{fl:FL}{s:S}{ts:List T}{k:Int}{t:T}(h0:s.r[i]?=some (some (.ol ts))) (h:fl s=.ok ([.int k,t],s)) (hk:0<=k/\k<=ts.length/\ts.length<1000000):nR i fl s=.ok (.nx,iE s i (.ol (ts.take k.toNat++t::ts.drop k.toNat))):=by
 unfold nR
 rw [h0]
 show Res.bind (fl s) _=_
 rw [h,bA]
 dsimp only
 rw [h0]
 show Res.bind (cT (gd (0<=k/\k<=ts.length/\ts.length<1000000) ())) _=_
 rw [nS hk];rfl
theorem spE {L:FE}{s:S}{b:Int}{l:List LN}(h7:vF 7 s=.ok (.int (b/6),s)) (hL:L s=.ok (.int (l.length:Nat),s)):oM (vF 7) (oA L (cI 1)) s=.ok (.int (BU b l),s):=aR h7 (aR hL (u:=.int 1) rfl (M9 _ _)) (Wc (by omega))
theorem spB (b:Int) (l:List LN) (hl:l.length<=1000):0<=BU b l/\BU b l<=(tx l).length/\(tx l).length<1000000:=by
 have e:(tx l).length=l.length:=dg _
 unfold BU
 rw [e]
 have h1:=Int.emod_nonneg (b/6) (show (l.length:Int)+1≠0 by omega)
 have h2:=Int.emod_lt_of_pos (b/6) (show (0:Int)<l.length+1 by omega)
 omega
section
variable {ns cs:List Int}{a b k j:Int}{xs ys:List LN}{A B:FS}{R:Res (Out × S)}
theorem stX {xs':List LN}(h:A (hU ns a b cs k xs ys)=.ok (.nx,hU ns a b cs k xs' ys)) (q:B (hU ns a b cs k (if a % 8=j then xs' else xs) ys)=R):aj (bu (_root_.D.cD (oE (vF 8) (cI j))) A aG) B (hU ns a b cs k xs ys)=R:=by
 have e:_root_.D.cD (oE (vF 8) (cI j)) (hU ns a b cs k xs ys)=.ok (decide (a % 8=j),hU ns a b cs k xs ys):=eqI rfl
 by_cases p:a % 8=j
 ·rw [if_pos p] at q
  rw [decide_eq_true p] at e
  exact seq1 (k7 e h) q
 ·rw [if_neg p] at q
  rw [decide_eq_false p] at e
  exact seq1 (ed e rfl) q
theorem stY {ys':List LN}(h:A (hU ns a b cs k xs ys)=.ok (.nx,hU ns a b cs k xs ys')) (q:B (hU ns a b cs k xs (if a % 8=j then ys' else ys))=R):aj (bu (_root_.D.cD (oE (vF 8) (cI j))) A aG) B (hU ns a b cs k xs ys)=R:=by
 have e:_root_.D.cD (oE (vF 8) (cI j)) (hU ns a b cs k xs ys)=.ok (decide (a % 8=j),hU ns a b cs k xs ys):=eqI rfl
 by_cases p:a % 8=j
 ·rw [if_pos p] at q
  rw [decide_eq_true p] at e
  exact seq1 (k7 e h) q
 ·rw [if_neg p] at q
  rw [decide_eq_false p] at e
  exact seq1 (ed e rfl) q
theorem adq {e:FE}{y:LN}(hl:xs.length<=1000) (h:e (hU ns a b cs k xs ys)=.ok (.str y.sh,hU ns a b cs k xs ys)):nR 5 (k2 (oM (vF 7) (oA (i6 5) (cI 1))) e) (hU ns a b cs k xs ys)=.ok (.nx,hU ns a b cs k (dm (BU b xs).toNat y xs) ys):=by
 have hL:i6 5 (hU ns a b cs k xs ys)=.ok (.int (xs.length:Nat),hU ns a b cs k xs ys):=by
  show Res.ok (T.int ((tx xs).length:Nat),_)=_
  rw [dg]
 have:=adp (i:=5) (s:=hU ns a b cs k xs ys) rfl (aD (spE rfl hL) (aD (fl:=cA) h rfl)) (spB b xs hl)
 rw [x9] at this
 exact this
theorem ads {e:FE}{y:LN}(hl:ys.length<=1000) (h:e (hU ns a b cs k xs ys)=.ok (.str y.sh,hU ns a b cs k xs ys)):nR 6 (k2 (oM (vF 7) (oA (mh 6) (cI 1))) e) (hU ns a b cs k xs ys)=.ok (.nx,hU ns a b cs k xs (dm (BU b ys).toNat y ys)):=by
 have hL:mh 6 (hU ns a b cs k xs ys)=.ok (.int (ys.length:Nat),hU ns a b cs k xs ys):=by
  show Res.ok (T.int ((tx ys).length:Nat),_)=_
  rw [dg]
 have:=adp (i:=6) (s:=hU ns a b cs k xs ys) rfl (aD (spE rfl hL) (aD (fl:=cA) h rfl)) (spB b ys hl)
 rw [x9] at this
 exact this
end
theorem afP {a b:FE}{s s1:S}{x y:Bool}(h:a s=.ok (.bl x,s1)) (h2:b s1=.ok (.bl y,s1)):Ur a b s=.ok (.bl (x || y),s1):=by
 unfold Ur
 rw [h]
 refine Eq.trans (bA _ _) ?_
 cases x with
 | true=>rfl
 | false=>exact h2
def kC (cs:List Int) (k:Int):List LN:=(ba cs none (some k)).map fun c=>rF (fV c) .drop
def j9 (cs:List Int) (k j:Int):List LN:=(ba cs (some k) (some (k+j))).map kB
theorem dx0 (cs:List Int) {k:Int}(h:0<=k) (h2:k<=13):Dx (kC cs k):=by
 refine ⟨fun x hx=>?_,?_⟩
 ·obtain ⟨c,_,rfl⟩:=jH.mp hx
  exact Nq c
 ·have:=Hx cs h
  unfold kC
  rw [dg];omega
theorem dy0 (cs:List Int) {k j:Int}(h:0<=k) (hj:0<=j) (h2:j<=13):Dy (j9 cs k j):=by
 refine ⟨fun x hx=>?_,?_⟩
 ·obtain ⟨c,_,rfl⟩:=jH.mp hx
  exact Nr c
 ·have:=zU cs h hj
  unfold j9
  rw [dg];omega
theorem zV (n i:Nat) {s:S}{src:FE}{l:List Int}{f:Int->LN}{g:Fn}(hs:src s=.ok (.lst (l.map T.int),s)) (hl:l.length<=1000000) (hg:∀ c m,g [.int c] m=.ok (.str (f c).sh,m)):i7 i (bo (h_ src) 2 [] (setG 1) cC (ah g [] (k1 (vF 1)))) s=.ok (.nx,iE s i (.ol (tx (l.map f)))):=by
 have e:=kq (n:=2) (js:=[]) (g:=setG 1) (c:=cC) (e:=ah g [] (k1 (vF 1))) (us:=l.map fun c=>T.str (f c).sh) (m':=s.m) (adb hs rfl) (by rw [dg];exact hl) (eo T.int (fun c=>T.str (f c).sh) fun c _=>⟨[none,sv (.int c)],[none,sv (.int c)],rfl,aC (ts:=[.int c]) (s':=⟨[none,sv (.int c)],s.m⟩) rfl (hg c _)⟩)
 have e2:=adf (i:=i) e
 rw [show tx (l.map f)=l.map fun c=>T.str (f c).sh by show (l.map f).map _=_;rw [rH];rfl]
 exact e2
theorem zW {s s1:S}{i:Nat}{xs:List LN}(hs:vF i s=.ok (.lst (tx xs),s1)) (h:∀ x∈xs,LG x) (hl:xs.length<=24):jD joinM (cS []) (k1 (c6 (bo (h_ (vF i)) 2 [] (setG 1) cC (oA (vF 1) (cS [10]))))) s=.ok (.str (j3 xs).flatten,s1):=by
 have e:=mE (kq (n:=2) (js:=[]) (g:=setG 1) (c:=cC) (e:=oA (vF 1) (cS [10])) (us:=xs.map fun x=>T.str (x.sh++[10])) (m':=s1.m) (adb hs rfl) (by rw [dg];omega) (eo (fun x:LN=>T.str x.sh) (fun x=>T.str (x.sh++[10])) fun x hx=>⟨[none,sv (.str x.sh)],[none,sv (.str x.sh)],rfl,aR (t:=.str x.sh) (u:=.str [10]) (s1:=⟨[none,sv (.str x.sh)],s1.m⟩) rfl rfl (bh (by have:=rj (h x hx).1 (h x hx).2.2;show _+1<=_;omega))⟩))
 have em:(xs.map fun x=>T.str (x.sh++[10]))=(j3 xs).map T.str:=by unfold j3;rw [rH];rfl
 rw [em] at e
 exact bm1 (l:=[]) (s1:=s) rfl (aD (fl:=cA) e rfl) (join_eq (by have:=ni h hl;omega))
theorem Nu {s:S}{a:Int}{xs ys:List LN}(h8:vF 8 s=.ok (.int (a % 8),s)) (hx:i6 5 s=.ok (.int (xs.length:Nat),s)) (hy:mh 6 s=.ok (.int (ys.length:Nat),s)):jO (Ur (cz (aU .Lt) (vF 8) (cI 1)) (cz (aU .Gt) (vF 8) (cI 4))) (cz (aU .LtE) (oA (i6 5) (mh 6)) (cI 24)) s=.ok (.bl (Gd a xs ys),s):=by
 refine oS (afP (aR h8 rfl (qR _ _)) (aR h8 rfl (qQ _ _))) fun _=>aR (aR hx hy (M9 _ _)) (u:=.int 24) rfl ?_
 show some (T.bl (decide ((xs.length:Int)+(ys.length:Int)<=24)))=_
 congr 3
 exact propext (by omega)
theorem vo {ns:List Int}:∃ xs ys good,Rd xs/\Rd ys/\(Wv xs ys=true->Rd (xs++ys))/\good=Wv xs ys/\cN (n+4) 51 [.scr ns] m=.ok (.lst [.str (j3 xs).flatten,.str (j3 ys).flatten,.bl good],m):=by
 obtain ⟨a,ha⟩:∃ a,a=cellAt ns 0:=⟨_,rfl⟩
 obtain ⟨b,hb⟩:∃ b,b=cellAt ns 1:=⟨_,rfl⟩
 obtain ⟨cs,hcs⟩:∃ cs,cs=ba ns (some 2) none:=⟨_,rfl⟩
 obtain ⟨k,hk⟩:∃ k,k=a/8 % 14:=⟨_,rfl⟩
 obtain ⟨j,hj⟩:∃ j,j=a/112 % 14:=⟨_,rfl⟩
 have dx:=dx0 cs (k:=k) (by omega) (by omega)
 have dy:=dy0 cs (k:=k) (j:=j) (by omega) (by omega) (by omega)
 refine ⟨XX a b (kC cs k),YY a b (j9 cs k j),_,Wo dx,Wq dy,fun h=>?_,rfl,?_⟩
 ·unfold Wv at h
  simp only [cy,decide_eq_true_eq] at h
  exact adl dx dy h.1
 rw [adm dx dy,w51]
 have lx:=Hu (a:=a) (b:=b) dx
 have ly:=Hw (a:=a) (b:=b) dy
 have l2:=Hv (a:=a) (b:=b) dy
 have lx0:=dx.hl
 have ly0:=dy.hl
 have lx1:(X1 a b (kC cs k)).length<=(kC cs k).length+1:=iD
 have ly1:(Y1 a b (j9 cs k j)).length<=(j9 cs k j).length+1:=iD
 have c0:=zN (n+2) (ns:=ns) (k:=0) (m:=[])
 have c1:=zN (n+2) (ns:=ns) (k:=1) (m:=[])
 rw [<- ha] at c0
 rw [<- hb] at c1
 have z0:rB (some 2) none (.scr ns)=some (.lst (cs.map T.int)):=by rw [hcs];rfl
 have z1:rB none (some k) (.lst (cs.map T.int))=some (.lst ((ba cs none (some k)).map T.int)):=by
  show some (T.lst (ba _ _ _))=_
  rw [kX]
 have z2:rB (some k) (some (k+j)) (.lst (cs.map T.int))=some (.lst ((ba cs (some k) (some (k+j))).map T.int)):=by
  show some (T.lst (ba _ _ _))=_
  rw [kX]
 have k4:oM (oD (vF 1) (cI 8)) (cI 14) ⟨[sv (.scr ns),sv (.int a),sv (.int b),sv (.lst (cs.map T.int)),none,none,none,none,none,none],[]⟩=.ok (.int k,⟨[sv (.scr ns),sv (.int a),sv (.int b),sv (.lst (cs.map T.int)),none,none,none,none,none,none],[]⟩):=by
  rw [hk];exact md (fd (i:=a) rfl)
 have j4:oM (oD (vF 1) (cI 112)) (cI 14) ⟨[sv (.scr ns),sv (.int a),sv (.int b),sv (.lst (cs.map T.int)),sv (.int k),some (.ol (tx (kC cs k))),none,none,none,none],[]⟩=.ok (.int j,⟨[sv (.scr ns),sv (.int a),sv (.int b),sv (.lst (cs.map T.int)),sv (.int k),some (.ol (tx (kC cs k))),none,none,none,none],[]⟩):=by
  rw [hj];exact md (fd (i:=a) rfl)
 refine aI (m':=[]) rfl (aL (s':=Wt ns a b cs k (sv (.lst (tx (XX a b (kC cs k))))) (sv (.lst (tx (YY a b (j9 cs k j))))) (sv (.bl (Gd a (XX a b (kC cs k)) (YY a b (j9 cs k j)))))) rfl ?_ rfl) rfl
 refine seq1 (s':=⟨[sv (.scr ns),sv (.int a),none,none,none,none,none,none,none,none],[]⟩) (df (aC (ts:=[.scr ns,.int ((0:Nat):Int)]) (s':=⟨[sv (.scr ns),none,none,none,none,none,none,none,none,none],[]⟩) rfl c0)) ?_
 refine seq1 (s':=⟨[sv (.scr ns),sv (.int a),sv (.int b),none,none,none,none,none,none,none],[]⟩) (df (aC (ts:=[.scr ns,.int ((1:Nat):Int)]) (s':=⟨[sv (.scr ns),sv (.int a),none,none,none,none,none,none,none,none],[]⟩) rfl c1)) ?_
 refine seq1 (s':=⟨[sv (.scr ns),sv (.int a),sv (.int b),sv (.lst (cs.map T.int)),none,none,none,none,none,none],[]⟩) (df (slL (t:=.scr ns) rfl rfl z0)) ?_
 refine seq1 (s':=⟨[sv (.scr ns),sv (.int a),sv (.int b),sv (.lst (cs.map T.int)),sv (.int k),none,none,none,none,none],[]⟩) (df (t:=.int k) k4) ?_
 refine seq1 (s':=⟨[sv (.scr ns),sv (.int a),sv (.int b),sv (.lst (cs.map T.int)),sv (.int k),some (.ol (tx (kC cs k))),none,none,none,none],[]⟩) (zV n 5 (f:=fun c=>rF (fV c) .drop) (slH (t:=.lst (cs.map T.int)) (k:=k) rfl rfl z1) (by have:=Hx cs (k:=k) (by omega);omega) fun c m=>drop_eq n) ?_
 refine seq1 (s':=⟨[sv (.scr ns),sv (.int a),sv (.int b),sv (.lst (cs.map T.int)),sv (.int k),some (.ol (tx (kC cs k))),some (.ol (tx (j9 cs k j))),none,none,none],[]⟩) (zV n 6 (f:=kB) (slB (t:=.lst (cs.map T.int)) (k:=k) (l:=k+j) rfl rfl (aR (t:=.int k) (u:=.int j) (s1:=⟨[sv (.scr ns),sv (.int a),sv (.int b),sv (.lst (cs.map T.int)),sv (.int k),some (.ol (tx (kC cs k))),none,none,none,none],[]⟩) rfl j4 (M9 _ _)) z2) (by have:=zU cs (k:=k) (j:=j) (by omega) (by omega);omega) fun c m=>Nk n) ?_
 refine seq1 (s':=⟨[sv (.scr ns),sv (.int a),sv (.int b),sv (.lst (cs.map T.int)),sv (.int k),some (.ol (tx (kC cs k))),some (.ol (tx (j9 cs k j))),sv (.int (b/6)),none,none],[]⟩) (df (fd rfl)) ?_
 refine seq1 (s':=hU ns a b cs k (kC cs k) (j9 cs k j)) (df (md rfl)) ?_
 refine stX (adq (y:=x_ b) (by omega) ?_) ?_
 ·have hd:=(adi b).1
  exact ((nr1 (n+1) (aD (t:=.int b) rfl rfl)).add (j:=300) ⟨aR (t:=.lst ([DD.print,.done,.say [],.add [49] 1 [49] 1].map fun d=>T.str d.sh)) (s1:=hU ns a b cs k (kC cs k) (j9 cs k j)) rfl (md (i:=b) rfl) (xZ (by omega) (by show _<(4:Int);omega)),Hh hd⟩).as (j6 _ _).symm
 show aj _ _ (hU ns a b cs k (X1 a b (kC cs k)) (j9 cs k j))=_
 refine stX (adq (y:=.mark Hm) (by omega) rfl) ?_
 show aj _ _ (hU ns a b cs k (XX a b (kC cs k)) (j9 cs k j))=_
 refine stY (ads (y:=ya b) (by omega) ?_) ?_
 ·have nm:=f_ (v:=2+b/3 % 8) (by omega) (by omega)
  exact (((nr1 (n+1) (aD (t:=.int b) rfl rfl)).add (TE.c [106,111,105,110,32])).add (TE.nn (ad (md (fd (i:=b) rfl))) nm)).as (by unfold ya;rw [j6];simp [DD.sh])
 show aj _ _ (hU ns a b cs k (XX a b (kC cs k)) (Y1 a b (j9 cs k j)))=_
 refine stY (ads (y:=Hn b) (by omega) ?_) ?_
 ·have hd:=(rn _ (jz (b/5 % 10))).1
  exact ((fr1 (n+1) (aD (t:=.int b) rfl rfl)).add (j:=300) ⟨aC (ts:=[.int (b/5 % 10)]) (s':=hU ns a b cs k (XX a b (kC cs k)) (Y1 a b (j9 cs k j))) (aD (md (fd (i:=b) rfl)) rfl) (vg (n+2)),Hh hd⟩).as (j6 _ _).symm
 show aj _ _ (hU ns a b cs k (XX a b (kC cs k)) (Y2 a b (Y1 a b (j9 cs k j))))=_
 have tl:∀ l:List LN,(tx l).length=l.length:=fun l=>dg _
 have sp:=spB b (Y2 a b (Y1 a b (j9 cs k j))) (by omega)
 have em:=BV (n+2) (ys:=Y2 a b (Y1 a b (j9 cs k j))) (k:=BU b (Y2 a b (Y1 a b (j9 cs k j)))) (m:=[]) sp.1 (by rw [<- tl];exact sp.2.1) (by omega)
 refine seq1 (s':=Wt ns a b cs k (some (.ol (tx (XX a b (kC cs k))))) (sv (.lst (tx (YY a b (j9 cs k j))))) none) (df (s':=Wt ns a b cs k (some (.ol (tx (XX a b (kC cs k))))) (sv (.lst (tx (Y2 a b (Y1 a b (j9 cs k j)))))) none) (aC (ts:=[.lst (tx (Y2 a b (Y1 a b (j9 cs k j)))),.int (BU b (Y2 a b (Y1 a b (j9 cs k j))))]) (s':=Wt ns a b cs k (some (.ol (tx (XX a b (kC cs k))))) (sv (.lst (tx (Y2 a b (Y1 a b (j9 cs k j)))))) none) (aD (s1:=Wt ns a b cs k (some (.ol (tx (XX a b (kC cs k))))) (sv (.lst (tx (Y2 a b (Y1 a b (j9 cs k j)))))) none) rfl (aD (spE rfl (by show Res.ok (T.int ((tx _).length:Nat),_)=_;rw [tl])) rfl)) em)) ?_
 refine seq1 (s':=Wt ns a b cs k (some (.ol (tx (XX a b (kC cs k))))) (sv (.lst (tx (YY a b (j9 cs k j))))) (sv (.bl (Gd a (XX a b (kC cs k)) (YY a b (j9 cs k j)))))) (df (Nu rfl (by show Res.ok (T.int ((tx _).length:Nat),_)=_;rw [tl]) (by show Res.ok (T.int ((tx _).length:Nat),_)=_;rw [tl]))) ?_
 exact aK (dB (aD (zW rfl (Wo dx).lg (Wo dx).hl) (aD (zW rfl (Wq dy).lg (Wq dy).hl) (aD (t:=.bl _) rfl rfl))) (ac8 _ _ _))
section
variable {g:Fn}{fl:FL}{A:FS}{s s1:S}{ts:List T}
theorem QD {t:T}{m':List Ob}(h:fl s=.ok (ts,s1)) (k:g ts s1.m=.ok (t,m')):nQ g fl A s=.ok (.nx,⟨s1.r,m'⟩):=by
 unfold nQ
 rw [h]
 show (match g ts s1.m with | .ok q=>_ | .exc _ _ s'=>_ | .bad=>_)=_
 rw [k]
theorem QE {c:Nat}{fs:List T}{s':S}{R:Res (Out × S)}(h:fl s=.ok (ts,s1)) (k:g ts s1.m=.exc c fs s') (q:A ⟨s1.r,s'.m⟩=R):nQ g fl A s=R:=by
 unfold nQ
 rw [h]
 show (match g ts s1.m with | .ok q=>_ | .exc _ _ s'=>_ | .bad=>_)=_
 rw [k]
 exact q
end
abbrev W0:List Bool:=[true,true,false,false,false,false,false,false,false]
abbrev kO (xs ys:List LN):T:=.lst [bF xs,bF ys]
theorem rq {xs ys:List LN}(hx:Rd xs) (hy:Rd ys):noOwn (kO xs ys)=true:=no2 (ng hx.lg) (ng hy.lg)
theorem Hy {xs ys:List LN}(hx:Rd xs) (hy:Rd ys) (hz:Wv xs ys=true->Rd (xs++ys)):cN (n+17) 52 [kO xs ys] m=.ok (.lst (if Wv xs ys then [] else W0.map T.bl),m):=by
 rw [w52]
 cases hw:Wv xs ys with
 | true=>exact aI (m':=[]) (B6 (rq hx hy)) (aL (s':=⟨[sv (kO xs ys),sv (.lst []),none],[]⟩) rfl (seq1 (s':=⟨[sv (kO xs ys),sv (.lst []),none],[]⟩) rfl (seq1 (s':=⟨[sv (kO xs ys),sv (.lst []),none],[]⟩) (QD (ts:=[bF xs,bF ys]) (s1:=⟨[sv (kO xs ys),sv (.lst []),none],[]⟩) rfl (nj n hx hy (hz hw) hw)) rfl)) rfl) rfl
 | false=>exact aI (m':=[]) (B6 (rq hx hy)) (aL (s':=⟨[sv (kO xs ys),sv (.lst (W0.map T.bl)),none],[]⟩) rfl (seq1 (s':=⟨[sv (kO xs ys),sv (.lst []),none],[]⟩) rfl (seq1 (s':=⟨[sv (kO xs ys),sv (.lst (W0.map T.bl)),none],[]⟩) (QE (ts:=[bF xs,bF ys]) (s1:=⟨[sv (kO xs ys),sv (.lst []),none],[]⟩) rfl (o9 n hx hy hw) rfl) rfl)) rfl) rfl
theorem named_eq {xs ys:List LN}(hx:Rd xs) (hy:Rd ys) (hz:Wv xs ys=true->Rd (xs++ys)):cN (n+17) 53 [kO xs ys] m=.ok (.bl (!Wv xs ys),m):=by
 rw [w53]
 cases hw:Wv xs ys with
 | true=>exact aI (m':=[]) (B6 (rq hx hy)) (aL (s':=⟨[sv (kO xs ys),sv (.bl false)],[]⟩) rfl (seq1 (s':=⟨[sv (kO xs ys),sv (.bl false)],[]⟩) rfl (seq1 (s':=⟨[sv (kO xs ys),sv (.bl false)],[]⟩) (QD (ts:=[bF xs,bF ys]) (s1:=⟨[sv (kO xs ys),sv (.bl false)],[]⟩) rfl (nj n hx hy (hz hw) hw)) rfl)) rfl) rfl
 | false=>exact aI (m':=[]) (B6 (rq hx hy)) (aL (s':=⟨[sv (kO xs ys),sv (.bl true)],[]⟩) rfl (seq1 (s':=⟨[sv (kO xs ys),sv (.bl false)],[]⟩) rfl (seq1 (s':=⟨[sv (kO xs ys),sv (.bl true)],[]⟩) (QE (ts:=[bF xs,bF ys]) (s1:=⟨[sv (kO xs ys),sv (.bl false)],[]⟩) rfl (o9 n hx hy hw) rfl) rfl)) rfl) rfl
theorem afQ (x y:List Nat):aU .NotEq (.lst [.str x,.str y]) (.lst [.str x,.str y])=some (.bl false):=by
 show neD (.lst [.str x,.str y]) (.lst [.str x,.str y])=_
 unfold neD
 rw [tH]
 exact nS rfl
theorem afR (b:Bool):aU .Eq (.bl (!b)) (.bl b)=some (.bl false):=by cases b<;>rfl
theorem afS {c d:FT}{s:S}(h:c s=.ok (false,s)) (h2:d s=.ok (false,s)):nu c d s=.ok (false,s):=by unfold nu;rw [h];exact h2
abbrev QF (ns:List Int) (o p:List Nat) (b:Bool) (u v:Option C):S:=⟨[sv (.scr ns),u,v,sv (.str o),sv (.str p),sv (.bl b)],[]⟩
abbrev rA (ns:List Int) (o p:List Nat) (b:Bool) (xs ys:List LN):S:=QF ns o p b (sv (kO xs ys)) (sv (.lst (if b then [] else W0.map T.bl)))
theorem Wu {ns:List Int}(_:∀ i∈ns,i.natAbs.log2<1048577):cN (n+18) 54 [.scr ns] []=.ok (.bl true,[]):=by
 obtain ⟨xs,ys,good,hx,hy,hz,rfl,hp⟩:=vo (n+13) (ns:=ns) (m:=[])
 rw [w54]
 obtain ⟨o,ho⟩:∃ o,o=(j3 xs).flatten:=⟨_,rfl⟩
 obtain ⟨p,hpp⟩:∃ p,p=(j3 ys).flatten:=⟨_,rfl⟩
 have r1:=Hl (n+2) (m:=[]) hx
 have r2:=Hl (n+2) (m:=[]) hy
 have w1:=fun m=>nh (n+7) (m:=m) hx.lg hx.hl
 have w2:=fun m=>nh (n+7) (m:=m) hy.lg hy.hl
 have l1:=ni hx.lg hx.hl
 have l2:=ni hy.lg hy.hl
 rw [<- ho] at hp r1 w1 l1
 rw [<- hpp] at hp r2 w2 l2
 obtain ⟨b,hb⟩:∃ b,b=Wv xs ys:=⟨_,rfl⟩
 have so:=Hy n (m:=[]) hx hy hz
 have na:=named_eq n (m:=[]) hx hy hz
 rw [<- hb] at hp so na
 refine aI (m':=[]) rfl (aL (s':=(rA ns o p b xs ys)) rfl ?_ rfl) rfl
 refine seq1 (s':=QF ns o p b none none) (afL (t:=.lst [.str o,.str p,.bl b]) (s1:=⟨[sv (.scr ns),none,none,none,none,none],[]⟩) (aC (ts:=[.scr ns]) (s':=⟨[sv (.scr ns),none,none,none,none,none],[]⟩) rfl hp) rfl) ?_
 have e12:bC eO (k2 (ah (cN (n+17) 31) [] (k1 (vF 3))) (ah (cN (n+17) 31) [] (k1 (vF 4)))) (QF ns o p b none none)=.ok (kO xs ys,QF ns o p b none none):=dB (aD (aC (ts:=[.str o]) (s':=QF ns o p b none none) rfl r1) (aD (aC (ts:=[.str p]) (s':=QF ns o p b none none) rfl r2) rfl)) (M_ _ _)
 refine seq1 (s':=QF ns o p b (sv (kO xs ys)) none) (df e12) ?_
 refine seq1 (s':=(rA ns o p b xs ys)) (df (aC (ts:=[kO xs ys]) (s':=QF ns o p b (sv (kO xs ys)) none) rfl so)) ?_
 have cmp:c6 (bo (h_ (vF 1)) 2 [] (setG 1) cC (ah (cN (n+17) 35) [] (k1 (vF 1)))) (rA ns o p b xs ys)=.ok (.lst [.str o,.str p],(rA ns o p b xs ys)):=by
  refine mE (kq (ts:=[bF xs,bF ys]) (s1:=(rA ns o p b xs ys)) rfl (by show 2<=1000000;decide) ?_)
  have c1:ah (cN (n+17) 35) [] (k1 (vF 1)) ⟨[none,sv (bF xs)],[]⟩=.ok (.str o,⟨[none,sv (bF xs)],[]⟩):=aC (ts:=[bF xs]) (s':=⟨[none,sv (bF xs)],[]⟩) rfl (w1 _)
  have c2:ah (cN (n+17) 35) [] (k1 (vF 1)) ⟨[none,sv (bF ys)],[]⟩=.ok (.str p,⟨[none,sv (bF ys)],[]⟩):=aC (ts:=[bF ys]) (s':=⟨[none,sv (bF ys)],[]⟩) rfl (w2 _)
  show Res.bind (ah (cN (n+17) 35) [] (k1 (vF 1)) ⟨[none,sv (bF xs)],[]⟩) _=_
  rw [c1,bA]
  show Res.bind (Res.bind (ah (cN (n+17) 35) [] (k1 (vF 1)) ⟨[none,sv (bF ys)],[]⟩) _) _=_
  rw [c2];rfl
 refine seq1 (s':=(rA ns o p b xs ys)) (ed (afS (Na (aR cmp (dB (ts:=[.str o,.str p]) rfl (M_ _ _)) (afQ _ _))) (Na (aR (aC (ts:=[kO xs ys]) (s':=(rA ns o p b xs ys)) rfl na) (u:=.bl b) rfl (afR b)))) rfl) ?_
 cases b with
 | false=>
  refine seq1 (s':=(rA ns o p false xs ys)) (ed (WZ (b:=false) rfl) rfl) (aK (aR (t:=.lst (W0.map T.bl)) (u:=.lst (W0.map T.bl)) (s1:=(rA ns o p false xs ys)) rfl rfl rfl))
 | true=>
  have rz:=hz hb.symm
  refine fm (k7 (WZ (b:=true) (s1:=(rA ns o p true xs ys)) rfl) (aK (afJ (aR (t:=.lst []) (u:=.lst []) (s1:=(rA ns o p true xs ys)) (s2:=(rA ns o p true xs ys)) rfl rfl rfl) ?_)))
  have e1:ah (cN (n+17) 41) [] (k2 (oI (vF 1) (cI 0)) (oI (vF 1) (cI 1))) (rA ns o p true xs ys)=.ok (bF (xs++ys),(rA ns o p true xs ys)):=aC (ts:=[bF xs,bF ys]) (s':=(rA ns o p true xs ys)) rfl (nj (n+1) hx hy rz hb.symm)
  have e2:ah (cN (n+17) 35) [] (k1 (ah (cN (n+17) 41) [] (k2 (oI (vF 1) (cI 0)) (oI (vF 1) (cI 1))))) (rA ns o p true xs ys)=.ok (.str (o++p),(rA ns o p true xs ys)):=by
   rw [ho,hpp,<- yi,<- zS]
   exact aC (ts:=[bF (xs++ys)]) (ds:=[]) (s':=rA ns (j3 xs).flatten (j3 ys).flatten true xs ys) (aD (by rw [ho,hpp] at e1;exact e1) rfl) (nh (n+7) rz.lg rz.hl)
  exact aR e2 (aR (t:=.str o) (u:=.str p) (s1:=(rA ns o p true xs ys)) rfl rfl (bh (by omega))) (afK _)
end K74
namespace K74
open PySem D L2
variable (n:Nat){m:List _root_.D.Ob}
set_option maxHeartbeats 0
theorem Nv:∀ P,VZ (KH.K P) M Ft It=true:=fun P=>by kernel_rfl
theorem Nx:∀ P,M.cs.all (MM (KH.K P))=true:=fun P=>by kernel_rfl
theorem Ny:∀ P,Ft.map (Qp (KH.K P))=Ft.map fun e=>(Qp (KH.K P) e).map (VY e):=fun P=>by kernel_rfl
set_option maxHeartbeats 0
def BnL:List Fe->Prop
 | []=>True
 | e::r=>Bn e/\BnL r
theorem QG:∀ {l:List Fe},BnL l->∀ e∈l,Bn e
 | e::r,h,x,hx=>by
  rcases fB.mp hx with z | z
  ·rw [z];exact h.1
  ·exact QG h.2 x z
theorem lz0 {P:List Value->Prop}(h:P []):∀ us:List Value,us.length=0->P us
 | [],_=>h
 | _::_,e=>by cases e
theorem lzS {n:Nat}{P:List Value->Prop}(h:∀ a,∀ us:List Value,us.length=n->P (a::us)):∀ us:List Value,us.length=n+1->P us
 | [],e=>by cases e
 | a::us,e=>h a us (C5.inj e)
theorem lz1 {P:List Value->Prop}(h:∀ a,P [a]):∀ us:List Value,us.length=1->P us:=lzS fun a=>lz0 (h a)
theorem lz2 {P:List Value->Prop}(h:∀ a b,P [a,b]):∀ us:List Value,us.length=2->P us:=lzS fun a=>lz1 (h a)
theorem lz3 {P:List Value->Prop}(h:∀ a b c,P [a,b,c]):∀ us:List Value,us.length=3->P us:=lzS fun a=>lz2 (h a)
theorem lz4 {P:List Value->Prop}(h:∀ a b c d,P [a,b,c,d]):∀ us:List Value,us.length=4->P us:=lzS fun a=>lz3 (h a)
theorem bn:∀ e∈Ft,Bn e:=QG (by
 repeat' first | exact trivial | refine And.intro ?_ ?_ | fail
 all_goals intro _ _ _ _ _ _
 all_goals first | exact lz1 fun _=>rfl | exact lz2 fun _ _=>rfl | exact lz3 fun _ _ _=>rfl | exact lz4 fun _ _ _ _=>rfl | exact lz0 rfl)
end K74
end
open PySem PySem.W PyProof.Rows
set_option maxRecDepth 100000 in
set_option maxHeartbeats 0 in
theorem PySem.Challenge.cw_rowblade_k74_what_is_not_woven_holds : PySem.Challenge.rw_rowblade_k74_what_is_not_woven.Holds := by
 w_on;o_law
 refine holds_open (q:=KH.vw) (loose:=[]) (Xt:=KH.Xt) (XP:=XL KH.vw []) (Yf:=Hook.obs (kHook KH.K KH.as KH.WD)) (Ya:=Hook.val (kHook KH.K KH.as KH.WD)) (YP:=Hook.says (kHook KH.K KH.as KH.WD)) (N:=19738) KH.left (Hook.of (kHook KH.K KH.as KH.WD)) (Hook.keeps (kHook KH.K KH.as KH.WD)) (fun s e=>xl_of s (Bool.and_eq_true_iff.mp e).1) XL.keeps (by rfl) (by rfl) (by rfl) (fun s e=>recFacts_of (Bool.and_eq_true_iff.mp e).2) (by rfl) (by first | assumption | decide +kernel) (by decide +kernel) ⟨rfl,rfl,rfl,rfl,rfl,by decide +kernel⟩ ?hw ?hc
 (case hw=>w_witness2)
 k_fill
 refine _root_.D.acP (l:=PySem.Challenge.rw_rowblade_k74_what_is_not_woven) (m:=63) (n:=18) (K:=KH.K) (M:=K74.M) (Ft:=K74.Ft) (It:=K74.It) (i:=54) rfl (by decide) rfl ⟨rfl,by decide,by decide⟩ (fun w h Y=>PySem.W.kIn_of Y) rfl rfl rfl rfl (fun P=>⟨⟨K74.Nv P,K74.Ny P,K74.bn⟩,K74.Nx P⟩) fun ns _ hb=>⟨[],K74.Wu 0 hb⟩
