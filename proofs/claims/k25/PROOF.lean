import PyProof.Rows.All
import Wide.All
import OpenK.AllK
import Wide.FinOn
import Lean
import PyProof.EqAt
import PyProof.EqKinds
import PyProof.TupleCall
import PyProof.Rows.EnumRows
import PyProof.EnumMake
import KE.KIntText
import KE.KEqDict
import PyProof.StrBlock
import PyProof.MinMaxWalk
import PyProof.WalkInts
import PyProof.ExcInit
import PyProof.ExcClass2
import KE.KTryMore
import PySem.Challenge.RW_rowblade_k25_whole_one_sign_otherwise
set_option Elab.async false
set_option linter.all false
set_option maxRecDepth 100000
set_option compiler.extract_closed false
noncomputable section
set_option genSizeOf false
set_option bootstrap.genMatcherCode false
local macro_rules|`(def $x $s:optDeclSig $v:declVal)=>do return(←`(noncomputable def $x $s:optDeclSig $v:declVal)).raw.rewriteBottomUp (·.setInfo .none)
local macro_rules|`(abbrev $x $s:optDeclSig $v:declVal)=>do return(←`(noncomputable abbrev $x $s:optDeclSig $v:declVal)).raw.rewriteBottomUp (·.setInfo .none)
open PySem renaming wpAny_bind->ag,Shared->ax,Value->bp,Addr->cq,model->cx,Expr->cC,sizeLine->de,wpAny->dg,wpAny_pure->dk,starEach->dn,Program->dv,World->ee,FuncData->ef,Around->eh,Heap->ek,compareOp->en,wpAny_Call_Name_kw->ew,sizeLine_eq->ez,wpAny_mono->eD,wpAny_holding->eJ,mainGlobals->eP,foldedSetIterable->e6,swapsWith->fu,behindInMarks->fv,codeAny_call_builtin->fw,eval->fC,wpAny_call->f7,codeAny_mono->gs,wpAny_standAt->gN,Scope->gV,Stmt->hF,backTo->hQ,mem_of_lookup->hV,wpAny_loadPart_at->hW,bootBuiltins->hX,codeAny->hZ,assignEach->iq,wpAny_passesOwn->ix,wpAny_execs_nil->iH,swappedStores->iM,wpAny_truthy_bool->ka,wpAny_pyIter_list->ke,sysModules->kl,binaryOp->kv,attributeBase->kx,wpAny_getItem_str_slice->kS,excClassObj->la,CmpOp->lp,wpAny_execs_cons->lx,checkBuiltinCall->ma,PassesOwn->me,Params->mq,sliceBounds->mx,keywordEach->mB,cLine->mI,wpAny_ite_false->nr,codeAny_builtin->nu,Within->n5,fromIndex->n7,strLen_append->n8,scanBound->n9,NameKind->oa,Str->oi,typeIs_str->ox,rawInt->oy,isInstance->oB,wpAny_loadPart'->oT,post_val_or_str->o4,letOwnedTupleGo->o5,Expr->o7,wpAny_setField->pa,wpAny_of_eq->pb,wpAny_field->pd,unbindBehindTheSuite->pf,reprText->pk,recursionLimit->pv,boundAndCalled->p0,bindName->qd,backToKw->qr,PassesOwnAt->qs,Operator->qv,standAt->rb,noteFrame->rg,holding->ri,wpAny_isSubtype_exc->rX,typeOf->sr,typeLookup->sx,tupleKind_room_in1->sT,builtinsNs->td,assign->th,wpAny_pyIter_enum->ti,wpAny_newObj_type->tj,callerA->tq,boot_len->tv,Keyword->tJ,plainObj_wpAny_Assign_Attribute->uc,tupleKind->uj,setFlight->uk,getMethod->u0,Model->vn,codeAny_of_tree->vu,valueAt->wk,leaving->wq,BindsTo->xp,wpAny_newFunctionEnv_cells->yA,wpAny_loadPart->yB,call_meets->y4,wpAny_attempt->z4,swapsWithSole->z5,foldedForSure->z6,assignInOrder->Aa,ExceptHandler->Dq,raiseStmt->EW,cellsFrom->FV,bindL->FX,bindC->F1,atKey->F2,wpAny_Assign_Subscript->Gu,seqIndex_neg->HI,relabel->HY,isTrue->H4,getAttr->H9,Result->IH,Paired->I0,weight_type_call_type->Jn,codeAny_call_function->Jw
open PySem.Heap renaming get?_push_of_some->b0,lt_size->c4,get?_push_size->dw,get?_update_other->fA,get?_update_self->ip,size_push->i4,get?_none_of_le->i5,SetOf->o8,get?_push_at->ro,SameBut->ry,MadeExcOf->ui,get?_update_ne->CG
open PySem.Builtin.Str renaming occurrences->dA,strSliceIndices->gg,strKind->hG
open Ne renaming symm->et
open False renaming elim->eI
open PySem.Unicode renaming isAlpha->eR
open PySem.Obj renaming mapFields->f3,mapSeq->qx,data_mapFields->ra,isFreed_of_fields->zS
open ForInStep renaming yield->f5
open PySem.Value renaming none->gG,builtin->hH,type->n3,bool->o6,float->y8
open True renaming intro->gL
open PySem.Str renaming ofString->hJ,empty->ij
open PySem.Builtin.Int renaming intBits->iv
open Array renaming length_toList->kf,getElem?_setIfInBounds_ne->rS,toList->wh,find?_toList->ER
open PySem.Code renaming quiet_builtin->kn,isFrame->xk
open PySem.StrLaws renaming sliceText->kq,subAt_eq->kA,occ_eq->Iy
open PyProof.Rows renaming AllBare->kz,joinParts_cons->n0,assignInOrder_cons->tf,envOfC->u6,subscriptTail_builtinR->He
open PySem.W renaming looks_findIn->ll,hideAll->mr,hideAll_get->n6,looks_mroIn->pz,findIn->pB,Looks->sq,Frag->vT,of_hideAll->y0,any_some->y6,emptyDict->FD
open PySem.F renaming excBase_ValueError->md,type_list_append->tG,slot_list_append->tH,plainAttrs_list->ud,plainAttrs_str->u7
open PySem.SeqAt renaming EqAt->mM,RcNeAt->vx,RcAt->CC
open PySem.Calls renaming Constant_str->ni,Name_function_global->ub,callWith_builtin->v3,evalArgs_plain->zv,spliced_cons->EB
open PySem.Txt renaming find3->n4,startswith->oC,find->oP,slice_le->r0,endswith->sb,slice->xa,isalpha->Aq
open PySem.W.Looks renaming ld->og
open Sum renaming inr->si,inl->sk
open PySem.SeqAt.RcAt renaming lists_lengths->so,tuples->vy,lists->xi
open PySem.Env renaming kindOf->va
open PySem.EntryCells renaming newEntry->vb
open PySem.SeqAt.EqAt renaming str_int->vi,int_str->vk
open PySem.Around renaming under->vr,under_plainId->xw,frames_deeper->xI,under_plain->z3
open PySem.ScopeKind renaming function->vD
open PySem.Heap.IsList renaming push->vG
open PySem.Heap.Ns1 renaming of_empty->zi
open PySem.NameKind renaming «local»->F6
open Char renaming toNat->Gf
open PySem.Expr renaming Name->JE
open PySem.Builtin.ObjectAttr renaming find->J5,dataDescriptor?->Kb
def ar:=@decide_eq_false
def bt:=@of_decide_eq_true
def cb:=@if_neg
def cv:=@if_pos
def cw:=@decide_eq_true
def c7:=@decide_eq_true_eq
def dy:=@absurd
def ey:=@congrArg
def lb:=@or_false
def lh:=@of_decide_eq_false
def nL:=@beq_self_eq_true
def tc:=@not_or
def E6:=@if_true
open Option renaming some->U,none->Y
open Bool renaming true->O,false->Zi
theorem J.{u}{α:Sort u}{a:α}:a=a:=rfl
abbrev Ap:=List<|List Nat
abbrev B1:=List Nat
abbrev B2:=List PySem.Value
abbrev Bi:=List oi
abbrev Bz:=List o7
abbrev BM:=List PySem.Addr
abbrev D1:=Option PySem.Value
abbrev D2:=Option Int
abbrev Dx:=List Int
abbrev Ee:=List PySem.Stmt
abbrev Fh:=List Bool
namespace Z0
end Z0
open Option renaming bind_eq_some_iff->a_,map_eq_some_iff->d_,ite_none_right_eq_some->gv,map->iS,some->j8,isSome_iff_exists->Du,isNone_iff_eq_none->uQ,isSome_map->Dv,map_some->Dw,getD_none->MD,none->ME,bind_some->MF,bind->MG
open PySem.W renaming Frag->bh,findIn->fG,keepIn->j9,kitOne->oh,kia_one->oj,nsIn->om,emptyDict->sD,instObj->uR,isFn->BN,mroIn->BO,fnOf->BP,exmOne->BQ,plainGet->Dy,hasDictIn->Dz,makesIn->DA,lookIn->zf,specialIn->zg,takesIn->zh,callWith_K->zj,methodObj->DB,plainGet_of->DC,plainOver->DE,takerIn->DF,any_some->DG,callWith_K0->DH,codeIn->DI,kitAny->DJ,handedIn->MH,Looks->MI,kitx_list->MJ,kitx_dict->MK,kitx_own->ML,methodCall_KW->MM,cellsFrom_some->MN,excIn->MO,Dflts->MP
open Bool renaming and_eq_true->bZ,false_ne_true->gx,or_eq_true->oq,not_eq_true'->xF,and_eq_true_iff->xG,not_eq_true->BR,or_eq_false_iff->uS,false_or->zk,eq_iff_iff->zm,and_false->zo,true_and->zq,false_and->DK,and_true->DL,or_false->MQ,or_true->MR,eq_false_or_eq_true->MS,not_true->MT,not_false->MU
open List renaming length_append->cA,length_map->cU,length_cons->eu,mem_cons_self->eX,mem_cons_of_mem->bw,all_eq_true->bz,mem_cons->bF,append_nil->bG,size_toArray->cM,getElem?_eq_some_iff->dj,append_assoc->dU,all_cons->ed,replicate->eQ,prefix_rfl->fH,getElem?_eq_getElem->fQ,map_cons->fV,getElem?_map->f6,getElem?_set_self->gy,getElem?_append_right->gz,mem_singleton->gA,range->gQ,mem_of_getElem?->gZ,getElem?_set_ne->iu,mem_append->iI,length_set->iJ,lookup->iT,getElem?_append_left->jJ,lookup_cons->jK,mem_append_right->lj,any_cons->lq,mem_map->lr,nodup_cons->mT,not_mem_nil->mU,map_append->mV,flatten->qB,map_map->qC,length_singleton->sE,zip_cons_cons->sH,isEmpty_iff->sI,eq_nil_or_concat->sJ,concat_eq_append->sO,mem_range->uT,length_take->uU,set->uV,length->xH,length_nil->xJ,length_replicate->BS,length_drop->BU,find?_cons->BV,drop_zero->BW,nil_append->BX,getLast?_append->BY,mem_filterMap->DM,getElem?_replicate->DN,all_map->DO,any_map->DP,map->DQ,drop_eq_getElem_cons->uW,mem_of_mem_drop->uX,contains_iff_mem->uY,mem_filter->zr,filterMap_cons->zt,of_mem_zip->zu,forIn_cons->zw,length_range->zx,getD_eq_getElem?_getD->zy,ext_getElem?->zE,prefix_append->zF,mem_of_mem_take->zG,flatten_append->zH,mem_append_left->DR,set_comm->DS,range_succ_eq_map->DT,getElem?_eq_none->DU,any_eq_true->DV,map_eq_nil_iff->DW,drop_length->DX,length_zip->DY,nodup_append->DZ,set_set->D0,range'->D3,take->D4,getLast?->D5,getElem_mem->D6,length_filter_le->D7,map_nil->MV,contains_cons->MW,replicate_succ->MX,flatten_cons->MY,length_flatten->MZ,length_eq_zero_iff->M0,map_take->M1,map_congr_left->M3,take_of_length_le->M4,idxOf?->M5,findIdx?_eq_some_iff_getElem->M6,zip_nil_right->M7,cons_append->M8,range'_succ->M9,drop_left->M_,take_succ_cons->Na,nodup_nil->Nb,length_dropLast->Nc,dropLast_concat->Nd,reverse_append->Nf,take_length->Ng,filter_congr->Nh,filter_cons->Ni
open Nat renaming le_refl->eA,le_trans->eY,ne_of_lt->dP,lt_of_lt_of_le->eS,le_add_right->fJ,zero_le->iU,lt_succ_self->ou,zero_add->ow,sub_self->sP,lt_irrefl->uZ,ne_of_gt->BZ,le_of_eq->B0,lt_of_le_of_lt->B3,log2_lt->B4,min_eq_left->u9,le_succ->zJ,le_of_not_lt->zK,le_add_left->zL,sub_lt_sub_left->zM,le_of_lt->D8,lt_succ_of_lt->D9,le_antisymm->D_,succ->Ea,lt_trans->Nj,mul_le_mul->Nk,min_self->Nl,add_assoc->Nm,not_lt_zero->Nn,add_comm->Np
open Int renaming ofNat->mW,emod_nonneg->B5,emod_lt_of_pos->zN,ediv_nonneg->Nq
open PyProof.Rows renaming boot_isinstance->u_,callWith_type1->zP,envOfC->Eb,callWith_builtin1->Nr,recsOf->Nt,drecsOf->Nu,boot_enumerate->Nx,boot_str->Ny,boot_list->Nz
namespace Z1
end Z1
abbrev dH:=List<|PySem.Addr×PySem.Obj
abbrev aX(x:oi):Prop:=(x == ("__debug__":oi))=Zi
abbrev fh(x:oi):Prop:=(x == ("__classdict__":oi))=Zi
abbrev Kp:=PySem.Value->PySem.Shared->Prop
abbrev L6:=Unit->PySem.Shared->Prop
abbrev Mo:String:="BaseException.__getattribute__"
abbrev Mz:String:="object.__class__"
def Nw.{u,v}{α:Type u}{β:Type v}{x:Option α}{f:α->Option β}{b:β}{P:Prop}(k:∀a,x=U a->f a=U b->P)(h:x.bind f=U b):P:=(a_.mp h).elim λa q=>k a q.1 q.2
def NA{α γ β:Type}{x:Option (α×γ)}{f:α×γ->Option β}{b:β}{P:Prop}(k:∀a c,x=U (a,c)->f (a,c)=U b->P)(h:x.bind f=U b):P:=(a_.mp h).elim λa q=>k a.1 a.2 q.1 q.2
def NB{α γ δ β:Type}{x:Option (α×γ×δ)}{f:α×γ×δ->Option β}{b:β}{P:Prop}(k:∀a c d,x=U (a,c,d)->f (a,c,d)=U b->P)(h:x.bind f=U b):P:=(a_.mp h).elim λa q=>k a.1 a.2.1 a.2.2 q.1 q.2
abbrev PySem.Shared.z(s:ax):Nat:=s.heap.objs.size
abbrev fz(k:PySem.NameKind)(env:PySem.Env)(n:oi):Bool:=k == .free&&env.scope.kind == .function&&env.kindOf n == U .cell
namespace L2
open PySem PySem.Spec PyProof.Rows
abbrev Key:=Sum Int Str
def qU:Key->bp->Bool
 |.inl k,v=>Value.isInt k v
 |.inr x,v=>Value.isStrOf x v
def Z_(w:ee):Key->Int
 |.inl k=>hashInt k
 |.inr x=>hashStr w x
def b9:∀{k:Key}{v:bp},qU k v=O->(∃i t,k=sk i/\v=Value.int i t)\/(∃x t,k=si x/\v=Value.str x t)
 |.inl i,v,h=>by
  obtain⟨t,e⟩:=Value.isInt_shape (k:=i) (v:=v) h;exact .inl ⟨i,t,J,e⟩
 |.inr x,v,h=>by
  obtain⟨t,e⟩:=Value.isStrOf_shape (x:=x) (v:=v) h;exact .inr ⟨x,t,J,e⟩
def B6(i:Int)(t:Tok):qU (.inl i) (.int i t)=O:=by simp[qU,Value.isInt]
def B7(x:Str)(t:Tok):qU (.inr x) (.str x t)=O:=by simp[qU,Value.isStrOf]
def Pj(a b:Int):decide ((sk a:Key)=sk b)=(a == b):=by
 by_cases e:a=b
 .subst e;simp
 .have h:¬ (sk a:Key)=sk b:=λq=>e<|Sum.inl.inj q
  rw[ar h];exact(beq_eq_false_iff_ne.mpr e).symm
def Pk(a b:Str):decide ((si a:Key)=si b)=decide (a=b):=by
 by_cases e:a=b
 .subst e;simp
 .have h:¬ (si a:Key)=si b:=λq=>e<|Sum.inr.inj q
  rw[ar h,ar e]
def Po(a:Int)(b:Str):decide ((sk a:Key)=si b)=Zi:=ar (λq=>nomatch q)
def Pp(a:Str)(b:Int):decide ((si a:Key)=sk b)=Zi:=ar (λq=>nomatch q)
def c9(prog:dv)(w:ee):PySem.KeyKind prog w Key where
 is:=qU
 hash:=Z_ w
 inj:=λv a b g d=>by
  rcases b9 g with⟨i,t,rfl,rfl⟩|⟨x,t,rfl,rfl⟩
  .rcases b9 d with⟨j,u,rfl,e⟩|⟨y,u,rfl,e⟩
   .injection e with e1 _;rw[e1]
   .exact nomatch e
  .rcases b9 d with⟨j,u,rfl,e⟩|⟨y,u,rfl,e⟩
   .exact nomatch e
   .injection e with e1 _;rw[e1]
 byValue:=λk v h=>by
  rcases b9 h with⟨i,t,rfl,rfl⟩|⟨x,t,rfl,rfl⟩<;>rfl
 pyHash:=λc h=>by
  rcases b9 c with⟨i,t,rfl,rfl⟩|⟨x,t,rfl,rfl⟩
  .exact wpAny_pyHash_int h
  .exact wpAny_pyHash_str h
 eqBool:=λf c h=>by
  rcases b9 f with⟨i,t,rfl,rfl⟩|⟨x,t,rfl,rfl⟩
  .rcases b9 c with⟨j,u,rfl,rfl⟩|⟨y,u,rfl,rfl⟩
   .rw[Pj]at h;exact wpAny_eqBool_int h
   .rw[Po]at h;exact vk i t y u _ _ _ _ h
  .rcases b9 c with⟨j,u,rfl,rfl⟩|⟨y,u,rfl,rfl⟩
   .rw[Pp]at h;exact vi x t j u _ _ _ _ h
   .rw[Pk]at h;exact wpAny_eqBool_str h
 «strs»:=λk x t v h=>by
  rcases b9 h with⟨i,u,rfl,e⟩|⟨y,u,rfl,e⟩
  .exact nomatch e
  .injection e with e1 _
   subst e1;cases v<;>rfl
def vc(prog:dv)(w:ee)(i:Int)(t:Tok):(c9 prog w).is (.inl i) (.int i t)=O:=B6 i t
def vd(prog:dv)(w:ee)(x:Str)(t:Tok):(c9 prog w).is (.inr x) (.str x t)=O:=B7 x t
inductive V where
 |non|bl (b:Bool)|int (i:Int)|str (x:Str)|byt (b:Array UInt8)|flt (b:UInt64)|ref (a:cq)|ty (n:String)
 deriving DecidableEq
def RelV:V->bp->Prop
 |.non,u=>u=gG
 |.bl b,u=>u=o6 b
 |.int i,u=>∃t,u=Value.int i t
 |.str x,u=>∃t,u=Value.str x t
 |.byt b,u=>∃t,u=Value.bytes b t
 |.flt b,u=>∃t,u=y8 b t
 |.ref a,u=>u=Value.ref a
 |.ty n,u=>u=n3 n
abbrev Vals:List V->B2->Prop:=I0 RelV
theorem Vals.length(r:Vals xs us):xs.length=us.length:=Paired.length r
theorem Vals.get:∀{xs:List V}{us:B2}{i:Nat}{x:V},Vals xs us->xs[i]?=U x->∃u,us[i]?=U u/\RelV x u
 |_,_,_,_,.nil,e=>by simp at e
 |_,_,0,_,.cons r _,e=>by simp at e;subst e;exact⟨_,J,r⟩
 |_,_,i+1,x,.cons _ t,e=>by
  obtain⟨u,b,a⟩:=Vals.get (i:=i) (x:=x) t (by simpa using e)
  exact⟨u,by simpa using b,a⟩
theorem Vals.set(r:RelV x u):∀{xs:List V}{us:B2}(i:Nat),Vals xs us->Vals (xs.set i x) (us.set i u)
 |_,_,_,.nil=>.nil
 |_,_,0,.cons _ t=>.cons r t
 |_,_,i+1,.cons q t=>.cons q<|Vals.set r i t
theorem Vals.append:∀{xs ys:List V}{us a:B2},Vals xs us->Vals ys a->Vals (xs++ys) (us++a)
 |_,_,_,_,.nil,s=>s
 |_,_,_,_,.cons r t,s=>.cons r<|Vals.append t s
theorem Vals.take:∀{xs:List V}{us:B2}(n:Nat),Vals xs us->Vals (xs.take n) (us.take n)
 |_,_,0,_=>.nil
 |_,_,_+1,.nil=>.nil
 |_,_,n+1,.cons r t=>.cons r<|Vals.take n t
theorem Vals.drop:∀{xs:List V}{us:B2}(n:Nat),Vals xs us->Vals (xs.drop n) (us.drop n)
 |_,_,0,r=>r
 |_,_,_+1,.nil=>.nil
 |_,_,n+1,.cons _ t=>Vals.drop n t
def iV:Option V->D1->Prop
 |some v,some u=>RelV v u
 |none,none=>True
 |_,_=>False
def KV{a:Type}:List (a×V)->List (a×bp)->Prop:=I0 λ(p:a×V) (q:a×bp)=>p.1=q.1/\RelV p.2 q.2
def kV:Key->V
 |.inl i=>.int i
 |.inr x=>.str x
inductive HO where
 |lst (xs:List V)
 |tup (xs:List V)
 |dK (aW:List<|Key×V)|dT (aW:List<|List Key×V)
 |set (S:Int->Bool) (n:Nat)
 |ins (C dx:cq) (fs:List<|Str×V)
 |own (x:cq)
 |xd (fs:List<|Str×V)
 |met (f x:cq)
 |oz (lo hi:Int)
 |j_ (o:Obj) (u:HO)
 |tbl (ps:Array bp)
 |ext (φ:ek->Prop)
abbrev Hp:=cq->Option HO
def upd(H:Hp)(a:cq)(o:HO):Hp:=λb=>if b=a then U o else H b
def ak:upd H a o a=U o:=by unfold upd;rw[cv J]
def ai(h:b≠a):upd H a o b=H b:=by unfold upd;rw[cb h]
def sU:upd (upd H a o) a u=upd H a u:=by
 funext b;unfold upd;split<;>rfl
def UK{H:Hp}(h:H a=U o)(h':H b=U u)(d:o≠u):a≠b:=by
 intro e;subst e;rw[h]at h';exact d<|j8.inj h'
def aJ{H:Hp}(h:H a=U o)(h':H b=Y):a≠b:=by
 intro e;subst e;rw[h]at h';cases h'
section
variable(P:dv)(w:ee)
def bV(H:Hp)(h:ek)(a:cq):HO->Prop
 |.lst xs=>xs.length<=de/\∃(au:B2)(n:Nat),Vals xs au/\h.get? a=U {cls:=.type "list",data:=.seq au.toArray n}
 |.tup xs=>xs.length<=de/\∃au:B2,Vals xs au/\IsTup h a au.toArray
 |.dK c=>c.length<=de/\(a == kl)=Zi/\∃g,KV c g/\h.DictOf (c9 P w) a g
 |.dT c=>c.length<=de/\(a == kl)=Zi/\∃xs:List (List Key×cq×bp),
   I0 (λ(p:List Key×V) (q:List Key×cq×bp)=>p.1=q.1/\H q.2.1=U (.tup<|p.1.map kV)/\RelV p.2 q.2.2) c xs /\
   ∃o k m,h.get? a=U o/\o.ExactDict/\o.data=.dict k m/\k.toList=xs.map (entryOfKey<|uj<|c9 P w)/\(xs.map (·.1)).Nodup
 |.set S n=>h.SetOf (intKind P w) a S n
 |.ins C d fs=>H d=U (.own a)/\fs.length<=1000/\d≠a/\h.get? a=U (uR C d) /\
   ∃b,h.Ns1 d b/\(∀f,iV (fs.lookup f)<|b f)/\n5 b (fs.map (·.1))
 |.own _=>∃o,h.get? a=U o
 |.xd fs=>∃b,h.Ns1 a b/\∀f,iV (fs.lookup f)<|b f
 |.oz lo l=>∃t u v,h.get? a=U {cls:=.type "range",data:=.fields #[.int lo t,.int l u,.int 1 v]}
 |.j_ o u=>h.get? a=U o/\bV H h a u
 |.tbl ps=>h.get? a=U {cls:=.none,data:=.fields ps}
 |.met f x=>h.get? a=U (DB (.ref f)<|.ref x)
 |.ext e=>e h/\(∃o,h.get? a=U o)/\∀j i:ek,e j->(∀o,j.get? a=U o->i.get? a=U o)->e i
def jL(H:Hp)(h:ek):Prop:=∀a o,H a=U o->bV P w H h a o
end
variable{C a dx f x:cq}{A:eh}{b e o:cC}{h h':ek}{H H':Hp}{aa:dH}{R:Bz}{p pos:Pos}{P:dv}{s:ax}{E:Kp}{w:ee}
section
variable{o:HO}
theorem bV.lt(x:bV P w H h a o):a<h.objs.size:=by
 cases o with
 |lst xs=>obtain⟨_,_,_,_,e⟩:=x;exact c4 e
 |tup xs=>obtain⟨_,_,_,p⟩:=x;exact p.lt
 |dK b=>obtain⟨_,_,_,_,o,_,_,e,_⟩:=x;exact c4 e
 |dT b=>obtain⟨_,_,_,_,o,_,_,e,_⟩:=x;exact c4 e
 |set S n=>obtain⟨o,_,_,_,e,_⟩:=x;exact c4 e
 |ins C dx fs=>obtain⟨_,_,_,e,_⟩:=x;exact c4 e
 |own y=>obtain⟨_,e⟩:=x;exact c4 e
 |xd fs=>obtain⟨_,⟨_,_,_,e,_⟩,_⟩:=x;exact c4 e
 |oz lo d=>obtain⟨_,_,_,e⟩:=x;exact c4 e
 |j_ ob u=>obtain⟨e,_⟩:=x;exact c4 e
 |tbl ps=>exact c4<|show h.get? a=U _ from x
 |met f y=>exact c4<|show h.get? a=U _ from x
 |ext c=>obtain⟨_,⟨_,e⟩,_⟩:=x;exact c4 e
theorem Paired.Pq{α e:Type}{F G:α->e->Prop}:∀{d:List α}{c:List e},I0 F d c->(∀a b,F a b->G a b)->I0 G d c
 |_,_,.nil,_=>.nil
 |_,_,.cons r t,f=>.cons (f _ _ r)<|Paired.Pq t f
def bV.oF(x:bV P w H h a o)(k:∀b u,(b=a\/H b=U (.own a))->h.get? b=U u->h'.get? b=U u)
  (s:∀b,H b=U (.own a)->H' b=U (.own a)) (m:∀b xs,H b=U (.tup xs)->H' b=U (.tup xs)):bV P w H' h' a o:=by
 induction o with
 |lst xs=>obtain⟨z,au,n,r,e⟩:=x;exact⟨z,au,n,r,k _ _ (.inl J) e⟩
 |tup xs=>obtain⟨z,au,r,ob,e,c⟩:=x;exact⟨z,au,r,ob,k _ _ (.inl J) e,c⟩
 |dK B=>obtain⟨z,y,j,r,ob,R,g,e,c⟩:=x;exact⟨z,y,j,r,ob,R,g,k _ _ (.inl J) e,c⟩
 |dT B=>
  obtain⟨z,y,xs,r,ob,R,g,e,c⟩:=x;exact⟨z,y,xs,Paired.Pq r λp q z=>⟨z.1,m _ _ z.2.1,z.2.2⟩,ob,R,g,k _ _ (.inl J) e,c⟩
 |set S n=>obtain⟨ob,R,g,t,e,c⟩:=x;exact⟨ob,R,g,t,k _ _ (.inl J) e,c⟩
 |ins C dx fs=>
  obtain⟨d,z,ne,e,i,⟨od,R,g,A,c⟩,r⟩:=x;exact⟨s _ d,z,ne,k _ _ (.inl J) e,i,⟨od,R,g,k _ _ (.inr d) A,c⟩,r⟩
 |own y=>obtain⟨ob,e⟩:=x;exact⟨ob,k _ _ (.inl J) e⟩
 |xd fs=>obtain⟨i,⟨od,R,g,e,c⟩,r⟩:=x;exact⟨i,⟨od,R,g,k _ _ (.inl J) e,c⟩,r⟩
 |oz lo E=>obtain⟨t,u,v,e⟩:=x;exact⟨t,u,v,k _ _ (.inl J) e⟩
 |j_ ob u l=>obtain⟨e,q⟩:=x;exact⟨k _ _ (.inl J) e,l q⟩
 |tbl ps=>
  have e:h.get? a=U {cls:=.none,data:=.fields ps}:=x;show h'.get? a=U {cls:=.none,data:=.fields ps};exact k a _ (.inl J) e
 |met f y=>
  have e:h.get? a=U (DB (.ref f)<|.ref y):=x;show h'.get? a=U (DB (.ref f)<|.ref y);exact k a _ (.inl J) e
 |ext D=>obtain⟨p,⟨o,e⟩,st⟩:=x;exact⟨st _ _ p λo q=>k _ _ (.inl J) q,⟨o,k _ _ (.inl J) e⟩,st⟩
theorem jL.lt(x:jL P w H h)(e:H a=U o):a<h.objs.size:=(x a o e).lt
def jL.fresh(x:jL P w H h)(e:h.objs.size<=a):H a=Y:=by
 cases q:H a with
 |none=>rfl
 |some u=>exact dy (eS (x.lt q) e)<|uZ _
def jL.kept(x:jL P w H h)(k:∀b u,h.get? b=U u->h'.get? b=U u):jL P w H h':=λa o e=>
 (x a o e).oF (λb u _ q=>k b u q) (λ_ q=>q) λ_ _ q=>q
def jL.laid(x:jL P w H h)(k:∀b u,h.get? b=U u->h'.get? b=U u)(f:h.objs.size<=a)(new:bV P w (upd H a o) h' a o):jL P w (upd H a o) h':=λb u e=>by
 have d:=x.fresh f;by_cases hb:b=a
 .subst hb;rw[ak]at e;cases e;exact new
 .rw[ai hb]at e
  exact(x b u e).oF (λc v _ q=>k c v q) (λc q=>by rw[ai<|aJ q d];exact q) λc xs q=>by rw[ai<|aJ q d];exact q
end
def Rd(H:Hp)(a:cq)(u:HO):Prop:=H a=U u\/∃o,H a=U (.j_ o u)
def Rd.ok(r:Rd H a u)(x:jL P w H h):bV P w H h a u:=by
 rcases r with r|⟨o,r⟩
 .exact x a u r
 .obtain⟨_,q⟩:=x a _ r
  exact q
def UL:Option HO->Prop
 |U<|.lst _=>True
 |U<|.dK _=>True
 |U<|.dT _=>True
 |U<|.set _ _=>True
 |U<|.ins _ _ _=>True
 |U<|.ext _=>True
 |_=>False
section
variable{e:cq}
def jL.write(ok:jL P w H h)(mu:UL<|H x)(he:e=x\/H e=U (.own x))(k:∀b u,b≠e->h.get? b=U u->h'.get? b=U u)(g:∃u,h'.get? e=U u)
  (new:bV P w (upd H x j) h' x j):jL P w (upd H x j) h':=λb u q=>by
 have UM:∀c y,H c=U (.own y)->c≠x:=λc y r z=>by subst z;rw[r]at mu;exact mu
 have À:∀c xs,H c=U (.tup xs)->c≠x:=λc xs r z=>by subst z;rw[r]at mu;exact mu
 by_cases hb:b=x
 .subst hb;rw[ak]at q;cases q;exact new
 .rw[ai hb]at q
  by_cases hbe:b=e
  .have d:H b=U (.own x):=by
    rcases he with z|z
    .exact dy (hbe.trans z) hb
    .rw[hbe];exact z
   rw[q]at d;cases d;obtain⟨v,f⟩:=g;exact⟨v,by rw[hbe];exact f⟩
  .refine(ok b u q).oF (λc v a r=>k c v ?_ r) (λc r=>by rw[ai<|UM c b r];exact r) λc xs r=>by rw[ai<|À c xs r];exact r
   rcases a with rfl|a
   .exact hbe
   .rintro rfl
    rcases he with z|z
    .exact UM c b a z
    .rw[a]at z;cases z;exact hb J
end
structure Un(fs ex:BM)(H H':Hp)(h h':ek):Prop where
 keep:∀b o,h.get? b=U o->H b=Y->b∉fs->b∉ex->h'.get? b=U o
 slot:∀b o,h.get? b=U o->H b=Y->b∈fs->b∉ex->∃sl,h'.get? b=U {o with slots:=sl}
 free:∀b o,h.get? b=U o->H b=Y->b∉ex->H' b=Y
 there:∀b o,h.get? b=U o->b∉ex->∃o',h'.get? b=U o'
 mX:∀b xs,H b=U (.tup xs)->H' b=U (.tup xs)
 lu:∀b o u,H b=U (.j_ o u)->H' b=U (.j_ o u)
 mY:∀b ps,H b=U (.tbl ps)->∃more,H' b=U (.tbl<|ps++more)
section
variable{e:cq}{o:HO}
def Un.any(u:Un fs ex H H1 h d){b:cq}(q:h.get? b=U ob)(n:H b=Y)(a:b∉ex):∃sl,d.get? b=U {ob with slots:=sl}:=by
 by_cases hb:b∈fs
 .exact u.slot b ob q n hb a
 .exact⟨ob.slots,u.keep b ob q n hb a⟩
def Un.kept(k:∀b u,h.get? b=U u->h'.get? b=U u):Un fs ex H H h h':=
 ⟨λb ob q _ _ _=>k b ob q,λb ob q _ _ _=>⟨ob.slots,k b ob q⟩,λ_ _ _ n _=>n,λb ob q _=>⟨ob,k b ob q⟩,λ_ _ q=>q,λ_ _ _ q=>q,λ_ ps q=>⟨#[],by rw[q];simp⟩⟩
def Un.refl:Un fs ex H H h h:=Un.kept λ_ _ q=>q
def Un.laid(k:∀b u,h.get? b=U u->h'.get? b=U u)(d:h.objs.size<=a)(c:H a=Y):Un fs ex H (upd H a o) h h' where
 keep:=λb u q _ _ _=>k b u q
 slot:=λb u q _ _ _=>⟨u.slots,k b u q⟩
 free:=λb u q n _=>by rw[ai<|dP<|eS (c4 q) d];exact n
 there:=λb u q _=>⟨u,k b u q⟩
 mX:=λb xs q=>by rw[ai<|aJ q c];exact q
 lu:=λb u xs q=>by rw[ai<|aJ q c];exact q
 mY:=λb ps q=>⟨#[],by rw[ai<|aJ q c,q];simp⟩
def Un.write(mu:UL<|H x)(he:e=x\/H e=U (.own x))(k:∀b u,b≠e->h.get? b=U u->h'.get? b=U u)(g:∃u,h'.get? e=U u):Un fs ex H (upd H x o) h h':=by
 have c:∀b,H b=Y->b≠x:=λb n z=>by subst z;rw[n]at mu;exact mu
 have d:∀b,H b=Y->b≠e:=λb n z=>by
  subst z;rcases he with r|r
  .exact c b n r
  .rw[n]at r;cases r
 have a:∀b u,H b=U u->¬ UL (U u)->b≠x:=λb u q f z=>by subst z;rw[q]at mu;exact f mu
 refine⟨λb u q n _ _=>k b u (d b n) q,λb u q n _ _=>⟨u.slots,k b u (d b n) q⟩,λb u q n _=>by rw[ai<|c b n];exact n,λb u q _=>?_,
  λb xs q=>by rw[ai<|a b _ q λz=>z];exact q,λb u xs q=>by rw[ai<|a b _ q λz=>z];exact q,λb ps q=>⟨#[],by rw[ai<|a b _ q λz=>z,q];simp⟩⟩
 by_cases hbe:b=e
 .subst hbe;exact g
 .exact⟨u,k b u hbe q⟩
end
def Jr(h:ek)(H:Hp):BM:=(gQ h.objs.size).filter λa=>(H a).isSome
def sV(h:ek)(H:Hp):ek:=PySem.W.hideAll h<|Jr h H
def B8(h:ek)(H:Hp):(sV h H).objs.size=h.objs.size:=PySem.W.hideAll_size _ _
def Ec{b:cq}{o:Obj}(e:h.get? b=U o)(n:H b=Y):(sV h H).get? b=U o:=
 PySem.W.hideAll_get _ e λa=>by
  have q:(H b).isSome=O:=(zr.mp a).2;rw[n]at q;simp at q
def JI{b:cq}{o:Obj}(e:(sV h H).get? b=U o):h.get? b=U o/\H b=Y:=by
 have a:h.get? b=U o:=PySem.W.of_hideAll (Jr h H) e;refine⟨a,?_⟩;cases q:H b with
 |none=>rfl
 |some x=>
  have c:b∈Jr h H:=zr.mpr ⟨uT.mpr<|c4 a,by simp[q]⟩
  have z:(sV h H).get? b=Y:=PySem.W.hideAll_none (Jr h H) c;rw[z]at e;cases e
def JJ(g h:ek)(L:cq):dH:=(gQ h.objs.size).filterMap λa=>if a=L\/(g.get? a).isSome=O then Y else(h.get? a).map λo=>(a,o)
def rest(g h:ek)(L d:cq):dH:=(JJ g h L).filter λp=>decide<|p.1≠d
structure Mod(K:bh)(mg:Str->D1)(base:ek):Prop where
 kin:K.In base
 glob:base.Ns eP mg
 blt:∃mb,base.Ns td mb/\∀x:Str,x ≠ "__name__" -> mb x=hX x
 nolimit:base.NoLimit
structure Cx where
 prog:dv
 w:ee
 K:bh
 mg:Str->D1
 base:ek
 A:eh
 N:Bi
 s₀:ax
 H₀:Hp
 env:Env
 outer:List Env
 stack:List Env
 ex:BM
 fn:Str->Bool
 calm:Bool
 pn:dH
 xe:Kp
abbrev mX(X:Cx):=cx X.prog X.w
def kc(l:List Env):BM:=l.filterMap (·.frame)
abbrev Cx.fs(X:Cx):BM:=kc X.outer
def kg(sc:gV)(x:Str):Prop:=sc.names.lookup x=U .local\/sc.names.lookup x=U .cell\/sc.names.lookup x=U .free
def Loc(sc:gV)(x:Str):Prop:=sc.names.lookup x=U .local\/sc.names.lookup x=U .cell
def Look(env:Env)(h:ek)(m:Str->D1)(x:Str)(u:bp):Prop:=
 (env.kindOf x=U .local/\m x=U u)\/((env.kindOf x=U .cell\/env.kindOf x=U .free)/\∃c,env.cells.lookup x=U c/\h.IsCell c (U u))
structure Cx.Ok(X:Cx):Prop where
 mod:Mod X.K X.mg X.base
 kind:X.env.scope.kind=.function
 glob:X.env.globals=eP
 blt:X.env.builtins=td
 above:X.s₀.heap.objs.size<=X.env.locals
 inj:∀x y c,X.env.cells.lookup x=U c->X.env.cells.lookup y=U c->x=y
 has:∀x,(X.env.kindOf x=U .cell\/X.env.kindOf x=U .free)->∃c,X.env.cells.lookup x=U c
 cab:∀x c,X.fn x=O->X.env.cells.lookup x=U c->X.s₀.heap.objs.size<=c
 hd:X.calm=O->X.A.handled=Y
 frames:X.A.frames=U X.stack
 stk:X.stack=X.outer\/(X.stack=X.env::X.outer/\X.env.frame=U X.env.locals)
 exf:∀b∈X.ex,b≠X.env.locals/\∀x c,X.env.cells.lookup x=U c->c≠b
 bs:∀b o,X.base.get? b=U o->X.s₀.heap.get? b=U o/\X.H₀ b=Y
 bsz:X.base.objs.size<=X.s₀.heap.objs.size
 noex:∀b o,X.base.get? b=U o->b∉X.ex
 exfs:∀b∈X.ex,b∉X.fs
 jM:X.s₀.heap.FunFrames X.base X.outer
 frf:∀b∈X.fs,X.H₀ b=Y
structure Inv(X:Cx)(aa:dH)(σ:List<|Option V)(H:Hp)(s:ax):Prop where
 ok:X.Ok
 os:s.os=X.s₀.os
 bare:kz s.gens
 base:Un X.fs X.ex X.H₀ H X.s₀.heap s.heap
 loc:∃m,s.heap.Ns X.env.locals m/\∀(i:Nat)(x:Str)(v:V),X.N[i]?=U x->σ[i]?=U (U v)->kg X.env.scope x->∃u,RelV v u/\Look X.env s.heap m x u
 cell:∀x c,X.env.cells.lookup x=U c->∃v,s.heap.IsCell c v
 free:H X.env.locals=Y
 freeC:∀x c,X.env.cells.lookup x=U c->H c=Y
 pin:∀p∈X.pn++aa,s.heap.get? p.1=U p.2/\H p.1=Y/\p.1≠X.env.locals/\p.1∉X.fs/\∀v,p.2.data≠.cell v
 bA:jL X.prog X.w H s.heap
 len:σ.length=X.N.length
section
variable{X:Cx}
def Cx.Ok.Á(ok:X.Ok){b:cq}{o:Obj}(e:X.base.get? b=U o):b∉X.fs:=λa=>by
 have:=(ok.jM.mem a).1
 rw[e]at this;cases this
theorem Inv.bs(I:Inv X aa σ H s):∀b o,X.base.get? b=U o->s.heap.get? b=U o/\H b=Y:=λb o e=>
 ⟨I.base.keep b o (I.ok.bs b o e).1 (I.ok.bs b o e).2 (I.ok.Á e)<|I.ok.noex b o e,I.base.free b o (I.ok.bs b o e).1 (I.ok.bs b o e).2<|I.ok.noex b o e⟩
def Inv.bk(I:Inv X aa σ H s):∀b o,X.base.get? b=U o->s.heap.get? b=U o:=λb o e=>(I.bs b o e).1
theorem Inv.mod(I:Inv X aa σ H s):Mod X.K X.mg X.base:=I.ok.mod
def Inv.iw(I:Inv X aa σ H s):X.K.In s.heap:=I.ok.mod.kin.keeps I.bk
theorem Inv.lt(I:Inv X aa σ H s):X.env.locals<s.z:=let⟨_,hn,_⟩:=I.loc;hn.lt
def Inv.sz(I:Inv X aa σ H s):X.s₀.heap.objs.size<=s.z:=eY I.ok.above<|D8 I.lt
def Inv.Â(I:Inv X aa σ H s)(h:s.z<=a):a∉X.fs:=λc=>by
 obtain⟨_,o,b,_⟩:=I.ok.jM.mem c;exact dy (eS (c4 b)<|eY I.sz h)<|uZ _
def Inv.JK(I:Inv X aa σ H s):∀x c,X.env.cells.lookup x=U c->c≠X.env.locals:=λx c e z=>by
 obtain⟨v,o,a,hd⟩:=I.cell x c e;obtain⟨m,⟨f,R,g,b,d,_⟩,_⟩:=I.loc;rw[z,b]at a;cases a;rw[d]at hd;cases hd
theorem Inv.jM(I:Inv X aa σ H s):s.heap.FunFrames X.base X.outer:=by
 have all:∀(l:List Env),(∀b∈kc l,b∈X.fs)->X.s₀.heap.FunFrames X.base l->s.heap.FunFrames X.base l:=by
  intro l
  induction l with
  |nil=>intro _ _;trivial
  |cons env r g=>
   intro f hl;obtain⟨k,⟨L,o,a,j,i,hd⟩,h⟩:=hl;have d:L∈X.fs:=f L (by unfold kc;rw[zt,a];exact eX)
   obtain⟨sl,e⟩:=I.base.slot L o i (I.ok.frf L d) d λz=>I.ok.exfs L z d;exact⟨k,⟨L,_,a,j,e,hd⟩,g (λb c=>f b<|by unfold kc;rw[zt,a];exact bw _ c) h⟩
 exact all X.outer (λ_ c=>c) I.ok.jM
theorem Inv.stack(I:Inv X aa σ H s):s.heap.FunFrames X.base X.stack:=by
 rcases I.ok.stk with e|⟨e,b⟩
 .rw[e];exact I.jM
 .rw[e]
  obtain⟨m,a,_⟩:=I.loc;refine .cons (by rw[I.ok.kind];decide) b a ?_ I.jM
  exact i5<|eY I.ok.bsz I.ok.above
def Inv.jN(I:Inv X aa σ H s):∀b∈kc X.stack,b∈X.env.locals::X.fs:=λb a=>by
 rcases I.ok.stk with e|⟨e,c⟩
 .rw[e]at a;exact bw _ a
 .rw[e]at a
  unfold kc at a;rw[zt,c]at a;exact a
def Inv.nE(I:Inv X aa σ H s):∀b∈kc X.stack,H b=Y:=λb a=>by
 rcases bF.mp (I.jN b a)with e|a
 .rw[e];exact I.free
 .obtain⟨_,o,c,_⟩:=I.ok.jM.mem a
  exact I.base.free b o c (I.ok.frf b a) λz=>I.ok.exfs b z a
def Inv.step{ch:BM}(I:Inv X aa σ H s)
  (D:∀b∈ch,(b∈X.ex\/X.s₀.heap.objs.size<=b)/\b≠X.env.locals/\(∀x c,X.env.cells.lookup x=U c->c≠b)/\∀p∈X.pn++aa,p.1≠b)
  (keep:∀b o,b≠X.env.locals->b∉X.fs->b∉ch->s.heap.get? b=U o->H b=Y->h'.get? b=U o)
  (slot:∀b o,b≠X.env.locals->b∈X.fs->b∉ch->s.heap.get? b=U o->H b=Y->∃sl,h'.get? b=U {o with slots:=sl}) (free:∀b o,b∉ch->s.heap.get? b=U o->H b=Y->H' b=Y)
  (there:∀b o,b∉ch->s.heap.get? b=U o->∃t,h'.get? b=U t)
  (mX:∀b xs,H b=U (.tup xs)->H' b=U (.tup xs)) (lu:∀b o u,H b=U (.j_ o u)->H' b=U (.j_ o u)) (mY:∀b ps,H b=U (.tbl ps)->∃A,H' b=U (.tbl<|ps++A))
  (ns:∀m,s.heap.Ns X.env.locals m->h'.Ns X.env.locals m) (bA:jL X.prog X.w H' h') (L:kz g') :
  Inv X aa σ H' {s with heap:=h',gens:=g',drawn:=d',toks:=t'}:=by
 have y:∀b o,X.s₀.heap.get? b=U o->b≠X.env.locals:=λb o e=>dP<|eS (c4 e) I.ok.above;have E:∀b o,X.s₀.heap.get? b=U o->b∉X.ex->b∉ch:=λb o e a h=>by
  rcases(D b h).1 with z|z
  .exact a z
  .exact dy (eS (c4 e) z)<|uZ _
 have f:∀x c,X.env.cells.lookup x=U c->∀v,s.heap.IsCell c v->h'.IsCell c v:=λx c e v G=>by
  obtain⟨o,j,hd⟩:=G;have C:c∉ch:=λz=>(D c z).2.2.1 x c e J;by_cases hc:c∈X.fs
  .obtain⟨sl,q⟩:=slot c o (I.JK x c e) hc C j<|I.freeC x c e
   exact⟨_,q,hd⟩
  .exact⟨o,keep c o (I.JK x c e) hc C j<|I.freeC x c e,hd⟩
 refine⟨I.ok,I.os,L,⟨λb o e n h a=>?_,λb o e n h a=>?_,λb o e n a=>?_,λb o e a=>?_,λb xs e=>mX b xs<|I.base.mX b xs e,λb o xs e=>lu b o xs<|I.base.lu b o xs e,λb ps e=>?_⟩,?_,λx c e=>?_,?_,λx c e=>?_,λp F=>?_,bA,I.len⟩
 .exact keep b o (y b o e) h (E b o e a) (I.base.keep b o e n h a)<|I.base.free b o e n a
 .obtain⟨sl,g⟩:=I.base.slot b o e n h a
  obtain⟨N,B⟩:=slot b _ (y b o e) h (E b o e a) g<|I.base.free b o e n a;exact⟨N,B⟩
 .obtain⟨t,g⟩:=I.base.there b o e a
  exact free b t (E b o e a) g<|I.base.free b o e n a
 .obtain⟨t,g⟩:=I.base.there b o e a
  exact there b t (E b o e a) g
 .obtain⟨m1,g⟩:=I.base.mY b ps e
  obtain⟨m2,B⟩:=mY b _ g;exact⟨m1++m2,by rw[B,Array.append_assoc]⟩
 .obtain⟨m,K,hl⟩:=I.loc
  refine⟨m,ns m K,λi x v g B M=>?_⟩;obtain⟨u,r,l⟩:=hl i x v g B M;refine⟨u,r,?_⟩;rcases l with l|⟨k,c,e,z⟩
  .exact .inl l
  .exact .inr ⟨k,c,e,f x c e _ z⟩
 .obtain⟨v,z⟩:=I.cell x c e
  exact⟨v,f x c e v z⟩
 .obtain⟨m,⟨o,_,_,j,_⟩,_⟩:=I.loc
  exact free _ o (λz=>(D _ z).2.1 J) j I.free
 .obtain⟨v,o,j,hd⟩:=I.cell x c e
  exact free c o (λz=>(D c z).2.2.1 x c e J) j<|I.freeC x c e
 .obtain⟨e,n,ne,nf,d⟩:=I.pin p F
  have C:p.1∉ch:=λz=>(D p.1 z).2.2.2 p F J;exact⟨keep p.1 p.2 ne nf C e n,free p.1 p.2 C e n,ne,nf,d⟩
def Inv.un(I:Inv X aa σ H s)(u:Un X.fs [] H H' s.heap h')(bA:jL X.prog X.w H' h'):Inv X aa σ H' {s with heap:=h',toks:=t'}:=by
 obtain⟨m,⟨o,R,k,d,r⟩,_⟩:=id I.loc;obtain⟨sl,h⟩:=u.any d I.free (by simp)
 exact I.step (g':=s.gens) (d':=s.drawn) (ch:=[]) (λ_ z=>nomatch z) (λb o _ a _ e n=>u.keep b o e n a<|by simp) (λb o _ a _ e n=>u.slot b o e n a<|by simp) (λb o _ e n=>u.free b o e n<|by simp) (λb o _ e=>u.there b o e<|by simp) u.mX u.lu u.mY (λj g=>by
  obtain⟨i,Ã,Ä,c,f⟩:=g;rw[d]at c;cases c;exact⟨_,Ã,Ä,h,f⟩) bA I.bare
def Inv.call(I:Inv X aa σ H s)(u:Un (kc X.stack) ch H H' s.heap h')(bA:jL X.prog X.w H' h')(k:kz g')
  (h:∀b∈ch,(b∈X.ex\/X.s₀.heap.objs.size<=b)/\b≠X.env.locals/\(∀x c,X.env.cells.lookup x=U c->c≠b)/\∀p∈X.pn++aa,p.1≠b) :
  Inv X aa σ H' {s with heap:=h',gens:=g',drawn:=d',toks:=t'}:=by
 obtain⟨m,⟨o,R,v,g,r⟩,_⟩:=id I.loc;obtain⟨sl,d⟩:=u.any g I.free λz=>(h _ z).2.1 J;exact I.step (ch:=ch) h (λb o d l a e n=>u.keep b o e n (λz=>(bF.mp<|I.jN b z).elim d l) a) (λb o _ _ a e n=>u.any e n a) (λb o a e n=>u.free b o e n a) (λb o a e=>u.there b o e a) u.mX u.lu u.mY (λt j=>by
  obtain⟨q,Ã,Ä,f,i⟩:=j;rw[g]at f;cases f;exact⟨_,Ã,Ä,d,i⟩) bA k
def Inv.turned(I:Inv X aa σ H s)(k:∀b o,b≠it->s.heap.get? b=U o->h'.get? b=U o)(h:H it=Y)(f:it≠X.env.locals)
  (w:it∈X.ex\/X.s₀.heap.objs.size<=it) (t:∀x c,X.env.cells.lookup x=U c->c≠it) (l:∀p∈X.pn++aa,p.1≠it):Inv X aa σ H {s with heap:=h',toks:=t'}:=by
 have d:∀b u,H b=U u->b≠it:=λb u e z=>by rw[z,h]at e;cases e
 refine I.step (g':=s.gens) (d':=s.drawn) (ch:=[it]) (λb j=>?_) (λb o _ _ a e _=>k b o (λz=>a<|by simp[z]) e) (λb o _ _ a e _=>⟨o.slots,k b o (λz=>a<|by simp[z]) e⟩) (λ_ _ _ _ n=>n)
  (λb o a e=>⟨o,k b o (λz=>a<|by simp[z]) e⟩) (λ_ _ e=>e) (λ_ _ _ e=>e) (λb ps e=>⟨#[],by rw[e];simp⟩) (λm i=>?_) (λb u e=>?_) I.bare
 .have e:b=it:=by simpa using j
  subst e;exact⟨w,f,t,l⟩
 .obtain⟨o,R,y,g,r⟩:=i
  exact⟨o,R,y,k _ o (et f) g,r⟩
 .refine(I.bA b u e).oF (λc v a q=>k c v ?_ q) (λ_ q=>q) λ_ _ q=>q
  rcases a with z|z
  .rw[z];exact d b u e
  .exact d c _ z
def Inv.tok(I:Inv X aa σ H s)(t:Nat):Inv X aa σ H {s with toks:=t}:=I.un (h':=s.heap) (t':=t) Un.refl I.bA
theorem Inv.kept(I:Inv X aa σ H s)(k:∀b u,s.heap.get? b=U u->h'.get? b=U u):Inv X aa σ H {s with heap:=h',toks:=t'}:=I.un (Un.kept k)<|I.bA.kept k
theorem Inv.laid{o:HO}(I:Inv X aa σ H s)(k:∀b u,s.heap.get? b=U u->h'.get? b=U u)(c:s.z<=a)(new:bV X.prog X.w (upd H a o) h' a o) :
  Inv X aa σ (upd H a o) {s with heap:=h',toks:=t'}:=I.un (Un.laid k c<|I.bA.fresh c)<|I.bA.laid k c new
theorem Inv.write{x e:cq}{o:HO}(I:Inv X aa σ H s)(mu:UL<|H x)(he:e=x\/H e=U (.own x))(k:∀b u,b≠e->s.heap.get? b=U u->h'.get? b=U u)(a:∃u,h'.get? e=U u)
  (new:bV X.prog X.w (upd H x o) h' x o):Inv X aa σ (upd H x o) {s with heap:=h',toks:=t'}:=I.un (Un.write mu he k a)<|I.bA.write mu he k a new
def Inv.weak{a:List<|Option V}(I:Inv X aa σ H s)(hl:a.length=σ.length)(w:∀(i:Nat)v,a[i]?=U (U v)->σ[i]?=U (U v)):Inv X aa a H s:=
 ⟨I.ok,I.os,I.bare,I.base,let⟨m,hn,xN⟩:=I.loc;⟨m,hn,λi x v d c b=>xN i x v d (w i v c) b⟩,I.cell,I.free,I.freeC,I.pin,I.bA,hl.trans I.len⟩
def Inv.zQ{a:dH}(I:Inv X aa σ H s)(h:∀p∈a,s.heap.get? p.1=U p.2/\H p.1=Y/\p.1≠X.env.locals/\p.1∉X.fs/\∀v,p.2.data≠.cell v):Inv X a σ H s:=
 ⟨I.ok,I.os,I.bare,I.base,I.loc,I.cell,I.free,I.freeC,λp b=>(iI.mp b).elim (λz=>I.pin p<|DR _ z)<|h p,I.bA,I.len⟩
def oG{N:Bi}(c:N.Nodup){i j:Nat}{x:Str}(a:N[i]?=U x)(b:N[j]?=U x):i=j:=by
 obtain⟨g,e⟩:=dj.mp a;obtain⟨f,d⟩:=dj.mp b;exact(List.getElem_inj c).mp<|e.trans d.symm
abbrev L9(X:Cx)(x:Str):Prop:=X.fn x=O\/X.env.scope.names.lookup x=U .local
def qV{x:Str}{Q:L6}(I:Inv X aa σ H s)(hN:X.N.Nodup)(L:X.N[i]?=U x)(B:Loc X.env.scope x)(r:RelV v u)
  (h:∀s',Inv X aa (σ.set i<|U v) H s'->(∃a,ry a s.heap s'.heap/\(a=X.env.locals\/X.env.cells.lookup x=U a))->Q () s') (hf:L9 X x:=by first|exact .inl J|exact .inr J|assumption):dg M A (storeName X.env x u) Q E s:=by
 obtain⟨m,hn,hl⟩:=id I.loc;have Pw:(X.env.scope.kind == .class ||(X.env.scope.kind == .module&&X.env.locals != X.env.globals))=Zi:=by rw[I.ok.kind];rfl
 have F:i<σ.length:=by rw[I.len];exact(dj.mp L).1
 have JK:=I.JK;have g:∀{a:cq}{h':ek},(∃o,s.heap.get? a=U o/\H a=Y)->ry a s.heap h'->jL X.prog X.w H h':=λ{a h'} ha f b ob e=>by
  obtain⟨_,_,qW⟩:=ha;refine(I.bA b ob e).oF (λc R t q=>(f.2 c ?_).trans q) (λ_ q=>q) λ_ _ q=>q
  rintro rfl
  rcases t with rfl|t
  .rw[qW]at e;cases e
  .rw[qW]at t;cases t
 rcases B with D|D
 .refine wpAny_storeName_local D hn (λh' Uk f=>?_) Pw
  obtain⟨oL,_,_,hoL,_⟩:=id hn;refine h _ ⟨I.ok,I.os,I.bare,⟨λb o e n G B=>?_,λb o e n G B=>?_,I.base.free,λb o e B=>?_,I.base.mX,I.base.lu,I.base.mY⟩,⟨_,Uk,λj y T l C e3=>?_⟩,λy c e=>?_,I.free,I.freeC,λp hp=>?_,g ⟨oL,hoL,I.free⟩ f,by simpa using I.len⟩ ⟨_,f,.inl J⟩
  .exact(f.2 b<|dP<|eS (c4 e) I.ok.above).trans<|I.base.keep b o e n G B
  .obtain⟨sl,l⟩:=I.base.slot b o e n G B
   exact⟨sl,(f.2 b<|dP<|eS (c4 e) I.ok.above).trans l⟩
  .obtain⟨o',l⟩:=I.base.there b o e B
   exact⟨o',(f.2 b<|dP<|eS (c4 e) I.ok.above).trans l⟩
  .by_cases hj:j=i
   .subst hj
    rw[L]at l;cases l;rw[gy F]at C;cases C;exact⟨u,r,.inl ⟨D,by simp⟩⟩
   .rw[iu<|et hj]at C
    obtain⟨W,Z,q⟩:=hl j y T l C e3;refine⟨W,Z,?_⟩;rcases q with⟨k,e⟩|⟨k,c,e,z⟩
    .refine .inl ⟨k,?_⟩
     have:y≠x:=λe=>hj<|oG hN l<|e▸L
     simp[this,e]
    .exact .inr ⟨k,c,e,z.sameBut f<|JK y c e⟩
  .obtain⟨R,z⟩:=I.cell y c e
   exact⟨R,z.sameBut f<|JK y c e⟩
  .obtain⟨e,n,ne,nf,d⟩:=I.pin p hp
   exact⟨(f.2 p.1 ne).trans e,n,ne,nf,d⟩
 .have UO:X.fn x=O:=by
   rcases hf with z|z
   .exact z
   .rw[z]at D;cases D
  obtain⟨c,t⟩:=I.ok.has x<|.inl D;obtain⟨R,z⟩:=I.cell x c t;refine wpAny_storeName_cell I.ok.kind D t z λh' P f=>?_;obtain⟨oc,K,Å⟩:=id z;refine h {s with heap:=h'} ⟨I.ok,I.os,I.bare,⟨λb o e n G B=>?_,λb o e n G B=>?_,I.base.free,λb o e B=>?_,I.base.mX,I.base.lu,I.base.mY⟩,⟨m,hn.sameBut f<|et<|JK x c t,λj y T l C e3=>?_⟩,λy S e=>?_,I.free,I.freeC,λp hp=>?_,g ⟨oc,K,I.freeC x c t⟩ f,by simpa using I.len⟩ ⟨c,f,.inr t⟩
  .exact(f.2 b<|dP<|eS (c4 e)<|I.ok.cab x c UO t).trans<|I.base.keep b o e n G B
  .obtain⟨sl,l⟩:=I.base.slot b o e n G B
   exact⟨sl,(f.2 b<|dP<|eS (c4 e)<|I.ok.cab x c UO t).trans l⟩
  .obtain⟨o',l⟩:=I.base.there b o e B
   exact⟨o',(f.2 b<|dP<|eS (c4 e)<|I.ok.cab x c UO t).trans l⟩
  .by_cases hj:j=i
   .subst hj
    rw[L]at l;cases l;rw[gy F]at C;cases C;exact⟨u,r,.inr ⟨.inl D,c,t,P⟩⟩
   .rw[iu<|et hj]at C
    obtain⟨W,Z,q⟩:=hl j y T l C e3;refine⟨W,Z,?_⟩;rcases q with q|⟨k,S,e,z'⟩
    .exact .inl q
    .refine .inr ⟨k,S,e,z'.sameBut f ?_⟩
     rintro rfl
     exact hj<|oG hN l<|I.ok.inj _ _ _ e t▸L
  .by_cases hcc:S=c
   .subst hcc;exact⟨_,P⟩
   .obtain⟨w2,z2⟩:=I.cell y S e
    exact⟨w2,z2.sameBut f hcc⟩
  .obtain⟨e,n,ne,nf,d⟩:=I.pin p hp
   refine⟨(f.2 p.1 ?_).trans e,n,ne,nf,d⟩;intro q;rw[q,K]at e;have q':oc=p.2:=j8.inj e;exact d R (by rw[<- q'];exact Å)
def g8{x:Str}{Q:L6}(I:Inv X aa σ H s)(d:X.N.Nodup)(b:X.N[i]?=U x)(a:Loc X.env.scope x)(r:RelV v u)
  (h:∀s',Inv X aa (σ.set i<|U v) H s'->Q () s') (c:L9 X x:=by first|exact .inl J|exact .inr J|assumption):dg M A (storeName X.env x u) Q E s:=
 qV I d b a r (λs' e _=>h s' e) c
def Inv.Ed(I:Inv X aa σ H s)(d:s'.os=s.os)(u:Un (kc X.stack) ch H H' s.heap s'.heap)(bA:jL X.prog X.w H' s'.heap)(f:kz s'.gens)
  (g:∀b∈ch,(b∈X.ex\/X.s₀.heap.objs.size<=b)/\b≠X.env.locals/\(∀x c,X.env.cells.lookup x=U c->c≠b)/\∀p∈X.pn++aa,p.1≠b):Inv X aa σ H' s':=by
 obtain⟨h',g',d',t',a⟩:=s';have e:a=s.os:=d;subst e;exact I.call (g':=g') (t':=t') (d':=d') u bA f g
end
abbrev XK:=bp->Option cq->Hp->Prop
abbrev St:=List<|Option V
abbrev VK:=V->Hp->Prop
abbrev TE:=St->Hp->VK->Prop
abbrev TT:=St->Hp->(Bool->Hp->Prop)->Prop
abbrev TA:=St->Hp->(List V->Hp->Prop)->Prop
structure Ends where
 nx:St->Hp->Prop
 rt:VK
 bk:St->Hp->Prop:=λ_ _=>False
 ct:St->Hp->Prop:=λ_ _=>False
abbrev TS:=Ends->St->Hp->Prop
def EP(X:Cx)(aa:dH)(a:St)(Q:VK)(u:bp)(s':ax):Prop:=∃v H',Inv X aa a H' s'/\RelV v u/\Q v H'
def TP(X:Cx)(aa:dH)(a:St)(Q:Bool->Hp->Prop)(b:Bool)(s':ax):Prop:=∃H',Inv X aa a H' s'/\Q b H'
def AP(X:Cx)(aa:dH)(b:St)(Q:List V->Hp->Prop)(us:B2)(s':ax):Prop:=∃a H',Inv X aa b H' s'/\Vals a us/\Q a H'
def SP(X:Cx)(aa:dH)(D:Ends)(f:Flow)(s':ax):Prop:=
 match f with
 |.next=>∃a H',Inv X aa a H' s'/\D.nx a H'
 |.brk=>∃a H',Inv X aa a H' s'/\D.bk a H'
 |.cont=>∃a H',Inv X aa a H' s'/\D.ct a H'
 |.ret u=>∃v a H',Inv X aa a H' s'/\RelV v u/\D.rt v H'
abbrev Md{α:Type}(X:Cx)(p:PySem.Sem α):=dg (mX X) X.A p
def PE(X:Cx)(e:cC)(t:TE):Prop:=
 ∀(aa:dH)(s:ax)(a:St)(H:Hp)(Q:VK),Inv X aa a H s->t a H Q->Md X (fC e X.env) (EP X aa a Q) X.xe s
def PT(X:Cx)(e:cC)(t:TT):Prop:=
 ∀(aa:dH)(s:ax)(a:St)(H:Hp)(Q:Bool->Hp->Prop),Inv X aa a H s->t a H Q->Md X (H4 e X.env<|fC e X.env) (TP X aa a Q) X.xe s
def PW(X:Cx)(e:cC)(t:TT):Prop:=
 ∀(b:Sem bp)(aa:dH)(s:ax)(a:St)(H:Hp)(Q:Bool->Hp->Prop),Inv X aa a H s->t a H Q->Md X (H4 e X.env b) (TP X aa a Q) X.xe s
def PW.pt(h:PW X e t):PT X e t:=h _
def PA(X:Cx)(R:Bz)(t:TA):Prop:=
 ∀(pos:Pos)(aa:dH)(s:ax)(a:St)(H:Hp)(Q:List V->Hp->Prop),Inv X aa a H s->t a H Q->Md X (spliced<|hQ pos<|dn R X.env) (AP X aa a Q) X.xe s
def PS(X:Cx)(st:hF)(t:TS):Prop:=
 ∀(aa:dH)(s:ax)(a:St)(H:Hp)(D:Ends),Inv X aa a H s->t D a H->Md X (exec st X.env) (SP X aa D) X.xe s
def gY(X:Cx)(st:Ee)(t:TS):Prop:=
 ∀(aa:dH)(s:ax)(a:St)(H:Hp)(D:Ends),Inv X aa a H s->t D a H->Md X (execs st X.env) (SP X aa D) X.xe s
def b7{Q b:α->ax->Prop}(h:dg M A t Q E s)(c:∀a s,Q a s->b a s):dg M A t b E s:=eD h c λ_ _ x=>x
section
def ve(i:Nat):TE:=λa H Q=>∃v,a[i]?=U (U v)/\Q v H
def tC(v:V):TE:=λ_ H Q=>Q v H
def bL{x:Str}(n:X.N[i]?=U x)(g:kg X.env.scope x)(hd:aX x:=by decide)(o:fh x:=by decide):PE X (.Name x pos)<|ve i:=by
 intro aa s f H Q I h;obtain⟨v,e,h⟩:=h;obtain⟨m,j,hl⟩:=I.loc;obtain⟨u,r,l⟩:=hl i x v n e g;have fin:EP X aa f Q u s:=⟨v,H,I,r,h⟩;rcases l with⟨b,k⟩|⟨b,c,d,a⟩
 .exact wpAny_Name (wpAny_loadName_local I.ok.kind b j k fin) hd
 .rcases b with b|b
  .exact wpAny_Name (wpAny_loadName_cell I.ok.kind b d a fin) hd
  .exact wpAny_Name (wpAny_loadName_free I.ok.kind b d a fin o) hd
def Ef{i j pos}:PE X (.Constant (.int i) j pos)<|tC<|.int i:=λ_ _ _ H _ I h=>wpAny_Constant_int ⟨.int i,H,I.tok _,⟨_,J⟩,h⟩
def ND{b j pos}:PE X (.Constant (.bool b) j pos)<|tC<|.bl b:=λ_ _ _ H _ I h=>Constant_bool ⟨.bl b,H,I,J,h⟩
def Px{j pos}:PE X (.Constant .none j pos)<|tC .non:=λ_ _ _ H _ I h=>Constant_none ⟨.non,H,I,J,h⟩
def Py{x j pos}:PE X (.Constant (.str x) j pos)<|tC<|.str x:=λ_ _ _ H _ I h=>ni ⟨.str x,H,I.tok _,⟨_,J⟩,h⟩
def Gl(X:Cx)(x:Str):Prop:=X.env.kindOf x=U .globalImplicit
def fE{a:St}{x:Str}(I:Inv X aa a H s)(c:Gl X x)(b:X.mg x=U u)(h:Q u s)
  (hd:aX x:=by decide):Md X (fC (.Name x pos) X.env) Q E s:=
 ub I.ok.kind c (Calls.loadGlobal_global (by rw[I.ok.glob];exact I.mod.glob.keeps I.bk) b h) hd
def iW{a:St}{x:Str}(I:Inv X aa a H s)(e:Gl X x)(d:X.mg x=Y)(b:hX x=U u)(h:Q u s)
  (c:x ≠ "__name__" := by decide) (hd:aX x:=by decide):Md X (fC (.Name x pos) X.env) Q E s:=by
 obtain⟨mb,g,f⟩:=I.mod.blt;exact ub I.ok.kind e (Calls.loadGlobal_builtin (by rw[I.ok.glob];exact I.mod.glob.keeps I.bk) d (by rw[I.ok.blt];exact g.keeps I.bk) ((f x c).trans b) h) hd
def nF{x:Str}(b:Gl X x)(a:X.mg x=U u)(r:RelV v u)(hd:aX x:=by decide):PE X (.Name x pos)<|tC v:=
 λ_ _ _ H _ I h=>fE I b a ⟨v,H,I,r,h⟩ hd
def zR{x:Str}(d:Gl X x)(c:X.mg x=Y)(a:hX x=U u)(r:RelV v u)(b:x ≠ "__name__" := by decide)(hd:aX x:=by decide):PE X (.Name x pos)<|tC v:=
 λ_ _ _ H _ I h=>iW I d c a ⟨v,H,I,r,h⟩ b hd
variable{a:cC}
def PC(X:Cx)(op:lp)(a b:cC)(t:TE):Prop:=
 ∀(aa:dH)(s:ax)(e:St)(H:Hp)(Q:VK),Inv X aa e H s->t e H Q ->
  Md X (fC a X.env) (λv d=>Md X (fC b X.env) (λu c=>Md X (en op v u) (EP X aa e Q) X.xe c) X.xe d) X.xe s
def tB(t:TE):TT:=λa H Q=>t a H λx H1=>∃c,x=.bl c/\Q c H1
variable{rest:Bz}
def Æ(t u:TT):TT:=λa H Q=>t a H λc H1=>if c=O then u a H1 Q else Q Zi H1
def tOr(t u:TT):TT:=λa H Q=>t a H λc H1=>if c=O then Q O H1 else u a H1 Q
def Ç(t:TT):TT:=λa H Q=>t a H λc H1=>Q (!c) H1
def JL(d:PT X a tA):PW X (.BoolOp .And [a] pos) tA:=by
 intro f aa s b H Q I h;refine isTrue_and<|b7 (d aa s b H Q I h) λc g e=>?_;cases c with
 |true=>exact isTrue_and_nil e
 |false=>exact e
def Pz(d:PT X a tA):PW X (.BoolOp .Or [a] pos) tA:=by
 intro f aa s b H Q I h;refine isTrue_or<|b7 (d aa s b H Q I h) λc g e=>?_;cases c with
 |false=>exact isTrue_or_nil e
 |true=>exact e
def PB(k:PT X a tA)(j:PW X (.BoolOp .And (b::rest) pos) v):PW X (.BoolOp .And (a::b::rest) pos)<|Æ tA v:=by
 intro g aa s d H Q I h;refine isTrue_and<|b7 (k aa s d H _ I h) λc i f=>?_;obtain⟨H1,e,q1⟩:=f;cases c with
 |true=>exact j g aa i d H1 Q e q1
 |false=>exact⟨H1,e,q1⟩
def UP(k:PT X a tA)(j:PW X (.BoolOp .Or (b::rest) pos) v):PW X (.BoolOp .Or (a::b::rest) pos)<|tOr tA v:=by
 intro g aa s d H Q I h;refine isTrue_or<|b7 (k aa s d H _ I h) λc i f=>?_;obtain⟨H1,e,q1⟩:=f;cases c with
 |true=>exact⟨H1,e,q1⟩
 |false=>exact j g aa i d H1 Q e q1
def PD(d:PT X a tA):PT X (.UnaryOp .Not a pos)<|Ç tA:=by
 intro aa s b H Q I h;exact isTrue_not<|d aa s b H (λc H1=>Q (!c) H1) I h
def UQ(u y:TE):TE:=λa H Q=>u a H λx H1=>∃c,x=.bl c/\if c=O then y a H1 Q else Q (.bl Zi) H1
def È(u y:TE):TE:=λa H Q=>u a H λx H1=>∃c,x=.bl c/\if c=O then Q (.bl O) H1 else y a H1 Q
def UR(u:TE):TE:=λa H Q=>u a H λx H1=>∃c,x=.bl c/\Q (.bl<|!c) H1
def PF{op}(h:PE X a t):PE X (.BoolOp op [a] pos) t:=λaa s b H Q I c=>BoolOp_one<|h aa s b H Q I c
def PH(k:PE X a u)(j:PE X (.BoolOp .And (b::rest) pos) y):PE X (.BoolOp .And (a::b::rest) pos)<|UQ u y:=by
 intro aa s d H Q I h;refine BoolOp_and<|b7 (k aa s d H _ I h) λv g f=>?_;obtain⟨x,H1,e,i,q1⟩:=f;obtain⟨c,rfl,q1⟩:=q1;cases i;apply ka;cases c with
 |true=>exact j aa g d H1 Q e q1
 |false=>exact⟨.bl Zi,H1,e,J,q1⟩
def US(k:PE X a u)(j:PE X (.BoolOp .Or (b::rest) pos) y):PE X (.BoolOp .Or (a::b::rest) pos)<|È u y:=by
 intro aa s d H Q I h;refine BoolOp_or<|b7 (k aa s d H _ I h) λv g f=>?_;obtain⟨x,H1,e,i,q1⟩:=f;obtain⟨c,rfl,q1⟩:=q1;cases i;apply ka;cases c with
 |false=>exact j aa g d H1 Q e q1
 |true=>exact⟨.bl O,H1,e,J,q1⟩
def PJ(f:PE X a u):PE X (.UnaryOp .Not a pos)<|UR u:=by
 intro aa s b H Q I h;refine UnaryOp_<|b7 (f aa s b H _ I h) λv i d=>?_;obtain⟨x,H1,g,e,q1⟩:=d;obtain⟨c,rfl,q1⟩:=q1;cases e;exact not_of<|ka ⟨.bl<|!c,H1,g,J,q1⟩
def tIf(t:TT)(u y:TE):TE:=λa H Q=>t a H λc H1=>if c=O then u a H1 Q else y a H1 Q
def Eg(j:PT X c tA)(l:PE X a u)(k:PE X b y):PE X (.IfExp c a b pos)<|tIf tA u y:=by
 intro aa s e H Q I h;refine wpAny_IfExp<|b7 (j aa s e H _ I h) λd f i=>?_;obtain⟨H1,g,q1⟩:=i;cases d with
 |true=>exact l aa f e H1 Q g q1
 |false=>exact k aa f e H1 Q g q1
end
def dW(K:bh)(H:Hp)(a:cq)(xs:List V):Prop:=
 Rd H a (.lst xs) \/
  ∃(o:Obj)(au:Array bp)(n:Nat),K.lookup a=U o/\o.cls=.type "list" /\ o.dict=Y/\o.data=.seq au n/\au.size<=de/\Vals xs au.toList
def mh(K:bh)(H:Hp)(a:cq)(xs:List V):Prop:=
 Rd H a (.tup xs) \/
  ∃(o:Obj)(au:Array bp)(n:Nat),K.lookup a=U o/\o.cls=.type "tuple" /\ o.data=.seq au n/\au.size<=de/\Vals xs au.toList
def É:bp->Option V
 |.none=>U .non
 |.bool b=>U<|.bl b
 |.int i _=>U<|.int i
 |.str x _=>U<|.str x
 |.bytes b _=>U<|.byt b
 |.float b _=>U<|.flt b
 |.ref a=>U<|.ref a
 |.type n=>U<|.ty n
 |_=>Y
def RelV.abs{x:V}(r:RelV x u):É u=U x:=by
 cases x with
 |non=>cases r;rfl
 |bl _=>cases r;rfl
 |int _=>obtain⟨t,rfl⟩:=r;rfl
 |str _=>obtain⟨t,rfl⟩:=r;rfl
 |byt _=>obtain⟨t,rfl⟩:=r;rfl
 |flt _=>obtain⟨t,rfl⟩:=r;rfl
 |ref _=>cases r;rfl
 |ty _=>cases r;rfl
theorem RelV.inj{x y:V}(r:RelV x u)(q:RelV y u):x=y:=j8.inj<|r.abs.symm.trans q.abs
theorem Vals.inj:∀{xs ys:List V}{us:B2},Vals xs us->Vals ys us->xs=ys
 |_,_,_,.nil,.nil=>J
 |_,_,_,.cons r t,.cons b a=>by rw[r.inj b,Vals.inj t a]
def dW.of{K:bh}(h:H a=U (.lst xs)):dW K H a xs:=.inl<|.inl h
def mh.of{K:bh}(h:H a=U (.tup xs)):mh K H a xs:=.inl<|.inl h
def Inv.list(I:Inv X aa u H s)(h:dW X.K H a xs):∃au:B2,Vals xs au/\PlainL s.heap a au.toArray/\xs.length<=de:=by
 rcases h with h|⟨o,au,n,c,d,hd,b,f,r⟩
 .obtain⟨z,au,n,r,e⟩:=h.ok I.bA
  exact⟨au,r,⟨_,n,e,J,J,J⟩,z⟩
 .refine⟨au.toList,r,⟨o,n,I.iw a o c,d,hd,by simpa using b⟩,?_⟩
  have e:=r.length;simp only[kf]at e
  lia
def Inv.tuple(I:Inv X aa u H s)(h:mh X.K H a xs):∃au:B2,Vals xs au/\IsTup s.heap a au.toArray/\xs.length<=de:=by
 rcases h with h|⟨o,au,n,c,d,b,f,r⟩
 .obtain⟨z,au,r,p⟩:=h.ok I.bA
  exact⟨au,r,p,z⟩
 .refine⟨au.toList,r,⟨o,I.iw a o c,d,n,by simpa using b⟩,?_⟩
  have e:=r.length;simp only[kf]at e
  lia
def Inv.Eh(I:Inv X aa u H s)(h:dW X.K H a xs)(h':dW X.K H a ys):xs=ys:=by
 obtain⟨au,r,⟨o,n,e,_,_,d⟩,_⟩:=I.list h;obtain⟨b,g,⟨i,j,c,_,_,f⟩,_⟩:=I.list h';rw[e]at c;cases c;rw[d]at f;injection f with d1 _
 have:au=b:=by simpa using ey wh d1
 subst this;exact r.inj g
def Inv.qX(I:Inv X aa u H s)(h:mh X.K H a xs)(h':mh X.K H a ys):xs=ys:=by
 obtain⟨au,r,⟨o,e,_,n,d⟩,_⟩:=I.tuple h;obtain⟨b,g,⟨i,c,_,j,f⟩,_⟩:=I.tuple h';rw[e]at c;cases c;rw[d]at f;injection f with d1 _
 have:au=b:=by simpa using ey wh d1
 subst this;exact r.inj g
abbrev Cx.mZ(X:Cx)(E:Kp):Cx:={X with xe:=E}
abbrev Cx.qD(X:Cx):Cx:=X.mZ λ_ _=>False
theorem Cx.Ok.mZ{X:Cx}(ok:X.Ok)(E:Kp):(X.mZ E).Ok:=
 ⟨ok.mod,ok.kind,ok.glob,ok.blt,ok.above,ok.inj,ok.has,ok.cab,ok.hd,ok.frames,ok.stk,ok.exf,ok.bs,ok.bsz,ok.noex,ok.exfs,ok.jM,ok.frf⟩
def Cx.Ok.gR{X:Cx}(ok:(X.mZ E).Ok):X.Ok:=
 ⟨ok.mod,ok.kind,ok.glob,ok.blt,ok.above,ok.inj,ok.has,ok.cab,ok.hd,ok.frames,ok.stk,ok.exf,ok.bs,ok.bsz,ok.noex,ok.exfs,ok.jM,ok.frf⟩
theorem Inv.mZ(I:Inv X aa d H s)(E:Kp):Inv (X.mZ E) aa d H s:=⟨I.ok.mZ E,I.os,I.bare,I.base,I.loc,I.cell,I.free,I.freeC,I.pin,I.bA,I.len⟩
theorem Inv.gR(I:Inv (X.mZ E) aa d H s):Inv X aa d H s:=⟨I.ok.gR,I.os,I.bare,I.base,I.loc,I.cell,I.free,I.freeC,I.pin,I.bA,I.len⟩
theorem SP.gR{f:Flow}(h:SP (X.mZ E) aa D f s'):SP X aa D f s':=by
 cases f with
 |next=>obtain⟨a,H',I,q⟩:=h;exact⟨a,H',I.gR,q⟩
 |brk=>obtain⟨a,H',I,q⟩:=h;exact⟨a,H',I.gR,q⟩
 |cont=>obtain⟨a,H',I,q⟩:=h;exact⟨a,H',I.gR,q⟩
 |ret u=>obtain⟨v,a,H',I,r,q⟩:=h;exact⟨v,a,H',I.gR,r,q⟩
theorem gY.qD{st:Ee}(h:gY X.qD st t):gY X st t:=λaa s d H D I a=>
 eD (h aa s d H D (I.mZ _) a) (λ_ _ q=>q.gR) λ_ _ z=>eI z
section
variable{st:hF}{rest:Ee}
def Ei:TS:=λD a H=>D.nx a H
def UT(t u:TS):TS:=λD a H=>t {D with nx:=u D} a H
def nG:gY X [] Ei:=λ_ _ a H _ I h=>iH ⟨a,H,I,h⟩
def g9(e:PS X st t)(d:gY X rest u):gY X (st::rest)<|UT t u:=by
 intro aa s b H D I h;refine lx<|b7 (e aa s b H {D with nx:=u D} I h) λf c q=>?_
 cases f with
 |next=>
  obtain⟨a,H',g,q⟩:=q;exact d aa c a H' D g q
 |ret v=>exact q
 |brk=>exact q
 |cont=>exact q
def jo(b:PS X st t):gY X [st] t:=by
 intro aa s a H D I h;refine lx<|b7 (b aa s a H D I h) λf c q=>?_;cases f with
 |next=>exact iH q
 |ret v=>exact q
 |brk=>exact q
 |cont=>exact q
def JM:PS X (.Pass pos) Ei:=λ_ _ a H _ I h=>wpAny_Pass ⟨a,H,I,h⟩
def Inv.quiet{a:St}(I:Inv X aa a H s):interactive X.env=Zi:=by simp[interactive,I.ok.kind]
def UU(j:TE):TS:=λD a H=>j a H λ_ H1=>D.nx a H1
def nH(he:PE X e j)(b:fu e Y pos.line X.env=pure Zi:=by rfl):PS X (.Expr e pos)<|UU j:=by
 intro aa s a H D I h;exact wpAny_Expr_any (b7 (he aa s a H _ I h)<|by rintro v d ⟨x,H1,c,f,q1⟩;exact⟨a,H1,c,q1⟩) I.quiet b
def Ê(j:TE):TS:=λD a H=>j a H D.rt
def Ej(he:PE X e j):PS X (.Return (U e) pos)<|Ê j:=by
 intro aa s a H D I h;exact wpAny_Return_some<|b7 (he aa s a H _ I h)<|by rintro v d ⟨x,H1,c,b,q1⟩;exact⟨x,a,H1,c,b,q1⟩
def UW:TS:=λD _ H=>D.rt .non H
def JN:PS X (.Return Y pos) UW:=λ_ _ a H _ I h=>wpAny_Return_none ⟨.non,a,H,I,J,h⟩
def Ë(c:TT)(t u:TS):TS:=λD a H=>c a H λb H1=>if b=O then t D a H1 else u D a H1
def Ek{a b:Ee}{f:TT}(k:PT X c f)(m:gY X a t)(l:gY X b u):PS X (.If c a b pos)<|Ë f t u:=by
 intro aa s e H D I h;refine wpAny_If<|b7 (k aa s e H _ I h) λd g j=>?_;obtain⟨H1,i,q1⟩:=j;cases d with
 |true=>exact m aa g e H1 D i q1
 |false=>exact l aa g e H1 D i q1
end
abbrev TG:=V->St->Hp->(St->Hp->Prop)->Prop
abbrev NF:=List V->St->Hp->(St->Hp->Prop)->Prop
def PG(X:Cx)(a:cC)(t:TG):Prop:=
 ∀(aa:dH)(s:ax)(c:St)(H:Hp)(v:V)(u:bp)(Q:St->Hp->Prop),Inv X aa c H s->RelV v u->t v c H Q ->
  Md X (th a X.env u) (λ_ d=>∃b H',Inv X aa b H' d/\Q b H') X.xe s
def UX(X:Cx)(ts:Bz)(t:NF):Prop:=
 ∀(aa:dH)(s:ax)(b:St)(H:Hp)(c:List V)(d:B2)(Q:St->Hp->Prop),Inv X aa b H s->Vals c d->t c b H Q ->
  Md X (Aa ((iq ts X.env).map (·.2)) d) (λ_ e=>∃a H',Inv X aa a H' e/\Q a H') X.xe s
abbrev PK:=V->V->V->Hp->(Hp->Prop)->Prop
def UY(X:Cx)(t:PK):Prop:=
 ∀(aa:dH)(s:ax)(a:St)(H:Hp)(o i v:V)(ov b u:bp)(Q:Hp->Prop),Inv X aa a H s->RelV o ov->RelV i b->RelV v u->t o i v H Q ->
  Md X (setItem ov b u) (λ_ c=>∃H',Inv X aa a H' c/\Q H') X.xe s
abbrev Zj:=V->V->Hp->VK->Prop
def PIp(X:Cx)(op:qv)(t:Zj):Prop:=
 ∀(aa:dH)(s:ax)(a:St)(H:Hp)(x y:V)(v u:bp)(Q:VK),Inv X aa a H s->RelV x v->RelV y u->t x y H Q ->
  Md X (inplaceOp op v u) (EP X aa a Q) X.xe s
section
variable{X:Cx}
def vf(i:Nat):TG:=λv a H Q=>Q (a.set i<|U v) H
def sX{x:Str}(d:X.N.Nodup)(b:X.N[i]?=U x)(a:Loc X.env.scope x)(c:L9 X x:=by first|exact .inl J|exact .inr J|assumption):PG X (.Name x pos)<|vf i:=by
 intro aa s f H v u Q I r h;exact wpAny_assign_Name<|g8 I d b a r (λg e=>⟨_,H,e,h⟩) c
def UZ:NF:=λb a H Q=>b=[]/\Q a H
def NG(t:TG)(u:NF):NF:=λc b H Q=>∃v r,c=v::r/\t v b H λa H'=>u r a H' Q
def JO:UX X [] UZ:=by
 intro aa s a H b c Q I r h;obtain⟨e,h⟩:=h;subst e;cases r;exact assignInOrder_nil ⟨a,H,I,h⟩
def El{e:cC}{R:Bz}{t:TG}{u:NF}(i:PG X e t)(g:UX X R u)
  (f:(iq (e::R) X.env).map (·.2)=th e X.env::(iq R X.env).map (·.2):=by rfl):UX X (e::R)<|NG t u:=by
 intro aa s b H l n Q I r h;obtain⟨v,m,j,h⟩:=h;subst j;cases r with
 |cons r rr=>
  rw[f];refine tf<|b7 (i aa s b H _ _ _ I r h) λ_ d c=>?_;obtain⟨a,H1,k,q1⟩:=c;exact g aa d a H1 _ _ Q k rr q1
def PL(K:bh)(n:Nat)(t:NF):TG:=λv b H Q=>∃a xs,v=.ref a/\mh K H a xs/\xs.length=n/\t xs b H Q
def Em{R:Bz}{k:Nat}{t:NF}{n:Nat}(m:X.calm=O)(h:UX X R t)
  (l:(iq R X.env).length=n:=by rfl) (q:(iq R X.env).findIdx? (·.1)=Y:=by rfl):PG X (.Tuple R k pos)<|PL X.K n t:=by
 intro aa s d H v u Q I r c;obtain⟨a,xs,p,j,hl,c⟩:=c;subst p;cases r;obtain⟨au,f,i,x⟩:=I.tuple j;refine assign_Tuple_tuple (I.ok.hd m) i (by simp[l,<- hl,f.length]) q λh' g=>?_
 have w:Inv X aa d H {s with heap:=h'}:=I.kept (t':=s.toks) λb o e=>g b o (dP<|c4 e) e
 exact h aa _ d H xs _ Q w (by simpa using f) c
def Ì(to b:TE)(t:PK):TG:=λv a H Q=>to a H λo H1=>b a H1 λi d=>t o i v d λc=>Q a c
def PM(l:PE X o to)(m:PE X i d)(k:UY X t)
  (n:∀v,th (.Subscript o i pos) X.env v=(do
   let ov <- ri [v] (fC o X.env)
   let b <- ri [v,ov] (fC i X.env)
   rb pos
   ri [v,ov,b] (setItem ov b v)
   release [v,ov,b] []):=by intro _;rfl):PG X (.Subscript o i pos)<|Ì to d t:=by
 intro aa s c H v u Q I r h;rw[n];refine ag<|eJ<|b7 (l aa s c H _ I h) λov e a=>?_;obtain⟨x,H1,w,g,q1⟩:=a;refine ag<|eJ<|b7 (m aa e c H1 _ w q1) λb s2 a=>?_;obtain⟨y,A,q,f,q2⟩:=a;refine ag<|gN<|ag<|eJ<|b7 (k aa s2 c A x y v ov b u _ q g f r q2) λ_ s3 a=>?_;obtain⟨z,p,j⟩:=a;exact wpAny_release ⟨c,z,p,j⟩
def U0(b:TE)(g:TG):TS:=λD a H=>b a H λx H1=>g x a H1 D.nx
def En{tg e:cC}{b:TE}{g:TG}(he:PE X e b)(k:PG X tg g)(j:z5 [tg] e pos.line X.env=pure Zi:=by rfl)(i:iM [tg] e X.env=pure Y:=by rfl)
  (l:(iq [tg] X.env).map (·.2)=[th tg X.env]:=by rfl):PS X (.Assign [tg] e pos)<|U0 b g:=by
 intro aa s a H D I h;refine wpAny_Assign_stores (b7 (he aa s a H _ I h) λv d c=>?_) j i;obtain⟨x,H1,m,f,q1⟩:=c;rw[l];exact b7 (k aa d a H1 x v _ m f q1) λ_ s2 q=>q
def iX{x:Str}{a:TE}{b:Pos}(m:X.N.Nodup)(k:X.N[i]?=U x)(g:Loc X.env.scope x)(he:PE X e a)(j:fu e (U<|.Name x b) pos.line X.env=pure Zi:=by rfl)(l:L9 X x:=by first|exact .inl J|exact .inr J|assumption) :
  PS X (.Assign [.Name x b] e pos)<|U0 a<|vf i:=by
 intro aa s c H D I h;refine wpAny_Assign_Name (b7 (he aa s c H _ I h) λv p d=>?_) j;obtain⟨y,H1,o,f,q1⟩:=d;exact g8 o m k g f (λs2 n=>⟨_,H1,n,q1⟩) l
def Í(i j:Nat)(c:TA):TS:=λD a H=>c a H λb H1=>∃v w,b=[v,w]/\D.nx ((a.set i<|U v).set j<|U w) H1
def PN{x y:Str}{a b:cC}{kt k2 c}(R:X.calm=O)(u:X.N.Nodup)(Q:X.N[i]?=U x)(P:X.N[j]?=U y)(Î:i≠j)
  (t:X.env.scope.names.lookup x=U .local) (r:X.env.scope.names.lookup y=U .local) (S:PA X [a,b] n)
  (L:iM [.Tuple [.Name x l,.Name y k] kt pt] (.Tuple [a,b] k2 c) X.env=pure (U [x,y]))
  (M:z5 [.Tuple [.Name x l,.Name y k] kt pt] (.Tuple [a,b] k2 c) pos.line X.env=pure Zi:=by rfl) :
  PS X (.Assign [.Tuple [.Name x l,.Name y k] kt pt] (.Tuple [a,b] k2 c) pos)<|Í i j n:=by
 intro aa s m H D I h;rw[exec_Assign_arm];refine ag<|gN ?_;rw[M];refine ag<|dk ?_;rw[cb<|by decide]
 refine ag<|Tuple_<|b7 (S _ aa s m H _ I h) λC g B=>?_;obtain⟨vs,H1,I1,F,q1⟩:=B;obtain⟨v,w,T,q1⟩:=q1;subst T;obtain⟨f,d,rfl,E,Ep⟩:∃f d,C=[f,d]/\RelV v f/\RelV w d:=by
  cases F with
  |cons p q=>
   cases q with
   |cons K G=>
    cases G;exact⟨_,_,J,p,K⟩
 refine tj ?_ (by show 2<=de;decide)
 have I2:Inv X aa m H1 {g with heap:=g.heap.push {cls:=.type "tuple",data:=.seq [f,d].toArray}}:=I1.kept (t':=g.toks) λb o e=>b0 _ e
 rw[L];refine ag<|dk ?_;show Md X (do rule "assign.swapped-stores";let items <- unpackItems (.ref g.z) 2 Y;Aa [λv=>qd X.env y v,λv=>qd X.env x v] items.reverse;pure Flow.next) _ _ _
 refine ag<|wpAny_rule<|ag<|unpackItems_tuple (items:=#[f,d]) (I.ok.hd R) (IsTup.new g.heap _) λh' V=>?_;have Z:=I2.kept (h':=h') (t':=g.toks) λb o e=>V b o (dP<|c4 e) e;show dg _ _ (Aa [λv=>qd X.env y v,λv=>qd X.env x v] [d,f] >>= λ_=>pure Flow.next) _ _ _
 refine ag<|tf<|wpAny_bindName<|g8 Z u P (.inl r) Ep (λs2 W=>?_)<|.inr r;refine tf<|wpAny_bindName<|g8 W u Q (.inl t) E (λs3 z=>assignInOrder_nil<|dk ?_)<|.inr t;rw[DS _ _<|et Î]at z;exact⟨_,H1,z,q1⟩
def Ï(i:Nat)(c:TE)(b:Zj):TS:=λD a H=>∃x,a[i]?=U (U x)/\c a H λy H1=>b x y H1 λz d=>D.nx (a.set i<|U z) d
def PQ{x:Str}{p:TE}{o:Zj}(M:X.N.Nodup)(q:X.N[i]?=U x)(j:Loc X.env.scope x)(he:PE X e p)(E:PIp X op o)(K:L9 X x:=by first|exact .inl J|exact .inr J|assumption) :
  PS X (.AugAssign (.Name x Q) op e pos)<|Ï i p o:=by
 intro aa s n H D I h;obtain⟨v,P,h⟩:=h;obtain⟨m,F,hl⟩:=I.loc;have R:kg X.env.scope x:=by rcases j with k|k;exact .inl k;exact .inr<|.inl k
 obtain⟨u,r,l⟩:=hl i x v q P R;apply wpAny_AugAssign_Name;have go:Md X (fC e X.env) (λw f=>Md X (inplaceOp op u w) (λr d=>Md X (storeName X.env x r) (λ_=>SP X aa D .next) X.xe d) X.xe f) X.xe s:=by
  refine b7 (he aa s n H _ I h) λw t g=>?_;obtain⟨y,H1,V,C,q1⟩:=g;refine b7 (E aa t n H1 v y u w _ V r C q1) λz s2 g=>?_;obtain⟨Z,W,T,B,q2⟩:=g;exact g8 T M q j B (λs3 S=>⟨_,W,S,q2⟩) K
 rcases l with⟨a,G⟩|⟨a,c,L,b⟩
 .exact wpAny_loadName_local I.ok.kind a F G go
 .rcases a with a|a
  .exact wpAny_loadName_cell I.ok.kind a L b go
  .rcases j with k|k
   .have:X.env.scope.names.lookup x=U .free:=a
    rw[k]at this;cases this
   .have:X.env.scope.names.lookup x=U .free:=a
    rw[k]at this;cases this
def ipI(f:Int->Int->Int):Zj:=λx y H Q=>∃i j,x=.int i/\y=.int j/\Q (.int<|f i j) H
def PR:PIp X .Add<|ipI λi j=>i+j:=by
 intro aa s e H x y v u Q I b a h;obtain⟨i,j,d,c,q⟩:=h;subst d;subst c;obtain⟨t,rfl⟩:=b;obtain⟨f,rfl⟩:=a;exact iadd_int ⟨.int _,H,I.tok _,⟨_,J⟩,q⟩
end
def PU(c:TT)(f:TS):TS:=λD a H=>∃W:Nat->St->Hp->Prop,(∃m,W m a H)/\∀m a H,W m a H ->
 c a H λb H1=>if b=O then ∃N:St->Hp->Prop,(∀d H',N d H'->∃e,e<m/\W e d H')/\f {D with nx:=N,ct:=N,bk:=D.nx} a H1 else D.nx a H1
def vg{e:Ee}(t:me (mX X) X.A X.env X.xe)(F:PT X c q)(G:gY X e r):PS X (.While c e [] pos)<|PU q r:=by
 intro aa s z H D I h;obtain⟨W,⟨m0,w0⟩,i⟩:=h;refine wpAny_While<|codeAny_whileLoop (λn E=>∃g H',Inv X aa g H' E/\W n g H') ?_ m0 ⟨z,H,I,w0⟩
 rintro n C ⟨d,H1,K,w1⟩
 refine ix t<|b7 (F aa C d H1 _ K<|i n d H1 w1) λb s2 B=>?_;obtain⟨y,x,q2⟩:=B;cases b with
 |true=>
  obtain⟨N,u,q2⟩:=q2;rw[cv J];refine ix t<|b7 (G aa s2 d y _ x q2) λf s3 k=>?_;cases f with
  |next=>
   obtain⟨a,j,p,l⟩:=k;obtain⟨m,o,w3⟩:=u a j l;exact⟨m,o,a,j,p,w3⟩
  |cont=>
   obtain⟨a,j,p,l⟩:=k;obtain⟨m,o,w3⟩:=u a j l;exact⟨m,o,a,j,p,w3⟩
  |brk=>exact k
  |ret v=>exact k
 |false=>
  rw[cb gx];exact iH ⟨d,y,x,q2⟩
structure It where
 go:Nat->Hp->Prop
 yld:Nat->Hp->V->Hp->Prop
 stop:Nat->Hp->Prop
def oH(X:Cx)(aa:dH)(H:Hp)(b:cq):Prop:=
 H b=Y/\b≠X.env.locals/\b∉X.fs/\(b∈X.ex\/X.s₀.heap.objs.size<=b)/\(∀x c,X.env.cells.lookup x=U c->c≠b)/\∀p∈X.pn++aa,p.1≠b
def Inv.xO{b:cq}(I:Inv X aa d H s)(a:s.z<=b)(g:H' b=Y):oH X aa H' b:=by
 refine⟨g,BZ<|eS I.lt a,I.Â a,.inr<|eY I.sz a,λx c e z=>?_,λp f z=>?_⟩
 .obtain⟨v,q⟩:=I.cell x c e
  exact dy (eS q.lt<|by rw[z];exact a)<|uZ _
 .exact dy (eS (c4 (I.pin p f).1)<|by rw[z];exact a)<|uZ _
structure Turn(P:dv)(w:ee)(K:bh)(tg:cC)(a:It)(fp:BM)(it:cq)(tn:Nat->ek->Prop):Prop where
 mem:it∈fp
 obj:∀i h,tn i h->∀b∈fp,∃o,h.get? b=U o/\∀v,o.data≠.cell v
 keep:∀i h h',tn i h->(∀b∈fp,∀o,h.get? b=U o->h'.get? b=U o)->tn i h'
 item:∀(X:Cx),X.prog=P->X.w=w->X.K=K->X.calm=O->∀(i:Nat)(aa:dH)(s:ax)(σ:St)(H:Hp)(E:Kp),Inv X aa σ H s->(∀b∈fp,oH X aa H b)->tn i s.heap->a.go i H ->
  dg (cx P w) X.A (pyNext<|.ref it) (λr s1=>∃u,r=U u /\
   dg (cx P w) X.A (o5 tg (.ref it) u) (λ_ s2=>∃x H',Inv X aa σ H' s2/\RelV x u/\a.yld i H x H'/\tn (i+1) s2.heap/\∀b∈fp,H' b=Y) E s1) E s
 done:∀(X:Cx),X.prog=P->X.w=w->X.K=K->X.calm=O->∀(i:Nat)(aa:dH)(s:ax)(σ:St)(H:Hp)(E:Kp),Inv X aa σ H s->(∀b∈fp,oH X aa H b)->tn i s.heap->a.stop i H ->
  dg (cx P w) X.A (pyNext<|.ref it) (λr s1=>r=Y/\Inv X aa σ H s1) E s
 self:∀(A:eh)(i:Nat)(s:ax)(Q:Kp)(E:Kp),tn i s.heap->Q (.ref it) s->dg (cx P w) A (pyIter<|.ref it) Q E s
abbrev TI:=St->Hp->(It->Hp->Prop)->Prop
def PIE(X:Cx)(aa:dH)(d:St)(tg:cC)(R:It->Hp->Prop)(Ð:bp)(s2:ax):Prop:=
 ∃(it:cq)(c:BM)(a:Nat->ek->Prop)(e:It)(H':Hp),Ð=.ref it/\Inv X aa d H' s2/\Turn X.prog X.w X.K tg e c it a/\a 0 s2.heap/\(∀b∈c,oH X aa H' b)/\R e H'
def PI(X:Cx)(tg a:cC)(c:TI):Prop:=
 ∀(aa:dH)(s:ax)(b:St)(H:Hp)(R:It->Hp->Prop),Inv X aa b H s->c b H R ->
  Md X (fC a X.env) (λv d=>Md X (pyIter v) (PIE X aa b tg R) X.xe d) X.xe s
def Er{o:Obj}(b:s.heap.get? it=U o)(d:o.cls=.type n)(hd:o.data=.fields vs)
  (c:["enumerate","zip","dict_itemiterator","dict_reverseitemiterator","odict_iterator","itertools.zip_longest","itertools.pairwise"].contains n=Zi) (a:Q () s):dg M A (o5 tg (.ref it) u) Q E s:=by
 unfold o5;cases tg<;>first
  |exact dk a
  | (cases u<;>first
    |exact dk a
    | (refine ag<|wpAny_load b ?_
       rw[d,hd];show dg M A (if(["enumerate","zip","dict_itemiterator","dict_reverseitemiterator","odict_iterator","itertools.zip_longest","itertools.pairwise"].contains n&&vs[0]? == U (oy _))=O then _ else _) Q E s
       rw[cb (by intro h;rw[c,DK]at h;cases h)]
       exact dk a))
def Zk(K:bh)(a:cq):It:=
 ⟨λi H=>∃xs x,dW K H a xs/\xs[i]?=U x,λi H x H'=>H'=H/\∀xs,dW K H a xs->xs[i]?=U x,λi H=>∃xs,dW K H a xs/\xs.length<=i⟩
def Ñ(K:bh)(a:cq):It:=
 ⟨λi H=>∃xs x,mh K H a xs/\xs[i]?=U x,λi H x H'=>H'=H/\∀xs,mh K H a xs->xs[i]?=U x,λi H=>∃xs,mh K H a xs/\xs.length<=i⟩
def Zl(lo:Int)(n:Nat):It:=⟨λi _=>i<n,λi H x H'=>H'=H/\x=.int (lo+i),λi _=>n<=i⟩
def B9{K:bh}(a it:cq):Turn P w K tg (Zk K a) [it] it λi h=>h.IsListIter it a i where
 mem:=by simp
 obj:=λi h st b f=>by
  have e:b=it:=by simpa using f
  subst e;obtain⟨o,e,c,d⟩:=st;exact⟨o,e,λv z=>by rw[d]at z;cases z⟩
 keep:=λi h h' st k=>st.at λo e=>k it (by simp) o e
 item:=by
  intro X r n t L i aa s F H E I j st q;subst r n t;obtain⟨xs,x,g,m⟩:=q;obtain⟨au,l,p,Q⟩:=I.list g;obtain⟨u,S,N⟩:=l.get m;obtain⟨D,C,T,B,A,y⟩:=j it (by simp)
  refine wpAny_pyNext_list_item st p.isList (x:=u) (by simpa using S) λh' G M=>?_
  have W:Inv X aa F H {s with heap:=h'}:=I.turned (t':=s.toks) (λb o f e=>(M.2 b f).trans e) D C B A y
  obtain⟨o,e,c,d⟩:=id G;exact⟨u,J,Er (s:={s with heap:=h'}) e c d (by decide) ⟨x,H,W,N,⟨J,λys R=>by rw[I.Eh R g];exact m⟩,G,λb f=>(j b f).1⟩⟩
 done:=by
  intro X r n t L i aa s F H E I j st q;subst r n t;obtain⟨xs,g,m⟩:=q;obtain⟨au,l,p,Q⟩:=I.list g;obtain⟨D,C,T,B,A,y⟩:=j it (by simp)
  have hl:=l.length;exact wpAny_pyNext_list_end (I.ok.hd L) st p.isList (by simp;lia) λh' V=>⟨J,I.turned (t':=s.toks) (λb o f e=>V b o f e) D C B A y⟩
 self:=λ_ _ _ _ _ st h=>wpAny_pyIter_listiter st h
def xP{K:bh}(a it:cq):Turn P w K tg (Ñ K a) [it] it λi h=>h.IsTupleIter it a i where
 mem:=by simp
 obj:=λi h st b f=>by
  have e:b=it:=by simpa using f
  subst e;obtain⟨o,e,c,d⟩:=st;exact⟨o,e,λv z=>by rw[d]at z;cases z⟩
 keep:=λi h h' st k=>st.at λo e=>k it (by simp) o e
 item:=by
  intro X r n t L i aa s F H E I j st q;subst r n t;obtain⟨xs,x,g,m⟩:=q;obtain⟨au,l,p,Q⟩:=I.tuple g;obtain⟨u,S,N⟩:=l.get m;obtain⟨D,C,T,B,A,y⟩:=j it (by simp)
  refine wpAny_pyNext_tuple_item st (show s.heap.IsTuple a au.toArray from p) (x:=u) (by simpa using S) λh' G M=>?_
  have W:Inv X aa F H {s with heap:=h'}:=I.turned (t':=s.toks) (λb o f e=>(M.2 b f).trans e) D C B A y
  obtain⟨o,e,c,d⟩:=id G;exact⟨u,J,Er (s:={s with heap:=h'}) e c d (by decide) ⟨x,H,W,N,⟨J,λys R=>by rw[I.qX R g];exact m⟩,G,λb f=>(j b f).1⟩⟩
 done:=by
  intro X r n t L i aa s F H E I j st q;subst r n t;obtain⟨xs,g,m⟩:=q;obtain⟨au,l,p,Q⟩:=I.tuple g;obtain⟨D,C,T,B,A,y⟩:=j it (by simp)
  have hl:=l.length;exact wpAny_pyNext_tuple_end (I.ok.hd L) st (show s.heap.IsTuple a au.toArray from p) (by simp;lia) λh' V=>⟨J,I.turned (t':=s.toks) (λb o f e=>V b o f e) D C B A y⟩
 self:=λ_ _ _ _ _ st h=>wpAny_pyIter_tupleiter st h
def xQ{K:bh}(it:cq)(lo:Int)(n:Nat):Turn P w K tg (Zl lo n) [it] it λi h=>IsRangeIter h it (lo+(i:Nat)*1) ((n:Int)-(i:Nat)) 1 where
 mem:=by simp
 obj:=λi h st b a=>by
  have e:b=it:=by simpa using a
  subst e;exact⟨_,st,λv z=>by
   have A:Data.fields _=Data.cell v:=z;cases A⟩
 keep:=λi h h' st k=>k it (by simp) _ st
 item:=by
  intro X j d l g i aa s x H E I c st f;subst j d l;obtain⟨u,r,D,q,p,m⟩:=c it (by simp)
  have W:=Walks.range (prog:=X.prog) (w:=X.w) (I.ok.hd g) it lo 1 n;refine W.item i s _ _ f st λv h' tk C y B=>?_;obtain⟨t,rfl⟩:=C;have G:Inv X aa x H {s with heap:=h',toks:=tk}:=I.turned (λb o a e=>B b o (by simpa using a) e) u r q p m
  refine⟨_,J,Er (s:={s with heap:=h',toks:=tk}) (n := "range_iterator") y J J (by decide) ⟨.int<|lo+i,H,G,⟨t,?_⟩,⟨J,J⟩,y,λb a=>(c b a).1⟩⟩
  rw[Int.mul_one]
 done:=by
  intro X j d l g i aa s x H E I c st f;subst j d l;obtain⟨u,r,D,q,p,m⟩:=c it (by simp)
  exact wpAny_pyNext_range_end (I.ok.hd g) st (by have:n<=i:=f;lia) λh' F=>⟨J,I.turned (t':=s.toks) (λb o a e=>F b o a e) u r q p m⟩
 self:=λ_ _ _ _ _ st h=>wpAny_pyIter_rangeiter st h
def U1(K:bh)(tl:TE):TI:=λb H R=>tl b H λx H1=>∃a,x=.ref a/\(∃xs,dW K H1 a xs)/\R (Zk K a) H1
def Ò(K:bh)(tl:TE):TI:=λb H R=>tl b H λx H1=>∃a,x=.ref a/\(∃xs,mh K H1 a xs)/\R (Ñ K a) H1
def JP(hl:PE X l tl):PI X tg l<|U1 X.K tl:=by
 intro aa s d H R I h;refine b7 (hl aa s d H _ I h) λv c f=>?_;obtain⟨x,H1,I1,g,q1⟩:=f;obtain⟨a,e,⟨xs,i⟩,q⟩:=q1;subst e;cases g;obtain⟨au,k,p,m⟩:=I1.list i;refine ke p.isList ?_;refine⟨c.z,[c.z],_,_,H1,J,I1.kept (t':=c.toks) λb o e=>b0 _ e,B9 a _,⟨_,dw _ J,J,J⟩,λb j=>?_,q⟩;have e:b=c.z:=by simpa using j
 subst e;exact I1.xO (eA _)<|I1.bA.fresh<|eA _
def PV(hl:PE X l tl):PI X tg l<|Ò X.K tl:=by
 intro aa s d H R I h;refine b7 (hl aa s d H _ I h) λv c f=>?_;obtain⟨x,H1,I1,g,q1⟩:=f;obtain⟨a,e,⟨xs,i⟩,q⟩:=q1;subst e;cases g;obtain⟨au,k,p,m⟩:=I1.tuple i;refine wpAny_pyIter_tuple (show c.heap.IsTuple a au.toArray from p) ?_;refine⟨c.z,[c.z],_,_,H1,J,I1.kept (t':=c.toks) λb o e=>b0 _ e,xP a _,⟨_,dw _ J,J,J⟩,λb j=>?_,q⟩;have e:b=c.z:=by simpa using j
 subst e;exact I1.xO (eA _)<|I1.bA.fresh<|eA _
def Es{R:It->Hp->Prop}{lo a:Int}(I:Inv X aa c H s)(i:-(2^62)<=lo)(h:lo<2^62)(g:-(2^62)<=a)(f:a<2^62)
  (q:R (Zl lo (a-lo).toNat) H):Md X (pyIter<|.ref s.z) (PIE X aa c tg R) E {s with heap:=s.heap.push {cls:=.type "range",data:=.fields #[.int lo t,.int a u,.int 1 v]},toks:=tk}:=by
 refine wpAny_pyIter_range (IsRange.new ..) (small_one i h g f) ?_;have I1:Inv X aa c H {s with heap:=s.heap.push {cls:=.type "range",data:=.fields #[.int lo t,.int a u,.int 1 v]},toks:=tk}:=I.kept λb o e=>b0 _ e
 refine⟨(s.heap.push {cls:=.type "range",data:=.fields #[.int lo t,.int a u,.int 1 v]}).objs.size,[(s.heap.push {cls:=.type "range",data:=.fields #[.int lo t,.int a u,.int 1 v]}).objs.size],_,_,H,J,
  I1.kept (t':=tk) λb o e=>b0 _ e,xQ _ lo (a-lo).toNat,?_,λb d=>?_,q⟩
 .have k:lo+((0:Nat):Int)*1=lo:=by simp
  have j:(((a-lo).toNat:Nat):Int)-((0:Nat):Int)=Builtin.Range.rangeSize lo a 1:=by rw[rangeSize_one];split<;>lia
  show IsRangeIter _ _ (lo+((0:Nat):Int)*1) ((((a-lo).toNat:Nat):Int)-((0:Nat):Int)) 1;rw[k,j];exact dw _ J
 .have e:b=(s.heap.push {cls:=.type "range",data:=.fields #[.int lo t,.int a u,.int 1 v]}).objs.size:=by simpa using d
  subst e;exact I1.xO (eA _)<|I1.bA.fresh<|eA _
def U3(c:TA):TI:=λa H R=>c a H λb H1=>∃j:Int,b=[.int j]/\-(2^62)<=j/\j<2^62/\R (Zl 0 j.toNat) H1
def B_{a:cC}{b:TA}(k:Gl X "range")(i:X.mg "range" = Y)(l:PA X [a] b)(g:dn [a] X.env=[(Zi,fC a X.env)]:=by rfl):PI X tg (.Call (.Name "range" p) [a] [] pos)<|U3 b:=by
 intro aa s c H R I h;refine Call_<|iW I k i boot_range<|zP (b7 (l pos aa s c H _ I h) λo u d=>?_) g J;obtain⟨n,H1,m,f,q1⟩:=d;obtain⟨j,e,q1,q2,q⟩:=q1;subst e;cases f with
 |cons r rr=>
  cases rr;obtain⟨t,rfl⟩:=r;exact call_range_1<|Es m (by lia) (by lia) q1 q2<|by simpa using q
def Ó(e:TI)(g:TG)(f:TS):TS:=λD a H=>e a H λj H1=>∃W:Nat->Nat->St->Hp->Prop,(∃m,W 0 m a H1)/\∀i m a H,W i m a H ->
 (j.stop i H/\D.nx a H)\/(j.go i H/\∃N:St->Hp->Prop,(∀b H',N b H'->∃d,d<m/\W (i+1) d b H')/\∀x H',j.yld i H x H'->g x a H' λc h=>f {D with nx:=N,ct:=N,bk:=D.nx} c h)
def oJ(a:BM)(h:ek):dH:=a.filterMap λb=>(h.get? b).map λo=>(b,o)
def iy{a:BM}{b:cq}{o:Obj}(c:b∈a)(e:h.get? b=U o):(b,o)∈oJ a h:=DM.mpr ⟨b,c,by rw[e];rfl⟩
def Cb{a:BM}{p:cq×Obj}(c:p∈oJ a h):p.1∈a/\h.get? p.1=U p.2:=by
 obtain⟨b,d,e⟩:=DM.mp c;cases q:h.get? b with
 |none=>rw[q]at e;cases e
 |some o=>
  rw[q]at e;have f:(b,o)=p:=j8.inj e;subst f;exact⟨d,q⟩
def Inv.pinned{a:BM}(I:Inv X aa c H s)(j:∀b∈a,oH X aa H b)(i:∀b∈a,∃o,s.heap.get? b=U o/\∀v,o.data≠.cell v):Inv X (aa++oJ a s.heap) c H s:=
 I.zQ λp h=>(iI.mp h).elim (λz=>I.pin p<|lj _ z) λz=>by
  obtain⟨f,e⟩:=Cb z;obtain⟨m,l,k,_⟩:=j p.1 f;obtain⟨o,g,d⟩:=i p.1 f;rw[e]at g;cases g;exact⟨e,m,l,k,d⟩
def Inv.kh{a:St}(I:Inv X (aa++pl) a H s):Inv X aa a H s:=I.zQ λp b=>I.pin p<|lj _<|DR _ b
def Et{V:TI}(E:me (mX X) X.A X.env X.xe)(hc:X.calm=O)(hi:PI X tg k V)(hg:PG X tg g)(l:gY X t tb)
  (hs:∀x,e6 k X.env x=pure x:=by intro _;rfl):PS X (.For tg k t [] pos)<|Ó V g tb:=by
 intro aa s S H D I h;refine wpAny_For (b7 (hi aa s S H _ I h) λv s1 h1=>b7 h1 λÐ s2 h2=>?_) hs;obtain⟨it,G,Z,Kt,H2,e,I2,T,Jt,f2,W,⟨m0,w0⟩,z⟩:=h2;subst e;have M:∀{H':Hp},(∀b∈G,H' b=Y)->∀b∈G,oH X aa H' b:=λhn b l=>⟨hn b l,(f2 b l).2⟩;refine codeAny_forLoop_any (λn s'=>∃i j H',Inv X aa j H' s'/\Z i s'.heap/\(∀b∈G,H' b=Y)/\W i n j H') ?_ m0 ⟨0,S,H2,I2,Jt,λb l=>(f2 b l).1,w0⟩
 rintro n s3 ⟨i,c,K,I3,B,F,w3⟩
 rcases z i n c K w3 with⟨stop,qn⟩|⟨go,N,hN,step⟩
 .refine ix E<|b7 (T.done X J J J hc i aa s3 c K X.xe I3 (M F) B stop) λr s4 y=>?_
  obtain⟨P,I4⟩:=y;subst P;exact iH ⟨c,K,I4,qn⟩
 .refine ix E<|b7 (T.item X J J J hc i aa s3 c K X.xe I3 (M F) B go) λr s4 y=>?_
  obtain⟨u,P,h4⟩:=y;subst P;refine ix E<|b7 h4 λ_ s5 y=>?_;obtain⟨x,H5,I5,r5,y5,Q,Zm⟩:=y;have R:=I5.pinned (M Zm)<|T.obj _ _ Q;refine ix E<|b7 (hg _ s5 c H5 x u _ R r5<|step x H5 y5) λ_ s6 y=>?_;obtain⟨L,H6,I6,q6⟩:=y;refine ix E<|b7 (l _ s6 L H6 _ I6 q6) λf s7 q7=>?_;have again:∀{a:St}{q:Hp},Inv X (aa++oJ G s5.heap) a q s7->N a q->∃m,m<n/\∃i j H',Inv X aa j H' s7/\Z i s7.heap/\(∀b∈G,H' b=Y)/\W i m j H':=λ{a q} p C=>by
   obtain⟨m',hm,w7⟩:=hN a q C;refine⟨m',hm,i+1,a,q,p.kh,T.keep _ _ _ Q λb l o e=>(p.pin (b,o)<|lj _<|lj _<|iy l e).1,λb l=>?_,w7⟩;obtain⟨o,e,d⟩:=T.obj _ _ Q b l;exact(p.pin (b,o)<|lj _<|lj _<|iy l e).2.1
  cases f with
  |next=>obtain⟨a,q,p,C⟩:=q7;exact again p C
  |cont=>obtain⟨a,q,p,C⟩:=q7;exact again p C
  |brk=>obtain⟨a,q,p,q7⟩:=q7;exact⟨a,q,p.kh,q7⟩
  |ret v=>obtain⟨x7,a,q,p,r7,q7⟩:=q7;exact⟨x7,a,q,p.kh,r7,q7⟩
abbrev R2:=V->V->Hp->VK->Prop
def gE(X:Cx)(f:bp->bp->Sem bp)(r:R2):Prop:=
 ∀(aa:dH)(s:ax)(a:St)(H:Hp)(x y:V)(v u:bp)(Q:VK),Inv X aa a H s->RelV x v->RelV y u->r x y H Q ->
  Md X (f v u) (EP X aa a Q) X.xe s
def Zn(X:Cx)(f:bp->Sem bp)(r:V->Hp->VK->Prop):Prop:=
 ∀(aa:dH)(s:ax)(a:St)(H:Hp)(x:V)(v:bp)(Q:VK),Inv X aa a H s->RelV x v->r x H Q ->
  Md X (f v) (EP X aa a Q) X.xe s
def fS(X:Cx)(f:bp)(r:List V->Hp->VK->Prop):Prop:=
 ∀(aa:dH)(s:ax)(a:St)(H:Hp)(xs:List V)(b:B2)(Q:VK),Inv X aa a H s->Vals xs b->r xs H Q ->
  Md X (call f b) (EP X aa a Q) X.xe s
def Ô(X:Cx)(r:V->Hp->(Bool->Hp->Prop)->Prop):Prop:=
 ∀(aa:dH)(s:ax)(a:St)(H:Hp)(x:V)(v:bp)(Q:Bool->Hp->Prop),Inv X aa a H s->RelV x v->r x H Q ->
  Md X (truthy v) (TP X aa a Q) X.xe s
def Eu(r:R2)(c b:TE):TE:=λa H Q=>c a H λx H1=>b a H1 λy d=>r x y d Q
def tUn(r:V->Hp->VK->Prop)(b:TE):TE:=λa H Q=>b a H λx H1=>r x H1 Q
def rI(C:Int->Int->Prop)(g:Int->Int->V):R2:=λx y H Q=>∃i j,x=.int i/\y=.int j/\C i j/\Q (g i j) H
def Di(g:Int->Int->V):R2:=λx y H Q=>∃i j,x=.int i/\y=.int j/\Q (g i j) H
def rU(g:Int->V):V->Hp->VK->Prop:=λx H Q=>∃i,x=.int i/\Q (g i) H
section
variable{a c:cC}
def PX(o:PE X a z)(n:PE X b B){c:St}{R:V->V->Hp->Prop}(I:Inv X aa c H s)
  (h:z c H λx H1=>B c H1 λy d=>R x y d)  {f:bp->bp->Sem bp}
  (m:∀v u s2 x y d,Inv X aa c d s2->RelV x v->RelV y u->R x y d->Md X (f v u) Q X.xe s2) :
  Md X (fC a X.env) (λv g=>Md X (fC b X.env) (λu e=>Md X (f v u) Q X.xe e) X.xe g) X.xe s:=by
 refine b7 (o aa s c H _ I h) λv j i=>?_;obtain⟨x,H1,q,l,q1⟩:=i;refine b7 (n aa j c H1 _ q q1) λu s2 i=>?_;obtain⟨y,d,p,k,q2⟩:=i;exact m v u s2 x y d p l k q2
def mw(f:gE X (kv op) r)(i:PE X a z)(g:PE X b B):PE X (.BinOp a op b pos)<|Eu r z B:=by
 intro aa s c H Q I h;exact wpAny_BinOp<|PX i g I h λv u s2 x y k j e d q=>f aa s2 c k x y v u Q j e d q
def U4(e:Zn X (unaryOp op) r)(f:PE X a z):PE X (.UnaryOp op a pos)<|tUn r z:=by
 intro aa s b H Q I h;exact UnaryOp_<|b7 (f aa s b H _ I h)<|by rintro v c ⟨x,H1,g,d,q1⟩;exact e aa c b H1 x v Q g d q1
def Zp{f:bp->bp->Sem bp}{C:Int->Int->Prop}{g:Int->Int->Int}
  (rule:∀(i j:Int)(t u:Tok)(s:ax)(Q:Kp)(E:Kp),C i j->Q (.int (g i j) s.toks) {s with toks:=s.toks+1}->Md X (f (.int i t)<|.int j u) Q E s) :
  gE X f<|rI C λi j=>.int<|g i j:=by
 intro aa s e H x y v u Q I c b h;obtain⟨i,j,rfl,rfl,d,q⟩:=h;obtain⟨t,rfl⟩:=c;obtain⟨a,rfl⟩:=b;exact rule i j t a s _ _ d ⟨.int<|g i j,H,I.tok _,⟨_,J⟩,q⟩
def U5{f:bp->bp->Sem bp}{g:Int->Int->Int}
  (rule:∀(i j:Int)(t u:Tok)(s:ax)(Q:Kp)(E:Kp),Q (.int (g i j) s.toks) {s with toks:=s.toks+1}->Md X (f (.int i t)<|.int j u) Q E s) :
  gE X f<|Di λi j=>.int<|g i j:=by
 intro aa s d H x y v u Q I c b h;obtain⟨i,j,rfl,rfl,q⟩:=h;obtain⟨t,rfl⟩:=c;obtain⟨a,rfl⟩:=b;exact rule i j t a s _ _ ⟨.int<|g i j,H,I.tok _,⟨_,J⟩,q⟩
def JR{f:bp->bp->Sem bp}{g:Int->Int->Bool}
  (rule:∀(i j:Int)(t u:Tok)(s:ax)(Q:Kp)(E:Kp),Q (.bool<|g i j) s->Md X (f (.int i t)<|.int j u) Q E s) :
  gE X f<|Di λi j=>.bl<|g i j:=by
 intro aa s d H x y v u Q I c b h;obtain⟨i,j,rfl,rfl,q⟩:=h;obtain⟨t,rfl⟩:=c;obtain⟨a,rfl⟩:=b;exact rule i j t a s _ _ ⟨.bl<|g i j,H,I,J,q⟩
def U6(i j:Int):Prop:=0<j/\j<1073741824
def U7(i j:Int):Prop:=0<=j/\j<=1000000/\i.natAbs<2^64
def PY(i j:Int):Prop:=(-(2^64)<i/\i<2^64)\/(-(2^64)<j/\j<2^64)
def PY.ok(h:PY i j):IntMulOk i j:=by
 rcases h with⟨b,a⟩|⟨b,a⟩
 .exact .of_left<|intBits_le_64 b a
 .exact .of_right<|intBits_le_64 b a
def PZ:gE X (kv .Add)<|Di λi j=>.int<|i+j:=U5 λ_ _ _ _ _ _ _ q=>add_int q
def P0:gE X (kv .Sub)<|Di λi j=>.int<|i-j:=U5 λ_ _ _ _ _ _ _ q=>sub_int q
def JS:gE X (kv .FloorDiv)<|rI U6 λi j=>.int<|i/j:=Zp λi j _ _ _ _ _ a q=>by
 have c:(0:Int)<j:=a.1;have b:j<1073741824:=a.2;exact floordiv_int (by lia) (by rw[Int.fdiv_eq_ediv_of_nonneg i<|by lia];exact q)<|.inl<|PyProof.noPylong_small<|by lia
def P1:gE X (kv .Mod)<|rI (λ_ j=>0<j) λi j=>.int<|i % j:=Zp λi j _ _ _ _ _ a q=>by
 have b:(0:Int)<j:=a;exact mod_int' (by lia) (by rw[Int.fmod_eq_emod_of_nonneg i<|by lia];exact q)
def P4:gE X (kv .Pow)<|rI U7 λi j=>.int<|i^j.toNat:=Zp λ_ _ _ _ _ _ _ a q=>pow_int_small a.1 a.2.1 a.2.2 q
def unI{f:bp->Sem bp}{g:Int->Int}
  (rule:∀(i:Int)(t:Tok)(s:ax)(Q:Kp)(E:Kp),Q (.int (g i) s.toks) {s with toks:=s.toks+1}->Md X (f<|.int i t) Q E s) :
  Zn X f<|rU λi=>.int<|g i:=by
 intro aa s b H x v Q I a h;obtain⟨i,rfl,q⟩:=h;obtain⟨t,rfl⟩:=a;exact rule i t s _ _ ⟨.int<|g i,H,I.tok _,⟨_,J⟩,q⟩
def P5:Zn X (unaryOp .USub)<|rU λi=>.int<|-i:=unI λ_ _ _ _ _ q=>neg_int q
def xS:Zn X (unaryOp .Invert)<|rU λi=>.int<|Builtin.bitNot i:=unI λ_ _ _ _ _ q=>invert_int q
end
section
variable{a c:cC}
def iY{a:St}{k b:Bool}(I:Inv X aa a H s)(q:Q (.bl k) H)(e:k=b):EP X aa a Q (.bool b) s:=by
 subst e;exact⟨.bl k,H,I,J,q⟩
def U8:gE X (en .Lt)<|Di λi j=>.bl<|decide<|i<j:=JR λ_ _ _ _ _ _ _ q=>lt_int q
def U9:gE X (en .LtE)<|Di λi j=>.bl<|decide<|i<=j:=JR λ_ _ _ _ _ _ _ q=>le_int q
def U_:gE X (en .Gt)<|Di λi j=>.bl<|decide<|j<i:=JR λ_ _ _ _ _ _ _ q=>gt_int q
def Va:gE X (en .GtE)<|Di λi j=>.bl<|decide<|j<=i:=JR λ_ _ _ _ _ _ _ q=>ge_int q
def Cc:gE X (en .In) λx y H Q=>∃i j,x=.str i/\y=.str j/\Q (.bl<|!(dA j i 0 j.length 1).isEmpty) H:=by
 intro aa s c H x y v u Q I b a h;obtain⟨i,j,rfl,rfl,q⟩:=h;obtain⟨t,rfl⟩:=b;obtain⟨d,rfl⟩:=a;exact in_str<|iY I q J
def P6:gE X (en .Is) λx y H Q=>y=.non/\Q (.bl<|decide<|x=.non) H:=by
 intro aa s c H x y v u Q I a b h;obtain⟨rfl,q⟩:=h;cases b;refine is_none_gen<|iY I q ?_;cases x<;>first
  |(cases a;rfl)
  |(obtain⟨t,rfl⟩:=a;rfl)
def JT:gE X (en .IsNot) λx y H Q=>y=.non/\Q (.bl<|!decide (x=.non)) H:=by
 intro aa s c H x y v u Q I a b h;obtain⟨rfl,q⟩:=h;cases b;refine isnot_none_gen<|iY I q ?_;cases x<;>first
  |(cases a;rfl)
  |(obtain⟨t,rfl⟩:=a;rfl)
def sY:gE X (en .NotIn) λx y H Q=>∃i j,x=.str i/\y=.str j/\Q (.bl<|!(!(dA j i 0 j.length 1).isEmpty)) H:=by
 intro aa s c H x y v u Q I b a h;obtain⟨i,j,rfl,rfl,q⟩:=h;obtain⟨t,rfl⟩:=b;obtain⟨d,rfl⟩:=a;exact notIn_str<|iY I q J
def gE.or{f:bp->bp->Sem bp}{r d:R2}(h:gE X f r)(h':gE X f d):gE X f λx y H Q=>r x y H Q\/d x y H Q:=by
 intro aa s a H x y v u Q I c b q;rcases q with q|q
 .exact h aa s a H x y v u Q I c b q
 .exact h' aa s a H x y v u Q I c b q
def ki(f:gE X (en op) r)(j:PE X a F)(i:PE X b D)(g:fv op b=Zi):PE X (.Compare a [op] [b] pos)<|Eu r F D:=by
 intro aa s c H Q I h;exact wpAny_Compare1 (PX j i I h λv u s2 x y l k e d q=>f aa s2 c l x y v u Q k e d q) g
def Vb(t:TE):TT:=λa H Q=>t a H λx H'=>∃k,x=.bl k/\Q k H'
def jq(m:gE X (en op) r)(p:PE X a F)(o:PE X b D)(n:fv op b=Zi):PT X (.Compare a [op] [b] pos)<|Vb<|Eu r F D:=by
 intro aa s d H Q I h;refine wpAny_isTrue_Compare1 (b7 (p aa s d H _ I h) λv f ⟨x,H1,w,j,q1⟩=>b7 (o aa f d H1 _ w q1) λu s2 ⟨y,B,t,i,q2⟩=>
  b7 (m aa s2 d B x y v u _ t j i q2) λc s3 ⟨z,A,q,g,k,e,l⟩=>?_) n
 subst e;cases g;exact ka ⟨A,q,l⟩
def P7(K:bh)(x:V)(H:Hp)(k:Bool):Prop:=
 match x with
 |.non=>k=Zi
 |.bl b=>k=b
 |.int i=>k=(i != 0)
 |.str y=>y.length<=de/\k=((y.length:Int) != 0)
 |.byt y=>y.size<=de/\k=((y.size:Int) != 0)
 |.ref p=>(∃xs,dW K H p xs/\k=!xs.isEmpty)\/(∃xs,mh K H p xs/\k=!xs.isEmpty)\/∃a,H p=U (.dK a)/\k=!a.isEmpty
 |_=>False
def xT{a:Type}{b:List<|a×V}{vs:List<|a×bp}(r:KV b vs):(!vs.isEmpty)=!b.isEmpty:=by
 cases r<;>rfl
def oK(r:Vals xs au):(!au.toArray.isEmpty)=!xs.isEmpty:=by
 cases r<;>simp
def lA:(de:Nat)<2^63:=by rw[ez];decide
def P8:Ô X λx H Q=>∃k,P7 X.K x H k/\Q k H:=by
 intro aa s u H x v Q I c h;obtain⟨k,e,q⟩:=h;have hl:=lA;have z:de=16777216:=ez;cases x with
 |non=>
  cases c;have a:k=Zi:=e;subst a;exact truthy_none ⟨H,I,q⟩
 |bl b=>
  cases c;have a:k=b:=e;subst a;exact ka ⟨H,I,q⟩
 |int i=>
  obtain⟨t,rfl⟩:=c;have a:k=(i != 0):=e;subst a;exact PySem.P.truthy_int ⟨H,I,q⟩
 |str y=>
  obtain⟨t,rfl⟩:=c;obtain⟨n,a⟩:y.length<=de/\k=((y.length:Int) != 0):=e;subst a;exact PySem.P.truthy_str (by lia) ⟨H,I.tok _,q⟩
 |byt y=>
  obtain⟨t,rfl⟩:=c;obtain⟨n,a⟩:y.size<=de/\k=((y.size:Int) != 0):=e;subst a;exact PySem.W.truthy_bytes (by lia) ⟨H,I.tok _,q⟩
 |ref p=>
  cases c;have a:(∃xs,dW X.K H p xs/\k=!xs.isEmpty)\/(∃xs,mh X.K H p xs/\k=!xs.isEmpty)\/∃d,H p=U (.dK d)/\k=!d.isEmpty:=e;rcases a with⟨xs,f,a⟩|⟨xs,f,a⟩|⟨d,f,a⟩
  .subst a
   obtain⟨au,r,pl,j⟩:=I.list f;have l:=r.length;exact wpAny_truthy_list pl.isList (by simp only[cM];lia) ⟨H,I.tok _,by rw[oK r];exact q⟩
  .subst a
   obtain⟨au,r,pl,j⟩:=I.tuple f;have l:=r.length;exact truthy_tuple pl (by simp only[cM];lia) ⟨H,I.tok _,by rw[oK r];exact q⟩
  .subst a
   obtain⟨j,o,g,r,m⟩:d.length<=de/\(p == kl)=Zi/\∃g,KV d g/\s.heap.DictOf (c9 X.prog X.w) p g:=I.bA p _ f;have l:d.length=g.length:=Paired.length r;exact wpAny_truthy_dict o m (by lia) ⟨H,I.tok _,by rw[xT r];exact q⟩
 |_=>exact(show False from e).elim
def Ew(f:PE X a F)(he:∀c,H4 a X.env c=(do let v <- c;rb a.pos;ri [v] (truthy v))) :
  PT X a λb H Q=>F b H λx H'=>∃k,P7 X.K x H' k/\Q k H':=by
 intro aa s b H Q I h;exact isTrue_plain (b7 (f aa s b H _ I h)<|by rintro v d ⟨x,H1,g,e,q1⟩;exact P8 aa d b H1 x v Q g e q1)<|he _
def xU:gE X (kv .Add) λx y H Q=>∃i j,x=.str i/\y=.str j/\i.length+j.length<=de/\Q (.str<|i++j) H:=by
 intro aa s e H x y v u Q I c b h;obtain⟨i,j,rfl,rfl,d,q⟩:=h;obtain⟨t,rfl⟩:=c;obtain⟨a,rfl⟩:=b;exact add_str (λa tk=>⟨.str<|i++j,H,I.tok _,⟨_,J⟩,q⟩) d
def vals1{x:V}(r:Vals [x] us):∃u,us=[u]/\RelV x u:=by
 cases r with
 |cons b a=>cases a;exact⟨_,J,b⟩
def vals2{x y:V}(r:Vals [x,y] us):∃u a,us=[u,a]/\RelV x u/\RelV y a:=by
 cases r with
 |cons e d=>
  cases d with
  |cons c b=>cases b;exact⟨_,_,J,e,c⟩
def Ey:fS X (.builtin "abs") λxs H Q=>∃i,xs=[.int i]/\Q (.int<|if i<0 then -i else i) H:=by
 intro aa s a H xs b Q I r h;obtain⟨i,rfl,q⟩:=h;obtain⟨u,rfl,t,rfl⟩:=vals1 r;exact call_abs_int λu tk=>⟨.int<|if i<0 then -i else i,H,I.tok _,⟨_,J⟩,q⟩
def Cd(a:X.calm=O):fS X (.builtin "max") λxs H Q=>∃i j,xs=[.int i,.int j]/\Q (.int<|if j > i then j else i) H:=by
 intro aa s b H xs d Q I r h;obtain⟨i,j,rfl,q⟩:=h;obtain⟨u,c,rfl,⟨t,rfl⟩,⟨e,rfl⟩⟩:=vals2 r;refine max_two_ints (I.ok.hd a) λh' tk k=>⟨_,H,I.kept k,?_,q⟩;by_cases hj:j > i
 .rw[cv hj,cv hj];exact⟨_,J⟩
 .rw[cb hj,cb hj];exact⟨_,J⟩
def sZ:fS X (.type "str") λxs H Q=>∃i,xs=[.int i]/\i.natAbs.log2<1920/\Q (.str<|toString i) H:=by
 intro aa s b H xs c Q I r h;obtain⟨i,rfl,a,q⟩:=h;obtain⟨u,rfl,t,rfl⟩:=vals1 r;exact PySem.P.str_of_int a ⟨.str _,H,I.tok _,⟨_,J⟩,q⟩
def Vc(K:bh)(x:V)(H:Hp)(n:Nat):Prop:=
 match x with
 |.str y=>y.length<=de/\n=y.length
 |.byt y=>y.size<=de/\n=y.size
 |.ref p=>(∃xs,dW K H p xs/\n=xs.length)\/∃xs,mh K H p xs/\n=xs.length
 |_=>False
def vh:fS X (.builtin "len") λxs H Q=>∃x n,xs=[x]/\Vc X.K x H n/\Q (.int n) H:=by
 intro aa s j H xs k Q I r h;obtain⟨x,n,rfl,e,q⟩:=h;obtain⟨u,rfl,b⟩:=vals1 r;have hl:=lA;have l:de=16777216:=ez;cases x with
 |str y=>
  obtain⟨t,rfl⟩:=b;obtain⟨i,a⟩:y.length<=de/\n=y.length:=e;subst a;exact len_str (by lia) ⟨.int _,H,I.tok _,⟨_,J⟩,q⟩
 |byt y=>
  obtain⟨t,rfl⟩:=b;obtain⟨i,a⟩:y.size<=de/\n=y.size:=e;subst a;exact PySem.W.len_bytes (by lia) ⟨.int _,H,I.tok _,⟨_,J⟩,q⟩
 |ref p=>
  cases b;have a:(∃xs,dW X.K H p xs/\n=xs.length)\/∃xs,mh X.K H p xs/\n=xs.length:=e;rcases a with⟨xs,d,a⟩|⟨xs,d,a⟩
  .subst a
   obtain⟨au,c,pl,g⟩:=I.list d;have f:=c.length;exact Calls.call_len_list pl.isList (by simp only[cM];lia) ⟨.int xs.length,H,I.tok _,⟨_,by simp only[cM];rw[f]⟩,q⟩
  .subst a
   obtain⟨au,c,pl,g⟩:=I.tuple d;have f:=c.length;exact len_tuple pl (by simp only[cM];lia) ⟨.int xs.length,H,I.tok _,⟨_,by simp only[cM];rw[f]⟩,q⟩
 |_=>exact(show False from e).elim
end
structure xV(h:ek)(x dx C:cq)(mA:Str->D1):Prop where
 obj:h.get? x=U (uR C dx)
 ns:h.Ns1 dx mA
 ne:dx≠x
def qY{b:Str->D1}(n:h.Ns1 dx b):∃od,h.get? dx=U od/\∀name,zf name od=U (b name):=by
 obtain⟨o,R,j,d,hd,g,_,f⟩:=n;refine⟨o,d,λname=>?_⟩;have e:=f name;unfold nsFind findBy at e;rw[<- ER]at e;unfold zf;rw[hd];dsimp only;split
 .rename_i y q
  rw[q]at e;exact ey U e
 .rename_i q
  rw[q]at e;have a:R.toList.any (·.refKey)=Zi:=by
   rw[List.any_eq_false];intro y c;obtain⟨z,t,Õ⟩:=g y<|Array.mem_toList_iff.mp c;simp[DictEntry.refKey,Õ]
  have i:¬ R.toList.any (·.refKey)=O:=by rw[a];exact gx
  rw[cb i];exact ey U e
def xV.look{a:Str->D1}(I:xV h x dx C a):∃od,PySem.W.InstAt h x (uR C dx) C (U od)/\∀name,zf name od=U (a name):=
 let⟨od,ho,hl⟩:=qY I.ns
 ⟨od,⟨I.obj,J,J,ho⟩,hl⟩
section
variable{K:bh}
def get_map{a:Bool}(X:K.In s.heap)(I:xV s.heap x dx C u)(e:Dy K C name=O)(d:Dz K C=O)
  (f:fG K (.ref C) name=U Y) (c:u name=U v) (b:MH v=O) (h:Q v {s with toks:=s.toks+1}) :
  dg (cx prog w) A (H9 (.ref x) name a) Q E s:=by
 obtain⟨od,g,hl⟩:=I.look;exact PySem.W.get_value X g (DC e).1 (PySem.W.findObj_own d f J<|by rw[hl,c]) b h
def Ez(X:K.In s.heap)(I:xV s.heap x dx C u)(a:Dy K C name=O)
  (d:fG K (.ref C) name=U (U<|.ref f)) (c:BN K (.ref f)=O) (b:u name=Y) (h:Q (.ref f,[.ref x]) s) :
  dg (cx prog w) A (u0 (.ref x) name pl) Q E s:=by
 obtain⟨od,e,hl⟩:=I.look;exact PySem.W.method_fn X e (DC a).1 (DC a).2 d (beq_iff_eq.mp c) (by show(zf name od).map (·.isSome)=U Zi;rw[hl,b];rfl) h
def JU{Q:L6}(X:K.In s.heap)(I:xV s.heap x dx C u)
  (i:fG K (.ref C) "__setattr__" = U (U<|.builtin "object.__setattr__")) (j:DE K C=O) (g:DF K C name=U Y) (k:Dz K C=O)
  (f:n5 u ns) (hsz:ns.length<=de)
  (h:∀h',xV h' x dx C (λy=>if y=name then U v else u y)->ry dx s.heap h'->Q () {s with heap:=h',toks:=s.toks+2}) :
  dg (cx prog w) A (setAttr (.ref x) name v) Q E s:=by
 obtain⟨od,z,hl⟩:=I.look;refine PySem.W.set_plain X z i<|PySem.W.osa_open (s:={s with toks:=s.toks+1}) (r:=Y) X z j g λb=>?_
 obtain⟨t,l,p⟩:=DG k;have e:s.heap.get? x=U ⟨.ref C,U dx,.plain,#[]⟩:=I.obj;refine ag<|dk<|ag<|ag<|yB e<|ag<|MI.here (s:={s with toks:=s.toks+1}) (PySem.W.looks_clsIn X l) ?_
 rw[p];refine dk (a:=U dx)<|ag<|dk<|ag ?_;refine wpAny_nsSet1 (s:={s with toks:=s.toks+1}) I.ns λh' c d=>?_
 obtain⟨oD,m,n,o,Ö,q⟩:=c.count<|PySem.Within.cons name v f;refine ag<|wpAny_lookBehind o (by rw[Ö];exact pastItsLine_dict<|eY q<|by rw[eu];lia) ?_
 exact dk<|h _ ⟨(d.2 _<|et I.ne).trans I.obj,c,I.ne⟩ d
def EC{R:IH->ax->Prop}(X:K.In s.heap)(a:DA K C=O)
  (b:fG K (.ref C) "__init__" = U (U<|.ref f)) (c:PySem.W.typeIn K (.ref f)=U (.type "function"))
  (h:hZ (cx prog w) (A.under<|.builtin "type.__call__" ⟨.ref C::vs,kw⟩) (.call (.ref f) ⟨.ref (s.z+1)::vs,kw⟩) (PySem.W.InitBack (s.z+1) R)
   {s with heap:=(s.heap.push sD).push (uR C s.z)}) :
  hZ (cx prog w) A (.call (.ref C) ⟨vs,kw⟩) R s:=by
 obtain⟨e,g,d,t,os⟩:=s;exact PySem.W.make_core (PySem.W.makes_of X a) (PySem.W.looks_findIn X b) (λself=>PySem.W.bind_fn X self c) (.inl J) h
end
def eg(f:Str)(v:V):List (Str×V)->List (Str×V)
 |[]=>[(f,v)]
 |(g,x)::r=>if g=f then(g,v)::r else(g,x)::eg f v r
theorem my(f g:Str)(v:V):∀fs:List<|Str×V,(eg f v fs).lookup g=if g=f then U v else fs.lookup g
 |[]=>by
  show iT g [(f,v)]=_;by_cases h:g=f
  .have a:(g == f)=O:=beq_iff_eq.mpr h
   simp only[iT,a,cv h]
  .have a:(g == f)=Zi:=beq_eq_false_iff_ne.mpr h
   simp only[iT,a,cb h]
 |(k,x)::r=>by
  have b:=my f g v r;rw[show eg f v ((k,x)::r)=(if k=f then(k,v)::r else(k,x)::eg f v r)from J]
  by_cases hk:k=f
  .rw[cv hk]
   by_cases h:g=k
   .have a:(g == k)=O:=beq_iff_eq.mpr h
    simp only[iT,a,cv<|h.trans hk]
   .have a:(g == k)=Zi:=beq_eq_false_iff_ne.mpr h
    simp only[iT,a,cb λe:g=f=>h<|e.trans hk.symm]
  .rw[cb hk]
   by_cases h:g=k
   .have a:(g == k)=O:=beq_iff_eq.mpr h
    simp only[iT,a,cb λe:g=f=>hk<|h.symm.trans e]
   .have a:(g == k)=Zi:=beq_eq_false_iff_ne.mpr h
    simp only[iT,a];exact b
theorem lB(f:Str)(v:V):∀fs:List<|Str×V,f∈(eg f v fs).map (·.1)/\∀g,g∈fs.map (·.1)->g∈(eg f v fs).map (·.1)
 |[]=>⟨by simp[eg],λg h=>by simp at h⟩
 |(k,x)::r=>by
  obtain⟨b,a⟩:=lB f v r;rw[show eg f v ((k,x)::r)=(if k=f then(k,v)::r else(k,x)::eg f v r)from J]
  by_cases hk:k=f
  .rw[cv hk]
   subst hk;exact⟨by simp,λg h=>by simpa using h⟩
  .rw[cb hk]
   refine⟨?_,λg h=>?_⟩
   .rw[fV]
    exact bw _ b
   .rw[fV]at h ⊢
    rcases bF.mp h with e|e
    .exact bF.mpr<|.inl e
    .exact bw _<|a g e
theorem mz(f:Str)(v:V):∀fs:List<|Str×V,(eg f v fs).length<=fs.length+1
 |[]=>by simp[eg]
 |(k,x)::r=>by
  have a:=mz f v r;rw[show eg f v ((k,x)::r)=(if k=f then(k,v)::r else(k,x)::eg f v r)from J]
  by_cases hk:k=f
  .rw[cv hk,eu,eu];lia
  .rw[cb hk,eu,eu];lia
def iV.some_of{o:D1}(r:iV (U v) o):∃u,o=U u/\RelV v u:=by
 cases o with
 |none=>exact(show False from r).elim
 |some u=>exact⟨u,J,r⟩
def iV.none_of{o:D1}(r:iV Y o):o=Y:=by
 cases o with
 |none=>rfl
 |some u=>exact(show False from r).elim
def qZ(r:RelV v u):MH u=O:=by
 cases v with
 |non=>cases(show u=gG from r);rfl
 |bl b=>cases(show u=o6 b from r);rfl
 |int i=>obtain⟨t,e⟩:=(show ∃t,u=Value.int i t from r);cases e;rfl
 |str x=>obtain⟨t,e⟩:=(show ∃t,u=Value.str x t from r);cases e;rfl
 |byt b=>obtain⟨t,e⟩:=(show ∃t,u=Value.bytes b t from r);cases e;rfl
 |flt b=>obtain⟨t,e⟩:=(show ∃t,u=y8 b t from r);cases e;rfl
 |ref a=>cases(show u=Value.ref a from r);rfl
 |ty n=>cases(show u=n3 n from r);rfl
def kj(bA:jL P w H h)(e:H a=U (.ins C dx fs)):∃b,xV h a dx C b/\(∀f,iV (fs.lookup f)<|b f)/\n5 b (fs.map (·.1))/\fs.length<=1000/\H dx=U (.own a):=by
 obtain⟨d,z,ne,ob,b,n,r,q⟩:=(show bV P w H h a (.ins C dx fs)from bA a _ e);exact⟨b,⟨ob,n,ne⟩,r,q,z,d⟩
structure q_(K:bh)(C:cq):Prop where
 pg:Dy K C ij=O
 hd:Dz K C=O
 po:DE K C=O
 sa:fG K (.ref C) "__setattr__" = U (U<|.builtin "object.__setattr__")
def q_.get{K:bh}(c:q_ K C)(f:Str):Dy K C f=O:=c.pg
def cO(K:bh)(C:cq)(f:Str):Prop:=fG K (.ref C) f=U Y
def cO.Vd{K:bh}{f:Str}(n:cO K C f):DF K C f=U Y:=by
 unfold DF;rw[show fG K (.ref C) f=U Y from n];rfl
structure Meth(K:bh)(C:cq)(m:Str)(f:cq):Prop where
 at_:fG K (.ref C) m=U (U<|.ref f)
 fn:BN K (.ref f)=O
 kp:j9 K (.ref f)=O
section
variable{f:Str}
def xW{b:Bool}{Q:Kp}(I:Inv X aa B H s)(e:H a=U (.ins C dx fs))(c:q_ X.K C)(n:cO X.K C f)(l:fs.lookup f=U v)
  (h:∀u s',Inv X aa B H s'->RelV v u->Q u s'):dg (mX X) A (H9 (.ref a) f b) Q E s:=by
 obtain⟨g,j,r,_,_,_⟩:=kj I.bA e;obtain⟨u,i,d⟩:=iV.some_of (v:=v) (o:=g f) (by rw[<- l];exact r f)
 exact get_map I.iw j (c.get f) c.hd n i (qZ d)<|h u _ (I.tok _) d
def oN(I:Inv X aa B H s)(e:H a=U (.ins C dx fs))(c:q_ X.K C)(k:Meth X.K C m g)(l:fs.lookup m=Y)
  (h:Q (.ref g,[.ref a]) s):dg (mX X) A (u0 (.ref a) m pl) Q E s:=by
 obtain⟨b,f,r,_,_,_⟩:=kj I.bA e;have d:b m=Y:=iV.none_of (by rw[<- l];exact r m)
 exact Ez I.iw f (c.get m) k.at_ k.fn d h
def xX{Q:L6}(I:Inv X aa B H s)(e:H a=U (.ins C dx fs))(c:q_ X.K C)(n:cO X.K C f)(hl:fs.length<1000)(m:RelV y u)
  (h:∀s',Inv X aa B (upd H a<|.ins C dx<|eg f y fs) s'->Q () s'):dg (mX X) A (setAttr (.ref a) f u) Q E s:=by
 obtain⟨j,D,r,i,_,k⟩:=kj I.bA e;have p:(fs.map (·.1)).length<=de:=by rw[cU,ez];lia
 refine JU I.iw D c.sa c.po n.Vd c.hd i p λh' d l=>h _ ?_;have hd:∃o,h'.get? dx=U o:=let⟨o,_,_,e',_⟩:=d.ns;⟨o,e'⟩;refine I.write (x:=a) (e:=dx) (by rw[e];exact gL) (.inr k) (λb q v z=>(l.2 b v).trans z) hd ?_
 refine⟨by rw[ai D.ne];exact k,?_,D.ne,d.obj,_,d.ns,λg=>?_,λg t=>?_⟩
 .have:=mz f y fs;lia
 .show iV ((eg f y fs).lookup g)<|if g=f then U u else j g
  rw[my];by_cases q:g=f
  .rw[cv q,cv q];exact m
  .rw[cb q,cb q];exact r g
 .by_cases q:g=f
  .rw[q];exact(lB f y fs).1
  .refine(lB f y fs).2 g<|i g λz=>t ?_
   show(if g=f then U u else j g)=Y
   rw[cb q];exact z
def Inv.made(I:Inv X aa B H s):Inv X aa B (upd (upd H s.z<|.own<|s.z+1) (s.z+1)<|.ins C s.z [])
  {s with heap:=(s.heap.push sD).push (uR C s.z)}:=by
 have c:(s.heap.push sD).get? s.z=U sD:=dw s.heap J;have h:((s.heap.push sD).push<|uR C s.z).get? (s.z+1)=U (uR C s.z):=by
  have:=dw (s.heap.push sD) (o:=uR C s.z) J
  rwa [i4]at this
 have g:(s.heap.push sD).Ns s.z λ_=>Y:=⟨sD,#[],_,c,J,(λe f=>dy f<|by simp),λ_=>J⟩
 have i:=I.laid (a:=s.z) (o:=.own<|s.z+1) (h':=s.heap.push sD) (t':=s.toks) (λb u q=>b0 _ q) (eA _) ⟨_,c⟩;refine i.laid (a:=s.z+1) (o:=.ins C s.z []) (t':=s.toks) (λb u q=>b0 _ q) (B0<|i4 _ _) ?_;have ne:s.z≠s.z+1:=dP<|ou _;refine⟨by rw[ai ne,ak],iU _,ne,h,λ_=>Y,(zi g).at λo q=>b0 _ q,λ_=>gL,λy d=>dy J d⟩
def zT(b:kx e f env (fC e env)=fC e env)
  (h:dg (cx prog w) A (fC e env) (λo a=>dg (cx prog w) A (H9 o f O) Q E a) E s):dg (cx prog w) A (fC (.Attribute e f pos) env) Q E s:=
 Attribute_any_ h (by rw[arm_eval_Attribute,b])
end
def Ø(K:bh)(c:TE)(f:Str):TE:=λb H Q=>c b H λx H1=>∃a C dx fs v,x=.ref a/\H1 a=U (.ins C dx fs)/\q_ K C/\cO K C f/\fs.lookup f=U v/\Q v H1
def Ve(K:bh)(e d:TE)(f:Str):TS:=λD b H=>d b H λy H1=>e b H1 λx c=>∃a C dx fs,x=.ref a/\c a=U (.ins C dx fs)/\q_ K C/\cO K C f/\fs.length<1000 /\
 D.nx b (upd c a<|.ins C dx<|eg f y fs)
section
variable{f:Str}
def P_(he:PE X e B)(j:kx e f X.env (fC e X.env)=fC e X.env):PE X (.Attribute e f pos)<|Ø X.K B f:=by
 intro aa s b H Q I h;refine zT j<|b7 (he aa s b H _ I h) λu r d=>?_;obtain⟨x,H1,o,g,a,C,dx,fs,v,ex,k,c,n,l,q⟩:=d;subst ex
 obtain rfl:u=Value.ref a:=g
 exact xW o k c n l λp s2 m i=>⟨v,H1,m,i,q⟩
def xY(m:PE X o B)(j:PE X z Q)(k:fu z (U<|.Attribute o f F) pos.line X.env=pure Zi):PS X (.Assign [.Attribute o f F] z pos)<|Ve X.K B Q f:=by
 intro aa s b H D I h;refine uc (b7 (j aa s b H _ I h) λu e d=>?_) k;obtain⟨y,H1,v,g,q⟩:=d;refine b7 (m aa e b H1 _ v q) λov s2 d=>?_;obtain⟨x,w,t,i,a,C,dx,fs,ex,p,c,n,l,q2⟩:=d;subst ex
 obtain rfl:ov=Value.ref a:=i
 exact xX t p c n l g λs3 r=>⟨b,_,r,q2⟩
end
section
variable{Q:Kp}{b:Bool}
inductive jA(K:bh)(H:Hp):V->bp->Prop where
 |non:jA K H .non<|.type "NoneType"
 |bl (x:Bool):jA K H (.bl x)<|.type "bool"
 |int (i:Int):jA K H (.int i)<|.type "int"
 |str (x:Str):jA K H (.str x)<|.type "str"
 |flt (x:UInt64):jA K H (.flt x)<|.type "float"
 |lst {a:cq} {xs:List V} (e:H a=U (.lst xs)):jA K H (.ref a)<|.type "list"
 |j_ {a:cq} {o:Obj} {xs:List V} (e:H a=U (.j_ o<|.lst xs)):jA K H (.ref a)<|.type "list"
 |tup {a:cq} {xs:List V} (e:mh K H a xs):jA K H (.ref a)<|.type "tuple"
 |dK {a:cq} {aW:List<|Key×V} (e:H a=U (.dK aW)):jA K H (.ref a)<|.type "dict"
 |dT {a:cq} {aW:List<|List Key×V} (e:H a=U (.dT aW)):jA K H (.ref a)<|.type "dict"
 |ins {a C dx:cq} {fs:List<|Str×V} (e:H a=U (.ins C dx fs)) (cl:q_ K C) (ha:fG K (.ref C) "__class__" = U (U<|.builtin Mz))
   (hn:zg K (.builtin Mz) "__get__" = U (U<|.builtin "getset_descriptor.__get__")) (Zq:zh K (.builtin Mz)=U O)
   (hm:BO K C (.type "object")=U O):jA K H (.ref a)<|.ref C
def rf{x:V}(I:Inv X aa G H s)(d:RelV x u)(ty:jA X.K H x t)(e:oh X.K t c=U b)(h:∀tk,Q (.bool b) {s with toks:=tk}) :
  dg (mX X) A (call (.builtin "isinstance") [u,c]) Q E s:=by
 cases ty with
 |non=>cases(show u=gG from d);exact oj PySem.W.kitx_none I.iw gL e (λz=>nomatch z) h
 |bl y=>cases(show u=o6 y from d);exact oj PySem.W.kitx_bool I.iw gL e (λz=>nomatch z) h
 |int i=>obtain⟨t,q⟩:=(show ∃t,u=Value.int i t from d);cases q;exact oj PySem.W.kitx_int I.iw gL e (λz=>nomatch z) h
 |str y=>obtain⟨t,q⟩:=(show ∃t,u=Value.str y t from d);cases q;exact oj PySem.W.kitx_str I.iw gL e (λz=>nomatch z) h
 |flt y=>obtain⟨t,q⟩:=(show ∃t,u=y8 y t from d);cases q;exact oj PySem.W.kitx_float I.iw gL e (λz=>nomatch z) h
 | @lst a xs f=>
  cases(show u=Value.ref a from d);obtain⟨_,_,n,_,g⟩:=(show bV X.prog X.w H s.heap a (.lst xs)from I.bA a _ f);exact oj MJ I.iw ⟨_,g,J⟩ e (λz=>nomatch z) h
 | @j_ a ob xs f=>
  cases(show u=Value.ref a from d);obtain⟨_,_,_,n,_,g⟩:=(show bV X.prog X.w H s.heap a (.j_ ob<|.lst xs)from I.bA a _ f);exact oj MJ I.iw ⟨_,g,J⟩ e (λz=>nomatch z) h
 | @tup a xs f=>
  cases(show u=Value.ref a from d);obtain⟨_,_,p,_⟩:=I.tuple f;obtain⟨o,g,j,_⟩:=p;exact oj PySem.W.kitx_tuple I.iw ⟨o,g,j⟩ e (λz=>nomatch z) h
 | @dK a k f=>
  cases(show u=Value.ref a from d);obtain⟨_,_,D,_,p⟩:=(show bV X.prog X.w H s.heap a (.dK k)from I.bA a _ f);obtain⟨o,R,v,g,j,_⟩:=p;exact oj MK I.iw ⟨o,g,j.1⟩ e (λz=>nomatch z) h
 | @dT a k f=>
  cases(show u=Value.ref a from d);obtain⟨_,_,xs,_,o,R,v,g,j,_⟩:=(show bV X.prog X.w H s.heap a (.dT k)from I.bA a _ f);exact oj MK I.iw ⟨o,g,j.1⟩ e (λz=>nomatch z) h
 | @ins a C dx fs f cl r l B m=>
  cases(show u=Value.ref a from d);obtain⟨F,L,_⟩:=kj I.bA f;obtain⟨od,M,_⟩:=L.look;exact oj (ML (cl.get _) cl.hd r l B m) I.iw M e (λz=>nomatch z) h
end
structure bj(k:Nat)(A:eh):Prop where
 hd:A.handled=Y
 dp:A.depth+3*k+5<pv
 un:A.units+16*k+200<mI
def bj.mono(r:bj k A)(h:j<=k):bj j A:=⟨r.hd,by have:=r.dp;lia,by have:=r.un;lia⟩
theorem bj.deeper(r:bj (k+1) A)(env:Env):bj k<|A.deeper env:=
 ⟨r.hd,by have:=r.dp;show A.depth+1+3*k+5<_;lia,by have:=r.un;show A.units+3+16*k+200<_;lia⟩
def xZ:(A.under<|.builtin "type.__call__" ⟨.ref C::us,kw⟩).depth=A.depth+1:=by
 first|rfl|simp[vr,Code.weight,Code.isCreation,Code.isGuard,Code.isCaller,Code.frames,xk,guardIds]
def x8:(A.under<|.builtin "type.__call__" ⟨.ref C::us,kw⟩).units=A.units+1:=by
 first|rfl|simp[vr,Code.cUnits,Code.frames,xk]
def bj.make(r:bj (k+1) A)(C:cq)(us:B2)(kw:List<|Str×bp):bj k<|A.under<|.builtin "type.__call__" ⟨.ref C::us,kw⟩:=
 ⟨r.hd,by have:=r.dp;rw[xZ];lia,by have:=r.un;rw[x8];lia⟩
theorem bj.depth(r:bj k A):A.depth<pv:=by have:=r.dp;lia
theorem bj.units(r:bj k A):A.units+64<mI:=by have:=r.un;lia
def JV:TA:=λ_ H Q=>Q [] H
def Vf(b:TE)(tr:TA):TA:=λa H Q=>b a H λx H1=>tr a H1 λxs c=>Q (x::xs) c
def dm:PA X [] JV:=λ_ _ _ _ H Q I h=>Calls.spliced_nil ⟨[],H,I,.nil,h⟩
def bq(j:PE X e v)(i:PA X R t)(g:dn (e::R) X.env=(Zi,fC e X.env)::dn R X.env:=by rfl):PA X (e::R)<|Vf v t:=by
 intro pos aa s a H Q I h;rw[g];show dg _ _ (spliced<|(Zi,fC e X.env)::hQ pos (dn R X.env)) _ _ s;refine EB<|b7 (j aa s a H _ I h) λu c b=>?_;obtain⟨x,H1,l,f,q1⟩:=b;exact b7 (i pos aa c a H1 _ l q1) (by rintro n s2 ⟨xs,m,k,d,q2⟩;exact⟨x::xs,m,k,.cons f d,q2⟩)
def Ù(t:TA):TE:=λa H Q=>t a H λxs H1=>xs.length<=de/\∀p,H1 p=Y->Q (.ref p) (upd H1 p<|.tup xs)
def Ú(t:TA):TE:=λa H Q=>t a H λxs H1=>xs.length<=de/\∀p,H1 p=Y->Q (.ref p) (upd H1 p<|.lst xs)
def ED{g}(h:PA X R t):PE X (.Tuple R g pos)<|Ù t:=by
 intro aa s d H Q I j;refine wpAny_Tuple_spliced<|b7 (h pos aa s d H _ I j) λi a f=>?_;obtain⟨xs,H1,c,r,z,q⟩:=f;refine⟨by rw[<- r.length];exact z,?_⟩
 have k:H1 a.z=Y:=c.bA.fresh<|eA _;refine⟨.ref a.z,upd H1 a.z<|.tup xs,c.laid (t':=a.toks) (λb u e=>b0 _ e) (eA _) ?_,J,q _ k⟩;exact⟨z,i,r,⟨_,dw _ J,J,_,J⟩⟩
def oO(h:PA X R t):PE X (.List R pos)<|Ú t:=by
 intro aa s d H Q I i;refine wpAny_List_spliced<|b7 (h pos aa s d H _ I i) λg a f=>?_;obtain⟨xs,H1,c,r,z,q⟩:=f;refine⟨by rw[<- r.length];exact z,?_⟩
 have j:H1 a.z=Y:=c.bA.fresh<|eA _;refine⟨.ref a.z,upd H1 a.z<|.lst xs,c.laid (t':=a.toks) (λb u e=>b0 _ e) (eA _) ?_,J,q _ j⟩;exact⟨z,g,0,r,dw _ J⟩
abbrev Sp:=List V->Hp->VK->XK->Prop
abbrev Dk:=List Env->Hp->ax->XK->Kp
structure qE(P:dv)(w:ee)(K:bh)(mg:Str->D1)(base:ek)(A:eh)(outer:List Env)(s:ax)(H:Hp):Prop where
 frames:A.frames=U outer
 mod:Mod K mg base
 bs:∀b o,base.get? b=U o->s.heap.get? b=U o/\H b=Y
 bsz:base.objs.size<=s.z
 jM:s.heap.FunFrames base outer
 frf:∀b∈kc outer,H b=Y
 bA:jL P w H s.heap
 bare:kz s.gens
def CE(outer:List Env)(P:dv)(w:ee)(H:Hp)(s:ax)(Q:VK)(u:bp)(s':ax):Prop:=
 ∃v H',s'.os=s.os/\kz s'.gens/\Un (kc outer) [] H H' s.heap s'.heap/\jL P w H' s'.heap/\RelV v u/\Q v H'
def CR(CX:Dk)(outer:List Env)(P:dv)(w:ee)(H:Hp)(s:ax)(Q:VK)(E:XK)(r:IH)(s':ax):Prop:=
 match r with
 |.ok<|.ret u=>CE outer P w H s Q u s'
 |.ok _=>False
 |.error e=>CX outer H s E e s'
structure cj(P:dv)(w:ee)(K:bh)(mg:Str->D1)(base:ek)(CX:Dk)(k:Nat)(f:cq)(fd:ef)(ps:Bi)(sp:Sp):Prop where
 len:∀vs H Q E,sp vs H Q E->vs.length=ps.length
 run:∀(A:eh)(outer:List Env)(s:ax)(H:Hp)(args:Args)(us:B2)(vs:List V)(Q:VK)(E:XK),bj k A->qE P w K mg base A outer s H->xp s fd args (ps.zip us)->Vals vs us->sp vs H Q E ->
  hZ (cx P w) A (.call (.ref f) args) (CR CX outer P w H s Q E) s
def cj.imp{K:bh}{sp a:Sp}(F:cj P w K mg base CX k f fd ps sp)
  (h:∀vs H Q E,a vs H Q E->sp vs H Q E):cj P w K mg base CX k f fd ps a:=
 ⟨λvs H Q E q=>F.len vs H Q E<|h _ _ _ _ q,λA outer s H b c vs Q E g i j d e=>F.run A outer s H b c vs Q E g i j d<|h _ _ _ _ e⟩
def qE.make{K:bh}(e:qE P w K mg base A outer s H)(C:cq)(us:B2)(kw:List<|Str×bp) :
  qE P w K mg base (A.under<|.builtin "type.__call__" ⟨.ref C::us,kw⟩) outer s H:=⟨by first|exact e.frames|(simpa[vr,Code.envs,xk,pushEnvs]using e.frames),e.mod,e.bs,e.bsz,e.jM,e.frf,e.bA,e.bare⟩
def Inv.EE(I:Inv X aa j H s):qE X.prog X.w X.K X.mg X.base X.A X.stack s H:=
 ⟨I.ok.frames,I.ok.mod,I.bs,eY I.ok.bsz I.sz,I.stack,I.nE,I.bA,I.bare⟩
def Inv.after(I:Inv X aa j H s)(h:CE X.stack X.prog X.w H s Q u s'):EP X aa j Q u s':=by
 obtain⟨v,H',os,bare,un,bA,r,q⟩:=h;obtain⟨c,g,d,t,a⟩:=s'
 obtain rfl:a=s.os:=os
 exact⟨v,H',I.call (h':=c) (g':=g) (d':=d) (t':=t) (ch:=[]) un bA bare λb z=>dy z<|by simp,r,q⟩
def NH(sp:Sp)(c:List V)(E:XK)(t:TA):TE:=λa H Q=>t a H λb H1=>sp (b++c) H1 Q E
def vj(C:cq)(m:Str)(sp:Sp)(e:List V)(E:XK)(d:TE)(t:TA):TE:=λb H Q=>d b H λx H1=>∃a dx fs,x=.ref a/\H1 a=U (.ins C dx fs)/\fs.lookup m=Y /\
 t b H1 λc f=>sp (x::(c++e)) f Q E
def Vg(C:cq)(sp:Sp)(c:List V)(E:XK)(t:TA):TE:=λa H Q=>t a H λb H1=>∀x dx,H1 x=Y->H1 dx=Y->dx≠x ->
 sp (.ref x::(b++c)) (upd (upd H1 dx<|.own x) x<|.ins C dx []) (λv d=>v=.non/\Q (.ref x) d) E
def Binds(K:bh)(fd:ef)(ps:Bi)(ds:B2):Prop:=
 ∀(s:ax)(a:B2),K.In s.heap->(a++ds).length=ps.length->xp s fd ⟨a,[]⟩ (ps.zip<|a++ds)
def Binds.all{K:bh}{ps:Bi}(h:∀us:B2,us.length=ps.length->bindArgs fd ⟨us,[]⟩=pure (ps.zip us)):Binds K fd ps []:=λs us _ hl=>by
 rw[bG]at hl ⊢;exact .of_eq<|h us hl
def Passes(CX:Dk)(X:Cx)(E:XK):Prop:=∀(aa:dH)(b:St)(H:Hp)(s:ax)(e:bp)(a:ax),Inv X aa b H s->CX X.stack H s E e a->X.xe e a
section
variable{E:XK}{x m:Str}
def s_{b:St}(F:cj X.prog X.w X.K X.mg X.base CX k f fd ps sp)(i:bj k X.A)(j:Binds X.K fd ps ds)(hd:Vals N ds)(g:Passes CX X E)
  (I:Inv X aa b H s) (r:Vals vs us) (h:sp (vs++N) H Q E):Md X (call (.ref f) us) (EP X aa b Q) X.xe s:=by
 have c:Vals (vs++N)<|us++ds:=r.append hd;have hl:(us++ds).length=ps.length:=by rw[<- c.length];exact F.len _ _ _ _ h
 refine f7<|gs (F.run X.A X.stack s H ⟨us,[]⟩ (us++ds) (vs++N) Q E i I.EE (j s us I.iw hl) c h) λr d a=>?_;cases r with
 |error e=>exact g aa b H s e d I a
 |ok fl=>
  cases fl with
  |ret u=>exact I.after a
  |next=>exact eI a
  |brk=>exact eI a
  |cont=>exact eI a
def zU(F:cj X.prog X.w X.K X.mg X.base CX k f fd ps sp)(g:bj k X.A)(l:Gl X x)(i:X.mg x=U (.ref f))(j:j9 X.K (.ref f)=O)(m:Binds X.K fd ps ds)(hd:Vals N ds)(d:Passes CX X E)
  (n:PA X (e::R) t) (o:aX x:=by decide) (he:dn (e::R) X.env=(Zi,fC e X.env)::dn R X.env:=by rfl) (hpl:(hQ pos<|dn R X.env).any (·.1)=Zi:=by rfl) :
  PE X (.Call (.Name x p) (e::R) [] pos)<|NH sp N E t:=by
 intro aa s b H Q I h;refine ew<|fE I l i ?_ o;refine zj (h₀:=X.base) I.ok.mod.kin j (b7 (n pos aa s b H _ I h) λv y c=>?_) he hpl;obtain⟨u,H1,a,r,q⟩:=c;refine⟨a.iw,?_⟩;exact s_ F g m hd d a r q
def EG(F:cj X.prog X.w X.K X.mg X.base CX k f fd ps sp)(b:bj k X.A)(e:Gl X x)(c:X.mg x=U (.ref f))(d:j9 X.K (.ref f)=O)(g:Binds X.K fd ps ds)(hd:Vals N ds)(a:Passes CX X E)
  (i:aX x:=by decide):PE X (.Call (.Name x p) [] [] pos)<|NH sp N E JV:=by
 intro aa s j H Q I h;refine ew<|fE I e c ?_ i;exact DH I.iw d<|s_ (us:=[]) F b g hd a I .nil h
def zV(he:PE X o T)(c:q_ X.K C)(g:Meth X.K C m f)(F:cj X.prog X.w X.K X.mg X.base CX k f fd ps sp)(z:bj k X.A)(B:Binds X.K fd ps ds)(hd:Vals N ds)(v:Passes CX X E)(D:PA X (e::R) t)
  (L:dn (e::R) X.env=(Zi,fC e X.env)::dn R X.env:=by rfl) (hpl:(hQ pos<|dn R X.env).any (·.1)=Zi:=by rfl)
  (y:fC (.Call (.Attribute o m S) (e::R) [] pos) X.env=(do
   let ov <- fC o X.env
   rb S.atName
   let(f,first) <- ri [ov] (u0 ov m pl)
   callWith pos f first (hQ pos<|dn (e::R) X.env) (qr pos<|mB [] X.env)):=by rfl) :
  PE X (.Call (.Attribute o m S) (e::R) [] pos)<|vj C m sp N E T t:=by
 intro aa s d H Q I h;refine MM (pl:=pl) (b7 (he aa s d H _ I h) λu n b=>?_) y;obtain⟨x,H1,j,p,a,dx,fs,ex,G,l,q⟩:=b;subst ex
 obtain rfl:u=Value.ref a:=p
 refine oN j G c g l ?_;refine zj (first:=[.ref a]) (h₀:=X.base) I.ok.mod.kin g.kp (b7 (D pos aa n d H1 _ j q) λus s2 b=>?_) L hpl
 obtain⟨vs,M,i,r,q2⟩:=b;refine⟨i.iw,?_⟩;exact s_ (us:=.ref a::us) (vs:=.ref a::vs) F z B hd v i (.cons J r) q2
def vm(he:PE X o T)(c:q_ X.K C)(d:Meth X.K C m f)(F:cj X.prog X.w X.K X.mg X.base CX k f fd ps sp)(p:bj k X.A)(r:Binds X.K fd ps ds)(hd:Vals N ds)(j:Passes CX X E)
  (n:fC (.Call (.Attribute o m S) [] [] pos) X.env=(do
   let ov <- fC o X.env
   rb S.atName
   let(f,first) <- ri [ov] (u0 ov m pl)
   callWith pos f first (hQ pos<|dn [] X.env) (qr pos<|mB [] X.env)):=by rfl) :
  PE X (.Call (.Attribute o m S) [] [] pos)<|vj C m sp N E T JV:=by
 intro aa s e H Q I h;refine MM (pl:=pl) (b7 (he aa s e H _ I h) λu v g=>?_) n;obtain⟨x,H1,b,i,a,dx,fs,ex,t,l,q⟩:=g;subst ex
 obtain rfl:u=Value.ref a:=i
 refine oN b t c d l ?_;exact DH (first:=[.ref a]) b.iw d.kp<|s_ (us:=[.ref a]) (vs:=[.ref a]) F p r hd j b (.cons J .nil) q
structure Mk(K:bh)(C f:cq):Prop where
 makes:DA K C=O
 init:fG K (.ref C) "__init__" = U (U<|.ref f)
 fn:BN K (.ref f)=O
 kp:j9 K (.ref C)=O
def EH{Q:VK}(M:Mk X.K C f)(F:cj X.prog X.w X.K X.mg X.base CX k f fd ps sp)(n:bj (k+1) X.A)(o:Binds X.K fd ps ds)(hd:Vals N ds)
  (m:Passes CX X E) (I:Inv X aa c H s) (r:Vals vs us)
  (h:∀x dx,H x=Y->H dx=Y->dx≠x->sp (.ref x::(vs++N)) (upd (upd H dx<|.own x) x<|.ins C dx []) (λv q=>v=.non/\Q (.ref x) q) E) :
  Md X (call (.ref C) us) (EP X aa c Q) X.xe s:=by
 have g:=h (s.z+1) s.z (I.bA.fresh<|zJ _) (I.bA.fresh<|eA _)<|dP<|ou _;have b:=Inv.made (C:=C) I;have d:Vals (V.ref (s.z+1)::(vs++N))<|Value.ref (s.z+1)::(us++ds):=.cons J<|r.append hd;have hl:(Value.ref (s.z+1)::us++ds).length=ps.length:=by
  have e:=d.length;rw[F.len _ _ _ _ g]at e;exact e.symm
 refine f7<|EC (f:=f) I.iw M.makes M.init (beq_iff_eq.mp M.fn)<|gs (F.run _ X.stack _ _ ⟨Value.ref (s.z+1)::us,[]⟩ (Value.ref (s.z+1)::(us++ds)) _ _ E (n.make C us [])
  (b.EE.make C us []) (o _ (Value.ref (s.z+1)::us) b.iw hl) d g) λr i a=>?_
 cases r with
 |error e=>exact m aa c _ _ e i b a
 |ok fl=>
  cases fl with
  |ret u=>
   obtain⟨v,H',p,j,ev,l⟩:=b.after a;subst ev;exact⟨j,⟨V.ref<|s.z+1,H',p,J,l⟩⟩
  |next=>exact eI a
  |brk=>exact eI a
  |cont=>exact eI a
def nI(M:Mk X.K C f)(F:cj X.prog X.w X.K X.mg X.base CX k f fd ps sp)(g:bj (k+1) X.A)(j:Gl X x)(i:X.mg x=U (.ref C))(l:Binds X.K fd ps ds)(hd:Vals N ds)(d:Passes CX X E)
  (m:PA X (e::R) t) (n:aX x:=by decide) (he:dn (e::R) X.env=(Zi,fC e X.env)::dn R X.env:=by rfl) (hpl:(hQ pos<|dn R X.env).any (·.1)=Zi:=by rfl) :
  PE X (.Call (.Name x p) (e::R) [] pos)<|Vg C sp N E t:=by
 intro aa s b H Q I h;refine ew<|fE I j i ?_ n;refine zj (h₀:=X.base) I.ok.mod.kin M.kp (b7 (m pos aa s b H _ I h) λu v c=>?_) he hpl;obtain⟨o,H1,a,r,q⟩:=c;refine⟨a.iw,?_⟩;exact EH M F g l hd d a r q
end
structure fW(N P:Bi)(sc:gV):Prop where
 kind:sc.kind=.function
 co:sc.isCoroutine=Zi
 gen:sc.isGenerator=Zi
 nd:N.Nodup
 pre:N.take P.length=P
 par:∀x∈P,sc.names.lookup x=U .local\/sc.names.lookup x=U .cell
 nofree:∀y∈sc.names,y.2≠.free
theorem rh{kindOf:Str->Option oa}{x:Str}:∀{a:List<|Str×bp}{m:Str->D1},(∀v,(x,v)∉a)->FX kindOf a m x=m x
 |[],_,_=>J
 |(n,v)::r,m,h=>by
  unfold FX;rw[rh λw b=>h w<|bw _ b];split
  .have:x≠n:=by rintro rfl;exact h v eX
   simp[this]
  .rfl
theorem rj{kindOf:Str->Option oa}{x:Str}:∀{a:List<|Str×bp}{m:Str->D1},(∀v,(x,v)∉a)->F1 kindOf a m x=m x
 |[],_,_=>J
 |(n,v)::r,m,h=>by
  unfold F1;rw[rj λw b=>h w<|bw _ b];split
  .rfl
  .have:x≠n:=by rintro rfl;exact h v eX
   simp[this]
theorem rk{kindOf:Str->Option oa}{x:Str}:∀{P:Bi}{vs:B2}{i:Nat}{m:Str->D1},P.Nodup->P[i]?=U x->vs[i]?=U v->kindOf x=U .local ->
  FX kindOf (P.zip vs) m x=U v
 |[],_,_,_,_,h,_,_=>by simp at h
 |_::_,[],_,_,_,_,h,_=>by simp at h
 |p::P,w::vs,0,m,nd,b,a,c=>by
  simp at b a;subst b;subst a;show FX kindOf ((p,w)::P.zip vs) m p=_;unfold FX;rw[rh λv d=>(mT.mp nd).1 (zu d).1,cv c];simp
 |p::P,w::vs,i+1,m,nd,b,a,c=>by
  show FX kindOf ((p,w)::P.zip vs) m x=_;unfold FX;exact rk (i:=i) (mT.mp nd).2 (by simpa using b) (by simpa using a) c
theorem rl{kindOf:Str->Option oa}{x:Str}:∀{P:Bi}{vs:B2}{i:Nat}{m:Str->D1},P.Nodup->P[i]?=U x->vs[i]?=U v->kindOf x≠U .local ->
  F1 kindOf (P.zip vs) m x=U v
 |[],_,_,_,_,h,_,_=>by simp at h
 |_::_,[],_,_,_,_,h,_=>by simp at h
 |p::P,w::vs,0,m,nd,b,a,c=>by
  simp at b a;subst b;subst a;show F1 kindOf ((p,w)::P.zip vs) m p=_;unfold F1;rw[rj λv d=>(mT.mp nd).1 (zu d).1,cb c];simp
 |p::P,w::vs,i+1,m,nd,b,a,c=>by
  show F1 kindOf ((p,w)::P.zip vs) m x=_;unfold F1;exact rl (i:=i) (mT.mp nd).2 (by simpa using b) (by simpa using a) c
def start(N:Bi)(vs:List V):St:=vs.map U++eQ (N.length-vs.length) Y
def iK(CX:Dk)(P:dv)(w:ee)(K:bh)(mg:Str->D1)(base:ek)(N:Bi)(qual:Str)(scope:gV)(f:cq)(a:bp)(A:eh)(outer:List Env)(s:ax)(H:Hp)(E:XK):Cx where
 prog:=P
 w:=w
 K:=K
 mg:=mg
 base:=base
 A:=A.deeper (u6 qual scope s.z f a)
 N:=N
 s₀:=s
 H₀:=H
 env:=u6 qual scope s.z f a
 outer:=outer
 stack:=u6 qual scope s.z f a::outer
 ex:=[]
 calm:=O
 fn:=λ_=>O
 pn:=[]
 xe:=λe c=>dg (cx P w) (A.deeper<|u6 qual scope s.z f a) (wq (u6 qual scope s.z f a) e) (λ_ b=>CX outer H s E e b) (λd b=>CX outer H s E d b) c
def vo{sc:gV}{x:Str}(h:sc.names.lookup x=U .cell):∃c,(FV n sc.names []).lookup x=U c:=by
 have q:=MN sc.names n []<|.inl h;exact Du.mp q
def rm{K:bh}{E:XK}
  (S:fW N ps scope) (hd:A.handled=Y) (g:qE P w K mg base A outer s H) (hl:vs.length=ps.length) (r:Vals vs us)
  (x:InCallC s s.z (FX (u6 qual scope s.z f B).kindOf (ps.zip us) λ_=>Y) (FV (s.z+1) scope.names []) (F1 (u6 qual scope s.z f B).kindOf (ps.zip us) λ_=>Y) s1) :
  Inv (iK CX P w K mg base N qual scope f B A outer s H E) [] (start N vs) H s1:=by
 have G:ps.length<=N.length:=by have:=ey xH S.pre;rw[uU]at this;lia
 obtain⟨t,tk,rfl,D⟩:=x.done;have Vh:∀b:cq,b∉(iK CX P w K mg base N qual scope f B A outer s H E).ex:=λb z=>dy (show b∈([]:BM)from z) (by simp)
 refine⟨⟨g.mod,S.kind,J,J,eA _,λy z c t d=>?_,λy j=>?_,λy c _ h=>?_,λ_=>hd,xI g.frames,.inr ⟨J,J⟩,λb z=>dy z<|Vh b,g.bs,g.bsz,λb _ _=>Vh b,λb z=>dy z<|Vh b,g.jM,g.frf⟩,
  J,g.bare,Un.kept D,⟨_,x.toInCall.ns,λi y v t d L=>?_⟩,λy c h=>⟨_,x.cell y c h⟩,g.bA.fresh<|eA _,λy c h=>?_,λp m=>dy (show p∈([]:dH)from m)<|by simp,g.bA.kept D,?_⟩
 .exact name_of_addr x.apart (hV t)<|hV d
 .have j:scope.names.lookup y=U .cell\/scope.names.lookup y=U .free:=j
  rcases j with j|j
  .exact vo j
  .exact dy J<|S.nofree _<|hV j
 .exact D8<|x.above y c<|hV h
 .have o:i<vs.length:=by
   unfold start at d;by_cases o:i<vs.length
   .exact o
   .rw[gz<|by simpa using o]at d
    rw[DN]at d;split at d<;>cases d
  have I:vs[i]?=U v:=by
   unfold start at d;rw[jJ<|by simpa using o,f6]at d
   cases e:vs[i]? with
   |none=>rw[e]at d;cases d
   |some a=>rw[e]at d;cases d;rfl
  obtain⟨u,C,F⟩:=r.get I;have m:ps[i]?=U y:=by
   rw[<- S.pre,List.getElem?_take_of_lt<|by lia];exact t
  have l:ps.Nodup:=by rw[<- S.pre];exact S.nd.sublist<|List.take_sublist _ _
  refine⟨u,F,?_⟩;rcases S.par y (gZ m)with k|k
  .exact .inl ⟨k,rk l m C k⟩
  .obtain⟨c,e⟩:=vo (n:=s.z+1) k
   refine .inr ⟨.inl k,c,e,?_⟩;have q:=x.cell y c e;rw[rl l m C<|by show scope.names.lookup y≠_;rw[k];decide]at q
   exact q
 .exact g.bA.fresh<|D8<|x.above y c<|hV h
 .unfold start
  show _=N.length;rw[cA,cU,BS]
  lia
def NI{K:bh}{a:Arguments}{D kV j C g ct R:bp}
    {sp:Sp} (X:K.lookup f=U ⟨R,od,.func<|BP name qual a c scope D kV j C an g ct,T⟩) (fj:DI K g qual=O) (S:fW N ps scope)
  (len:∀vs H Q E,sp vs H Q E->vs.length=ps.length)
  (EI:∀(A:eh)(outer:List Env)(s:ax)(H:Hp)(vs:List V)(Q:VK)(E:XK),bj k (A.deeper<|u6 qual scope s.z f g)->sp vs H Q E ->
   ∃t,gY (iK CX P w K mg base N qual scope f g A outer s H E) c t/\t {nx:=λ_ H'=>Q .non H',rt:=Q} (start N vs) H) :
  cj P w K mg base CX (k+1) f (BP name qual a c scope D kV j C an g ct) ps sp:=by
 refine⟨len,λA outer s H F M vs Q E z i hb r G=>?_⟩;have hl:=len _ _ _ _ G;have L:K.In s.heap:=i.mod.kin.keeps λb o e=>(i.bs b o e).1;have p:s.heap.NoLimit:=i.mod.nolimit.keeps λb o e=>(i.bs b o e).1;have EJ:∀y∈ps.zip M,scope.names.lookup y.1=U .local\/(scope.names.lookup y.1=U .cell/\((FV (s.z+1) scope.names []).lookup y.1).isSome=O):=λ⟨n,v⟩ Z=>by
  rcases S.par n (zu Z).1 with q|q
  .exact .inl q
  .exact .inr ⟨q,MN _ _ _<|.inl q⟩
 refine Jw z.depth (L _ _ X) J S.co S.gen J (PySem.W.codeRec_of L fj)<|hb _ _ _ _ ?_;refine yA S.kind EJ λenv he B x=>?_;subst he;refine⟨p.keeps x.toInCall.keep,codeAny_func ?_⟩;obtain⟨t,ht,hq⟩:=EI A outer s H vs Q E (z.deeper _) G;have I:Inv (iK CX P w K mg base N qual scope f g A outer s H E) [] (start N vs) H B:=rm S z.hd i hl r x;refine eD (ht [] B (start N vs) H _ I hq) (λfl l h=>?_) λe l h=>h;have fin:∀{d:St}{H':Hp}{v:V}{u:bp},Inv (iK CX P w K mg base N qual scope f g A outer s H E) [] d H' l->RelV v u->Q v H'->CE outer P w H s Q u l:=
  λ{d H' v u} Kt m q=>⟨v,H',Kt.os,Kt.bare,Kt.base,Kt.bA,m,q⟩
 cases fl with
 |ret u=>
  obtain⟨v,d,H',Kt,m,q⟩:=h;exact fin Kt m q
 |next=>
  obtain⟨d,H',Kt,q⟩:=h;exact fin (v:=V.non) (u:=gG) Kt J q
 |brk=>
  obtain⟨_,_,_,q⟩:=h;exact eI q
 |cont=>
  obtain⟨_,_,_,q⟩:=h;exact eI q
section
variable{x:Str}{id T:String}
def Û(r:List V->Hp->VK->Prop)(t:TA):TE:=λa H Q=>t a H λb H1=>r b H1 Q
def f9(l:fS X (.builtin id) r)(k:Gl X x)(j:X.mg x=Y)(g:hX x=U (.builtin id))(m:PA X (e::R) t)(i:x ≠ "__name__" := by decide)(n:aX x:=by decide)
  (he:dn (e::R) X.env=(Zi,fC e X.env)::dn R X.env:=by rfl) (hpl:(hQ pos<|dn R X.env).any (·.1)=Zi:=by rfl):PE X (.Call (.Name x p) (e::R) [] pos)<|Û r t:=by
 intro aa s a H Q I h;refine ew<|iW I k j g ?_ i n;exact Nr (b7 (m pos aa s a H _ I h)<|by rintro c d ⟨b,H1,o,f,q1⟩;exact l aa d a H1 b c Q o f q1) he hpl
def rn(l:fS X (.type T) r)(k:Gl X x)(j:X.mg x=Y)(g:hX x=U (.type T))(m:PA X (e::R) t)(i:x ≠ "__name__" := by decide)(n:aX x:=by decide)
  (he:dn (e::R) X.env=(Zi,fC e X.env)::dn R X.env:=by rfl) (hpl:(hQ pos<|dn R X.env).any (·.1)=Zi:=by rfl):PE X (.Call (.Name x p) (e::R) [] pos)<|Û r t:=by
 intro aa s a H Q I h;refine ew<|iW I k j g ?_ i n;exact zP (b7 (m pos aa s a H _ I h)<|by rintro c d ⟨b,H1,o,f,q1⟩;exact l aa d a H1 b c Q o f q1) he hpl
end
end L2
namespace HT
open PySem PyProof.Rows
section
open PySem.SeqAt
open PySem.AutoSeq1 (wpAny_loadPart')
open PySem.MeetsSeq PySem.MeetsSeq2 PySem.MeetsSeq3
end
def gu(n d:Nat):D2->Nat
 |none=>d
 |some v=>if v<0 then(v+(n:Int)).toNat else min v.toNat n
end HT
namespace L2
open PySem PySem.Spec PyProof.Rows
abbrev TO:=St->Hp->(D2->Hp->Prop)->Prop
def PO(X:Cx)(e:Option cC)(t:TO):Prop:=
 ∀(b:dH)(s:ax)(a:St)(H:Hp)(Q:D2->Hp->Prop),Inv X b a H s->t a H Q ->
  Md X (evalPart e X.env) (λu d=>∃o c,Inv X b a c d/\IsPart u o/\Q o c) X.xe s
def JX:TO:=λ_ H Q=>Q Y H
def Vi(t:TE):TO:=λa H Q=>t a H λx H1=>∃i,x=.int i/\Q (U i) H1
variable{X:Cx}
section
variable{tl K:TO}
def zW:PO X Y JX:=by
 intro b s a H Q I h;rw[evalPart_none];exact dk ⟨Y,H,I,.none,h⟩
def zX(h:PE X e G):PO X (U e)<|Vi G:=by
 intro f s a H Q I d;rw[evalPart_some];refine b7 (h f s a H _ I d) λu j b=>?_;obtain⟨x,H1,g,c,q1⟩:=b;obtain⟨i,rfl,q⟩:=q1;obtain⟨t,rfl⟩:=c;exact⟨U i,H1,g,.int i t,q⟩
def NJ(X:Cx)(r:V->D2->D2->Hp->VK->Prop):Prop:=
 ∀(c:dH)(s:ax)(a:St)(H:Hp)(x:V)(v vl b:bp)(F R:D2)(sl:cq)(Q:VK),Inv X c a H s->RelV x v->s.heap.IsSliceOf sl vl b .none->IsPart vl F->IsPart b R->r x F R H Q ->
  ∃T id,sx (.type T) "__getitem__" = pure (U<|.builtin id)/\s.TypeIs v T/\Md X (getItem v<|.ref sl) (EP X c a Q) X.xe s
def NJ.or(h:NJ X r)(h':NJ X d):NJ X λx F R H Q=>r x F R H Q\/d x F R H Q:=by
 intro g s a H x v vl b F R sl Q I c f pl e q;rcases q with q|q
 .exact h g s a H x v vl b F R sl Q I c f pl e q
 .exact h' g s a H x v vl b F R sl Q I c f pl e q
def tSl(r:V->D2->D2->Hp->VK->Prop)(G:TE)(tl K:TO):TE:=λa H Q=>G a H λx H1=>tl a H1 λl c=>K a c λu b=>r x l u b Q
def vq(p:NJ X r)(he:PE X e G)(hl:PO X F tl)(n:PO X R K):PE X (.Subscript e (.Slice F R Y L) pos)<|tSl r G tl K:=by
 intro c s a H Q I h;refine Subscript_<|b7 (he c s a H _ I h) λv i d=>?_;obtain⟨x,H1,D,j,q1⟩:=d;refine wpAny_Slice<|b7 (hl c i a H1 _ D q1) λvl s2 d=>?_;obtain⟨l,E,C,pl,q2⟩:=d;refine b7 (n c s2 a E _ C q2) λf s3 d=>?_;obtain⟨u,g,B,m,k⟩:=d;rw[evalPart_none];apply dk;have z:Inv X c a g {s3 with heap:=s3.heap.push {cls:=.type "slice",data:=.fields #[vl,f,.none]}}:=B.kept (t':=s3.toks) λb ob q=>b0 _ q
 obtain⟨T,id,y,o,t⟩:=p c {s3 with heap:=s3.heap.push {cls:=.type "slice",data:=.fields #[vl,f,.none]}} a g x v vl f l u s3.z Q z j (Heap.IsSliceOf.new ..) pl m k
 show Md X (subscriptTail e (.Slice F R Y L) v<|.ref s3.z) (EP X c a Q) X.xe {s3 with heap:=s3.heap.push {cls:=.type "slice",data:=.fields #[vl,f,.none]}}
 exact tail_any (ops:=[.ref s3.z,v]) o y t (by with_unfolding_all rfl)
def tm(xs:List V)(F R:D2):List V:=(xs.drop<|HT.gu xs.length 0 F).take<|HT.gu xs.length xs.length R-HT.gu xs.length 0 F
def vt(xs:List V)(F R:D2):(tm xs F R).length<=xs.length:=by
 unfold tm;rw[uU,BU]
 lia
end
def Ju(n:Nat)(i:Int):Option Nat:=if 0<=i then(if i<n then U i.toNat else Y)else if -(n:Int)<=i then U (i+n).toNat else Y
def EK{α:Type}(xs:List α)(i:Int):Option α:=(Ju xs.length i).bind λj=>xs[j]?
def zY(h:Ju n i=U j):seqIndex? i n=U j/\j<n/\-(n:Int)<=i/\i<n:=by
 unfold Ju at h;by_cases h0:0<=i
 .rw[cv h0]at h
  by_cases h1:i<n
  .rw[cv h1]at h
   have e:i.toNat=j:=j8.inj h;exact⟨by rw[seqIndex_of h0 h1,e],by lia,by lia,h1⟩
  .rw[cb h1]at h;cases h
 .rw[cb h0]at h
  by_cases h1:-(n:Int)<=i
  .rw[cv h1]at h
   have e:(i+n).toNat=j:=j8.inj h;exact⟨by rw[HI (by lia) h1,e],by lia,h1,by lia⟩
  .rw[cb h1]at h;cases h
def tu{v:α}(h:EK xs i=U v):∃j,seqIndex? i xs.length=U j/\xs[j]?=U v/\j<xs.length/\-(xs.length:Int)<=i/\i<xs.length:=by
 unfold EK at h;cases e:Ju xs.length i with
 |none=>rw[e]at h;cases h
 |some j=>
  rw[e]at h;obtain⟨d,c,b,a⟩:=zY e;exact⟨j,d,h,c,b,a⟩
def jt(b:cC):Prop:=∀o i,subscripted b Zi o i=operate [o,i] (getItem o i)
def JY(X:Cx)(r:R2):Prop:=
 ∀(b a:cC)(d:dH)(s:ax)(c:St)(H:Hp)(x y:V)(v u:bp)(Q:VK),Inv X d c H s->RelV x v->RelV y u->r x y H Q ->
  subscripted a Zi v u=operate [v,u] (getItem v u)->Md X (subscriptTail b a v u) (EP X d c Q) X.xe s
def x9(X:Cx)(id:String)(r:V->List V->Hp->VK->Prop):Prop:=
 ∀(c:dH)(s:ax)(a:St)(H:Hp)(x:V)(xs:List V)(v:bp)(b:B2)(Q:VK),Inv X c a H s->RelV x v->Vals xs b->r x xs H Q ->
  Md X (call (.builtin id)<|v::b) (EP X c a Q) X.xe s
section
variable{a b:cC}{z B:TE}
def JY.or(h:JY X r)(h':JY X f):JY X λx y H Q=>r x y H Q\/f x y H Q:=by
 intro a b i s c H x y v u Q I e d q g;rcases q with q|q
 .exact h a b i s c H x y v u Q I e d q g
 .exact h' a b i s c H x y v u Q I e d q g
def EL(g:JY X r)(j:PE X a z)(i:PE X b B)(f:jt b):PE X (.Subscript a b pos)<|Eu r z B:=by
 intro k s c H Q I h;exact Subscript_<|PX j i I h λv u s2 x y m l e d q=>g a b k s2 c m x y v u Q l e d q<|f _ _
def Vj(K:bh):R2:=λx y H Q=>∃p xs i v,x=.ref p/\y=.int i/\dW K H p xs/\EK xs i=U v/\Q v H
def Vk(K:bh):R2:=λx y H Q=>∃p xs i v,x=.ref p/\y=.int i/\mh K H p xs/\EK xs i=U v/\Q v H
def Vl:R2:=λx y H Q=>∃z i c,x=.str z/\y=.int i/\z.length<=de/\EK z.cps.toList i=U c/\Q (.str ⟨#[c]⟩) H
def tw:JY X<|Vj X.K:=by
 intro b c k s e H x y v u Q I n m h f;obtain⟨p,xs,i,z,rfl,rfl,o,A,q⟩:=h;cases n;obtain⟨t,rfl⟩:=m;obtain⟨au,r,pl,F⟩:=I.list o;obtain⟨j,a,D,L,C,B⟩:=tu A;obtain⟨w,g,E⟩:=r.get D;have hl:=r.length;have G:=lA;have fin:EP X k e Q w s:=⟨z,H,I,E,q⟩;by_cases h0:0<=i
 .have d:i.toNat=j:=by
   rw[seqIndex_of h0 B]at a;exact j8.inj a
  exact item_listR pl.isList h0 (by lia) (by rw[d];simpa using g) fin f
 .have d:(i+(au.toArray.size:Int)).toNat=j:=by
   rw[HI (by lia) C]at a
   rw[cM,<- hl];exact j8.inj a
  exact He (x:=w) pl.isList.typeIs slot_list_getitem.lookup
   (wpAny_getItem_list_neg (Q:=λr l=>r=w/\EP X k e Q r l) pl.isList (by lia) (by rw[cM]<;>lia) (by lia) (by rw[d];simpa using g) ⟨J,fin⟩) f
def Qa:JY X<|Vk X.K:=by
 intro a b d s c H x y v u Q I g f h k;obtain⟨p,xs,i,z,rfl,rfl,l,m,q⟩:=h;cases g;obtain⟨t,rfl⟩:=f;obtain⟨au,r,pl,C⟩:=I.tuple l;obtain⟨j,o,n,G,F,E⟩:=tu m;obtain⟨w,A,B⟩:=r.get n;have hl:=r.length;have D:=lA;have fin:EP X d c Q w s:=⟨z,H,I,B,q⟩;exact He (x:=w) pl.typeIs slot_tuple_getitem.lookup
  (getItem_tuple (j:=j) (Q:=λr e=>r=w/\EP X d c Q r e) pl (by lia) (by lia) (by rw[cM,<- hl];exact o) (by simpa using A) ⟨J,fin⟩) k
def Qc:JY X Vl:=by
 intro a b D s r H x y v u Q I f e h g;obtain⟨z,i,c,rfl,rfl,A,k,q⟩:=h;obtain⟨t,rfl⟩:=f;obtain⟨w,rfl⟩:=e;obtain⟨j,d,n,C,m,l⟩:=tu k;have hl:z.cps.toList.length=z.length:=by simp[Str.length]
 rw[hl]at d m l;have B:=lA;exact tail_any (ox s z t) slot_str_getitem.lookup (getItem_str (c:=c) (by
  have p:decide (i < -(2^63:Int))=Zi:=ar (by lia)
  have o:decide (i ≥ 2^63)=Zi:=ar (by lia)
  rw[p,o,MQ]) (by rw[d];simpa using n) ⟨.str ⟨#[c]⟩,H,I.tok _,⟨_,J⟩,q⟩) g
def rIx(K:bh):R2:=λx y H Q=>Vj K x y H Q\/Vk K x y H Q\/Vl x y H Q
def Qd:JY X<|rIx X.K:=tw.or<|Qa.or Qc
def x_(au:B2)(n j:Nat)(u:bp):qx (·.setIfInBounds j u) {cls:=.type "list",data:=.seq au.toArray n}={cls:=.type "list",data:=.seq (au.set j u).toArray n}:=by
 simp[qx]
theorem Inv.lst{b:dH}{a:St}{H:Hp}{s:ax}{p:cq}{xs:List V}(I:Inv X b a H s)(h:H p=U (.lst xs)) :
  ∃(au:B2)(n:Nat),Vals xs au/\s.heap.get? p=U {cls:=.type "list",data:=.seq au.toArray n}/\xs.length<=de:=by
 obtain⟨z,au,n,r,e⟩:=I.bA p _ h;exact⟨au,n,r,e,z⟩
def Inv.Qe{au its':B2}{n a:Nat}(I:Inv X g c H s)(h:H p=U (.lst xs))
  (j:s.heap.get? p=U {cls:=.type "list",data:=.seq au.toArray n}) (d:f {cls:=.type "list",data:=.seq au.toArray n}={cls:=.type "list",data:=.seq its'.toArray a}) (r:Vals ys its') (i:ys.length<=de) (t:Nat) :
  Inv X g c (upd H p<|.lst ys) {s with heap:=s.heap.update p f,toks:=t}:=by
 have e:(s.heap.update p f).get? p=U {cls:=.type "list",data:=.seq its'.toArray a}:=by
  rw[ip f j<|by rw[d]<;>rfl,d]
 refine I.write (x:=p) (e:=p) (by rw[h];trivial) (.inl J) (λb u k q=>(fA _ _<|et k).trans q) ⟨_,e⟩ ?_
 exact⟨i,its',a,r,e⟩
def NK:V->V->V->Hp->(Hp->Prop)->Prop:=λo i v H Q=>∃p xs k j,o=.ref p/\i=.int k/\H p=U (.lst xs)/\Ju xs.length k=U j/\Q (upd H p<|.lst<|xs.set j v)
def set_list:UY X NK:=by
 intro A s l H o i v ov B u Q I w x m h;obtain⟨p,xs,k,j,rfl,rfl,d,z,q⟩:=h;cases w;obtain⟨t,rfl⟩:=x;obtain⟨au,n,r,b,y⟩:=I.lst d;obtain⟨a,D,f,e⟩:=zY z;have hl:=r.length;have C:=lA;have g:Inv X A l (upd H p<|.lst<|xs.set j v) {s with heap:=s.heap.update p (qx (·.setIfInBounds j u))}:=
  I.Qe d b (x_ au n j u) (r.set m j) (by rw[iJ];exact y) s.toks
 by_cases h0:0<=k
 .have c:k.toNat=j:=by
   rw[seqIndex_of h0 e]at a;exact j8.inj a
  exact PySem.W.ki_setAt b h0 (by lia) (by rw[cM,<- hl];exact e) (by rw[c];exact⟨_,g,q⟩)
 .have c:(k+(au.toArray.size:Int)).toNat=j:=by
   rw[HI (by lia) f]at a
   rw[cM,<- hl];exact j8.inj a
  exact PySem.W.ki_setBack b (by lia) (by rw[cM,<- hl];exact f) (by lia) (by rw[c];exact⟨_,g,q⟩)
def tD(lo a:D2)(n:Nat):(mx lo a Y n).1=((HT.gu n 0 lo:Nat):Int)/\(mx lo a Y n).2.1=((HT.gu n n a:Nat):Int)/\(mx lo a Y n).2.2=1:=by
 refine⟨?_,?_,J⟩
 .cases lo with
  |none=>simp[mx,HT.gu]
  |some i=>
   simp only[mx,HT.gu,MD,show(1:Int) > 0 by decide,E6]
   by_cases h:i<0
   .simp only[h,E6]<;>lia
   .simp only[h,if_false]<;>lia
 .cases a with
  |none=>simp[mx,HT.gu]
  |some i=>
   simp only[mx,HT.gu,MD,show(1:Int) > 0 by decide,E6]
   by_cases h:i<0
   .simp only[h,E6]<;>lia
   .simp only[h,if_false]<;>lia
def qF(au:B2)(lo a:D2):slicePick au.toArray lo a Y=((au.drop<|HT.gu au.length 0 lo).take<|HT.gu au.length au.length a-HT.gu au.length 0 lo).toArray:=by
 obtain⟨d,c,b⟩:=tD lo a au.toArray.size;unfold slicePick;rw[d,c,b];simp only[sliceRange_one,pick_run,cM]<;>rfl
def Vm(K:bh):V->D2->D2->Hp->VK->Prop:=λx lo b H Q=>∃a xs,x=.ref a/\dW K H a xs/\∀p,H p=Y->Q (.ref p) (upd H p<|.lst<|tm xs lo b)
def zZ:NJ X<|Vm X.K:=by
 intro n s l H x v vl m lo c sl Q I e j pl f h;obtain⟨a,xs,rfl,i,q⟩:=h;cases e;obtain⟨au,r,d,g⟩:=I.list i;have k:=r.length;refine⟨"list",_,slot_list_getitem.lookup,d.isList.typeIs,?_⟩;refine wpAny_getItem_list_slice d.isList j pl f .none (by simp) ?_ (by rw[cM]<;>lia)
 rw[qF,<- k];refine⟨.ref s.z,_,I.laid (t':=s.toks) (o:=.lst<|tm xs lo c) (λb ob q=>b0 _ q) (eA _) ?_,J,q _<|I.bA.fresh<|eA _⟩;exact⟨eY (vt xs lo c) g,_,0,(r.drop<|HT.gu xs.length 0 lo).take<|HT.gu xs.length xs.length c-HT.gu xs.length 0 lo,dw _ J⟩
def eZ:V->Bool
 |.non=>O
 |.bl _=>O
 |.int _=>O
 |.str _=>O
 |_=>Zi
def EM:V->V->Bool
 |.non,.non=>O
 |.bl a,.bl b=>a == b
 |.bl a,.int b=>(if a then 1 else 0) == b
 |.int a,.bl b=>a == (if b then 1 else 0)
 |.int a,.int b=>a == b
 |.str a,.str b=>a == b
 |_,_=>Zi
def ya{A:eh}(e:RelV y u)(c:RelV x v)(f:eZ y=O)(fx:eZ x=O):mM A s u v<|EM y x:=by
 cases y with
 |non=>
  cases e;cases x with
  |non=>cases c;exact SeqAt.EqAt.same _
  |bl b=>cases c;exact SeqAt.EqAt.none_bool b
  |int b=>obtain⟨t,rfl⟩:=c;exact SeqAt.EqAt.none_int b t
  |str b=>obtain⟨t,rfl⟩:=c;exact SeqAt.EqAt.none_str b t
  |_=>exact dy (show Zi=O from fx) gx
 |bl a=>
  cases e;cases x with
  |non=>cases c;exact SeqAt.EqAt.bool_none a
  |bl b=>cases c;exact SeqAt.EqAt.bool_bool a b
  |int b=>obtain⟨t,rfl⟩:=c;exact SeqAt.EqAt.bool_int a b t
  |str b=>obtain⟨t,rfl⟩:=c;exact SeqAt.EqAt.bool_str a b t
  |_=>exact dy (show Zi=O from fx) gx
 |int a=>
  obtain⟨d,rfl⟩:=e;cases x with
  |non=>cases c;exact SeqAt.EqAt.int_none a d
  |bl b=>cases c;exact SeqAt.EqAt.int_bool a d b
  |int b=>obtain⟨t,rfl⟩:=c;exact SeqAt.EqAt.int_int a d b t
  |str b=>obtain⟨t,rfl⟩:=c;exact vk a d b t
  |_=>exact dy (show Zi=O from fx) gx
 |str a=>
  obtain⟨d,rfl⟩:=e;cases x with
  |non=>cases c;exact SeqAt.EqAt.str_none a d
  |bl b=>cases c;exact SeqAt.EqAt.str_bool a d b
  |int b=>obtain⟨t,rfl⟩:=c;exact vi a d b t
  |str b=>obtain⟨t,rfl⟩:=c;exact SeqAt.EqAt.str_str a d b t
  |_=>exact dy (show Zi=O from fx) gx
 |_=>exact dy (show Zi=O from f) gx
def yb(x:V)(u:bp):Bool:=match u with
 |.none=>EM .non x
 |.bool b=>EM (.bl b) x
 |.int i _=>EM (.int i) x
 |.str z _=>EM (.str z) x
 |_=>Zi
def EN(r:RelV y u)(f:eZ y=O):yb x u=EM y x:=by
 cases y with
 |non=>cases r;rfl
 |bl b=>cases r;rfl
 |int i=>obtain⟨t,rfl⟩:=r;rfl
 |str z=>obtain⟨t,rfl⟩:=r;rfl
 |_=>exact dy (show Zi=O from f) gx
theorem km:∀{xs:List V}{us:B2},Vals xs us->xs.all eZ=O->us.any (yb x)=xs.any λy=>EM y x
 |_,_,.nil,_=>J
 |y::xs,u::us,.cons r t,f=>by
  rw[ed,bZ]at f;rw[lq,lq,EN r f.1,km t f.2]
theorem iZ{A:eh}(b:RelV x v)(fx:eZ x=O):∀{xs:List V}{us:B2},Vals xs us->xs.all eZ=O->∀u∈us,mM A s u v (yb x u)
 |_,_,.nil,_=>λu a=>by cases a
 |y::xs,u::us,.cons r t,f=>λc a=>by
  rw[ed,bZ]at f;rcases bF.mp a with rfl|a
  .rw[EN r f.1];exact ya r b f.1 fx
  .exact iZ b fx t f.2 c a
def Up(x:V)(xs:List V):Bool:=xs.any λy=>EM y x
def Zs(K:bh)(neg:Bool):R2:=λx y H Q=>∃p xs,y=.ref p/\(dW K H p xs\/mh K H p xs)/\eZ x=O/\xs.all eZ=O/\Q (.bl<|if neg then !Up x xs else Up x xs) H
def rq:gE X (en .In)<|Zs X.K Zi:=by
 intro g s f H x y v u Q I c d h;obtain⟨p,xs,rfl,a,fx,fs,q⟩:=h;cases d;rcases a with a|a
 .obtain⟨au,r,pl,e⟩:=I.list a
  refine SeqAt.in_listAt (yb x) pl.isList (λw b=>iZ c fx r fs w<|by simpa using b) ⟨.bl _,H,I,J,?_⟩
  rw[show au.toArray.any (yb x)=au.any (yb x) by simp,km r fs]
  exact q
 .obtain⟨au,r,pl,e⟩:=I.tuple a
  refine SeqAt.in_tupleAt (yb x) pl (λw b=>iZ c fx r fs w<|by simpa using b) ⟨.bl _,H,I,J,?_⟩
  rw[show au.toArray.any (yb x)=au.any (yb x) by simp,km r fs]
  exact q
def tF:gE X (en .NotIn)<|Zs X.K O:=by
 intro g s f H x y v u Q I c d h;obtain⟨p,xs,rfl,a,fx,fs,q⟩:=h;cases d;rcases a with a|a
 .obtain⟨au,r,pl,e⟩:=I.list a
  refine SeqAt.notIn_listAt (yb x) pl.isList (λw b=>iZ c fx r fs w<|by simpa using b) ⟨.bl _,H,I,J,?_⟩
  rw[show au.toArray.any (yb x)=au.any (yb x) by simp,km r fs]
  exact q
 .obtain⟨au,r,pl,e⟩:=I.tuple a
  refine SeqAt.notIn_tupleAt (yb x) pl (λw b=>iZ c fx r fs w<|by simpa using b) ⟨.bl _,H,I,J,?_⟩
  rw[show au.toArray.any (yb x)=au.any (yb x) by simp,km r fs]
  exact q
def ko:fS X (.type "list") λxs H Q=>∃p ys,xs=[.ref p]/\(dW X.K H p ys\/mh X.K H p ys)/\∀l,H l=Y->Q (.ref l) (upd H l<|.lst ys):=by
 intro x s m H xs y Q I r h;obtain⟨p,ys,rfl,g,q⟩:=h;obtain⟨u,rfl,t⟩:=vals1 r;cases t;have fin:∀(au:B2),Vals ys au->ys.length<=de->∀(a:ek)(d:Nat),(∀b k,s.heap.get? b=U k->a.get? b=U k) ->
   a.get? s.z=U {cls:=.type "list",dict:=Y,data:=.seq au.toArray d,slots:=#[]}->EP X x m Q (.ref s.z) {s with heap:=a}:=λau c f a d kp e=>
  ⟨.ref s.z,_,I.laid (t':=s.toks) kp (eA _)<|show bV X.prog X.w _ a _ (.lst ys)from⟨f,au,d,c,e⟩,J,q _<|I.bA.fresh<|eA _⟩
 rcases g with g|g
 .obtain⟨au,c,pl,f⟩:=I.list g
  have v:=c.length;obtain⟨o,i,j,n,hd⟩:=pl.isList;exact call_list_seq p (.inl J) i j hd (λa d kp e=>fin au c f a d kp e) (by simp only[cM]<;>lia)
 .obtain⟨au,c,pl,f⟩:=I.tuple g
  have v:=c.length;obtain⟨o,i,j,n,hd⟩:=pl;exact call_list_seq p (.inr J) i j hd (λa d kp e=>fin au c f a d kp e) (by simp only[cM]<;>lia)
def Ü(K:bh)(T:String)(x:V)(H:Hp):Prop:=match x with
 |.str _=>T = "str"
 |.int _=>T = "int"
 |.ref p=>(T = "list" /\ ∃xs,dW K H p xs)\/(T = "tuple" /\ ∃o,K.lookup p=U o/\o.cls=.type "tuple" /\ o.dict=Y) \/
   (T = "dict" /\ ((∃a,H p=U (.dK a))\/∃a,H p=U (.dT a)))\/(T = "set" /\ ∃S n,H p=U (.set S n))
 |_=>False
def EO(I:Inv X j f H s)(r:RelV x v)(ty:Ü X.K T x H) :
  s.TypeIs v T/\∀a,v=.ref a->∃ob,s.heap.get? a=U ob/\ob.dict=Y:=by
 cases x with
 |str z=>
  obtain⟨t,rfl⟩:=r;cases(show T = "str"from ty);exact⟨ox s z t,λ_ e=>nomatch e⟩
 |int i=>
  obtain⟨t,rfl⟩:=r;cases(show T = "int"from ty);exact⟨typeIs_int s i t,λ_ e=>nomatch e⟩
 |ref p=>
  cases r;rcases ty with⟨rfl,xs,g⟩|⟨rfl,o,b,h,hd⟩|⟨rfl,b⟩|⟨rfl,S,n,b⟩
  .obtain⟨au,_,pl,_⟩:=I.list g
   refine⟨pl.isList.typeIs,λa e=>?_⟩;cases e;obtain⟨o,n,e,c,hd,_⟩:=pl;exact⟨o,e,hd⟩
  .refine⟨⟨o,I.iw p o b,h⟩,λa e=>?_⟩
   cases e;exact⟨o,I.iw _ o b,hd⟩
  .have z:∃o,s.heap.get? p=U o/\o.ExactDict:=by
    rcases b with⟨k,b⟩|⟨k,b⟩
    .obtain⟨_,_,_,_,o,_,_,e,ex,_⟩:=I.bA p _ b
     exact⟨o,e,ex⟩
    .obtain⟨_,_,_,_,o,_,_,e,ex,_⟩:=I.bA p _ b
     exact⟨o,e,ex⟩
   obtain⟨o,e,ex⟩:=z;refine⟨⟨o,e,ex.1⟩,λa d=>?_⟩;cases d;exact⟨o,e,ex.2.1⟩
  .obtain⟨o,_,_,_,e,ex,_⟩:=I.bA p _ b
   refine⟨⟨o,e,ex.1⟩,λa d=>?_⟩;cases d;exact⟨o,e,ex.2.1⟩
 |_=>exact eI ty
def Ý(K:bh)(T:String)(r:V->List V->Hp->VK->Prop)(to:TE):TE:=λa H Q=>to a H λx H1=>Ü K T x H1/\r x [] H1 Q
def tBM(K:bh)(T:String)(r:V->List V->Hp->VK->Prop)(to:TE)(t:TA):TE:=λa H Q=>to a H λx H1=>Ü K T x H1/\t a H1 λxs b=>r x xs b Q
variable{T id:String}
def Qf(g:PlainAttrs T)(slot:Slot T name id)(n:sr (.builtin id)=pure (.type "method_descriptor"))(k:x9 X id r)(j:PE X o to)
  (p:kx o name X.env (fC o X.env)=fC o X.env:=by rfl) (i:(G.endLine == F.line)=O:=by rfl):PE X (.Call (.Attribute o name G) [] [] F)<|Ý X.K T r to:=by
 intro c s a H Q I h;refine wpAny_Call_method0_late p i<|b7 (j c s a H _ I h) λv f e=>?_;obtain⟨x,H1,d,b,ty,q1⟩:=e;obtain⟨m,l⟩:=EO d b ty;exact⟨T,id,g,slot,n,m,l,v3 J<|PySem.evalArgs_none<|k c f a H1 x [] v [] Q d b .nil q1⟩
def ES(m:PlainAttrs T)(slot:Slot T name id)(B:sr (.builtin id)=pure (.type "method_descriptor"))(u:x9 X id r)(q:PE X o to)(w:PA X (e::R) t)
  (E:kx o name X.env (fC o X.env)=fC o X.env:=by rfl)
  (Þ:((hQ F<|dn (e::R) X.env).all (λx=>!x.1)&&(qr F<|mB [] X.env).all (λx=>x.1.isSome)
   && decide ((e::R).length+([]:List tJ).length+(if([]:List tJ).isEmpty then 0 else 1)<30))=O:=by rfl)
  (n:(G.endLine == F.line)=O:=by rfl) (p:dn (e::R) X.env=(Zi,fC e X.env)::dn R X.env:=by rfl) (A:(hQ F<|dn R X.env).any (·.1)=Zi:=by rfl) :
  PE X (.Call (.Attribute o name G) (e::R) [] F)<|tBM X.K T r to t:=by
 intro b s a H Q I h;refine wpAny_Call_method_late E Þ n J<|b7 (q b s a H _ I h) λv k g=>?_;obtain⟨x,H1,f,c,ty,q1⟩:=g;obtain⟨z,y⟩:=EO f c ty;refine⟨T,id,m,slot,B,z,y,?_⟩;have d:=w F b k a H1 _ f q1;rw[p]at d ⊢;refine v3 (by show(Zi ||(hQ F<|dn R X.env).any (·.1))=Zi;rw[A]<;>rfl)<|zv ?_
 exact b7 d (by rintro j s2 ⟨i,D,C,l,q2⟩;exact u b s2 a D x i v j Q C c l q2)
end
def MtM(X:Cx)(id:String)(r:V->List V->Hp->VK->Prop):Prop:=
 ∀(c:dH)(s:ax)(a:St)(H:Hp)(x:V)(xs:List V)(v:bp)(b:B2)(Q:VK),Inv X c a H s->RelV x v->Vals xs b->r x xs H Q ->
  Md X (call (.builtin id)<|v::b) (EP X c a Q) X.xe s
def Vals.one:∀{x:V}{us:B2},Vals [x] us->∃u,us=[u]/\RelV x u:=by
 intro x us h;cases h with
 |cons r t=>cases t;exact⟨_,J,r⟩
def Vals.two:∀{x y:V}{us:B2},Vals [x,y] us->∃u v,us=[u,v]/\RelV x u/\RelV y v:=by
 intro x y us h;cases h with
 |cons r t=>
  obtain⟨v,rfl,q⟩:=Vals.one t;exact⟨_,_,J,r,q⟩
def Inv.ß{au its':B2}(I:Inv X j v H s)(h:H l=U (.lst xs))
  (e:s.heap.get? l=U {cls:=.type "list",data:=.seq au.toArray n}) (d:f au.toArray=its'.toArray) (b:Vals ys its') (a:ys.length<=de) :
  Inv X j v (upd H l<|.lst ys) {s with heap:=s.heap.update l (qx f),toks:=t'}:=by
 have q:=PySem.IsL.update e f;rw[d]at q;refine I.write (x:=l) (e:=l) (by rw[h];exact trivial) (.inl J) (λi u g c=>(fA s.heap (qx f)<|et g).trans c) ⟨_,q⟩ ?_
 exact⟨a,its',_,b,q⟩
def Inv.ET(I:Inv X j v H s)(b:Vals ys au)(a:ys.length<=de) :
  Inv X j v (upd H s.z<|.lst ys) {s with heap:=s.heap.push {cls:=.type "list",data:=.seq au.toArray},toks:=t'}:=
 I.laid (λ_ _ q=>b0 _ q) (eA _) ⟨a,au,0,b,dw _ J⟩
theorem Inv.fresh(I:Inv X j v H s):H s.z=Y:=I.bA.fresh<|eA _
def Inv.Qh(I:Inv X j v H s)(a:H l=U (.lst xs)):xs.length<=de/\∃(au:B2)(n:Nat),Vals xs au/\xs.length=au.length/\s.heap.get? l=U {cls:=.type "list",data:=.seq au.toArray n}:=by
 obtain⟨z,au,n,r,e⟩:=I.bA l _ a;exact⟨z,au,n,r,r.length,e⟩
def J0:V->List V->Hp->VK->Prop:=λx a H Q=>∃l xs y,x=.ref l/\a=[y]/\H l=U (.lst xs)/\xs.length<de/\Q .non (upd H l<|.lst<|xs++[y])
def lC:MtM X "list.append" J0:=by
 intro k s f H x g v i Q I b c h;obtain⟨l,xs,y,rfl,rfl,a,j,q⟩:=h;cases b;obtain⟨u,rfl,d⟩:=c.one;obtain⟨z,au,n,r,hl,e⟩:=I.Qh a;refine y4 F.slot_list_append ⟨_,e,J⟩ F.entry_list_append (F.args_list_append_2 _ _) (PySem.list_append l au.toArray n u<|by rw[cM];lia) ⟨e,?_⟩
 refine⟨.non,_,I.ß (its':=au++[u]) a e (by simp) (r.append<|.cons d .nil) ?_,J,q⟩
 rw[cA,sE]
 lia
def Vn:R2:=λx y H Q=>∃l b xs a,x=.ref l/\y=.ref b/\H l=U (.lst xs)/\H b=U (.lst a)/\xs.length+a.length<=de/\∀p,H p=Y->Q (.ref p) (upd H p<|.lst<|xs++a)
def yc:gE X (kv .Add) Vn:=by
 intro A s m H x y v u Q I d c h;obtain⟨l,b,xs,o,rfl,rfl,g,i,w,q⟩:=h;cases d;cases c;obtain⟨z,au,n,r,hl,e⟩:=I.Qh g;obtain⟨p,a,t,f,B,k⟩:=I.Qh i;refine PySem.P.add_list e k ?_ (by rw[cM,cM];lia)
 have j:au.toArray++a.toArray=(au++a).toArray:=by simp
 rw[j];exact⟨.ref _,_,I.ET (t':=s.toks) (r.append f)<|by rw[cA];lia,J,q _ I.fresh⟩
end L2
namespace Att
open PySem PySem.W PySem.Calls PyProof.Rows
def m_:∀(ns:Dx)(vs:B2),WellAll P h vs (ns.map WData.int)->IntsAre vs ns:=by
 intro ns
 induction ns with
 |nil=>
  intro vs w;rw[MV]at w;cases w;exact .nil
 |cons n ns c=>
  intro vs w;rw[fV]at w;cases w with
  |cons a b=>
   cases a;exact .cons _ _<|c _ b
def Ce{l:OpenLaw}(k:l.most=U n)
  (g:l.row.toRowW.claim.pre args=O) (à:WellAll P h vals args) :
  ∃a vs ns,vals=[Value.ref a]/\args=[WData.list<|ns.map WData.int]/\h.get? a=U {cls:=.type "list",data:=.seq vs.toArray}/\IntsAre vs ns/\ns.length<=n:=by
 have t:WShape.hasAll [] args [.list .int]=O:=(pre_splitW g).1;have f:l.pre.holds [] {args:=args}=O:=(pre_splitW g).2;obtain⟨d,r,rfl,p,o⟩:=hasAllW_cons t
 obtain rfl:=hasAllW_nil o
 obtain⟨xs,rfl,m⟩:=hasW_list p;obtain⟨ns,rfl⟩:=items_int m;have s:ns.length<=n:=by
  unfold OpenLaw.pre at f;have e:(WTm.not<|.lt (.lit<|.int (n:Int))<|.len<|.arg 0).holds [] {args:=[.list<|ns.map .int]}=O:=by
   have e:=(holds_andW f).1;rw[k]at e;exact e
  have c:=condW_of e<|w_not<|w_lt w_lit<|w_len_list<|w_arg J;rw[cU]at c;refine zK λq=>?_;have i:(n:Int)<((ns.length:Nat):Int):=by lia
  first
   |(rw[cw i]at c;exact dy c<|by decide)
   |(simp at c;lia)
 cases à with
 |cons w1 w2=>
  cases w2;cases w1 with
  |list j b=>exact⟨_,_,ns,J,J,j,m_ ns _ b,s⟩
def Cf(l:OpenLaw)(args:List WData):l.row.toRowW.claim.post args (.bool O) args=O:=
 postW_of (r:=l.row.toRowW) (X:=(O == O))
  (show WShape.has [] (.bool O) .bool=O by first|rfl|decide|simp[WShape.has,WShape.arms,WShape.armsAll])
  (show(WTm.eq .res<|.lit<|.bool O).value [] {args:=args,res:=U (.bool O),after:=args}=U (.bool<|O == O)from w_eq_bool (w_res J) w_lit) J
end Att
namespace L2
open PySem PySem.Spec PyProof.Rows
theorem rz:∀{vs:B2}{ns:Dx},IntsAre vs ns->Vals (ns.map V.int) vs
 |_,_,.nil=>.nil
 |_,_,.cons n t h=>.cons ⟨t,J⟩<|rz h
def Qj(H:Hp):Prop:=∀b,H b=Y\/∃o xs,H b=U (.j_ o<|.lst xs)
def EU{K:bh}
  (R:K.In c.heap) (G:c.heap.Ns eP mg) (f:c.heap.Ns td mb) (A:∀x:Str,x ≠ "__name__" -> mb x=hX x) (á:c.heap.NoLimit) (Z:c.gens=#[])
  (t:c.heap.get? a=U {cls:=.type "list",data:=.seq vs.toArray}) (L:IntsAre vs ns) (hl:ns.length<=de) (X:bj k tq)
  (F:∀base:ek,K.In base->base.Ns eP mg->cj P w K mg base CX k C fd [x] sp) (Vp:∀(s:ax)(u:bp),xp s fd ⟨[u],[]⟩ [(x,u)])
  (Uo:∀H:Hp,Qj H->dW K H a (ns.map V.int)->sp [.ref a] H (λv _=>v=.bl O) λ_ _ _=>False)
  (B:∀H e g,CX [] H c (λ_ _ _=>False) e g->False) :
  hZ (cx P w) tq (.call (.ref C) ⟨[.ref a],[]⟩) (λr g=>r=.ok (.ret<|.bool O)/\OldK c.heap g.heap/\g.os=c.os/\kz g.gens) c:=by
 have I:=rz L;have â:=L.length;have core:∀H:Hp,Qj H->dW K H a (ns.map V.int)->jL P w H c.heap->(∀b,H b≠Y->b=a)->(H a≠Y->K.lookup a=Y) ->
   hZ (cx P w) tq (.call (.ref C) ⟨[.ref a],[]⟩) (λr g=>r=.ok (.ret<|.bool O)/\OldK c.heap g.heap/\g.os=c.os/\kz g.gens) c:=by
  intro H M hS bA N hK;have E:∀{b:cq}{o:Obj},c.heap.get? b=U o->H b=Y->(sV c.heap H).get? b=U o:=λe n=>Ec e n;have Vh:∀{b:cq}{o:Obj}{l:Array DictEntry}{p:Nat},c.heap.get? b=U o->o.data=.dict l p->H b=Y:=λ{b o l p} e d=>by
   cases q:H b with
   |none=>rfl
   |some u=>
    have D:b=a:=N b (by rw[q];simp)
    subst D;rw[t]at e;cases e;have d':Data.seq vs.toArray _=Data.dict l p:=d;cases d'
  have Zu:∀{b:cq}{m:Str->D1},c.heap.Ns b m->(sV c.heap H).Ns b m:=λ{b m} ⟨o,l,p,e,d,r⟩=>⟨o,l,p,E e<|Vh e d,d,r⟩;have j:K.In<|sV c.heap H:=λb o e=>E (R b o e) (by
   cases q:H b with
   |none=>rfl
   |some u=>
    have D:b=a:=N b (by rw[q];simp)
    subst D;rw[hK<|by rw[q];simp]at e;cases e)
  have hM:Mod K mg<|sV c.heap H:=⟨j,Zu G,⟨mb,Zu f,A⟩,let⟨mc,h1,h2⟩:=á;⟨mc,Zu h1,h2⟩⟩;have e0:qE P w K mg (sV c.heap H) tq [] c H:=⟨J,hM,λb o e=>JI e,B0<|B8 _ _,trivial,λb f=>dy (show b∈([]:BM)from f)<|by simp,bA,.of_eq Z⟩
  refine gs ((F _ j<|Zu G).run tq [] c H ⟨[.ref a],[]⟩ [.ref a] [.ref a] _ _ X e0 (Vp c<|.ref a) (.cons J .nil)<|Uo H M hS) λr g h=>?_;cases r with
  |error e=>exact(B H e g h).elim
  |ok fl=>
   cases fl with
   |next=>exact eI h
   |brk=>exact eI h
   |cont=>exact eI h
   |ret u=>
    obtain⟨v,H',os,bare,un,ã,T,q⟩:=h;have W:v=.bl O:=q;subst W
    obtain rfl:u=o6 O:=T
    refine⟨J,OldK.of_keep λb o e=>?_,os,bare⟩;cases q:H b with
    |none=>exact un.keep b o e q (by intro z;exact dy (show b∈([]:BM)from z)<|by simp) (by simp)
    |some u=>
     rcases M b with z|⟨ob,xs,z⟩
     .rw[q]at z;cases z
     .have S:=un.lu b ob _ z
      obtain⟨Q,_⟩:=bA b _ z;obtain⟨e2,_⟩:=ã b _ S;rw[e]at Q;cases Q;exact e2
 cases y:K.lookup a with
 |some o=>
  have e:=R a o y;rw[t]at e;cases e;refine core (λ_=>Y) (λ_=>.inl J) (.inr ⟨_,vs.toArray,_,y,J,J,J,by rw[cM,â];exact hl,by simpa using I⟩) (λb u z=>by have i:(Y:Option HO)=U u:=z;cases i) (λb z=>dy J z) λz=>dy J z
 |none=>
  refine core (λb=>if b=a then U (.j_ {cls:=.type "list",data:=.seq vs.toArray}<|.lst<|ns.map V.int)else Y) (λb=>?_) (.inl<|.inr ⟨{cls:=.type "list",data:=.seq vs.toArray},cv J⟩) (λb u z=>?_) (λb z=>?_) λ_=>y
  .by_cases f:b=a
   .exact .inr ⟨_,_,cv f⟩
   .exact .inl<|cb f
  .by_cases f:b=a
   .have i:=(cv f).symm.trans z
    cases i;subst f;exact⟨t,by rw[cU];exact hl,vs,_,I,t⟩
   .have i:=(cb f).symm.trans z
    cases i
  .by_cases f:b=a
   .exact f
   .exact dy (cb f) z
def inClass(s:hF)(j:Nat):hF:=match s with
 |.ClassDef _ _ _ a _ _ _ _ _ _ _=>a.getD j<|.Pass ⟨0,0,0,0⟩
 |_=>.Pass ⟨0,0,0,0⟩
def kr(s:hF):Arguments:=match s with
 |.FunctionDef _ a _ _ _ _ _ _ _ _=>a
 |_=>{posonlyargs:=[],args:=[],vararg:=Y,kwonlyargs:=[],kw_defaults:=[],kwarg:=Y,defaults:=[]}
def cu(s:hF):Ee:=match s with
 |.FunctionDef _ _ b _ _ _ _ _ _ _=>b
 |_=>[]
def aC(s:hF):gV:=match s with
 |.FunctionDef _ _ _ _ _ _ sc _ _ _=>sc
 |_=>{kind:=.function,names:=[],isGenerator:=Zi,isCoroutine:=Zi}
abbrev iL:Dk:=λ_ _ _ _ _ _=>False
abbrev E0:XK:=λ_ _ _=>False
def mC:Passes iL X E0:=λ_ _ _ _ _ _ _ h=>h.elim
def oR{A B:Prop}(h:B):if Zi=O then A else B:=by
 rw[cb gx];exact h
def ng{A B:Prop}(h:A):if O=O then A else B:=by
 rw[cv J];exact h
def aL(H H':Hp):Prop:=∀b o,H b=U o->H' b=U o
def aL.refl(H:Hp):aL H H:=λ_ _ h=>h
def aL.trans(a:aL H H1)(b:aL H1 d):aL H d:=λc o h=>b c o<|a c o h
def aL.free(e:aL H H')(h:H' l=ME):H l=ME:=by
 cases q:H l with
 |none=>rfl
 |some o=>
  rw[e l o q]at h;cases h
def aL.seq{K:bh}(e:aL H H')(h:dW K H a xs):dW K H' a xs:=by
 rcases h with(h|⟨o,h⟩)|h
 .exact .inl<|.inl<|e _ _ h
 .exact .inl<|.inr ⟨o,e _ _ h⟩
 .exact .inr h
end L2
set_option maxHeartbeats 400000
namespace L2
open PySem PySem.Spec PyProof.Rows
def Cg{prog:dv}{w:ee}{A:eh}{R:IH->ax->Prop}{s:ax}{elt a j:cC}{o:Bz}{scope:gV}{pos:Pos}{it z:bp}{env:Env}(I:Nat->ax->Prop)
  (p:∀n s,I n s->dg (cx prog w) A (pyNext it) (λr d=>match r with
   |none=>R (.ok .next) d
   |some v=>dg (cx prog w) A (o5 a it v) (λ_ s₀=>dg (cx prog w) A (th a env v) (λ_ i=>
     dg (cx prog w) A (forIn o O λc r=>if r=O then do let ok <- H4 c env (fC c env);pure (f5 ok)else pure (f5 r)) (λok b=>
      if ok=O then dg (cx prog w) A (fC elt env) (λx g=>
       dg (cx prog w) A (call (.builtin "list.append") [z,x]) (λ_ f=>∃m,m<n/\I m f) (λ_ _=>False) g) (λ_ _=>False) b
      else ∃m,m<n/\I m b) (λ_ _=>False) i) (λ_ _=>False) s₀) (λ_ _=>False) d) (λ_ _=>False) s)
  (n:Nat) (h:I n s):hZ (cx prog w) A (.compLoop (.ListComp elt [⟨a,j,o,0⟩] scope pos) 0 it z env) R s:=by
 refine codeAny_loop J I (λn s B=>?_) n h;show dg _ A ((compTurn (.ListComp elt [⟨a,j,o,0⟩] scope pos) 0 it z env).onRaise λx=>do rg x env;theTreesLotGoes x) _ _ s
 apply wpAny_noted;rw[compTurn_list];refine ag<|gN<|ag<|eD (p n s B) (λr d l=>?_) λ_ _ e=>e.elim;cases r with
 |none=>exact dk l
 |some v=>
  refine ag<|eD l (λ_ s₀ y=>ag<|eD y (λ_ i u=>ag<|eD u (λok b k=>?_) λ_ _ e=>e.elim) λ_ _ e=>e.elim) λ_ _ e=>e.elim;cases ok with
  |false=>exact dk ⟨J,k⟩
  |true=>
   exact ag<|ag<|eD k (λx g t=>ag<|eD t (λ_ f q=>dk<|dk ⟨J,q⟩) λ_ _ e=>e.elim) λ_ _ e=>e.elim
theorem gS(env:Env):∀(names:List<|Str×oa)(a:List<|Str×cq),(∀p∈names,p.2=.free->∃c,env.cells.lookup p.1=U c)->(∀x c,a.lookup x=U c->env.cells.lookup x=U c) ->
  ∃cl,(forIn names a λ(p:Str×oa) (cs:List<|Str×cq)=>if p.2 == .free then do let c <- cellOf env p.1;pure (f5<|(p.1,c)::cs)else pure (f5 cs):Sem<|List<|Str×cq)=pure cl /\
   (∀x c,cl.lookup x=U c->env.cells.lookup x=U c)/\(∀x c,a.lookup x=U c->∃c',cl.lookup x=U c')/\(∀p∈names,p.2=.free->∃c,cl.lookup p.1=U c)
 |[],a,_,i=>⟨a,J,i,λx c e=>⟨c,e⟩,λ_ h=>nomatch h⟩
 |(n,k)::r,a,l,i=>by
  by_cases hk:k=.free
  .subst hk
   obtain⟨c,q⟩:=l (n,.free) eX J;have u:∀x d,((n,c)::a).lookup x=U d->env.cells.lookup x=U d:=λx d e=>by
    rw[jK]at e;cases f:x == n with
    |true=>rw[f]at e;have f:=eq_of_beq f;subst f;cases e;exact q
    |false=>rw[f]at e;exact i x d e
   obtain⟨cl,e,o,j,m⟩:=gS env r ((n,c)::a) (λp b=>l p<|bw _ b) u;have self:∃c',cl.lookup n=U c':=j n c (by rw[jK];simp)
   refine⟨cl,?_,o,λx d f=>?_,λp b g=>?_⟩
   .rw[zw]
    show((do let c <- cellOf env n;pure (f5<|(n,c)::a)) >>= _)=_
    unfold cellOf;rw[q];exact e
   .cases s:x == n with
    |true=>have:=eq_of_beq s;subst this;exact self
    |false=>exact j x d (by rw[jK,s];exact f)
   .rcases bF.mp b with rfl|b
    .exact self
    .exact m p b g
  .obtain⟨cl,e,o,j,m⟩:=gS env r a (λp b=>l p<|bw _ b) i
   refine⟨cl,?_,o,j,λp b g=>?_⟩
   .rw[zw]
    have t:(k == NameKind.free)=Zi:=by simpa using hk
    show((if(k == NameKind.free)=O then _ else pure (f5 a)) >>= _)=_
    rw[t];exact e
   .rcases bF.mp b with rfl|b
    .exact dy g hk
    .exact m p b g
def qG(h:∀p∈scope.names,p.2=.free->∃c,env.cells.lookup p.1=U c) :
  ∃cl,closureFor scope env=pure cl/\(∀x c,cl.lookup x=U c->env.cells.lookup x=U c)/\∀p∈scope.names,p.2=.free->∃c,cl.lookup p.1=U c:=by
 obtain⟨cl,e,b,_,a⟩:=gS env scope.names [] h (λ_ _ e=>nomatch e);refine⟨cl,?_,b,a⟩;unfold closureFor;exact(ey (λz:Sem<|List<|Str×cq=>z >>= λcs=>pure cs) e)
abbrev Cx.block(X:Cx)(N:Bi)(scope:gV)(cl:List<|Str×cq)(C:cq)(a:BM)(s:ax)(H:Hp):Cx where
 prog:=X.prog
 w:=X.w
 K:=X.K
 mg:=X.mg
 base:=X.base
 A:=X.A
 N:=N
 s₀:=s
 H₀:=H
 env:=compEnvC scope cl C X.env
 outer:=X.stack
 stack:=X.stack
 ex:=a
 fn:=λ_=>Zi
 calm:=X.calm
 pn:=[]
 xe:=λ_ _=>False
inductive f_(X:Cx)(scope:gV):B1->Bi->Prop where
 |nil:f_ X scope [] []
 |cons {j:Nat} {x:Str} {js:B1} {xs:Bi}:X.N[j]?=U x->scope.names.lookup x=U .free->X.env.kindOf x=U .cell->f_ X scope js xs->f_ X scope (j::js) (x::xs)
theorem f_.get:∀{js:B1}{xs:Bi},f_ X scope js xs->∀{i:Nat}{x:Str},xs[i]?=U x->∃j,js[i]?=U j/\X.N[j]?=U x/\scope.names.lookup x=U .free/\X.env.kindOf x=U .cell
 |_,_,.nil,_,_,e=>by simp at e
 |_,_,.cons f d c _,0,_,e=>by simp at e;subst e;exact⟨_,J,f,d,c⟩
 |_,_,.cons _ _ _ t,i+1,_,e=>by
  obtain⟨j,a,b⟩:=t.get (i:=i) (by simpa using e)
  exact⟨j,by simpa using a,b⟩
theorem f_.length:∀{js:B1}{xs:Bi},f_ X scope js xs->js.length=xs.length
 |_,_,.nil=>J
 |_,_,.cons _ _ _ t=>by simp[t.length]
def c_(k:Nat)(js:B1)(a:St):St:=eQ k Y++js.map λj=>(a[j]?).join
theorem fU{env:Env}(d:env.scope.kind=.function):∀{names:List<|Str×oa}{x:Str},names.lookup x=U .free->env.kindOf x=U .cell ->
  (names.map λ(n,k)=>if(fz k env n)then(n,NameKind.cell)else(n,k)).lookup x=U .cell
 |[],_,h,_=>by simp at h
 |(n,k)::r,x,h,b=>by
  have c:=@fU env d r x;show iT x ((if(fz k env n)=O then(n,NameKind.cell)else(n,k))::_)=_
  cases a:x == n with
  |true=>
   have e:=eq_of_beq a;subst e;simp only[jK,a]at h;cases h;rw[cv<|by unfold fz;rw[d,b];rfl]
   simp[jK]
  |false=>
   simp only[jK,a]at h;by_cases hq:(fz k env n)=O
   .rw[cv hq];simp only[jK,a];exact c h b
   .rw[cb hq];simp only[jK,a];exact c h b
theorem gb{env:Env}:∀{names:List<|Str×oa}{x:Str},(∀p∈names,p.2≠.cell) ->
  ((names.map λ(n,k)=>if(fz k env n)then(n,NameKind.cell)else(n,k)).lookup x=U .cell \/
   (names.map λ(n,k)=>if(fz k env n)then(n,NameKind.cell)else(n,k)).lookup x=U .free)->∃p∈names,p.1=x/\p.2=.free
 |[],_,_,h=>by simp at h
 |(n,k)::r,x,c,h=>by
  have d:=@gb env r x λp b=>c p<|bw _ b;have h:iT x ((if(fz k env n)=O then(n,NameKind.cell)else(n,k))::(r.map λ(n,k)=>if(fz k env n)then(n,NameKind.cell)else(n,k)))=U .cell \/
   iT x ((if(fz k env n)=O then(n,NameKind.cell)else(n,k))::(r.map λ(n,k)=>if(fz k env n)then(n,NameKind.cell)else(n,k)))=U .free:=h
  cases a:x == n with
  |true=>
   have e:=eq_of_beq a;subst e;refine⟨(x,k),eX,J,?_⟩;by_cases hq:(fz k env x)=O
   .cases k<;>first|rfl|(simp at hq)
   .rw[cb hq]at h
    simp only[jK,nL]at h;rcases h with h|h
    .cases h;exact dy J<|c (x,.cell) eX
    .cases h;rfl
  |false=>
   have f:iT x (r.map λ(n,k)=>if(fz k env n)then(n,NameKind.cell)else(n,k))=U .cell \/
    iT x (r.map λ(n,k)=>if(fz k env n)then(n,NameKind.cell)else(n,k))=U .free:=by
    by_cases hq:(fz k env n)=O
    .rw[cv hq]at h;simp only[jK,a]at h;exact h
    .rw[cb hq]at h;simp only[jK,a]at h;exact h
   obtain⟨p,b,i,g⟩:=d f;exact⟨p,bw _ b,i,g⟩
structure gF(X:Cx)(scope:gV):Prop where
 kind:scope.kind=.function
 nocell:∀p∈scope.names,p.2≠.cell
 names:∀p∈scope.names,p.2=.local->scope.names.lookup p.1=U .local
 frees:∀p∈scope.names,p.2=.free->X.env.kindOf p.1=U .cell
variable{X:Cx}
def Inv.enter{cl:List<|Str×cq}{h₁:ek}(I:Inv X aa σ H s)(S:gF X scope)(F:f_ X scope js fs)
  (Dl:∀x c,cl.lookup x=U c->X.env.cells.lookup x=U c) (h:∀p∈scope.names,p.2=.free->∃c,cl.lookup p.1=U c)
  (t:∀b∈G,oH X aa H b) (E:∀b∈G,b<s.z) (P:h₁.Ns s.z λ_=>Y) (k:∀b o,s.heap.get? b=U o->h₁.get? b=U o) :
  Inv (X.block (ls++fs) scope cl s.z G s H) [] (c_ ls.length js σ) H {s with heap:=h₁,toks:=tk}:=by
 have Z:∀x c,cl.lookup x=U c->c<s.z:=λx c e=>by
  obtain⟨v,q⟩:=I.cell x c<|Dl x c e;exact q.lt
 refine⟨⟨I.ok.mod,?_,I.ok.glob,I.ok.blt,eA _,λx y c V T=>I.ok.inj x y c (Dl x c V)<|Dl y c T,λx B=>?_,(λx c B=>by cases B),I.ok.hd,I.ok.frames,.inl J,λb f=>⟨dP<|E b f,λx c e=>(t b f).2.2.2.2.1 x c<|Dl x c e⟩,
  I.bs,eY I.ok.bsz I.sz,λb o e f=>?_,λb f z=>?_,I.stack,I.nE⟩,J,I.bare,Un.kept k,⟨_,P,λi x v K d e3=>?_⟩,λx c e=>?_,I.bA.fresh<|eA _,λx c e=>I.freeC x c<|Dl x c e,λp C=>dy C<|by simp,I.bA.kept k,?_⟩
 .show(HY scope X.env).kind=.function
  exact S.kind
 .obtain⟨p,C,K,d⟩:=gb (env:=X.env) S.nocell B
  obtain⟨c,e⟩:=h p C d;exact⟨c,by rw[<- K];exact e⟩
 .rcases(t b f).2.2.2.1 with z|z
  .exact I.ok.noex b o e z
  .exact dy (eS (c4 (I.ok.bs b o e).1) z)<|uZ _
 .rcases bF.mp (I.jN b z)with e|e
  .exact(t b f).2.1 e
  .exact(t b f).2.2.1 e
 .-- a name of the block that has a value: one from around
  have n:ls.length<=i:=by
   by_cases n:i<ls.length
   .unfold c_ at d
    rw[jJ<|by simpa using n,DN]at d
    split at d<;>cases d
   .lia
  have ä:fs[i-ls.length]?=U x:=by
   have q:(ls++fs)[i]?=U x:=K;rw[gz n]at q;exact q
  obtain⟨j,Q,R,N,å⟩:=F.get ä;have g:(σ[j]?).join=U v:=by
   unfold c_ at d;rw[gz<|by simpa using n,f6]at d
   simp only[BS]at d;rw[Q]at d;simpa using d
  have A:σ[j]?=U (U v):=by
   cases q:σ[j]? with
   |none=>rw[q]at g;cases g
   |some z=>rw[q]at g;have g:z=U v:=g;rw[g]
  obtain⟨m,_,hl⟩:=I.loc;obtain⟨u,r,l⟩:=hl j x v R A<|.inr<|.inl å;refine⟨u,r,.inr ⟨.inl<|fU I.ok.kind N å,?_⟩⟩;rcases l with⟨z,_⟩|⟨_,c,e,q⟩
  .have M:X.env.kindOf x=U .local:=z
   rw[å]at M;cases M
  .obtain⟨W,L⟩:=h (x,.free) (hV N) J
   have w:=Dl x W L;rw[e]at w;have w:=j8.inj w;rw[<- w]at L;obtain⟨o,D,hd⟩:=q;exact⟨c,L,o,k _ _ D,hd⟩
 .obtain⟨v,o,D,hd⟩:=I.cell x c<|Dl x c e
  exact⟨v,o,k _ _ D,hd⟩
 .unfold c_
  show _=(ls++fs).length;rw[cA,BS,cU,cA,F.length]
def Jv(X:Cx)(b:Bz)(t:TT):Prop:=
 ∀(d:dH)(s:ax)(a:St)(H:Hp)(Q:Bool->Hp->Prop),Inv X d a H s->t a H Q ->
  Md X (forIn b O λc r=>if r=O then do let ok <- H4 c X.env (fC c X.env);pure (f5 ok)else pure (f5 r)) (TP X d a Q) X.xe s
def æ:TT:=λ_ H Q=>Q O H
def J2:Jv X [] æ:=λ_ _ _ H _ I h=>wpAny_tests_nil ⟨H,I,h⟩
def J3(h:PT X c t):Jv X [c] t:=λd s a H Q I b=>wpAny_tests_one<|h d s a H Q I b
def dD:St->St->Prop
 |[],[]=>True
 |Y::a,_::b=>dD a b
 |U v::a,U w::b=>v=w/\dD a b
 |_,_=>False
theorem dD.len:∀{a b:St},dD a b->a.length=b.length
 |[],[],_=>J
 |[],_::_,h=>h.elim
 |Y::a,[],h=>h.elim
 |U _::a,[],h=>h.elim
 |Y::a,x::b,h=>by simp[dD.len (a:=a) (b:=b) h]
 |U _::a,Y::b,h=>h.elim
 |U _::a,U _::b,h=>by simp[dD.len (a:=a) (b:=b) h.2]
theorem dD.get:∀{a b:St},dD a b->∀(i:Nat)(v:V),a[i]?=U (U v)->b[i]?=U (U v)
 |[],[],_,_,_,e=>e
 |[],_::_,h,_,_,_=>h.elim
 |Y::a,[],h,_,_,_=>h.elim
 |U _::a,[],h,_,_,_=>h.elim
 |Y::a,x::b,h,0,v,e=>by simp at e
 |Y::a,x::b,h,i+1,v,e=>by
  have:=dD.get (a:=a) (b:=b) h i v (by simpa using e)
  simpa using this
 |U _::a,Y::b,h,_,_,_=>h.elim
 |U y::a,U z::b,h,0,v,e=>by have c:=h.1;subst c;simpa using e
 |U y::a,U z::b,h,i+1,v,e=>by
  have:=dD.get (a:=a) (b:=b) h.2 i v (by simpa using e)
  simpa using this
@[irreducible] def tComp(j:TI)(k:Nat)(js:B1)(g:TG)(l:TT)(n:TE):TE:=λd H Q=>j d H λp H1=>∀D,H1 D=Y->∃W:Nat->Nat->List V->Hp->Prop,(∃m,W 0 m []<|upd H1 D<|.lst []) /\
 ∀i m ys H,W i m ys H->(p.stop i H/\Q (.ref D) H)\/(p.go i H/\∀x h,p.yld i H x h->g x (c_ k js d) h λa o=>dD (c_ k js d) a/\l a o λb f=>
  if b=O then n a f λy e=>e D=U (.lst ys)/\ys.length<de/\∃c,c<m/\W (i+1) c (ys++[y]) (upd e D<|.lst<|ys++[y])
  else ∃c,c<m/\W (i+1) c ys f)
def rA
  (hc:X.calm=O) (S:gF X scope) (F:f_ X scope js fs) (hi:PI X tg l wi)
  (hg:∀cl C f s H,PG (X.block (ls++fs) scope cl C f s H) tg g) (ht:∀cl C f s H,Jv (X.block (ls++fs) scope cl C f s H) M tt) (he:∀cl C f s H,PE (X.block (ls++fs) scope cl C f s H) elt te)
       (I:Inv X L G H s) (h:tComp wi ls.length js g tt te G H Q)
  (fin:∀D C s' H' m,Inv X L G H' s'->oH X L H' C->s'.heap.Ns C m->Q (.ref D) H'->compPost (mX X) X.A X.xe use Qo (.ref D) C (.ok .next) s')
  (hs:∀x,e6 l X.env x=pure x) :
  Md X (comprehension (.ListComp elt [⟨tg,l,M,0⟩] scope pos) scope X.env b_ (newList []) Zi (fC l X.env) use) Qo X.xe s:=by
 unfold tComp at h;obtain⟨cl,ecl,h1,h2⟩:=qG (scope:=scope) (env:=X.env) λp hp hf=>I.ok.has p.1<|.inl<|S.frees p hp hf;refine wpAny_comprehension_free J hs ecl S.kind S.names<|b7 (hi L s G H _ I h) λv s1 q1=>b7 q1 λÐ s2 q2=>?_;obtain⟨it,f,tn,Kt,H2,e,I2,T,Jt,f2,q⟩:=q2;subst e;refine tj<|wpAny_newFunctionEnv S.nocell (by intro y hy;simp at hy) (λh₁ k j=>?_) S.kind
 have I3:Inv X L G (upd H2 s2.heap.objs.size<|.lst []) {s2 with heap:=s2.heap.push {cls:=.type "list",dict:=Y,data:=.seq ([]:B2).toArray}}:=I2.ET (t':=s2.toks) .nil<|iU _
 obtain⟨W,⟨m0,w0⟩,step⟩:=q s2.heap.objs.size I2.fresh;dsimp only at k j ⊢
 generalize Vq:({s2 with heap:=s2.heap.push {cls:=.type "list",dict:=Y,data:=.seq ([]:B2).toArray}}:ax)=s3 at I3
 have Vr:s3.heap=s2.heap.push {cls:=.type "list",dict:=Y,data:=.seq ([]:B2).toArray}:=by rw[<- Vq]
 rw[<- Vr]at k j ⊢;have old:∀b o,s3.heap.get? b=U o->h₁.get? b=U o:=λb o e=>j.extBut b o (dP<|c4 e)<|b0 _ e;have up:∀b o,s2.heap.get? b=U o->s3.heap.get? b=U o:=λb o e=>by rw[Vr];exact b0 _ e
 have fz2:∀b∈f,b<s2.heap.objs.size:=λb a=>by
  obtain⟨o,e,_⟩:=T.obj 0 _ Jt b a;exact c4 e
 have B:∀b∈f,oH X L (upd H2 s2.heap.objs.size<|.lst []) b:=λb a=>⟨by rw[ai<|dP<|fz2 b a];exact(f2 b a).1,(f2 b a).2⟩
 have fz3:∀b∈f,b<s3.heap.objs.size:=λb a=>by
  obtain⟨o,e,_⟩:=T.obj 0 _ Jt b a;exact c4<|up b o e
 have I4:=I3.enter (ls:=ls) (h₁:=h₁) (tk:=s2.toks+([]:List<|Str×bp).length) S F h1 h2 B fz3 (by simpa using k) old
 have V:tn 0 h₁:=T.keep 0 _ _ Jt λb _ o e=>old b o<|up b o e
 dsimp only[PySem.Shared.z]at I4 k j⊢;generalize hC:s3.heap.objs.size=C at I4 k j ⊢
 generalize hH3:upd H2 s2.heap.objs.size (.lst [])=H3 at I3 I4 B w0
 have xR:∀{H':Hp},(∀b∈f,H' b=Y)->∀b∈f,oH (X.block (ls++fs) scope cl C f s3 H3) [] H' b:=λhn b a=>
  ⟨hn b a,by rw[<- hC];exact dP<|fz3 b a,λz=>(bF.mp<|I3.jN b z).elim (B b a).2.1 (B b a).2.2.1,.inl a,λx c e=>(B b a).2.2.2.2.1 x c<|h1 x c e,λp hp=>dy hp<|by simp⟩
 have Dh:∀b∈f,(b∈X.ex\/X.s₀.heap.objs.size<=b)/\b≠X.env.locals/\(∀x c,X.env.cells.lookup x=U c->c≠b)/\∀p∈X.pn++L,p.1≠b:=λb a=>⟨(B b a).2.2.2.1,(B b a).2.1,(B b a).2.2.2.2.1,(B b a).2.2.2.2.2⟩;have K:∀s4:ax,s4={s3 with heap:=h₁,toks:=s2.toks+([]:List<|Str×bp).length} ->
   hZ (mX X) X.A (.compLoop (.ListComp elt [⟨tg,l,M,0⟩] scope pos) 0 (.ref it) (.ref s2.heap.objs.size)<|compEnvC scope cl C X.env) (compPost (mX X) X.A X.xe use Qo (.ref s2.heap.objs.size) C) s4:=by
  rintro s4 rfl
  refine Cg (λn s'=>∃i ys H',Inv (X.block (ls++fs) scope cl C f s3 H3) [] (c_ ls.length js G) H' s'/\tn i s'.heap/\(∀b∈f,H' b=Y)/\W i n ys H') ?_ m0 ⟨0,[],H3,I4,V,λb a=>(B b a).1,w0⟩
  rintro n s5 ⟨i,ys,H5,I5,JQ,Zm,w5⟩
  rcases step i n ys H5 w5 with⟨stop,qf⟩|⟨go,nxt⟩
  .refine b7 (T.done (X.block (ls++fs) scope cl C f s3 H3) J J J hc i [] s5 _ H5 (λ_ _=>False) I5 (xR Zm) JQ stop) λr s6 t=>?_
   obtain⟨hr,R⟩:=t;subst hr;obtain⟨m,Z,_⟩:=id R.loc;have J6:Inv X L G H5 s6:=I3.Ed (ch:=f) R.os R.base R.bA R.bare Dh;exact fin _ C s6 H5 m J6 (I3.xO (B0 hC) R.free) Z qf
  .refine b7 (T.item (X.block (ls++fs) scope cl C f s3 H3) J J J hc i [] s5 _ H5 (λ_ _=>False) I5 (xR Zm) JQ go) λr s6 t=>?_
   obtain⟨u,hr,h6⟩:=t;subst hr;refine b7 h6 λ_ s7 t=>?_;obtain⟨x,H7,I7,r7,y7,ç,fr7⟩:=t;have I7':=I7.pinned (xR fr7)<|T.obj _ _ ç;refine b7 (hg cl C f s3 H3 _ s7 _ H7 x u _ I7' r7<|nxt x H7 y7) λ_ s8 t=>?_;obtain⟨E,H8,I8,kp,q8⟩:=t;have again:∀{s9:ax}{N:Hp},Inv (X.block (ls++fs) scope cl C f s3 H3) ([]++oJ f s7.heap) E N s9 ->
     Inv (X.block (ls++fs) scope cl C f s3 H3) [] (c_ ls.length js G) N s9/\tn (i+1) s9.heap/\∀b∈f,N b=Y:=λ{s9 N} P=>by
    refine⟨P.kh.weak kp.len kp.get,T.keep _ _ _ ç λb a o e=>(P.pin (b,o)<|lj _<|lj _<|iy a e).1,λb a=>?_⟩;obtain⟨o,e,d⟩:=T.obj _ _ ç b a;exact(P.pin (b,o)<|lj _<|lj _<|iy a e).2.1
   refine b7 (ht cl C f s3 H3 _ s8 E H8 _ I8 q8) λb s9 t=>?_;obtain⟨N,P,q9⟩:=t;cases b with
   |false=>
    obtain⟨m',Z,w9⟩:=q9;obtain⟨a1,a2,a3⟩:=again P;exact⟨m',Z,i+1,ys,N,a1,a2,a3,w9⟩
   |true=>
    refine b7 (he cl C f s3 H3 _ s9 E N _ P q9) λxv s10 t=>?_;obtain⟨y,H10,I10,r10,hD,hz,m',Z,è⟩:=t;refine b7 (lC (X:=X.block (ls++fs) scope cl C f s3 H3) _ s10 E H10 (.ref s2.heap.objs.size) [y] (.ref s2.heap.objs.size) [xv] (λ_ H11=>H11=upd H10 s2.heap.objs.size (.lst<|ys++[y])) I10 J (.cons r10 .nil)
     ⟨_,ys,y,J,J,hD,hz,J⟩) λ_ s11 ⟨z,H11,I11,_,e11⟩=>?_
    subst e11;obtain⟨a1,a2,a3⟩:=again I11;exact⟨m',Z,i+1,ys++[y],_,a1,a2,a3,è⟩
 have aap:({newEnv scope C X.env.globals cl X.env.qual Y .none (U X.env) td with scope:=HY scope X.env}:Env)=compEnvC scope cl C X.env:=J
 exact codeAny_compStart_list (K _<|by rw[<- Vq])<|T.self X.A 0 _ _ _ V<|K _<|by rw[<- Vq]
def J4(ls:Bi)(n:X.calm=O)(S:gF X scope)(F:f_ X scope js fs)(k:PI X tg iter wi)
  (l:∀cl C a s H,PG (X.block (ls++fs) scope cl C a s H) tg g) (f:∀cl C a s H,Jv (X.block (ls++fs) scope cl C a s H) ifs tt) (he:∀cl C a s H,PE (X.block (ls++fs) scope cl C a s H) elt te)
  (i:∀x,e6 iter X.env x=pure x:=by intro _;rfl):PE X (.ListComp elt [⟨tg,iter,ifs,0⟩] scope pos)<|tComp wi ls.length js g tt te:=by
 intro w s u H Q I h;rw[eval_ListComp];refine rA (use:=Y) n S F k l f he I h ?_ i;intro D C d t m y c j q;exact⟨m,j,λv r=>⟨.ref D,t,y.turned (t':=d.toks) (it:=C) (λb o p e=>(r.2 b p).trans e) c.1 c.2.1 c.2.2.2.1 c.2.2.2.2.1 c.2.2.2.2.2,J,q⟩⟩
def z7(ls:Bi)(L:X.calm=O)(Q:X.N.Nodup)(n:X.N[i]?=U x)(u:Loc X.env.scope x)(S:gF X scope)(F:f_ X scope js fs)(E:PI X tg iter wi)
  (G:∀cl C f s H,PG (X.block (ls++fs) scope cl C f s H) tg g) (w:∀cl C f s H,Jv (X.block (ls++fs) scope cl C f s H) ifs tt) (he:∀cl C f s H,PE (X.block (ls++fs) scope cl C f s H) elt te)
  (y:∀x,e6 iter X.env x=pure x:=by intro _;rfl) (K:L9 X x:=by first|exact .inl J|exact .inr J|assumption)
  (T:fu (.ListComp elt [⟨tg,iter,ifs,0⟩] scope pos) (U<|.Name x d) r.line X.env=pure O:=by rfl) :
  PS X (.Assign [.Name x d] (.ListComp elt [⟨tg,iter,ifs,0⟩] scope pos) r) λD j H=>tComp wi ls.length js g tt te j H λv H1=>D.nx (j.set i<|U v) H1:=by
 intro R s j H D I h;rw[exec_Assign_Name_used _ _ _ _ T];refine ag<|gN<|ag ?_;show dg _ X.A (do let _ <- comprehension (.ListComp elt [⟨tg,iter,ifs,0⟩] scope pos) scope X.env _ (newList []) Zi (fC iter X.env) (U<|th (.Name x d) X.env)) _ _ s
 refine ag<|eD (rA (use:=U<|th (.Name x d) X.env) (Qo:=λ_ k=>SP X R D .next k) L S F E G w he I h ?_ y) (λ_ k z=>dk<|dk z) λ_ _ e=>e
 intro p C k H' m Kt c B q;show dg _ X.A (th (.Name x d) X.env<|.ref p) _ _ _;refine wpAny_assign_Name<|qV Kt Q n u (show RelV (.ref p) (.ref p)from J) (λV Z t=>?_) K;obtain⟨a,l,P⟩:=t;have ne:C≠a:=by
  rcases P with e|e
  .rw[e];exact c.2.1
  .exact et<|c.2.2.2.2.1 x a e
 refine⟨m,B.sameBut l ne,λh' W=>?_⟩;exact⟨_,H',Z.turned (t':=V.toks) (it:=C) (λb o M e=>(W.2 b M).trans e) c.1 c.2.1 c.2.2.2.1 c.2.2.2.2.1 c.2.2.2.2.2,q⟩
def EV{K:bh}{St:Nat->ek->Prop}(val:Nat->V->Prop)
  (W:∀A:eh,A.handled=Y->Walks P w A it [it] [it] n D St) (N:∀i v,D i v->∃y,RelV y v/\val i y)
  (R:∀i h,St i h->∃o,h.get? it=U o/\∀v,o.data≠.cell v) (S:∀i(h h':ek),St i h->(∀o,h.get? it=U o->h'.get? it=U o)->St i h')
  (Z:∀(A:eh)(i:Nat)(s:ax)(Q:Kp)(E:Kp),St i s.heap->Q (.ref it) s->dg (cx P w) A (pyIter<|.ref it) Q E s) :
  Turn P w K (.Name x M) ⟨λi _=>i<n,λi H y H'=>H'=H/\val i y,λi _=>i=n⟩ [it] it St where
 mem:=by simp
 obj:=λi h st b a=>by
  have e:b=it:=by simpa using a
  subst e;exact R i h st
 keep:=λi h h' st k=>S i h h' st<|k it<|by simp
 item:=by
  intro X m g p j i C s B H E I d st c;subst m g p;obtain⟨z,u,T,t,r,q⟩:=d it (by simp)
  refine(W X.A<|I.ok.hd j).item i s _ _ c st λv h' tk l F f=>?_;obtain⟨y,L,G⟩:=N i v l;have I1:Inv X C B H {s with heap:=h',toks:=tk}:=I.turned (λb o a e=>f b o (by simpa using a) e) z u t r q
  exact⟨v,J,dk ⟨y,H,I1,L,⟨J,G⟩,F,λb a=>(d b a).1⟩⟩
 done:=by
  intro X m g p j i C s B H E I d st c;subst m g p;obtain⟨z,u,T,t,r,q⟩:=d it (by simp)
  have c:i=n:=c;rw[c]at st;exact(W X.A<|I.ok.hd j).done s _ _ st λh' tk f=>⟨J,I.turned (λb o a e=>f b o (by simpa using a) e) z u t r q⟩
 self:=Z
def Its(z:Str):It:=⟨λi _=>i<z.cps.size,λi H y a=>a=H/\∃c,z.cps[i]?=U c/\y=.str ⟨#[c]⟩,λi _=>i=z.cps.size⟩
def é(tl:TE):TI:=λa H R=>tl a H λv H1=>∃z,v=.str z/\R (Its z) H1
def Qk(hl:PE X l tl):PI X (.Name x E) l<|é tl:=by
 intro p s B H R I h;refine b7 (hl p s B H _ I h) λv a C=>?_;obtain⟨y,H1,I1,D,q1⟩:=C;obtain⟨z,rfl,q⟩:=q1;obtain⟨t,rfl⟩:=D;have f:∀b∈[a.z],oH X p H1 b:=λb F=>by
  have e:b=a.z:=by simpa using F
  subst e;exact I1.xO (eA _)<|I1.bA.fresh<|eA _
 have m:∀i v,SignAt z i v->∃y,RelV y v/\∃c,z.cps[i]?=U c/\y=.str ⟨#[c]⟩:=by rintro i v ⟨c,u,e,ev⟩;exact⟨.str ⟨#[c]⟩,⟨u,ev⟩,c,e,J⟩
 have w:∀(ty:String)(i:Nat)(h:ek),h.IsStrIter a.z ty z t i->∃o,h.get? a.z=U o/\∀v,o.data≠.cell v:=λty i h ⟨o,e,_,d⟩=>⟨o,e,λv q=>by rw[d]at q;cases q⟩
 have kp:∀(ty:String)(i:Nat)(h j:ek),h.IsStrIter a.z ty z t i->(∀o,h.get? a.z=U o->j.get? a.z=U o)->j.IsStrIter a.z ty z t i:=by rintro ty i h j ⟨o,e,r⟩ k;exact⟨o,k o e,r⟩
 cases n:z.cps.all (· < 128)
 .refine wpAny_pyIter_wide n ?_
  exact⟨a.z,[a.z],_,_,H1,J,I1.kept (t':=a.toks) λb o e=>b0 _ e,
   EV (λi y=>∃c,z.cps[i]?=U c/\y=.str ⟨#[c]⟩) (λA g=>Walks.strWide g _ z t) m (w _) (kp _) λ_ _ _ _ _ st h=>wpAny_pyIter_striter_wide st h,⟨_,dw _ J,J,J⟩,f,q⟩
 .refine wpAny_pyIter_ascii n ?_
  exact⟨a.z,[a.z],_,_,H1,J,I1.kept (t':=a.toks) λb o e=>b0 _ e,
   EV (λi y=>∃c,z.cps[i]?=U c/\y=.str ⟨#[c]⟩) (λA g=>Walks.strAscii g _ z t) m (w _) (kp _) λ_ _ _ _ _ st h=>wpAny_pyIter_striter_ascii st h,⟨_,dw _ J,J,J⟩,f,q⟩
structure ê(a:It)(src:List V)(I:Hp->Prop):Prop where
 go:∀i H,I H->i<src.length->a.go i H
 yld:∀i H x H',I H->i<src.length->a.yld i H x H'->H'=H/\src[i]?=U x
 stop:∀i H,I H->i=src.length->a.stop i H
def J7(z:Str):ê (Its z) (z.cps.toList.map λc=>V.str ⟨#[c]⟩) λ_=>True:=
 ⟨λi H _ h=>by have h:i<(z.cps.toList.map λc=>V.str ⟨#[c]⟩).length:=h;rw[cU,kf]at h;exact h,
  λi H x b _ _ y=>by
  obtain⟨e,c,a,ex⟩:=y;refine⟨e,?_⟩;rw[f6,Array.getElem?_toList,a,ex];rfl,
  λi H _ h=>by rw[cU,kf]at h;exact h⟩
def Ci(lo:Int)(n:Nat):ê (Zl lo n) ((gQ n).map λk=>V.int<|lo+(k:Nat)) λ_=>True:=
 ⟨λi H _ h=>by have h:i<((gQ n).map λk=>V.int<|lo+(k:Nat)).length:=h;rw[cU,zx]at h;exact h,
  λi H x b _ a y=>by
  obtain⟨e,ex⟩:=y;refine⟨e,?_⟩;have a:i<n:=by rw[cU,zx]at a;exact a
  rw[f6,List.getElem?_range a,ex];rfl,
  λi H _ h=>by rw[cU,zx]at h;exact B0 h.symm⟩
def qH:x9 X "str.startswith" λx vs H Q=>∃a b,x=.str a/\vs=[.str b]/\Q (.bl<|oC a b) H:=by
 intro i s e H x vs v f Q I c d h;obtain⟨a,b,rfl,rfl,q⟩:=h;obtain⟨t,rfl⟩:=c;obtain⟨u,rfl,⟨g,rfl⟩⟩:=d.one;exact SC.startswith ⟨.bl _,H,I,J,q⟩
def vv:x9 X "str.endswith" λx vs H Q=>∃a b,x=.str a/\vs=[.str b]/\Q (.bl<|sb a b) H:=by
 intro i s e H x vs v f Q I c d h;obtain⟨a,b,rfl,rfl,q⟩:=h;obtain⟨t,rfl⟩:=c;obtain⟨u,rfl,⟨g,rfl⟩⟩:=d.one;exact SC.endswith ⟨.bl _,H,I,J,q⟩
def EY:x9 X "str.find" λx vs H Q=>∃a b i,x=.str a/\vs=[.str b,.int i]/\Q (.int<|n4 a b i) H:=by
 intro l s f H x vs v g Q I d e h;obtain⟨a,b,i,rfl,rfl,q⟩:=h;obtain⟨t,rfl⟩:=d;obtain⟨u,j,rfl,⟨k,rfl⟩,⟨c,rfl⟩⟩:=e.two;exact SC.find3 ⟨.int _,H,I.tok _,⟨_,J⟩,q⟩
theorem oS:∀{ys:Bi}{us:B2},Vals (ys.map V.str) us->StrsAre us ys
 |[],_,.nil=>.nil
 |y::ys,_,.cons ⟨t,e⟩ r=>by
  subst e;exact .cons y t<|oS (ys:=ys) r
def J8:x9 X "str.join" λx vs H Q=>∃a l ys,x=.str a/\vs=[.ref l]/\dW X.K H l (ys.map V.str)/\(ys.map (·.length)).sum+ys.length*a.length<=16777216/\Q (.str<|Str.join a ys) H:=by
 intro m s g H x vs v i Q I b c h;obtain⟨a,l,ys,rfl,rfl,hl,f,q⟩:=h;obtain⟨t,rfl⟩:=b;obtain⟨u,rfl,d⟩:=c.one;cases d;obtain⟨au,r,p,_⟩:=I.list hl;refine join_list p.isList (ys:=ys) (by simpa using oS r) f λj k=>?_
 have e:Txt.join a ys=Str.join a ys:=StrLaws.glued_eq_join a ys;rw[e];exact⟨.str _,H,I.tok _,⟨_,J⟩,q⟩
def Ql:NJ X λx lo m H Q=>∃z,x=.str z/\z.length<=de/\Q (.str<|xa z lo m) H:=by
 intro y s r H x v vl w lo m sl Q I n p pl g h;obtain⟨z,rfl,a,q⟩:=h;obtain⟨t,rfl⟩:=n;refine⟨"str",_,F.slot_str_getitem.lookup,ox _ _ _,?_⟩;obtain⟨o,b,c,hd⟩:=p;cases pl with
 |none=>
  cases g with
  |none=>exact kS (l:=Y) (u:=Y) (st:=Y) ⟨o,b,c,hd⟩ J<|o4 ⟨eY (r0 z _ _) a,λe k=>⟨.str _,H,I.tok _,⟨_,J⟩,q⟩⟩
  |int j d=>exact kS (l:=Y) (u:=U (j,d)) (st:=Y) ⟨o,b,c,hd⟩ J<|o4 ⟨eY (r0 z _ _) a,λe k=>⟨.str _,H,I.tok _,⟨_,J⟩,q⟩⟩
 |int i f=>
  cases g with
  |none=>exact kS (l:=U (i,f)) (u:=Y) (st:=Y) ⟨o,b,c,hd⟩ J<|o4 ⟨eY (r0 z _ _) a,λe k=>⟨.str _,H,I.tok _,⟨_,J⟩,q⟩⟩
  |int j d=>exact kS (l:=U (i,f)) (u:=U (j,d)) (st:=Y) ⟨o,b,c,hd⟩ J<|o4 ⟨eY (r0 z _ _) a,λe k=>⟨.str _,H,I.tok _,⟨_,J⟩,q⟩⟩
def vz:gE X (en .IsNot) λx y H Q=>∃a b,x=.bl a/\y=.bl b/\Q (.bl<|a != b) H:=by
 intro f s e H x y v u Q I d c h;obtain⟨a,b,rfl,rfl,q⟩:=h;cases d;cases c;exact isnot_bool<|iY I q J
def vA:fS X (.builtin "isinstance") λxs H Q=>∃x T t b,xs=[x,.ty T]/\jA X.K H x t/\oh X.K t (.type T)=U b/\Q (.bl b) H:=by
 intro i s d H xs f Q I r h;obtain⟨x,T,t,b,rfl,ty,e,q⟩:=h;obtain⟨u,g,rfl,a,c⟩:=vals2 r;cases c;exact rf I a ty e λtk=>⟨.bl b,H,I.tok _,J,q⟩
def oU{ks:Fh}(r:Vals (ks.map V.bl) au)(A:eh):TruthOf X.prog X.w A (λi v=>au.toArray[i]?=U v) λi=>ks.getD i O:=by
 intro i v s Q E a b;have a:au[i]?=U v:=by simpa using a
 have c:i<ks.length:=by
  have h:=(dj.mp a).1;have f:=r.length;rw[cU]at f
  lia
 obtain⟨u,e,d⟩:=r.get (i:=i) (x:=.bl ks[i]) (by rw[f6,fQ c];rfl)
 rw[a]at e;cases e;cases d;have g:ks.getD i O=ks[i]:=by rw[zy,fQ c];rfl
 have b:Q (ks.getD i O) s:=b;rw[g]at b;exact ka b
def range_all(ks:Fh):(gQ ks.length).all (λi=>ks.getD i O)=ks.all id:=by
 induction ks with
 |nil=>rfl
 |cons k ks a=>
  rw[eu,DT,ed,DO,ed,<- a];rfl
def range_any(ks:Fh):(gQ ks.length).any (λi=>ks.getD i O)=ks.any id:=by
 induction ks with
 |nil=>rfl
 |cons k ks a=>
  rw[eu,DT,lq,DP,lq,<- a];rfl
def EZ(k:X.calm=O):fS X (.builtin "all") λxs H Q=>∃(p:cq)(ks:Fh),xs=[.ref p]/\dW X.K H p (ks.map V.bl)/\Q (.bl<|ks.all id) H:=by
 intro w s m H xs n Q I r h;obtain⟨p,ks,rfl,j,q⟩:=h;obtain⟨u,rfl,d⟩:=vals1 r;cases d;obtain⟨au,a,pl,t⟩:=I.list j;have c:=a.length;rw[cU]at c;refine call_all_walk<|ke pl.isList ?_;have f:p≠s.z:=let⟨_,e,_⟩:=pl.isList;dP<|c4 e;refine⟨s.z,_,[s.z],au.toArray.size,_,_,λi=>ks.getD i O,J,Walks.list (show X.A.in1.handled=Y from I.ok.hd k) s.z p f au.toArray,⟨⟨_,dw _ J,J,J⟩,vG pl.isList _⟩,oU a _,λv tk g=>?_⟩;rw[cM,<- c,range_all];refine⟨.bl _,H,?_,J,q⟩;refine I.kept λb o e=>g b o (λz=>?_)<|b0 _ e;have l:b=s.z:=by simpa using z
 rw[l]at e;exact uZ _<|c4 e
def E1(k:X.calm=O):fS X (.builtin "any") λxs H Q=>∃(p:cq)(ks:Fh),xs=[.ref p]/\dW X.K H p (ks.map V.bl)/\Q (.bl<|ks.any id) H:=by
 intro w s m H xs n Q I r h;obtain⟨p,ks,rfl,j,q⟩:=h;obtain⟨u,rfl,d⟩:=vals1 r;cases d;obtain⟨au,a,pl,t⟩:=I.list j;have c:=a.length;rw[cU]at c;refine call_any_walk<|ke pl.isList ?_;have f:p≠s.z:=let⟨_,e,_⟩:=pl.isList;dP<|c4 e;refine⟨s.z,_,[s.z],au.toArray.size,_,_,λi=>ks.getD i O,J,Walks.list (show X.A.in1.handled=Y from I.ok.hd k) s.z p f au.toArray,⟨⟨_,dw _ J,J,J⟩,vG pl.isList _⟩,oU a _,λv tk g=>?_⟩;rw[cM,<- c,range_any];refine⟨.bl _,H,?_,J,q⟩;refine I.kept λb o e=>g b o (λz=>?_)<|b0 _ e;have l:b=s.z:=by simpa using z
 rw[l]at e;exact uZ _<|c4 e
end L2
namespace K25
open PySem L2
abbrev top(i:Nat):hF:=PySem.Challenge.pw_rowblade_k25_whole_one_sign_otherwise.main.body.getD i<|.Pass ⟨0,0,0,0⟩
end K25
namespace KH
open PySem PySem.W PySem.Calls PyProof.Rows L2 K25
def cF.{u,v}:=@congrFun.{u,v}
abbrev pw:dv:=PySem.Challenge.pw_rowblade_k25_whole_one_sign_otherwise
abbrev r(a:Nat):bp:=.ref a
abbrev Zr(c:bp)(d:Option cq)(x:Data)(s:List D1):Obj:=⟨c,d,x,⟨s⟩⟩
abbrev W:=mq->Obj
abbrev Z:=Str×Nat×bp
abbrev D(P:mq)(e:Z):DictEntry:=⟨PyData.keyHash P e.1,.str e.1 e.2.1,e.2.2⟩
abbrev fN(n q:Str)(s:hF)(g:cq)(cl:List<|Str×cq)(e d a c:bp)(an:Option cq)(f ct:bp)(b:cq):ef:=⟨n,q,kr s,.stmts<|cu s,aC s,g,cl,e,d,a,c,an,f,ct,b⟩
abbrev C(n q:Str)(t u L a b c g:Nat)(x:cq)(B:Bool)(y:cq)(k l m o:bp):W:=λ_=>Zr (.type "code") Y (.fields ⟨[.str n t,.str q<|t+1,.str "/claim/cut.py"<|t+2,.int (mW L) 0,.int (mW a) 0,.int (mW b) 0,.int (mW c) 0,.int (mW g) 0,r x,.bool B,.int (mW 181) 0,r y,k,l,m,o,.int (mW u) 0,.int (mW L) 0,.str "/claim/cut.py"<|u+1]⟩) []
abbrev cf(n q:Str)(t u L a x:Nat):W:=C n q t u L a 0 0 3 x O (x+1) .none (r<|x+2) (r<|x+3)<|r<|x+4
abbrev cg(n:Str)(t u L a x:Nat):W:=cf n n t u L a x
abbrev cc(n:Str)(t L x:Nat):W:=C n n t (t+3) L 0 0 0 0 x Zi (x+1) .none .none .none .none
abbrev lt(b:Nat)(l:List<|Nat×Nat):W:=λ_=>Zr .none Y (.fields ⟨(l.map λp=>[.int (mW p.1) 0,.int (mW b) 0,r p.2]).flatten⟩) []
abbrev fO(n q:Str)(s:hF)(m:bp)(c:Nat):W:=λ_=>Zr (.type "function") Y (.func<|fN n q s 3 [] .none .none .none m Y (r c) .none 0) []
abbrev fn(n q:Str)(s:hF):W:=λ_=>Zr .none Y (.func<|fN n q s 0 [] .none .none .none .none Y .none .none 0) []
def sS:Nat->Bi->B2
 |_,[]=>[]
 |k,x::l=>.str x k::sS (k+1) l
abbrev tS(k:Nat)(l:Bi):W:=λ_=>Zr (.type "tuple") Y (.seq ⟨sS k l⟩ 0) []
abbrev tV(l:B2):W:=λ_=>Zr (.type "tuple") Y (.seq ⟨l⟩ 0) []
abbrev di(n:Nat)(l:List Z):W:=λP=>Zr (.type "dict") Y (.dict ⟨l.map<|D P⟩ n) []
abbrev c1(m:bp)(b:Nat)(q:Str)(L:Nat)(xs:List Z)(st a n:Nat):W:=di n<|("__module__",b,m)::("__qualname__",b+2,.str q<|b+1)::("__firstlineno__",b+4,.int (mW L)<|b+3)::(xs.append [("__static_attributes__",st,r a)])
abbrev c2(m:bp)(b L:Nat)(xs:List Z)(st a:Nat)(ys:List Z)(c n:Nat):W:=di n<|("__module__",b,m)::("__firstlineno__",b+4,.int (mW L)<|b+3)::(xs.append<|("__static_attributes__",st,r a)::(ys.append [("__doc__",c,.none)]))
abbrev cG(n:Str)(bs a:B2)(d:Nat)(su:B2)(h:D1)(t:Nat)(nw:String):W:=λ_=>Zr (.type "type") Y (.cls ⟨n,bs,a,d,n,O,[],su,Zi,Y,Zi⟩) [h,Y,U<|.str n t,U<|.str n<|t+8,U<|.builtin nw,U<|.bool O]
abbrev ob:bp:=.type "object"
abbrev cB(n:Str)(d b:Nat)(su:B2)(h t:Nat):W:=cG n [r b] [r<|d+1,r b,ob] d su (U<|r h) t "object.__new__"
abbrev c0(n:Str)(d:Nat)(su:B2)(t:Nat):W:=cG n [ob] [r<|d+1,ob] d su Y t "object.__new__"
abbrev fr(c l:Nat)(m:bp):W:=λ_=>Zr (.type "frame") Y .plain [U<|r c,U<|r 3,U<|r l,Y,U m,Y,U<|r 0]
abbrev is(c:Nat):W:=λ_=>Zr (.type "builtin_function_or_method") Y (.fields ⟨[.builtin "object.__init_subclass__",r c]⟩) []
abbrev su(c:Nat):W:=λ_=>Zr (.type "super") Y (.fields ⟨[r c,r c,r c]⟩) []
abbrev gd(t c:Nat):W:=λ_=>Zr (.type "getset_descriptor") Y (.fields ⟨[.str "__dict__" t,r c,.builtin "function.__dict__",.builtin "function.__dict__#set"]⟩) []
abbrev gw(t c:Nat):W:=λ_=>Zr (.type "getset_descriptor") Y (.fields ⟨[.str "__weakref__" t,r c,.builtin "ExceptionGroup.__weakref__",.none]⟩) []
abbrev N(o:mq->Obj)(l r:mq->BT):mq->BT:=λP=>.node (o P) (l P)<|r P
abbrev E:mq->BT:=λ_=>.nil
abbrev L(o:mq->Obj):mq->BT:=N o E E
abbrev m0:bp:=.str "__main__" 164
abbrev m1:bp:=.str "rowblade.errors" 187
abbrev m2:bp:=.str "rowblade.lines" 373
abbrev m3:bp:=.str "rowblade.signs" 924
abbrev m4:bp:=.str "rowblade.patterns" 947
abbrev m5:bp:=.str "rowblade.linereading" 1068
abbrev m6:bp:=.str "rowblade.rows" 1286
abbrev m7:bp:=.str "rowblade.reading" 1296
abbrev m8:bp:=.str "rowblade.showing" 1339
abbrev m9:bp:=.str "law_rowblade_k25_whole_one_sign_otherwise" 1382
abbrev d0:List Z:=[("__doc__",166,.none),("__package__",167,.none),("__loader__",168,.builtin "__main__.__loader__#opaque"),("__spec__",169,.none),("__annotations__",170,r 6),("__builtins__",171,r 4),("__file__",173,.str "/claim/cut.py" 172),("__cached__",174,.none),("BladeError",206,r 24),("NoPattern",222,r 37),("NotThat",238,r 49),("NotWoven",254,r 61),("Finished",270,r 73)]
abbrev l0:List<|Nat×Nat:=[(2,20),(4,33),(6,45),(8,57),(10,69)]
abbrev d1:=d0.append [("NoLine",295,r 92),("TwoMarks",320,r 111),("NoMark",345,r 130),("Endless",372,r 149)]
abbrev l1:=l0++[(12,81),(16,100),(20,119),(24,138)]
abbrev d2:=d1.append [("Program",403,r 168),("Line",434,r 189),("Cond",454,r 203),("Always",470,r 217),("RowIs",495,r 236)]
abbrev l2:=l1++[(30,157),(34,178),(39,199),(41,213),(43,225)]
abbrev d3:=d2.append [("Last",511,r 248),("Like",536,r 267),("Soon",563,r 286),("FromTo",590,r 305),("Not",615,r 324)]
abbrev l3:=l2++[(47,244),(49,256),(53,275),(58,294),(63,313)]
abbrev d4:=d3.append [("End",631,r 336),("Deed",651,r 348),("Mark",676,r 369),("Drop",692,r 381),("Print",708,r 393)]
abbrev l4:=l3++[(67,332),(69,344),(71,358),(75,377),(77,389)]
abbrev d5:=d4.append [("Done",724,r 405),("Say",749,r 424),("Swap",778,r 443),("Join",803,r 462),("Pile",830,r 481)]
abbrev l5:=l4++[(79,401),(81,413),(85,432),(91,451),(95,470)]
abbrev d6:=d5.append [("Bring",855,r 500),("Go",880,r 519),("Add",907,r 538),("Tell",923,r 550),("SIGNS",927,(.str "abcdefghijklmnopqrstuvwxyzABCDEFGHIJKLMNOPQRSTUVWXYZ0123456789 !\"#$&'()*+,-./:;<=>?\x40[\\]^_`{|}~" 926)),("SMALL_LETTERS",929,.str "abcdefghijklmnopqrstuvwxyz" 928),("FIGURES",931,.str "0123456789" 930),("made_of",937,r 557),("beginning_of",946,r 564),("MOST_ITEMS",950,.int 8 949),("MOST_SIGNS",952,.int 12 951),("NEVER_PLAIN",954,.str "^$.[]*+?/" 953),("NEVER_IN_A_SET",956,.str "]^/" 955),("ONCE",958,.str "1" 957),("HOW_MANY",960,.str "*+?" 959),("may_stand_plain",967,r 571),("pattern",978,r 578)]
abbrev l6:=l5++[(100,489),(104,508),(108,527),(113,546),(119,556),(121,563),(133,570),(135,577)]
abbrev d7:=(d6.append [("items_of",989,r 585),("place_behind_core",998,r 592),("many_at",1006,r 599),("item_of",1014,r 606),("set_item",1020,r 611),("is_written_plain",1028,r 618),("written",1039,r 625),("written_core",1047,r 632),("may_be_empty",1054,r 639),("least_length",1060,r 644),("may_be_left_out",1067,r 651),("COND_BEGINNINGS",1077,r 652),("MOST_ROW",1079,.int 999 1078),("MOST_FIGURES",1081,.int 3 1080),("MOST_SOON",1083,.int 3 1082),("LEAST_JOIN",1085,.int 2 1084),("MOST_SMALL",1087,.int 9 1086),("MOST_LETTERS",1089,.int 8 1088),("MOST_TEXT",1091,.int 40 1090),("Scan",1164,r 704),("line_of",1174,r 715),("line_next",1180,r 720),("cond_next",1187,r 727),("plain_cond_next",1196,r 734),("row_or_pattern_next",1203,r 741)]).append [("deed_next",1210,r 748),("swap_next",1219,r 755),("pile_next",1227,r 762),("add_next",1235,r 769),("number_next",1246,r 776),("name_next",1254,r 783),("words_next",1262,r 790),("pattern_next",1270,r 797)]
abbrev l7:=l6++[(147,584),(156,591),(163,598),(167,605),(175,610),(187,617),(189,624),(196,631),(204,638),(206,643),(208,650),(219,658),(251,714),(257,719),(265,726),(271,733),(283,740),(287,747),(312,754),(316,761),(321,768),(325,775),(333,782),(338,789),(343,796)]
abbrev d8:=(d7.append [("may_stand",1278,r 804),("may_swap",1285,r 811),("cut",1295,r 818),("MOST_LINES",1299,.int 24 1298),("read",1308,r 825),("lines_of",1318,r 832),("marks_of",1328,r 839),("refuse_go_without_mark",1338,r 846),("shown",1346,r 851),("line_text",1353,r 858),("cond_text",1360,r 865),("deed_text",1367,r 872),("pattern_text",1374,r 879),("quoted",1381,r 886),("_law_cell_at",1391,r 893),("_law_refused",1401,r 900),("_law_sorts",1408,r 907),("_law_sign",1416,r 914),("_law_otherwise",1427,r 921),("_law_name_of",1436,r 928),("_law_by_marks",1446,r 935),("_law_box",1454,r 942),("_law_take",1463,r 949),("_law_any_signs",1469,r 954),("_law_any_name",1476,r 961)]).append [("_law_any_words",1485,r 968),("_law_any_set",1491,r 973),("_law_any_item",1505,r 980),("_law_any_pattern",1511,r 985),("_law_any_end",1520,r 992),("_law_any_cond",1535,r 999),("_law_any_swap",1541,r 1004),("_law_any_deed",1554,r 1011),("_law_any_line",1570,r 1018),("_law_any_marks",1580,r 1025),("_law_any_lines",1592,r 1032),("_law_mixed",1603,r 1039),("law",1609,r 1044)]
abbrev l8:=l7++[(349,803),(355,810),(360,817),(367,824),(372,831),(379,838),(387,845),(392,850),(394,857),(398,864),(412,871),(436,878),(438,885),(441,892),(445,899),(457,906),(459,913),(464,920),(473,927),(478,934),(491,941),(494,948),(500,953),(502,960),(504,967),(507,972),(514,979),(532,984),(543,991),(549,998),(568,1003),(577,1010),(602,1017),(616,1024),(623,1031),(636,1038),(642,1043)]
abbrev dI:=tV []
abbrev lD:W:=λP=>Zr .none Y (.fields ⟨[]⟩) []
abbrev ju:W:=λP=>Zr (.type "builtin_function_or_method") Y (.fields ⟨[(.builtin "type.__prepare__"),.type "type"]⟩) []
abbrev NN:=tV [r 24]
abbrev vB:=tV [r 203]
abbrev nh:=tV [r 348]
def od:List W->List W
 |[]=>[]
 |x::r=>x::(match r with
  |[]=>[]
  |_::r=>od r)
def br:Nat->List W->mq->BT
 |0,_,_=>.nil
 |n+1,l,P=>(match l with
  |[]=>.nil
  |x::r=>.node (x P) (br n (od r) P)<|br n (od r.tail) P)
def ov:List W->Nat->Nat->List (Nat×W)->List W
 |[],_,_,_=>[]
 |x::l,i,n,q=>(match n.beq i with
  |true=>[]
  |false=>(match q with
   |[]=>x::ov l (i+1) n []
   |y::r=>(match y.1.beq i with
    |true=>y.2::ov l (i+1) n r
    |false=>x::ov l (i+1) n q)))
abbrev jz0:List Z:=[("__init__",1112,r 666),("refuse",1119,r 673),("passes",1127,r 680),("must_pass",1135,r 687),("while_made_of",1144,r 694),("between",1154,r 701)]
abbrev NO(b:Str)(d a c:Nat):List W:=[cG b [r 24] [(r<|a+1),r 24,.type "ValueError",.type "Exception",.type "BaseException",.type "object"] a [] (U<|r d) c "ValueError.__new__",su<|a+1,is<|a+1]
abbrev nj(s1 s2:Str)(d f c e b a:Nat)(l0:Bi)(m3:bp):List W:=[dI,lD,tS (a+3) l0,dI,fn s1 s2<|inClass (top c) d,cf s1 s2 a (a+l0.length+3) e f b,fO s1 s2 (inClass (top c) d) m3<|b+5]
abbrev rB(b:Str)(e d a c:Nat):List W:=[cB b a e [] d c,su<|a+1,is<|a+1]
abbrev fk(s1:Str)(e c d b a:Nat)(l0:Bi)(m2:bp):List W:=[dI,lD,tS (a+3) l0,dI,fn s1 s1<|top c,cg s1 a (a+l0.length+3) d e b,fO s1 s1 (top c) m2<|b+5]
abbrev a0:List W:=qB [[boot_o_0,boot_o_1,boot_o_2,di 126<|("__name__",165,.str "law_rowblade_k25_whole_one_sign_otherwise" 1382)::d8,boot_o_4,boot_o_5,boot_o_6,boot_o_7,boot_o_8,boot_o_9,boot_o_10,dI,lt 0 l8,cc "<module>" 182 1 11,fr 13 3 m0,tV [.type "ValueError"],ju,c1 m1 196 "BladeError" 2 [] 201 22 4,dI,lD,cc "BladeError" 191 2 18,fr 20 17 m1,dI,c2 m1 196 2 [] 201 22 [("__weakref__",203,r 25)] 204 3,cG "BladeError" [.type "ValueError"] [r 24,.type "ValueError",.type "Exception",.type "BaseException",.type "object"] 23 [r 37,r 49,r 61,r 73,r 92,r 111,r 130,r 149] (U<|r 15) 189 "ValueError.__new__",gw 202 24,su 24,is 24,NN,ju,c1 m1 214 "NoPattern" 4 [] 219 35 4,dI,lD,cc "NoPattern" 209 4 31,fr 33 30 m1,dI,c2 m1 214 4 [] 219 35 [] 220 2],NO "NoPattern" 28 36 207,[NN,ju,c1 m1 230 "NotThat" 6 [] 235 47 4,dI,lD,cc "NotThat" 225 6 43,fr 45 42 m1,dI,c2 m1 230 6 [] 235 47 [] 236 2],NO "NotThat" 40 48 223,[NN,ju,c1 m1 246 "NotWoven" 8 [] 251 59 4,dI,lD,cc "NotWoven" 241 8 55,fr 57 54 m1,dI,c2 m1 246 8 [] 251 59 [] 252 2],NO "NotWoven" 52 60 239,[NN,ju,c1 m1 262 "Finished" 10 [] 267 71 4,dI,lD,cc "Finished" 257 10 67,fr 69 66 m1,dI,c2 m1 262 10 [] 267 71 [] 268 2],NO "Finished" 64 72 255,[NN,ju,c1 m1 278 "NoLine" 12 [("__init__",290,r 89)] 292 90 5,dI,lt 4 [(14,88)],cc "NoLine" 273 12 79,fr 81 78 m1],nj "__init__" "NoLine.__init__" 0 2 6 14 83 283 ["self","row"] m1,[tS 291 ["row"],c2 m1 278 12 [("__init__",290,r 89)] 292 90 [] 293 2],NO "NoLine" 76 91 271,[NN,ju,c1 m1 303 "TwoMarks" 16 [("__init__",315,r 108)] 317 109 5,dI,lt 4 [(18,107)],cc "TwoMarks" 298 16 98,fr 100 97 m1],nj "__init__" "TwoMarks.__init__" 0 2 7 18 102 308 ["self","row"] m1,[tS 316 ["row"]]]
abbrev a1:List W:=qB [[c2 m1 303 16 [("__init__",315,r 108)] 317 109 [] 318 2],NO "TwoMarks" 95 110 296,[NN,ju,c1 m1 328 "NoMark" 20 [("__init__",340,r 127)] 342 128 5,dI,lt 4 [(22,126)],cc "NoMark" 323 20 117,fr 119 116 m1],nj "__init__" "NoMark.__init__" 0 2 8 22 121 333 ["self","row"] m1,[tS 341 ["row"],c2 m1 328 20 [("__init__",340,r 127)] 342 128 [] 343 2],NO "NoMark" 114 129 321,[NN,ju,c1 m1 353 "Endless" 24 [("__init__",366,r 146)] 369 147 5,dI,lt 4 [(26,145)],cc "Endless" 348 24 136,fr 138 135 m1],nj "__init__" "Endless.__init__" 0 3 9 26 140 358 ["self","row","line"] m1,[tS 367 ["line","row"],c2 m1 353 24 [("__init__",366,r 146)] 369 147 [] 370 2],NO "Endless" 133 148 346,[dI,ju,c1 m2 382 "Program" 30 [("__init__",394,r 165)] 396 166 5,dI,lt 4 [(32,164)],cc "Program" 377 30 155,fr 157 154 m2],nj "__init__" "Program.__init__" 0 2 11 32 159 387 ["self","lines"] m2,[tS 395 ["lines"],c2 m2 382 30 [("__init__",394,r 165)] 396 166 [("__dict__",398,r 169),("__weakref__",400,r 170)] 401 4,c0 "Program" 167 [] 375,gd 397 168,gw 399 168,su 168,is 168,dI,ju,c1 m2 411 "Line" 34 [("__init__",424,r 186)] 427 187 5,dI,lt 4 [(36,185)],cc "Line" 406 34 176,fr 178 175 m2],nj "__init__" "Line.__init__" 0 3 12 36 180 416 ["self","cond","deed"] m2,[tS 425 ["cond","deed"],c2 m2 411 34 [("__init__",424,r 186)] 427 187 [("__dict__",429,r 190),("__weakref__",431,r 191)] 432 4,c0 "Line" 188 [] 404,gd 428 189,gw 430 189,su 189,is 189,dI,ju,c1 m2 442 "Cond" 39 [] 447 201 4,dI,lD,cc "Cond" 437 39 197,fr 199 196 m2,dI,c2 m2 442 39 [] 447 201 [("__dict__",449,r 204),("__weakref__",451,r 205)] 452 4,c0 "Cond" 202 [r 217,r 236,r 248,r 267,r 286,r 305,r 324,r 336] 435,gd 448 203,gw 450 203,su 203,is 203,vB,ju,c1 m2 462 "Always" 41 [] 467 215 4,dI,lD,cc "Always" 457 41 211,fr 213 210 m2,dI,c2 m2 462 41 [] 467 215 [] 468 2],rB "Always" 203 208 216 455]
abbrev a2:List W:=qB [[vB,ju,c1 m2 478 "RowIs" 43 [("__init__",490,r 233)] 492 234 5,dI,lt 4 [(45,232)],cc "RowIs" 473 43 223,fr 225 222 m2],nj "__init__" "RowIs.__init__" 0 2 15 45 227 483 ["self","number"] m2,[tS 491 ["number"],c2 m2 478 43 [("__init__",490,r 233)] 492 234 [] 493 2],rB "RowIs" 203 220 235 471,[vB,ju,c1 m2 503 "Last" 47 [] 508 246 4,dI,lD,cc "Last" 498 47 242,fr 244 241 m2,dI,c2 m2 503 47 [] 508 246 [] 509 2],rB "Last" 203 239 247 496,[vB,ju,c1 m2 519 "Like" 49 [("__init__",531,r 264)] 533 265 5,dI,lt 4 [(51,263)],cc "Like" 514 49 254,fr 256 253 m2],nj "__init__" "Like.__init__" 0 2 17 51 258 524 ["self","pattern"] m2,[tS 532 ["pattern"],c2 m2 519 49 [("__init__",531,r 264)] 533 265 [] 534 2],rB "Like" 203 251 266 512,[vB,ju,c1 m2 544 "Soon" 53 [("__init__",557,r 283)] 560 284 5,dI,lt 4 [(55,282)],cc "Soon" 539 53 273,fr 275 272 m2],nj "__init__" "Soon.__init__" 0 3 18 55 277 549 ["self","many","pattern"] m2,[tS 558 ["many","pattern"],c2 m2 544 53 [("__init__",557,r 283)] 560 284 [] 561 2],rB "Soon" 203 270 285 537,[vB,ju,c1 m2 571 "FromTo" 58 [("__init__",584,r 302)] 587 303 5,dI,lt 4 [(60,301)],cc "FromTo" 566 58 292,fr 294 291 m2],nj "__init__" "FromTo.__init__" 0 3 19 60 296 576 ["self","first","second"] m2,[tS 585 ["first","second"],c2 m2 571 58 [("__init__",584,r 302)] 587 303 [] 588 2],rB "FromTo" 203 289 304 564,[vB,ju,c1 m2 598 "Not" 63 [("__init__",610,r 321)] 612 322 5,dI,lt 4 [(65,320)],cc "Not" 593 63 311,fr 313 310 m2],nj "__init__" "Not.__init__" 0 2 20 65 315 603 ["self","inner"] m2,[tS 611 ["inner"],c2 m2 598 63 [("__init__",610,r 321)] 612 322 [] 613 2],rB "Not" 203 308 323 591,[vB,ju,c1 m2 623 "End" 67 [] 628 334 4]]
abbrev a3:List W:=qB [[dI,lD,cc "End" 618 67 330,fr 332 329 m2,dI,c2 m2 623 67 [] 628 334 [] 629 2],rB "End" 203 327 335 616,[dI,ju,c1 m2 639 "Deed" 69 [] 644 346 4,dI,lD,cc "Deed" 634 69 342,fr 344 341 m2,dI,c2 m2 639 69 [] 644 346 [("__dict__",646,r 349),("__weakref__",648,r 350)] 649 4,c0 "Deed" 347 [r 369,r 381,r 393,r 405,r 424,r 443,r 462,r 481,r 500,r 519,r 538,r 550] 632,gd 645 348,gw 647 348,su 348,is 348,nh,ju,c1 m2 659 "Mark" 71 [("__init__",671,r 366)] 673 367 5,dI,lt 4 [(73,365)],cc "Mark" 654 71 356,fr 358 355 m2],nj "__init__" "Mark.__init__" 0 2 23 73 360 664 ["self","name"] m2,[tS 672 ["name"],c2 m2 659 71 [("__init__",671,r 366)] 673 367 [] 674 2],rB "Mark" 348 353 368 652,[nh,ju,c1 m2 684 "Drop" 75 [] 689 379 4,dI,lD,cc "Drop" 679 75 375,fr 377 374 m2,dI,c2 m2 684 75 [] 689 379 [] 690 2],rB "Drop" 348 372 380 677,[nh,ju,c1 m2 700 "Print" 77 [] 705 391 4,dI,lD,cc "Print" 695 77 387,fr 389 386 m2,dI,c2 m2 700 77 [] 705 391 [] 706 2],rB "Print" 348 384 392 693,[nh,ju,c1 m2 716 "Done" 79 [] 721 403 4,dI,lD,cc "Done" 711 79 399,fr 401 398 m2,dI,c2 m2 716 79 [] 721 403 [] 722 2],rB "Done" 348 396 404 709,[nh,ju,c1 m2 732 "Say" 81 [("__init__",744,r 421)] 746 422 5,dI,lt 4 [(83,420)],cc "Say" 727 81 411,fr 413 410 m2],nj "__init__" "Say.__init__" 0 2 27 83 415 737 ["self","words"] m2,[tS 745 ["words"],c2 m2 732 81 [("__init__",744,r 421)] 746 422 [] 747 2],rB "Say" 348 408 423 725,[nh,ju,c1 m2 757 "Swap" 85 [("__init__",771,r 440)] 775 441 5,dI,lt 4 [(87,439)],cc "Swap" 752 85 430,fr 432 429 m2],nj "__init__" "Swap.__init__" 0 4 28 87 434 762 ["self","pattern","words","every"] m2]
abbrev a4:List W:=qB [[tS 772 ["every","pattern","words"],c2 m2 757 85 [("__init__",771,r 440)] 775 441 [] 776 2],rB "Swap" 348 427 442 750,[nh,ju,c1 m2 786 "Join" 91 [("__init__",798,r 459)] 800 460 5,dI,lt 4 [(93,458)],cc "Join" 781 91 449,fr 451 448 m2],nj "__init__" "Join.__init__" 0 2 29 93 453 791 ["self","most"] m2,[tS 799 ["most"],c2 m2 786 91 [("__init__",798,r 459)] 800 460 [] 801 2],rB "Join" 348 446 461 779,[nh,ju,c1 m2 811 "Pile" 95 [("__init__",824,r 478)] 827 479 5,dI,lt 4 [(97,477)],cc "Pile" 806 95 468,fr 470 467 m2],nj "__init__" "Pile.__init__" 0 3 30 97 472 816 ["self","shelf","most"] m2,[tS 825 ["most","shelf"],c2 m2 811 95 [("__init__",824,r 478)] 827 479 [] 828 2],rB "Pile" 348 465 480 804,[nh,ju,c1 m2 838 "Bring" 100 [("__init__",850,r 497)] 852 498 5,dI,lt 4 [(102,496)],cc "Bring" 833 100 487,fr 489 486 m2],nj "__init__" "Bring.__init__" 0 2 31 102 491 843 ["self","shelf"] m2,[tS 851 ["shelf"],c2 m2 838 100 [("__init__",850,r 497)] 852 498 [] 853 2],rB "Bring" 348 484 499 831,[nh,ju,c1 m2 863 "Go" 104 [("__init__",875,r 516)] 877 517 5,dI,lt 4 [(106,515)],cc "Go" 858 104 506,fr 508 505 m2],nj "__init__" "Go.__init__" 0 2 32 106 510 868 ["self","name"] m2,[tS 876 ["name"],c2 m2 863 104 [("__init__",875,r 516)] 877 517 [] 878 2],rB "Go" 348 503 518 856,[nh,ju,c1 m2 888 "Add" 108 [("__init__",901,r 535)] 904 536 5,dI,lt 4 [(110,534)],cc "Add" 883 108 525,fr 527 524 m2],nj "__init__" "Add.__init__" 0 3 33 110 529 893 ["self","first","second"] m2,[tS 902 ["first","second"],c2 m2 888 108 [("__init__",901,r 535)] 904 536 [] 905 2],rB "Add" 348 522 537 881,[nh,ju,c1 m2 915 "Tell" 113 [] 920 548 4,dI,lD,cc "Tell" 910 113 544,fr 546 543 m2,dI,c2 m2 915 113 [] 920 548 [] 921 2],rB "Tell" 348 541 549 908]
abbrev a5:List W:=qB [[dI,lD,fn "made_of" "made_of"<|top 39,C "made_of" "made_of" 932 935 119 2 0 0 3 553 O 554 .none .none .none<|r 555,fO "made_of" "made_of" (top 39) m3 556],fk "beginning_of" 2 40 121 558 938 ["text","signs","many"] m3,fk "may_stand_plain" 1 48 133 565 961 ["sign"] m4,fk "pattern" 1 49 135 572 968 ["text","front","body","back","items"] m4,fk "items_of" 1 50 147 579 979 ["body","items","place","behind","many"] m4,fk "place_behind_core" 2 51 156 586 990 ["body","place","bracket"] m4,fk "many_at" 2 52 163 593 999 ["body","place"] m4,fk "item_of" 2 53 167 600 1007 ["core","many"] m4,[dI,lD,fn "set_item" "set_item"<|top 54,C "set_item" "set_item" 1015 1018 175 2 0 0 3 607 O 608 .none .none .none<|r 609,fO "set_item" "set_item" (top 54) m4 610],fk "is_written_plain" 2 55 187 612 1021 ["signs","others"] m4,fk "written" 1 56 189 619 1029 ["one","parts","signs","others","many"] m4,fk "written_core" 2 57 196 626 1040 ["signs","others"] m4,fk "may_be_empty" 1 58 204 633 1048 ["one"] m4,[dI,lD,fn "least_length" "least_length"<|top 59,C "least_length" "least_length" 1055 1058 206 1 0 0 3 640 O 641 .none .none .none<|r 642,fO "least_length" "least_length" (top 59) m4 643],fk "may_be_left_out" 1 60 208 645 1061 ["item"] m4,[tS 1070 ["row ","last","/","soon ","from ","not ","end"],dI,ju,c1 m5 1099 "Scan" 219 jz0 1157 702 10,dI,lt 4 [(221,665),(225,672),(228,679),(234,686),(238,693),(243,700)],cc "Scan" 1094 219 656,fr 658 655 m5],nj "__init__" "Scan.__init__" 0 3 70 221 660 1104 ["self","row","number"] m5]
abbrev a6:List W:=qB [nj "refuse" "Scan.refuse" 1 1 70 225 667 1113 ["self"] m5,nj "passes" "Scan.passes" 2 2 70 228 674 1120 ["self","words"] m5,nj "must_pass" "Scan.must_pass" 3 2 70 234 681 1128 ["self","words"] m5,nj "while_made_of" "Scan.while_made_of" 4 2 70 238 688 1136 ["self","signs","taken"] m5,nj "between" "Scan.between" 5 2 70 243 695 1145 ["self","sign","place","inside"] m5,[tS 1155 ["number","rest"],c2 m5 1099 219 jz0 1157 702 [("__dict__",1159,r 705),("__weakref__",1161,r 706)] 1162 4,c0 "Scan" 703 [] 1092,gd 1158 704,gw 1160 704,su 704,is 704],fk "line_of" 2 71 251 709 1165 ["row","number","scan","line"] m5,[dI,lD,fn "line_next" "line_next"<|top 72,C "line_next" "line_next" 1175 1178 257 1 0 0 3 716 O 717 .none .none .none<|r 718,fO "line_next" "line_next" (top 72) m5 719],fk "cond_next" 1 73 265 721 1181 ["scan"] m5,fk "plain_cond_next" 1 74 271 728 1188 ["scan","many","first"] m5,fk "row_or_pattern_next" 1 75 283 735 1197 ["scan"] m5,fk "deed_next" 1 76 287 742 1204 ["scan"] m5,fk "swap_next" 2 77 312 749 1211 ["scan","every","one"] m5,fk "pile_next" 1 78 316 756 1220 ["scan","shelf"] m5,fk "add_next" 1 79 321 763 1228 ["scan","first"] m5,fk "number_next" 3 80 325 770 1236 ["scan","least","most","figures","number"] m5]
abbrev a7:List W:=qB [fk "name_next" 1 81 333 777 1247 ["scan","name"] m5,fk "words_next" 1 82 338 784 1255 ["scan","words"] m5,fk "pattern_next" 1 83 343 791 1263 ["scan","text"] m5,fk "may_stand" 2 84 349 798 1271 ["cond","deed"] m5,fk "may_swap" 1 85 355 805 1279 ["deed"] m5,fk "cut" 1 87 360 812 1288 ["text","rows"] m6,fk "read" 1 90 367 819 1300 ["text","lines","marks"] m7,fk "lines_of" 1 91 372 826 1309 ["rows","lines","number","row"] m7,fk "marks_of" 1 92 379 833 1319 ["lines","marks","number","line"] m7,fk "refuse_go_without_mark" 2 93 387 840 1329 ["lines","marks","number","line"] m7,[dI,lD,fn "shown" "shown"<|top 95,C "shown" "shown" 1341 1344 392 1 0 0 3 847 O 848 .none .none .none<|r 849,fO "shown" "shown" (top 95) m8 850],fk "line_text" 1 96 394 852 1347 ["line"] m8,fk "cond_text" 1 97 398 859 1354 ["cond"] m8,fk "deed_text" 1 98 412 866 1361 ["deed"] m8,fk "pattern_text" 1 99 436 873 1368 ["one"] m8,fk "quoted" 1 100 438 880 1375 ["words"] m8]
abbrev a8:List W:=qB [fk "_law_cell_at" 2 102 441 887 1384 ["_law_script","_law_k"] m9,fk "_law_refused" 1 103 445 894 1392 ["_law_text","_law_sorts_here","_law_row","e"] m9,fk "_law_sorts" 1 104 457 901 1402 ["_law_way"] m9,fk "_law_sign" 1 105 459 908 1409 ["_law_cell","_law_some"] m9,fk "_law_otherwise" 4 106 464 915 1417 ["_law_row","_law_way","_law_at","_law_sign_here","_law_spot"] m9,fk "_law_name_of" 2 107 473 922 1428 ["_law_row","_law_word","_law_parts"] m9,fk "_law_by_marks" 1 108 478 929 1437 ["_law_rows","_law_marks","_law_k","_law_name"] m9,fk "_law_box" 1 109 491 936 1447 ["_law_cell","_law_number"] m9,fk "_law_take" 2 110 494 943 1455 ["_law_box_here","_law_many","_law_digit"] m9,[dI,lD,fn "_law_any_signs" "_law_any_signs"<|top 111,C "_law_any_signs" "_law_any_signs" 1464 1467 500 3 0 0 3 950 O 951 .none .none .none<|r 952,fO "_law_any_signs" "_law_any_signs" (top 111) m9 953],fk "_law_any_name" 1 112 502 955 1470 ["_law_box_here"] m9,fk "_law_any_words" 2 113 504 962 1477 ["_law_box_here","_law_most","_law_some"] m9,[dI,lD,fn "_law_any_set" "_law_any_set"<|top 114,C "_law_any_set" "_law_any_set" 1486 1489 507 2 0 0 3 969 O 970 .none .none .none<|r 971,fO "_law_any_set" "_law_any_set" (top 114) m9 972],fk "_law_any_item" 1 115 514 974 1492 ["_law_box_here","_law_number","_law_many","_law_behind","_law_way","_law_signs","_law_some","_law_sign_here"] m9,[dI,lD,fn "_law_any_pattern" "_law_any_pattern"<|top 116,C "_law_any_pattern" "_law_any_pattern" 1506 1509 532 2 0 0 3 981 O 982 .none .none .none<|r 983,fO "_law_any_pattern" "_law_any_pattern" (top 116) m9 984],fk "_law_any_end" 1 117 543 986 1512 ["_law_box_here","_law_number","_law_one"] m9,fk "_law_any_cond" 1 118 549 993 1521 ["_law_box_here","_law_way","_law_negated","_law_head","_law_cond","_law_number","_law_one","_law_first","_law_second"] m9]
abbrev a9:List W:=qB [[dI,lD,fn "_law_any_swap" "_law_any_swap"<|top 119,C "_law_any_swap" "_law_any_swap" 1536 1539 568 2 0 0 3 1000 O 1001 .none .none .none<|r 1002,fO "_law_any_swap" "_law_any_swap" (top 119) m9 1003],fk "_law_any_deed" 2 120 577 1005 1542 ["_law_box_here","_law_names","_law_way","_law_words","_law_number","_law_numbers","_law_name"] m9,fk "_law_any_line" 2 121 602 1012 1555 ["_law_cell","_law_names","_law_box_here","_law_way","_law_words","_law_name","_law_head","_law_cond","_law_text","_law_deed"] m9,fk "_law_any_marks" 1 122 616 1019 1571 ["_law_cells","_law_names","_law_cell","_law_box_here"] m9,fk "_law_any_lines" 1 123 623 1026 1581 ["_law_cells","_law_names","_law_made","_law_marked","_law_cell","_law_is_mark"] m9,fk "_law_mixed" 1 124 636 1033 1593 ["_law_cells","_law_made","_law_k","_law_cell","_law_number"] m9,[dI,lD,fn "law" "law"<|top 125,C "law" "law" 1604 1607 642 1 0 0 3 1040 O 1041 .none .none .none<|r 1042,fO "law" "law" (top 125) m9 1043]]
abbrev os:List W:=a0++(a1++(a2++(a3++(a4++(a5++(a6++(a7++(a8++(a9)))))))))
abbrev tr(n:Nat)(q:List<|Nat×W):mq->BT:=br 12<|ov os 0 n q
abbrev lf:Life:=⟨[],[],[],0,[],[],Zi,#[],[],0,Zi,Zi,Zi,0,[2000,10,10],Zi,0,O,[],[],0,Zi⟩
abbrev TA(w:ee)(os:OsState):SharedT:=⟨tr 15 [(3,boot_o_3),(12,lD)] w.params,15,lf,⟨[]⟩,⟨0,0,0,0⟩,187,os⟩
abbrev bE:Ee:=behindTheImports pw
abbrev nv:Env:={scope:=pw.main.scope,locals:=mainNs,globals:=mainNs,cells:=[],code:=(r 13),frame:=U 14}
abbrev cE:Code:=.body bE nv
abbrev an:D1:=(U<|r 6)
def jpd:Nat->Nat->Nat->B1
 |0,a,_=>[a]
 |k+1,a,n=>a::jpd k (a+n % 16) (n/16)
abbrev as:BM:=jpd 574 2 0x1311212112121121211212112121131121211212113112121131121211212113112121121211212112121121211212112121121211212112121121211212112121121211311212112121121211212112121121211212112121121211212112121121211212112121121211212112121121211311212311111121211212112121121211212112128112121131121211212112121121211311212112121121211212112121121211212113311731111212731111212731111212731111212731111212731111212731111212731173117311731111212731111a1173111121273111121273111121273111121273117311112127311731111a111111212a111111212a11112127311112127311112127311112127311731173117311731117c1
def sl:List W->Nat->B1->List W
 |[],_,_=>[]
 |x::l,i,q=>(match q with
  |[]=>[]
  |y::r=>(match y.beq i with
   |true=>x::sl l (i+1) r
   |false=>sl l (i+1) q))
abbrev K(P:mq):vT:=as.zip<|(sl os 0 as).map λo=>o P
abbrev vw:dv:={pw with main:={pw.main with body:=([1,2,3,4,5,6,7,8,9,11,12,13,14,15,16,17,18,19,20,21,22,23,24,25,26,27,28,29,30,31,32,33,34,36,37,38,39,40,42,43,44,45,46,47,48,49,50,51,52,53,54,55,56,57,58,59,60,62,63,64,65,66,67,68,69,70,71,72,73,74,75,76,77,78,79,80,81,82,83,84,85,87,89,90,91,92,93,95,96,97,98,99,100,102,103,104,105,106,107,108,109,110,111,112,113,114,115,116,117,118,119,120,121,122,123,124,125]:B1).map top}}
abbrev lz:Bi:=[]
abbrev BF:=[topFrame ⟨0,0,0,0⟩]
abbrev Qt(n k:Nat)(q:List (Nat×W))(w:ee)(os:OsState):SharedT:=⟨tr n q w.params,n,lf,⟨[]⟩,⟨0,0,0,0⟩,k,os⟩
abbrev Qe(n:Nat)(s:Str)(k:Nat)(d:List Z)(l:List<|Nat×Nat)(q:List (Nat×W)):List (Nat×W):=(3,di n (("__name__",165,.str s k)::d))::(12,lt 0 l)::q
abbrev T0:=Qt 76 271<|Qe 14 "rowblade.errors" 187 d0 l0 [(24,cG "BladeError" [.type "ValueError"] [r 24,.type "ValueError",.type "Exception",.type "BaseException",.type "object"] 23 [r 37,r 49,r 61,r 73] (U<|r 15) 189 "ValueError.__new__")]
abbrev T1:=Qt 152 375<|Qe 18 "rowblade.lines" 373 d1 l1 []
abbrev T2:=Qt 239 496<|Qe 23 "rowblade.lines" 373 d2 l2 [(203,c0 "Cond" 202 [r 217,r 236] 435)]
abbrev T3:=Qt 327 616<|Qe 28 "rowblade.lines" 373 d3 l3 [(203,c0 "Cond" 202 [r 217,r 236,r 248,r 267,r 286,r 305,r 324] 435)]
abbrev T4:=Qt 396 709<|Qe 33 "rowblade.lines" 373 d4 l4 [(348,c0 "Deed" 347 [r 369,r 381,r 393] 632)]
abbrev T5:=Qt 484 831<|Qe 38 "rowblade.lines" 373 d5 l5 [(348,c0 "Deed" 347 [r 369,r 381,r 393,r 405,r 424,r 443,r 462,r 481] 632)]
abbrev T6:=Qt 579 979<|Qe 55 "rowblade.patterns" 947 d6 l6 []
abbrev T7:=Qt 798 1271<|Qe 88 "rowblade.linereading" 1068 d7 l7 []
abbrev T8:=Qt 1045 1610 []
abbrev st(i n:Nat):=(bE.drop i).take n
abbrev G(k:Nat)(s t:ee->OsState->SharedT)(i n:Nat)(p q:Pos):Prop:=∀w:ee,(λos=>Fast.tw10110043849684766642 treeTable pw w 11 an 1 k (s w os)<|piecesOf (st i n) nv cE p BF)=λos=>U (Flow.next,t w os,cE,q)
def g0:G 1048 TA T0 0 6 ⟨0,0,0,0⟩ ⟨10,0,11,8⟩:=λw=>by kernel_rfl
def g1:G 992 T0 T1 6 5 ⟨10,0,11,8⟩ ⟨29,0,29,8⟩:=λw=>by kernel_rfl
def g2:G 1095 T1 T2 11 5 ⟨29,0,29,8⟩ ⟨43,0,46,28⟩:=λw=>by kernel_rfl
def g3:G 1198 T2 T3 16 5 ⟨43,0,46,28⟩ ⟨63,0,66,26⟩:=λw=>by kernel_rfl
def g4:G 1075 T3 T4 21 5 ⟨63,0,66,26⟩ ⟨77,0,78,8⟩:=λw=>by kernel_rfl
def g5:G 1200 T4 T5 26 5 ⟨77,0,78,8⟩ ⟨95,0,99,24⟩:=λw=>by kernel_rfl
def g6:G 1169 T5 T6 31 19 ⟨95,0,99,24⟩ ⟨135,0,146,31⟩:=λw=>by kernel_rfl
def g7:G 1193 T6 T7 50 34 ⟨135,0,146,31⟩ ⟨343,0,348,43⟩:=λw=>by kernel_rfl
def g8:G 1177 T7 T8 84 42 ⟨343,0,348,43⟩ ⟨642,0,661,109⟩:=λw=>by kernel_rfl
def gR(h:G k s t i n p q)(w:ee)(os:OsState):segRun treeTable pw w 11 an 1 k (s w os).abs (piecesOf (st i n) nv cE p BF)=U (Flow.next,(t w os).abs,cE,q):=segRun_of<|by rw[Fast.te10110043849684766642];exact cF (h w) os
abbrev S0(w:ee)(os:OsState):ax:=⟨boot_heap w.params,Array.mk [],boot_drawn,boot_toks,os⟩
def pre:∀w:ee,(λos=>topGo treeTable pw w 11 an 12 (S0 w os) (topStub pw))=λos=>U ((TA w os).abs,⟨denote treeTable cE,cE,⟨0,0,0,0⟩,BF⟩):=λw=>by kernel_rfl
def blk:∀w:ee,(λos=>segRun treeTable pw w 11 an 1 1 (TA w os).abs (blockOf bE nv cE ⟨0,0,0,0⟩ BF))=λos=>U (Flow.next,(TA w os).abs,cE,(⟨0,0,0,0⟩:Pos)):=λw=>by kernel_rfl
def fin:∀w:ee,(λos=>topRun treeTable pw w 11 an 2 (T8 w os).abs ⟨doneF .next,cE,⟨642,0,661,109⟩,BF⟩)=λos=>U (T8 w os).abs:=λw=>by kernel_rfl
def chn(w:ee)(os:OsState):∀l,l=(st 0 6++(st 6 5++(st 11 5++(st 16 5++(st 21 5++(st 26 5++(st 31 19++(st 50 34++(st 84 42++[])))))))))->topRun treeTable pw w 11 an (1048+(992+(1095+(1198+(1075+(1200+(1169+(1193+(1177+2))))))))) (TA w os).abs (restOf l nv cE ⟨0,0,0,0⟩ BF)=U (T8 w os).abs:=λl e=>by
 rw[e];exact piece_app (gR g0 w os)<|piece_app (gR g1 w os)<|piece_app (gR g2 w os)<|piece_app (gR g3 w os)<|piece_app (gR g4 w os)<|piece_app (gR g5 w os)<|piece_app (gR g6 w os)<|piece_app (gR g7 w os)<|piece_app (gR g8 w os)<|cF (fin w) os
def run(w:ee)(os:OsState):topRun treeTable pw w 11 an (12+(1+(1048+(992+(1095+(1198+(1075+(1200+(1169+(1193+(1177+2))))))))))) (S0 w os) (topStub pw)=U (T8 w os).abs:=go_top (cF (pre w) os)<|piece_block (cF (blk w) os)<|chn w os bE<|by kernel_rfl
def kas:∀P,as=(K P).map (·.1):=λ_=>by kernel_rfl
abbrev H:Hook:=kHook K as kas
abbrev H1(P:mq):ek:=absHeap ((tr 1045 []) P) 1045 lf
abbrev SF(w:ee)(os:OsState):ax:=⟨H1 w.params,Array.mk [],⟨0,0,0,0⟩,1610,os⟩
abbrev Xt(s:ax):Bool:=xlAt vw [] s&&recOk (RowW.records<|OpenRow.toRowW<|OpenLaw.row PySem.Challenge.rw_rowblade_k25_whole_one_sign_otherwise) s
def q1:∀w:ee,(λos=>seen (DQ (λx=>x.name)<|Nt vw) (ownsOf vw) [] {heap:=(SF w os).heap,drawn:=(SF w os).drawn,toks:=(SF w os).toks,os:=(SF w os).os})=λ_=>expectedOf vw:=λw=>by kernel_rfl
def q2:∀w:ee,(λos=>(SF w os).heap.bltView)=λ_=>bltViewBooted:=λw=>by kernel_rfl
def b1:∀w:ee,(λos=>(SF w os).heap.keysOk (looseW vw lz) (DQ (λx=>x.name)<|Nt vw) (DQ (λx=>x.fst)<|litsOf vw)<|DQ (λx=>x.name)<|clssOf vw<|looseW vw lz)=λ_=>O:=λw=>by kernel_rfl
def b2:∀w:ee,(λos=>(SF w os).heap.accountedOkI<|importedModules pw.main.body)=λ_=>O:=λw=>by kernel_rfl
def b3:∀w:ee,(λos=>(SF w os).heap.isNs eP)=λ_=>O:=λw=>by kernel_rfl
def b4:∀w:ee,(λos=>(SF w os).heap.isNs td)=λ_=>O:=λw=>by kernel_rfl
def b5:∀w:ee,(λos=>tablesOk vw (SF w os).heap)=λ_=>O:=λw=>by kernel_rfl
def b6:∀w:ee,(λos=>Xt<|SF w os)=λ_=>O:=λw=>by kernel_rfl
def q4:∀w:ee,(λos=>tabsOk vw<|SF w os)=λ_=>O:=λw=>by kernel_rfl
def q5:∀w:ee,(λos=>pinSeenD vw (Nu vw)<|SF w os)=λ_=>pinGoodD<|Nu vw:=λw=>by kernel_rfl
def q6:∀w:ee,(λos=>plainSeenE vw (looseW vw lz)<|SF w os)=λ_=>plainGoodE vw<|looseW vw lz:=λw=>by kernel_rfl
def q7:∀w:ee,(λos=>plainSeenD vw lz<|SF w os)=λ_=>plainGoodD vw lz:=λw=>by kernel_rfl
def q8:∀w:ee,(λos=>wideSeen vw<|SF w os)=λ_=>wideGood vw:=λw=>by kernel_rfl
def q9:∀w:ee,(λos=>clsSeenW vw lz<|SF w os)=λ_=>clsGoodW vw lz:=λw=>by kernel_rfl
def opn:∀w:ee,(fencedOpening treeTable pw w 20402).map (λs=>(s.heap,s.gens,s.drawn,s.toks))=U (boot_heap w.params,Array.mk [],boot_drawn,boot_toks):=boot_open (by kernel_rfl) (by decide) λs=>by kernel_rfl
def siz:∀w:ee,((boot_heap w.params).isNs eP&&(Array.mk []:Array GenState).size == 0,(boot_heap w.params).objs.size,(boot_heap w.params).nsMap eP "__annotations__")=(O,11,an):=λw=>by kernel_rfl
def lk1:∀w:ee,(λos=>(staticsOk (importedModules pw.main.body) (boot_heap w.params) (H1 w.params)&&namesBound pw (H1 w.params)&&gensDone (SF w os)&&laidKept (boot_heap w.params) (H1 w.params)))=λ_=>O:=λw=>by kernel_rfl
def lk2:∀w:ee,(λos=>openSeen vw lz (importedModules pw.main.body) Xt O<|SF w os)=λ_=>openGood vw lz:=λw=>funext λos=>looks_pair (cF (q1 w) os)<|looks_pair (cF (q2 w) os)<|looks_pair (by
 show(_&&_&&_&&_&&_&&_&&_)=O;rw[cF (b1 w) os,cF (b2 w) os,cF (b3 w) os,cF (b4 w) os,cF (b5 w) os,cF (b6 w) os];rfl)<|looks_pair (cF (q4 w) os)<|looks_pair (cF (q5 w) os)<|looks_pair (cF (q6 w) os)<|looks_pair (cF (q7 w) os)<|looks_pair (cF (q8 w) os)<|cF (q9 w) os
def sp{α b γ:Type}{f:α->γ}{g:b->γ}(n:Nat){a:List α}{k:List b}(d:(a.take n).map f=(k.take n).map g)(c:(a.drop n).map f=(k.drop n).map g):a.map f=k.map g:=by
 rw[<- List.take_append_drop n a,<- List.take_append_drop n k,List.map_append,List.map_append,d,c]
abbrev L3(f:{α:Type}->List α->List α):=∀w:ee,(λos=>(f as).map (SF w os).heap.get?)=λ_=>(f (K w.params)).map λp=>U p.2
def l3a:L3 (·.take 192):=λw=>by kernel_rfl
def l3b:L3 λl=>(l.drop 192).take 192:=λw=>by kernel_rfl
def l3c:L3 λl=>(l.drop 192).drop 192:=λw=>by kernel_rfl
def lk3:∀w:ee,(λos=>Hook.obs H<|SF w os)=λ_=>Hook.val H w:=λw=>funext λos=>sp 192 (cF (l3a w) os)<|sp 192 (cF (l3b w) os)<|cF (l3c w) os
def left:LeftO pw vw lz Xt (Hook.obs H) (Hook.val H) 20402:=LeftO.of_pieces (H₁:=H1) (gs₁:=Array.mk []) (d₁:=⟨0,0,0,0⟩) (k₁:=1610) opn siz run (by decide) λw=>funext λos=>looks_pair (cF (lk1 w) os)<|looks_pair (cF (lk2 w) os)<|cF (lk3 w) os
end KH
namespace L2
open PySem
def E2(f:Array bp->Array bp)(o:Obj):(f3 f o).dict=o.dict:=by
 unfold f3;split<;>rfl
def Ur(h:ek)(e:cq)(d:Option cq×bp):Prop:=∃o a,h.get? e=U o/\o.dict=d.1/\o.data=.fields a/\a[2]?=U d.2
variable{A:eh}{s:ax}
def E3
  (t:A.frames=U (env::outer)) (hl:s.heap.FunFrames base<|env::outer) (v:env.frame=U L)
  (he:s.heap.get? e=U f) (NP:base.StaysIn s.heap) (y:base.get? e=Y) (hd:f.data=.fields vs) (hsz:1<vs.size) (h0:vs[0]?=U a0) (x:vs[2]?=U c2)
  (h:∀h',Heap.NotedW base (env::outer) e f.cls a0 (oy L) s.heap h'->Ur h' e (f.dict,c2)->Q () {s with heap:=h'}) :
  dg M A (do let a <- frameOf env;let pl <- entryPlaceOf L u;let b <- vb c a .none (oy L) .none pl;setField (.ref e) 1 b) Q E s:=by
 have ne:e∉(env::outer).filterMap (·.frame):=λz=>by
  obtain⟨_,o,q,n⟩:=hl.mem z;rw[he]at q;cases q;exact n vs hd
 refine ag<|wpAny_frameOf_fun t hl v λg j=>ag<|wpAny_entryPlaceOf λpl i=>?_;unfold vb newFields;refine ag<|tj ?_<|i.sizeOk5 _ _ _ _ _;have p:g.get? e=U f:=(j.2.1 e ne).trans he;have b1:base.StaysIn g:=λb o q=>(j.2.1 b λz=>by rw[(hl.mem z).1]at q;cases q).trans<|NP b o q
 obtain⟨d,ë⟩:∃d:Obj,d={cls:=.type "traceback",dict:=Y,data:=.fields ([c,.ref L,.none,oy L,.none]++(if pl.isEmpty then eQ 6 gG else pl)).toArray}:=⟨_,J⟩
 rw[<- ë];have m:=b0 (h:=g) d p;have r:g.objs.size≠e:=BZ<|c4 p;have d3:=ra hd (·.setIfInBounds 1<|Value.ref g.objs.size)
 have l:=ip (f3 (·.setIfInBounds 1<|Value.ref g.objs.size)) m<|zS d3
 have t3:=(fA (g.push d) (f3 (·.setIfInBounds 1<|Value.ref g.objs.size))<|et r).trans<|dw g<|by rw[ë];rfl
 have keep:∀b o,b≠e->g.get? b=U o->((g.push d).update e<|f3 (·.setIfInBounds 1<|Value.ref g.objs.size)).get? b=U o:=λb o w q=>(fA _ _<|et w).trans<|b0 _ q
 have k:∀b o,s.heap.get? b=U o->(∀vs,o.data≠.fields vs)->b≠e:=λb o q n z=>by
  rw[z,he]at q;cases q;exact n vs hd
 refine pa m hd hsz<|h _ ⟨λb o q=>keep b o (λz=>by rw[z,y]at q;cases q)<|b1 b o q,hl.of_keeps λb o q n=>?_,?_,λb o q n=>?_⟩ ⟨_,_,l,E2 _ _,d3,by rw[rS<|by decide];exact x⟩
 .obtain⟨sl,z⟩:=j.2.2 b o q
  exact⟨_,keep b _ (k b o q n) z,J⟩
 .refine⟨_,_,g.objs.size,_,_,l,⟨Obj.cls_mapFields _ _,by rw[rS<|by decide];exact h0⟩,d3,by simp[hsz],b1.fresh,r,t3,by rw[ë],?_⟩
  first|(simp;done)|(rcases i with rfl|⟨_,_,_,_,_,_,_,rfl⟩<;>simp)
 .obtain⟨sl,z⟩:=j.2.2 b o q
  exact⟨sl,keep b _ (k b o q n) z⟩
def z8
  (NP:base.StaysIn s.heap) (hl:s.heap.FunFrames base l) (v:s.heap.TracedAtW base e cls a0 fl) (g:Ur s.heap e d)
  (h:∀h',base.StaysIn h'->h'.FunFrames base l->h'.TracedW base e cls a0->Ur h' e d->(∀b o,s.heap.get? b=U o->(∀vs,o.data≠.fields vs)->h'.get? b=U o)->Q () {s with heap:=h'}) :
  dg M A (uk (.ref e) Y) Q E s:=by
 obtain⟨t,vs,T,B,ts,k,w,hd,m,p,i,c,a,x⟩:=v;obtain⟨u,y,r,g⟩:=g;have sz:3<ts.size:=(Array.getElem?_eq_some_iff.mp x).1;have ot:∀b,b≠T->(s.heap.update T<|f3 (·.setIfInBounds 3<|(Y:Option cq).elim gG λf=>oy f)).get? b=s.heap.get? b:=λb z=>fA _ _<|et z
 have j:∀b o,s.heap.get? b=U o->(∀vs,o.data≠.fields vs)->b≠T:=λb o q n z=>by
  rw[z,c]at q;cases q;exact n ts a
 unfold uk;refine ag<|pd k hd m ?_;rw[cv<|show(Value.ref T != gG)=O by simp]
 exact pa c a sz<|h _ (λb o q=>(ot b λz=>by rw[z,p]at q;cases q).trans<|NP b o q) (hl.of_keeps λb o q n=>⟨o,(ot b<|j b o q n).trans q,J⟩)
  ⟨t,vs,T,_,_,(ot e<|et i).trans k,w,hd,m,p,i,ip _ c<|zS<|ra a _,ra a _,by simp[sz]⟩
  ⟨u,y,(ot e<|et i).trans r,g⟩ λb o q n=>(ot b<|j b o q n).trans q
def jO(base:ek)(l:List Env)(e:cq)(cls a0:bp)(d:Option cq×bp)(h:ek):Prop:=Heap.FlyingW base l e cls a0 h/\Ur h e d
section
variable{Q:L6}
def nOn(r:A.frames=U (env::outer))(l:env.frame=U L)(F:jO base (env::outer) e cls a0 d s.heap)
  (h:∀h',Heap.NotedW base (env::outer) e cls a0 (oy L) s.heap h'->Ur h' e d->Q () {s with heap:=h'}):dg M A (rg (.ref e) env) Q E s:=by
 obtain⟨⟨NP,G,hl,I,g,T,K,ts,a,⟨x,h0⟩,hd,p,C,H,c,f,m⟩,N,P,i,y,k,B⟩:=F;obtain⟨d1,d2⟩:=d;rw[a]at i;cases i;rw[hd]at k;cases k;subst x y;unfold rg;simp only[l];refine ag<|pd a hd p ?_;rw[cv<|show(Value.ref T != gG)=O by simp]
 refine ag<|pd c f m ?_;rw[cb<|show ¬ ((gG == oy L)=O) by simp[oy]]
 refine ag<|pa c f (Array.getElem?_eq_some_iff.mp m).1 ?_;have ot:∀b,b≠T->(s.heap.update T<|f3 (·.setIfInBounds 3 gG)).get? b=s.heap.get? b:=λb z=>fA _ _<|et z
 have j:∀b o,s.heap.get? b=U o->(∀g,o.data≠.fields g)->b≠T:=λb o q n z=>by
  rw[z,c]at q;cases q;exact n ts f
 exact E3 r (hl.of_keeps λb o q n=>⟨o,(ot b<|j b o q n).trans q,J⟩) l ((ot e<|et H).trans a)
  (λb o q=>(ot b λz=>by rw[z,C]at q;cases q).trans<|NP b o q) G hd (Array.getElem?_eq_some_iff.mp p).1 h0 B
  λh' ⟨w,v,u,t⟩ D=>h h' ⟨w,v,u,λb o q n=>t b o ((ot b<|j b o q n).trans q) n⟩ D
def Vv(base:ek)(l:List Env)(e:cq)(cls a0:bp)(d:Option cq×bp)(L:cq)(h:ek):Prop:=Heap.HeldW base l e cls a0 L h/\Ur h e d
def NS(a:A.frames=U (env::outer))(c:env.frame=U L)(F:jO base (env::outer) e cls a0 d s.heap)
  (h:∀h',Vv base (env::outer) e cls a0 d L h'->s.heap.UpToSlots h'->Q () {s with heap:=h'}):dg M A (rg (.ref e) env) Q E s:=
 nOn a c F λh' ⟨k1,k2,k3,b⟩ D=>h h' ⟨⟨k1,F.1.2.1,k2,k3⟩,D⟩ b
def E4(H:Vv base l e cls a0 d L s.heap)(h:∀h',jO base l e cls a0 d h'->s.heap.UpToSlots h'->Q () {s with heap:=h'}):dg M A (uk (.ref e) Y) Q E s:=by
 obtain⟨⟨j,i,g,f⟩,D⟩:=H;exact z8 j g f D λh' k1 k2 k3 c a=>h h' ⟨⟨k1,i,k2,k3⟩,c⟩ λb o q n=>⟨o.slots,a b o q n⟩
def upTo{h f e:ek}(a:h.UpToSlots f)(b:f.UpToSlots e):h.UpToSlots e:=λc o q n=>by
 obtain⟨sl,q1⟩:=a c o q n;obtain⟨d,q2⟩:=b c _ q1 n;exact⟨d,q2⟩
def Qm(b:A.frames=U (env::outer))(g:env.frame=U L)(F:jO base (env::outer) e cls a0 d s.heap)
  (h:∀h',jO base outer e cls a0 d h'->s.heap.UpToSlots h'->Q () {s with heap:=h'}):dg M A (wq env<|.ref e) Q E s:=by
 unfold wq;refine ag<|NS b g F λj H1 f=>E4 H1 λi a c=>h i ⟨⟨a.1.1,a.1.2.1,?_,a.1.2.2.2⟩,a.2⟩<|upTo f c;obtain⟨_,_,k⟩:=a.1.2.2.1;exact k
def E5(j:A.frames=U (env::outer))(g:env.frame=U L)(NP:base.StaysIn h)(hl:h.FunFrames base<|env::outer)(kp:∀b o,h.get? b=U o->s.heap.get? b=U o)(new:h.get? e=Y)
  (he:s.heap.get? e=U c) (hd:c.data=.fields vs) (h0:vs[0]?=U (.ref t)) (f:vs[1]?=U .none) (d:vs[2]?=U c2)
  (v:∀h',jO base outer e c.cls (.ref t) (c.dict,c2) h'->s.heap.UpToSlots h'->Q () {s with heap:=h'}):dg M A (wq env<|.ref e) Q E s:=by
 have fr:base.get? e=Y:=by
  cases q:base.get? e with
  |none=>rfl
  |some u=>have:=NP e u q;rw[new]at this;cases this
 unfold wq;apply ag;unfold rg;simp only[g];refine ag<|pd he hd (x:=.none) f ?_;rw[cb<|by decide]
 refine E3 (a0:=.ref t) j (hl.of_keeps λb o q _=>⟨o,kp b o q,J⟩) g he (λb o q=>kp b o<|NP b o q) fr hd (Array.getElem?_eq_some_iff.mp f).1 h0 d λf i D=>?_;obtain⟨p,n,m,l⟩:=i;refine E4 (L:=L) ⟨⟨p,fr,n,m⟩,D⟩ λd a r=>v d ⟨⟨a.1.1,a.1.2.1,?_,a.1.2.2.2⟩,a.2⟩<|upTo l r;obtain⟨_,_,k⟩:=a.1.2.2.1;exact k
end
section
variable{os:OsState}
variable{bs bm D sub rest:B2}
def Cj(F:ExcBaseFacts B newId G D)(T:OwnTail h D bm){Q:Fin->ax->Prop}
  (c:h.get? C=U (la nm q C N bs bm hdct sn sub ab col dd k0 k1 k2 k3 k5 newId)) (s:h.Ns N mN) (u:mN "__init__" = U (.ref R)) (ì:h.get? R=U oI) (í:oI.cls=.type "function")
  (p:∀h' e,ui h h' e (.ref C) rest->h.objs.size<=e->dg (cx prog w) A (call (.ref R)<|.ref e::rest) (λr s'=>r=.none/\Q (.done<|.ret<|.ref e) s') E ⟨h',g,d,t,os⟩) (n:rest.length<=de) :
  dg (cx prog w) A (Builtin.«type.__call__» ⟨.ref C::rest,[]⟩) Q E ⟨h,g,d,t,os⟩:=by
 repeat (first|with_reducible refine hW c ?_|with_reducible refine wpAny_madeBy_exc c ?_|wp_step)
 refine codeAny_call_builtin_code (kn _ F.quiet)<|wpAny_check_new_subT F T c<|codeAny_exc_new_subT F T c ?_ n;show dg _ _ _ _ _ _;obtain⟨f,i⟩:∃f:Obj,f={cls:=.ref C,data:=.fields #[.ref h.objs.size,.none,.none,.none,.bool Zi,.none]}:=⟨_,J⟩;obtain⟨a,j⟩:∃a,a=(h.push {cls:=.type "tuple",data:=.seq rest.toArray}).push f:=⟨_,J⟩;have kp:∀b o,h.get? b=U o->a.get? b=U o:=λb o z=>by rw[j];exact b0 _<|b0 _ z
 have k:a.get? (h.objs.size+1)=U f:=by rw[j];exact ro (by simp only[i4]) (by rw[i];rfl)
 have m:a.get? h.objs.size=U {cls:=.type "tuple",data:=.seq rest.toArray}:=by rw[j];exact b0 _<|ro J J
 rw[<- i,<- j];have l:a.Ns N mN:=let⟨o,es,ep,z,r⟩:=s;⟨o,es,ep,kp _ _ z,r⟩;have y:(Value.ref C::bm).contains (.ref C)=O:=by simp
 have v:f.cls=.ref C:=by rw[i]
 unfold oB
 repeat (first|(with_reducible refine hW k ?_;rw[v])|(with_reducible refine rX (kp _ _ c) ?_;rw[y])|wp_step)
 show dg _ _ (sx (.ref C) _) _ _ _;refine wpAny_typeLookup_tail (kp _ _ c) l (T.keeps kp) F.mroIs F.init.lookup ?_;rw[u];refine eJ<|ag ?_;unfold bindSpecial;refine ag<|wpAny_typeOf (T := "function") ⟨_,kp _ _ ì,í⟩ ?_;rw[cv<|by decide]
 refine dk<|ag<|eD (p a (h.objs.size+1) ⟨kp,i5<|zJ _,h.objs.size,by rw[k,i],i5<|eA _,m⟩<|zJ _) (λr s' z=>?_) λ_ _ x=>x
 obtain⟨rfl,z⟩:=z
 wp_walk
 exact z
def rC(F:ExcBaseFacts B newId G D)(T:OwnTail h D bm){Q:Kp}
  (a:h.get? C=U (la nm q C N bs bm hdct sn sub ab col dd k0 k1 k2 k3 k5 newId)) (f:h.Ns N mN) (i:mN "__init__" = U (.ref R)) (ì:h.get? R=U oI) (í:oI.cls=.type "function")
  (c:∀h' e,ui h h' e (.ref C) rest->h.objs.size<=e->dg (cx prog w) (A.under<|.builtin "type.__call__" ⟨.ref C::rest,[]⟩) (call (.ref R)<|.ref e::rest) (λr s'=>r=.none/\Q (.ref e) s') E ⟨h',g,d,t,os⟩) (b:rest.length<=de) :
  dg (cx prog w) A (call (.ref C) rest) Q E ⟨h,g,d,t,os⟩:=by
 have l:=tc_lookup;have k:=tc_bind<|.ref C;have j:(⟨h,g,d,t,os⟩:ax).TypeIs (.ref C) "type" := ⟨_,a,J⟩;refine f7<|vu ?_;show dg _ _ (callAny (.ref C) _) _ _ _
 repeat (any_goals (first|assumption|with_reducible refine hW a ?_|wp_step))
 exact⟨J,codeAny_call_builtin_at (kn _<|by decide +kernel) entry_typeCall<|wpAny_check_type_call_sub a<|Cj F T a f i ì í c b⟩
end
def Qp(j:bm.contains (.type "BaseException")=O)(c:A.handled=Y)
  (h:dg M A x (λv s1=>∃e a t,v=.ref e/\s1.heap.get? C=U (la nm q C N bs bm hdct sn sub ab col dd k0 k1 k2 k3 k5 newId)/\s1.heap.get? e=U a/\a.cls=.ref C/\a.data=.fields #[.ref t,.none,.none,.none,.bool Zi,.none]/\E (.ref e) s1) E s) :
  dg M A (EW env (U x) Y) Q E s:=by
 have cB:(Value.ref C::bm).contains (.type "BaseException")=O:=by rw[MW,j,MR]
 unfold EW;refine ag<|eD h (λv s1 z=>?_) λ_ _ x=>x;obtain⟨e,a,t,rfl,b,f,i,hd,k⟩:=z;obtain⟨l,g,d,tk,os⟩:=s1
 repeat (first|(with_reducible refine hW f ?_;first|rw[i]|simp only[hd])|with_reducible refine hW b ?_|(with_reducible refine rX b ?_;rw[cB])|simp only[hd]|wp_step)
 exact wpAny_raiseNew_none c k
end L2
namespace L2
open PySem PySem.W PyProof.Rows
section
variable{A:eh}
def Cm(j:A.handled=U (.ref a))(ne:a≠e)(he:s.heap.get? e=U d)(hd:d.data=.fields vs)(i:2<vs.size)
  (k:s.heap.get? a=U f) (î:f.data=.fields c) (l:c[2]?=U .none)
  (h:E (.ref e) {s with heap:=s.heap.update e (f3 (·.setIfInBounds 2<|.ref a))}):dg (cx prog w) A (raiseNew<|.ref e:Sem α) Q E s:=by
 unfold raiseNew;refine ag<|wpAny_handled ?_;rw[j];have g:(Value.ref a != Value.ref e)=O:=by simp[ne]
 dsimp only;rw[cv g];refine ag<|eJ<|runValue_entry (id := "proto.unchain") (b:=Builtin.«proto.unchain») (entryFor_of_fast<|by kernel_rfl) ?_
 unfold Builtin.«proto.unchain»;refine ag<|pd k î l ?_;rw[cv<|show(gG == gG)=O by decide]
 refine ag<|dk ?_;refine dk ⟨_,J,?_⟩;exact ag<|pa (a:=e) (x:=.ref a) he hd i<|wpAny_throw h
end
section
variable{A:eh}
variable{bs bm sub:B2}
def J9(R:bm.contains (.type "BaseException")=O)(M:A.handled=U (.ref a))
  (P:∀s'(I:Kp),I .none s'->dg (cx prog w) A c I E s')
  (h:dg (cx prog w) A x (λv s1=>∃e j u t m,v=.ref e/\s1.heap.get? C=U (la nm q C N bs bm hdct sn sub ab col dd k0 k1 k2 k3 k5 newId)/\s1.heap.get? e=U j/\j.cls=.ref C/\j.data=.fields #[.ref t,.none,.none,.none,.bool Zi,.none]/\C≠e/\a≠e/\s1.heap.get? a=U u/\u.data=.fields m/\m[2]?=U .none /\
   ∀h',h'.get? e=U {j with data:=.fields #[.ref t,.none,.ref a,.none,.bool O,.none]}->(∀b,b≠e->h'.get? b=s1.heap.get? b)->E (.ref e) {s1 with heap:=h'}) E s) :
  dg (cx prog w) A (EW env (U x)<|U c) Q E s:=by
 have cB:(Value.ref C::bm).contains (.type "BaseException")=O:=by rw[MW,R,MR]
 unfold EW;refine ag<|eD h (λv s1 z=>?_) λ_ _ x=>x;obtain⟨e,j,u,t,m,rfl,H,F,K,hd,W,ne,S,î,T,G⟩:=z;obtain⟨y,g,d,tk,os⟩:=s1;refine ag<|eJ<|P _ _<|ag<|dk ?_;obtain⟨V,od,L,D⟩:=j;dsimp only at K hd G;subst K hd;have r:∀(h:ek)(o B:Array bp),h.get? e=U ⟨.ref C,od,.fields o,D⟩->∀i v,o.setIfInBounds i v=B->(h.update e<|f3 (·.setIfInBounds i v)).get? e=U ⟨.ref C,od,.fields B,D⟩:=λh o B q i v z=>by
  subst z;exact ip _ q J
 have p:∀(h:ek)(f:Obj->Obj)b,b≠e->(h.update e f).get? b=h.get? b:=λh f b n=>fA _ _<|et n;apply ag;apply eJ;unfold excFromValue
 repeat (first|(with_reducible refine hW F ?_)|with_reducible refine hW H ?_|(with_reducible refine rX H ?_;rw[cB])|wp_step)
 have l:=r _ _ _ (r y _ _ F 3 .none J) 4 (.bool O) J;have k:∀b,b≠e->((y.update e<|f3 (·.setIfInBounds 3 .none)).update e<|f3 (·.setIfInBounds 4<|.bool O)).get? b=y.get? b:=λb n=>(p _ _ b n).trans<|p _ _ b n
 refine Cm M ne l J (show 2<6 by decide) ((k a ne).trans S) î T<|G _ (r _ _ _ l 2 (.ref a) J) λb n=>(p _ _ b n).trans<|k b n
end
end L2
namespace L2
open PySem PySem.W PyProof.Rows Builtin Builtin.ObjectAttr
abbrev Qq:B2:=[.type "ValueError",.type "Exception",.type "BaseException",.type "object"]
def z9:B2->Bool
 |.ref _::.ref _::r=>r == Qq
 |_=>Zi
def vC(h:z9 l=O):∃a b,l=.ref a::.ref b::Qq:=by
 unfold z9 at h;split at h
 .exact⟨_,_,by rw[beq_iff_eq.mp h]⟩
 .cases h
structure nk(K:vT)(C:cq):Prop where
 ga:pB K (.ref C) "__getattribute__" = U (U<|.builtin Mo)
 gn:pB K (.ref C) "__getattr__" = U Y
 sa:pB K (.ref C) "__setattr__" = U (U<|.builtin "object.__setattr__")
 hd:hasDictIn K C=O
 ov:(clsIn K C).any (λcd=>z9 cd.mro)=O
section
variable{prog:dv}{w:ee}{A:eh}{E:Kp}{s:ax}{K:vT}{x C d:cq}{S:Obj}{od:Option Obj}{name:Str}{v:bp}{T:Str->D1}{R:Array bp}
def Vw{tk:Tok}{R:IH->ax->Prop}(X:K.In s.heap)(I:InstAt s.heap x S C od)(Z:nk K C)(c:pB K (.ref C) name=U Y)
  (h:dg (cx prog w) A.in1 (storeInOwnDict (.ref x) (.ref C) (.str name tk) name v Zi)
   (λfin s'=>match fin with|.done f=>R (.ok f) s'|.again c'=>c'.quiet=O/\hZ (cx prog w) A c' R s') (λe s'=>R (.error e) s') s) :
  hZ (cx prog w) A (.call (.builtin "object.__setattr__") ⟨[.ref x,.str name tk,v],[]⟩) R s:=by
 have SF:=PySem.F.store_object;obtain⟨i,a,d⟩:=y6 Z.ov;obtain⟨p,q,b⟩:=vC d;have sub:sq (cx prog w) s.heap (oB (.ref x)<|.type "object") O:=I.type.andThen<|pz X<|by unfold mroIn;rw[a,MF,b];rfl
 refine fw SF.slot.plain SF.entry<|@check_slot (cx prog w) _ _ s "object.__setattr__" "object" "__setattr__" (.ref x) [.str name tk,v] [] _ SF.kind SF.split sub (SF.args (.ref x) (.str name tk) v) ?_;have g:sq (cx prog w) s.heap (mroOf<|.ref C) i.mro:=(looks_clsIn X a).andThen .now;have L3:sq (cx prog w) s.heap (storeTaker? Y) Y:=.now;rw[osa_eq,refuse_eq];refine ag<|ag<|I.type.here<|ag<|g.here ?_;rw[b,refuseLoop_ref,refuseLoop_ref,PySem.F.store_ValueError.passes];exact dk<|ag<|I.type.here<|ag<|(ll X c).here<|ag<|L3.here h
def Vx{Q:L6}(X:K.In s.heap)(Z:nk K C)(u:pB K (.ref C) name=U Y)(f:s.heap.get? x=U S)(i:S.cls=.ref C)(l:S.data=.fields R)(n:S.dict=Y)
  (h:∀h' t',h'.get? x=U {S with dict:=U s.z}->h'.Ns1 s.z (λy=>if y=name then U v else Y)->(∀b o,b≠x->s.heap.get? b=U o->h'.get? b=U o)->Q () {s with heap:=h',toks:=t'}) :
  dg (cx prog w) A (setAttr (.ref x) name v) Q E s:=by
 obtain⟨N,q,r,k⟩:=S;dsimp only at i l n;subst i l n;have T:InstAt s.heap x ⟨.ref C,Y,.fields R,k⟩ C Y:=⟨f,J,J,trivial⟩;refine set_plain X T Z.sa<|Vw (s:={s with toks:=s.toks+1}) X T Z u ?_
 obtain⟨P,i,L⟩:=y6 Z.hd;obtain⟨c,g,G,t,os⟩:=s;dsimp only at f h ⊢;refine ag<|dk<|ag<|ag<|yB f<|ag<|MI.here (s:=⟨c,g,G,t+1,os⟩) (looks_clsIn X i) ?_;rw[L];have a:(c.push {cls:=.type "dict",data:=.dict #[]}).get? x=U ⟨.ref C,Y,.fields R,k⟩:=b0 _ f;have d:x≠c.objs.size:=dP<|c4 f;refine ag<|wpAny_alloc' ?_;refine ag<|wpAny_update' a ?_;apply dk;have j:((c.push {cls:=.type "dict",data:=.dict #[]}).update x λo=>{cls:=o.cls,dict:=U c.objs.size,data:=o.data,slots:=o.slots}).get? c.objs.size=U {cls:=.type "dict",data:=.dict #[]}:=
  (CG _ _ _ _ d.symm).trans<|ro J J
 have H:((c.push {cls:=.type "dict",data:=.dict #[]}).update x λo=>{cls:=o.cls,dict:=U c.objs.size,data:=o.data,slots:=o.slots}).Ns c.objs.size λ_=>Y:=
  ⟨_,#[],_,j,J,λe z=>dy z<|by simp,λ_=>J⟩
 show dg _ _ (storeInDict c.objs.size (.str name t) name v) _ _ _;unfold storeInDict newKeyGuard;refine ag<|dk<|ag<|wpAny_nsSet1 (zi H) λh' p m=>?_;obtain⟨oD,D,F,I,Ö,M⟩:=p.count<|Within.cons name v Within.nil;refine ag<|wpAny_lookBehind I (by rw[Ö];exact pastItsLine_dict<|eY M<|by rw[eu,xJ,ez];exact zL ..) ?_
 refine dk<|h h' _ ((m.2 x d).trans<|ip _ a J) p λb o B e=>(m.2 b<|dP<|c4 e).trans<|(CG _ _ _ _ B).trans<|b0 _ e
def yd(Z:nk K C)(X:K.In s.heap)(he:s.heap.get? x=U S)(i:S.cls=.ref C)(c:Q () s) :
  dg M A (ma Mo ⟨[.ref x,a],[]⟩) Q E s:=by
 obtain⟨h,g,d,t,os⟩:=s;obtain⟨m,j,e⟩:=y6 Z.ov;obtain⟨p,q,k⟩:=vC e;have L0:sq M h (sr<|.ref x)<|.ref C:=i▸(og he).andThen .now;have L4:=pz (M:=M) (base:=.type "BaseException") (r:=O) X (by unfold mroIn;rw[j,MF,k];rfl)
 have f:builtinKind Mo = U .slot:=by decide +kernel
 have b:splitId Mo = U ("BaseException","__getattribute__"):=by decide +kernel
 have l:=F.args_bexc_ga (.ref x) a;simp only[ma,f,b];apply ag;unfold oB;refine ag<|L0.at<|L4.at ?_
 repeat (first|wp_step)
 exact c
def ï(X:K.In s.heap)(Z:nk K C)(o:pB K (.ref C) name=U Y)(c:s.heap.get? x=U S)(i:S.cls=.ref C)(e:S.data=.fields R)(f:S.dict=U d)(j:s.heap.Ns1 d T)(n:T name=U v)(q:handedIn v=O)
  (h:Q v {s with toks:=s.toks+1}):dg (cx prog w) A (H9 (.ref x) name a) Q E s:=by
 obtain⟨y,k,l,m⟩:=S;dsimp only at i e f;subst i e f;obtain⟨od,p,hl⟩:=qY j;have G:InstAt s.heap x ⟨.ref C,U d,.fields R,m⟩ C<|U od:=⟨c,J,J,p⟩;obtain⟨z,g,B,t,os⟩:=s;have L0:=G.type (M:=cx prog w);have L1:=ll (M:=cx prog w) X Z.ga;have L2:=ll (M:=cx prog w) X Z.gn;have D:=looks_find (M:=cx prog w) (name:=name) (r:=.value v) X G<|findObj_own Z.hd o J<|by rw[hl,n]
 have u:=F.excAttr_ValueError.ga.bind<|.ref x;have b:(a&&onTheHeap (hH Mo))=Zi:=by cases a<;>rfl
 have ð:(hH Mo == hH "object.__getattribute__")=Zi:=by decide +kernel
 have ñ:(onTheHeap (Value.ref C)&&hH Mo == hH "object.__getattribute__")=Zi:=by rw[ð];rfl
 unfold H9 getAttrBy;refine ag<|wpAny_mkText<|eJ<|ag<|L0.at<|ag<|L1.at ?_;dsimp only;rw[ñ,cb<|by decide]
 unfold getAttrByItsOwn;apply ag;show dg _ _ (sx (.ref C) "__getattr__") _ _ _;refine L2.at ?_;refine ag<|z4<|eJ ?_;unfold callGetattribute;rw[b];show dg _ _ (p0 _ _ _) _ _ _;unfold p0;rw[u];refine ag<|dk ?_;refine f7<|fw F.excAttr_ValueError.ga.plain F.entry_bexc_ga ?_;refine yd Z X c J ?_;unfold «object.__getattribute__»
 repeat lk
 show dg _ _ (handedOut v) _ _ _;rw[handedOut_of q];exact dk h
end
end L2
namespace L2
open PySem PyProof.Rows
def EX(a:cq)(b:Obj):HO:=.ext λh=>h.get? a=U b
def XD(d:cq)(fs:List<|Str×V):HO:=.ext λh=>∃a,h.Ns1 d a/\n5 a (fs.map (·.1))/\∀f,iV (fs.lookup f)<|a f
section
variable{P:dv}{w:ee}{H:Hp}{h:ek}{a d:cq}{fs:List<|Str×V}
def EX.mk(e:h.get? a=U j):bV P w H h a<|EX a j:=⟨e,⟨_,e⟩,λ_ _ p k=>k _ p⟩
def EX.at_(x:bV P w H h a<|EX a j):h.get? a=U j:=x.1
def XD.mk{a:Str->D1}(n:h.Ns1 d a)(b:n5 a<|fs.map (·.1))(r:∀f,iV (fs.lookup f)<|a f):bV P w H h d<|XD d fs:=
 ⟨⟨a,n,b,r⟩,(let⟨o,_,_,e,_⟩:=n;⟨o,e⟩),by rintro _ _ ⟨a,n,b,r⟩ k;exact⟨a,n.at k,b,r⟩⟩
end
section
variable{A:eh}{u y:V}
def lk1(x:Str):iT x [(f,u)]=if x=f then U u else Y:=by
 by_cases h:x=f
 .have a:(x == f)=O:=beq_iff_eq.mpr h
  simp only[iT,a,cv h]
 .have a:(x == f)=Zi:=beq_eq_false_iff_ne.mpr h
  simp only[iT,a,cb h]
def J_{Q:L6}(I:Inv X F R H s)(Z:nk X.K C)(nf:cO X.K C f)(i:H a=U (EX a B))(p:B.cls=.ref C)(l:B.data=.fields G)(n:B.dict=Y)(k:RelV u D)
  (h:∀d s',H d=Y->d≠a->Inv X F R (upd (upd H d<|XD d [(f,u)]) a<|EX a {B with dict:=U d}) s'->Q () s'):dg (mX X) A (setAttr (.ref a) f D) Q E s:=by
 have c:=EX.at_<|I.bA a _ i;refine Vx I.iw Z nf c p l n λh' t' j ns keep=>h s.z _ (I.bA.fresh<|eA _) (BZ<|c4 c) ?_;obtain⟨oD,y,z,g,r⟩:=id ns;have m:(s.heap.push oD).get? s.z=U oD:=dw _ (Heap.get?_some_iff.mp g).2;have v:=I.laid (a:=s.z) (o:=XD s.z [(f,u)]) (h':=s.heap.push oD) (t':=s.toks) (λb u q=>b0 _ q) (eA _)
 <|XD.mk (ns.at λo q=>by rw[g]at q;cases q;exact m) (λx c=>?_) λx=>?_
 .refine v.write (x:=a) (e:=a) (t':=t') (by rw[ai<|dP<|c4 c,i];exact gL) (.inl J) (λb o t q=>?_) ⟨_,j⟩<|EX.mk j
  rcases Heap.get?_push_cases q with⟨rfl,rfl⟩|q
  .exact g
  .exact keep b o t q
 .by_cases q:x=f
  .rw[q];simp
  .exact dy (cb q) c
 .rw[lk1]
  by_cases q:x=f
  .rw[cv q,cv q];exact k
  .rw[cb q,cb q];trivial
end
def Dm(C:cq)(f:Str):Sp:=λe H Q _=>∃a u b c,e=[.ref a,u]/\H a=U (EX a b)/\b.cls=.ref C/\b.data=.fields c/\b.dict=Y/\∀d,H d=Y->d≠a->Q .non (upd (upd H d<|XD d [(f,u)]) a<|EX a {b with dict:=U d})
def E7(Z:nk X.K C)(nf:cO X.K C f)(i:X.N=[sn,p])(n:kg X.env.scope sn)(m:kg X.env.scope p)
  (d1:aX sn/\fh sn) (d2:aX p/\fh p) :
  gY X [.Assign [.Attribute (.Name sn a1) f a2] (.Name p a3) a4] λD b H=>∃vs,b=vs.map U/\Dm C f vs H (λ_ H'=>D.nx b H') λ_ _ _=>False:=by
 intro j s b H D I h;obtain⟨vs,e,a,u,S,Q,rfl,B,A,w,z,k⟩:=h;subst e;have G:X.N[0]?=U sn:=by rw[i];rfl
 have F:X.N[1]?=U p:=by rw[i];rfl
 refine lx<|uc (b7 (bL F m d2.1 d2.2 j s _ H (λy H1=>y=u/\H1=H) I ⟨u,J,J,J⟩) λR o c=>?_) J;obtain⟨y,H1,P,r,E,g⟩:=c;subst E g;refine b7 (bL G n d1.1 d1.2 j o _ _ (λx l=>x=.ref a/\l=H1) P ⟨.ref a,J,J,J⟩) λav s2 c=>?_;obtain⟨x,l,M,q,ex,g⟩:=c;subst ex g
 obtain rfl:av=Value.ref a:=q
 exact J_ M Z nf B A w z r λd s3 v t L=>iH ⟨_,_,L,k d v t⟩
end L2
namespace L2
open PySem PySem.W PyProof.Rows
structure Lies(P:dv)(w:ee)(stack:List Env)(H:Hp)(s:ax)(H':Hp)(B h:ek):Prop where
 un:Un (kc stack) [] H H' s.heap h
 bA:jL P w H' h
 Jr:∀c u,H' c=U u->∃o,B.get? c=U o
 old:∀b o,s.heap.get? b=U o->b∉kc stack->∃o',B.get? b=U o'
variable{C:cq}{X:Cx}{B:ek}{H H':Hp}{s:ax}{E:XK}
section
variable{stack outer:List Env}
def Lies.on(L:Lies P w stack H s H' B h)(st:B.StaysIn h)(t:B.StaysIn h')(v:h.UpToSlots h')(x:h.FunFrames B stack):Lies P w stack H s H' B h':=by
 have g:∀b o,b∈kc stack->h.get? b=U o->∃sl,h'.get? b=U {o with slots:=sl}:=λb o i e=>by
  obtain⟨_,j,r,d⟩:=x.mem i;rw[e]at r;cases r;exact v b o e d
 have f:∀b o,(∃j,B.get? b=U j)->h.get? b=U o->h'.get? b=U o:=λb o ⟨j,q⟩ e=>by
  have:=st b j q
  rw[e]at this;cases this;exact t b _ q
 refine⟨⟨λb o e n i k=>f b o (L.old b o e i)<|L.un.keep b o e n i k,λb o e n i k=>?_,L.un.free,λb o e k=>?_,L.un.mX,L.un.lu,L.un.mY⟩,λa o e=>?_,L.Jr,L.old⟩
 .obtain⟨sl,l⟩:=L.un.slot b o e n i k
  obtain⟨y,p⟩:=g b _ i l;exact⟨y,p⟩
 .obtain⟨j,l⟩:=L.un.there b o e k
  by_cases i:b∈kc stack
  .obtain⟨sl,p⟩:=g b _ i l
   exact⟨_,p⟩
  .exact⟨j,f b j (L.old b o e i) l⟩
 .refine(L.bA a o e).oF (λc u m q=>f c u ?_ q) (λ_ q=>q) λ_ _ q=>q
  rcases m with rfl|m
  .exact L.Jr _ _ e
  .exact L.Jr _ _ m
end
def rD(P:dv)(w:ee):Dk:=λstack H s E e b=>∃a t C d c2 H' B,e=.ref a/\b.os=s.os/\kz b.gens/\Lies P w stack H s H' B b.heap/\jO B stack a (.ref C) (.ref t) (d,c2) b.heap/\(d=Y->c2=.none)/\E (.ref C) d H'
def mD(x:bV P w H h a o):∃ob,h.get? a=U ob:=by
 induction o with
 |lst xs=>obtain⟨_,_,_,_,e⟩:=x;exact⟨_,e⟩
 |tup xs=>obtain⟨_,_,_,ob,e,_⟩:=x;exact⟨ob,e⟩
 |dK b=>obtain⟨_,_,_,_,ob,_,_,e,_⟩:=x;exact⟨ob,e⟩
 |dT b=>obtain⟨_,_,_,_,ob,_,_,e,_⟩:=x;exact⟨ob,e⟩
 |set S n=>obtain⟨ob,_,_,_,e,_⟩:=x;exact⟨ob,e⟩
 |ins C g fs=>obtain⟨_,_,_,e,_⟩:=x;exact⟨_,e⟩
 |own y=>exact x
 |xd fs=>obtain⟨_,⟨ob,_,_,e,_⟩,_⟩:=x;exact⟨ob,e⟩
 |oz lo d=>obtain⟨_,_,_,e⟩:=x;exact⟨_,e⟩
 |j_ o u _=>exact⟨o,x.1⟩
 |tbl ps=>exact⟨_,x⟩
 |met f y=>exact⟨_,x⟩
 |ext c=>exact x.2.1
structure ye(X:Cx)(E:XK):Prop where
 lv:∀e s',Md X (wq X.env e) (λ_ JW=>rD X.prog X.w X.outer X.H₀ X.s₀ E e JW) (λe' JW=>rD X.prog X.w X.outer X.H₀ X.s₀ E e' JW) s'->X.xe e s'
 st:X.stack=X.env::X.outer
 ex:X.ex=[]
 fr:X.env.frame=U X.env.locals
 cm:X.calm=O
def z_(Z:ye X E)(I:Inv X Q R H s)(old:∀b o,s.heap.get? b=U o->b∉kc X.stack->∃a,B.get? b=U a) :
  ∀b o,X.s₀.heap.get? b=U o->b∉kc X.outer->∃a,B.get? b=U a:=λb o e c=>by
 obtain⟨a,d⟩:=I.base.there b o e (by rw[Z.ex];simp)
 refine old b a d λz=>?_;rcases bF.mp (I.jN b z)with q|q
 .exact dy q<|dP<|eS (c4 e) I.ok.above
 .exact c q
def Vz(Z:ye X E):Passes (rD X.prog X.w) X E:=by
 rintro Q R H s e f I ⟨a,t,C,d,c2,H',B,rfl,j,g,L,F,k,q⟩
 apply Z.lv;have c:Inv X Q R H' f:=I.Ed j L.un L.bA g λb z=>dy z<|by simp
 rw[Z.st]at F;refine Qm (L:=X.env.locals) (by rw[I.ok.frames,Z.st]) Z.fr F λl h i=>?_
 refine⟨a,t,C,d,c2,H',B,J,c.os,g,?_,h,k,q⟩;have L2:Lies X.prog X.w X.outer X.H₀ X.s₀ H' B f.heap:=⟨by have:=c.base;rw[Z.ex]at this;exact this,c.bA,L.Jr,z_ Z I L.old⟩
 exact L2.on F.1.1 h.1.1 i F.1.2.2.1.2.2
def nq(H:Hp)(e:cq):Hp:=λb=>if b=e then Y else H b
def E8(Z:ye X E)(I:Inv X Q R H s){e t:cq}{c2:bp}{vs:Array bp}{d:Obj}(r:H e=U (EX e d))(K:d.cls=.ref C)(hd:d.data=.fields vs)(z0:vs[0]?=U (.ref t))(A:vs[1]?=U .none)(x:vs[2]?=U c2)(G:d.dict=Y->c2=.none)(h0:X.s₀.heap.get? e=Y)
  (q:E (.ref C) d.dict<|nq H e):X.xe (.ref e) s:=by
 apply Z.lv;have j:=EX.at_<|I.bA e _ r;have l:s.heap.FunFrames (mr s.heap<|e::kc X.stack) X.stack:=funFrames_hide I.stack λenv j b k=>bw _<|DM.mpr ⟨env,j,k⟩;have M:(mr s.heap<|e::kc X.stack).StaysIn s.heap:=λb o q=>y0 _ q;have i:(mr s.heap [e]).FunFrames (mr s.heap<|e::kc X.stack) X.stack:=l.of_keeps λb o q n=>⟨o,n6 _ q λz=>by
  have z:b=e:=by simpa using z
  rw[z,j]at q;cases q;exact n _ hd,J⟩
 rw[Z.st]at i;refine E5 (L:=X.env.locals) (base:=mr s.heap<|e::kc X.stack) (h:=mr s.heap [e]) (by rw[I.ok.frames,Z.st]) Z.fr (λb o q=>?_) (by rw[Z.st];exact i) (λb o q=>y0 _ q) (hideAll_none _<|by simp) j hd z0 A x λN p B=>?_
 .refine n6 _ (y0 _ q) λz=>?_
  have z:b=e:=by simpa using z
  rw[z,hideAll_none _<|eX]at q;cases q
 rw[K]at p;refine⟨e,t,C,d.dict,c2,nq H e,_,J,I.os,I.bare,?_,p,G,q⟩;have off:∀{b u},H b=U u->(∀v,u≠.ext v)->nq H e b=U u:=λ{b u} z n=>by
  unfold nq;rw[cb λy=>by rw[y,r]at z;exact n _ (j8.inj z).symm]
  exact z
 have g:∀{b u},nq H e b=U u->b≠e/\H b=U u:=λ{b u} z=>by
  unfold nq at z;split at z
  .cases z
  .rename_i n;exact⟨n,z⟩
 have a:=I.base;rw[Z.ex]at a;have L2:Lies X.prog X.w X.outer X.H₀ X.s₀ (nq H e) (mr s.heap<|e::kc X.stack) s.heap:=by
  refine⟨⟨a.keep,a.slot,λb o z n F=>?_,a.there,λb xs z=>off (a.mX b xs z) (λ_ y=>nomatch y),λb o u z=>off (a.lu b o u z) (λ_ y=>nomatch y),λb ps z=>?_⟩,λb u z=>?_,λc u z=>?_,λb o z k=>?_⟩
  .unfold nq
   split
   .rfl
   .exact a.free b o z n F
  .obtain⟨f,z⟩:=a.mY b ps z
   exact⟨f,off z λ_ y=>nomatch y⟩
  .obtain⟨n,z⟩:=g z
   exact(I.bA b u z).oF (λ_ _ _ q=>q) (λc q=>off q λ_ y=>nomatch y) λc xs q=>off q λ_ y=>nomatch y
  .obtain⟨n,z⟩:=g z
   obtain⟨ob,m⟩:=mD<|I.bA c u z;refine⟨ob,n6 _ m λy=>?_⟩;rcases bF.mp y with y|y
   .exact n y
   .rw[I.nE c y]at z;cases z
  .obtain⟨D,m⟩:=a.there b o z (by simp)
   refine⟨D,n6 _ m λy=>?_⟩;rcases bF.mp y with y|y
   .rw[y,h0]at z;cases z
   .rcases bF.mp (I.jN b y)with q|q
    .exact dy q<|dP<|eS (c4 z) I.ok.above
    .exact k q
 rw[Z.st]at l;exact L2.on M p.1.1 B (by rw[Z.st];exact l.2.2)
def NT:Data->Option ClassData
 |.cls c=>U c
 |_=>Y
def Cn(h:NT d=U c):d=.cls c:=by
 cases d<;>cases h;rfl
def E9(K:vT)(C b:cq):Bool:=(K.lookup C).any λo=>(NT o.data).any λa=>o.cls == .type "type" && a.mro == .ref C::a.mro.tail&&o.slots == #[o.slots.getD 0 Y,o.slots.getD 1 Y,o.slots.getD 2 Y,o.slots.getD 3 Y,U (.builtin "ValueError.__new__"),o.slots.getD 5 Y]&&a.hasDel == Zi&&tailIn K Qq a.mro.tail&&nsOkIn K a.ns&&nsIn K a.ns "__init__" == U (U<|.ref b)
def yf{K:vT}(X:K.In h)(G:h.Ns N mg)(e:nsIn K N n=U (U v)):mg n=U v:=by
 obtain⟨o,i,j,b,hd,_,d⟩:=G;unfold nsIn at e;split at e
 .rename_i c1 d1 ò g a c
  have:=X _ _ c
  rw[b]at this;cases this;cases hd;split at e
  .rename_i k f
   cases e
   have:=d n
   unfold nsFind findBy at this;rw[<- ER,f]at this;exact this.symm
  .split at e<;>cases e
 .cases e
def vE{K:vT}(X:K.In h)(q:E9 K C b=O) :
  ∃bm N nm f bs hd sn sub ab col dd k0 k1 k2 k3 k5,h.get? C=U (la nm f C N bs bm hd sn sub ab col dd k0 k1 k2 k3 k5 "ValueError.__new__")/\h.Ns N (h.nsMap N)/\h.nsMap N "__init__" = U (.ref b)/\OwnTail h Qq bm:=by
 obtain⟨o,lo,q⟩:=y6 q;obtain⟨a,i,q⟩:=y6 q;simp only[bZ,beq_iff_eq]at q;obtain⟨⟨⟨⟨⟨⟨ct,g⟩,d⟩,k⟩,ó⟩,c⟩,j⟩:=q;have e:o=la a.name a.qualname C a.ns a.bases a.mro.tail a.hasDict a.slotNames a.subclasses a.abstract a.collection o.dict (o.slots.getD 0 Y) (o.slots.getD 1 Y) (o.slots.getD 2 Y) (o.slots.getD 3 Y) (o.slots.getD 5 Y) "ValueError.__new__" := by
  unfold la;rw[<- ct,<- g,<- d,<- k,<- Cn i]
 exact⟨_,_,_,_,_,_,_,_,_,_,_,_,_,_,_,_,(X _ _ lo).trans<|ey U e,.of_isNs<|isNs_of_in X c,yf X (.of_isNs<|isNs_of_in X c) j,tail_of_in X ó⟩
def Ab{e d:cq}{f a c:HO}(fr:H1 e=Y)(g:d≠e)(h:H'=upd (upd (upd H1 e f) d a) e c):nq H' e=upd H1 d a:=by
 rw[h]
 funext b
 unfold nq upd;by_cases h1:b=e
 .subst h1;rw[cv J,cb<|et g];exact fr.symm
 .rw[cb h1,cb h1]
  by_cases h2:b=d
  .rw[cv h2,cv h2]
  .rw[cb h2,cb h2,cb h1]
def Co(Z:ye X E)(q:E9 X.K C fI=O)(kp:keepIn X.K (.ref C)=O)(y:isFn X.K (.ref fI)=O)(F:cj X.prog X.w X.K X.mg X.base iL 1 fI fd ps<|Dm C f)(hb:Binds X.K fd ps [])(hr:bj 2 X.A)(hm:X.mg x=U (.ref C))(ha:PA X (e::es) t)(hg:Gl X x)(gB:aX x)
  (he:dn (e::es) X.env=(Zi,fC e X.env)::dn es X.env) (hpl:(hQ bB<|dn es X.env).any (·.1)=Zi) :
  PS X (.Raise (U<|.Call (.Name x np) (e::es) [] bB) Y pos) λ_ l H=>t l H λvs H1=>∃u,vs=[u]/\∀d,H1 d=Y->E (.ref C) (U d) (upd H1 d<|XD d [(f,u)]):=by
 intro aa s l H D I h;obtain⟨bm,N,nm,qn,bs,hd,sn,sub,ab,col,dd,k0,k1,k2,k3,k5,Q,hN,VA,T⟩:=vE I.mod.kin q;have FB:=md;have hf:∃oI,X.base.get? fI=U oI/\oI.cls=.type "function" := by
  have y:=beq_iff_eq.mp y;obtain⟨o,ho,e⟩:=d_.mp<|show(X.K.lookup fI).map (·.cls)=U (.type "function")from y
  exact⟨o,I.mod.kin _ _ ho,e⟩
 obtain⟨oI,ô,õ⟩:=hf;rw[arm_exec_Raise];refine ag<|gN<|Qp (C:=C) (nm:=nm) (q:=qn) (N:=N) (bs:=bs) (bm:=bm) (hdct:=hd) (sn:=sn) (sub:=sub) (ab:=ab) (col:=col) (dd:=dd) (k0:=k0) (k1:=k1) (k2:=k2) (k3:=k3) (k5:=k5) (newId := "ValueError.__new__")
  (T.hasType FB.hasBase) (I.ok.hd Z.cm)<|ag<|eD (ew<|fE I hg hm ?_ gB) (λv L k=>ag<|gN<|dk k) λ_ _ x=>x
 refine callWith_K (h₀:=X.base) I.ok.mod.kin kp (b7 (ha bB aa s l H _ I h) λb s1 zz=>?_) he hpl;obtain⟨vs,H1,i,r,u,ev,q1⟩:=zz;refine⟨i.iw,?_⟩;subst ev;obtain⟨hp,gn,W,tk,os⟩:=s1;refine rC (rest:=b) FB (T.keeps i.bk) (i.bk _ _ Q) (hN.keeps i.bk) VA (i.bk _ _ ô) õ (λh' e Qs B=>?_) (by rw[<- r.length];show 1<=de;decide)
 obtain⟨p,Qt,_,_⟩:=Qs.there;obtain⟨g,c⟩:∃g:Obj,g={cls:=.ref C,data:=.fields #[.ref p,.none,.none,.none,.bool Zi,.none]}:=⟨_,J⟩;rw[<- c]at Qt;have G:Inv X aa l (upd H1 e<|EX e g) ⟨h',gn,W,tk,os⟩:=i.laid (a:=e) (h':=h') (t':=tk) Qs.keeps B<|EX.mk Qt;have M:Vals (V.ref e::[u])<|Value.ref e::b:=.cons J r;have sp:Dm C f (V.ref e::[u]) (upd H1 e<|EX e g) (λw H'=>w=.non/\∃d,H1 d=Y/\d≠e/\H'=upd (upd (upd H1 e<|EX e g) d<|XD d [(f,u)]) e (EX e {g with dict:=U d})) λ_ _ _=>False:=
  ⟨e,u,g,_,J,ak,by rw[c],by rw[c],by rw[c],λd n m=>⟨J,d,by rw[ai m]at n;exact n,m,J⟩⟩
 have hl:(Value.ref e::b).length=ps.length:=by rw[<- M.length];exact F.len _ _ _ _ sp
 have P:=hb ⟨h',gn,W,tk,os⟩ (Value.ref e::b) G.iw (by rw[bG];exact hl)
 rw[bG]at P;refine f7<|gs (F.run _ X.stack _ _ ⟨Value.ref e::b,[]⟩ (Value.ref e::b) _ _ _ (hr.make C b []) (G.EE.make C b []) P M sp) λr s' j=>?_;cases r with
 |error e=>exact j.elim
 |ok fl=>
  cases fl with
  |next=>exact j.elim
  |brk=>exact j.elim
  |cont=>exact j.elim
  |ret u'=>
   obtain⟨v',H',I3,rv,ev,d,n,m,S⟩:=G.after j;subst ev;have R:H' e=U (EX e {g with dict:=U d}):=by rw[S];exact ak
   refine⟨rv,e,_,p,J,I3.bk _ _ Q,EX.at_<|I3.bA e _ R,by rw[c],by rw[c],E8 (t:=p) Z I3 R (by rw[c]) (by rw[c]) J J J (λz=>nomatch z) (i5<|eY i.sz B) ?_⟩
   rw[Ab (i.bA.fresh B) m S];exact q1 d n
def Ka{K:vT}(X:K.In h)(q:excIn K C k newId=O) :
  ∃bm N nm c bs hd sn sub ab col dd k0 k1 k2 k3 k5,h.get? C=U (la nm c C N bs bm hd sn sub ab col dd k0 k1 k2 k3 k5 newId)/\h.Ns N (h.nsMap N)/\h.nsMap N "__init__" = Y/\OwnTail h k bm:=by
 unfold excIn at q;split at q
 .rename_i e ö b lo
  split at q
  .rename_i w a r p o n t m i g
   simp only[bZ,beq_iff_eq,xF]at q;obtain⟨⟨⟨⟨⟨rfl,rfl⟩,l⟩,ó⟩,f⟩,j⟩:=q;obtain⟨nm,bs,u,ns,c,d,sn,sub,ab,col,v⟩:=ö;dsimp only at i l f j;subst i l;obtain⟨s⟩:=b;simp only at g;subst g;refine⟨a,ns,nm,c,bs,d,sn,sub,ab,col,e,r,p,o,n,m,X _ _ lo,?_,?_,tail_of_in X ó⟩
   .exact .of_isNs<|isNs_of_in X f
   .exact nsMap_none_of_in X f j
  .cases q
 .cases q
def Qu(Z:ye X E)(I:Inv X p k H s){e:cq}(d:ui s.heap h' e (.ref C) a)(q:E (.ref C) Y H):X.xe (.ref e) {s with heap:=h'}:=by
 apply Z.lv;have g:s.heap.FunFrames (mr s.heap<|kc X.stack) X.stack:=funFrames_hide I.stack λenv m b f=>DM.mpr ⟨env,m,f⟩;rw[Z.st]at g;have i:(mr s.heap<|kc X.stack).StaysIn s.heap:=λb o q=>y0 _ q;obtain⟨t,r,_,_⟩:=d.there;refine E5 (L:=X.env.locals) (base:=mr s.heap<|kc X.stack) (h:=s.heap) (by rw[I.ok.frames,Z.st]) Z.fr i (by rw[Z.st];exact g) d.keeps d.new r J J J J λv j l=>?_
 refine⟨e,t,C,Y,.none,H,mr s.heap<|kc X.stack,J,I.os,I.bare,?_,j,λ_=>J,q⟩;have L2:Lies X.prog X.w X.outer X.H₀ X.s₀ H (mr s.heap<|kc X.stack) s.heap:=⟨by have:=I.base;rw[Z.ex]at this;exact this,I.bA,λc u e=>?_,z_ Z I λb o e f=>⟨o,n6 _ e f⟩⟩
 .exact L2.on i j.1.1 ((Heap.UpToSlots.of_keeps d.keeps).trans l) (by rw[Z.st];exact g.2.2)
 .obtain⟨ob,n⟩:=mD<|I.bA c u e
  refine⟨ob,n6 _ n λz=>?_⟩;rw[I.nE c z]at e;cases e
def E_(Z:ye X E)(q:excIn X.K C Qq "ValueError.__new__" = O)(l:X.mg x=U (.ref C))(n:PE X e d)(m:Gl X x)(t:aX x)
  (he:dn [e] X.env=(Zi,fC e X.env)::dn [] X.env):PS X (.Raise (U<|.Call (.Name x np) [e] [] bB) Y pos) λ_ b H=>d b H λv H1=>[v].length=1/\E (.ref C) Y H1:=by
 intro u s b H D I h;obtain⟨bm,N,nm,k,bs,hd,sn,sub,ab,col,dd,k0,k1,k2,k3,k5,p,o,w,T⟩:=Ka I.mod.kin q;have g:=md;refine wpAny_Raise_call_subT (C:=C) (nm:=nm) (q:=k) (N:=N) (bs:=bs) (bm:=bm) (hdct:=hd) (sn:=sn) (sub:=sub) (ab:=ab) (col:=col) (dd:=dd) (k0:=k0) (k1:=k1) (k2:=k2) (k3:=k3) (k5:=k5) (newId := "ValueError.__new__")
  g (mN:=X.base.nsMap N) (T.hasType g.hasBase) (I.ok.hd Z.cm) (by rw[he];rfl) w<|fE I m l ⟨J,?_⟩ t
 have f:=bq n (dm (X:=X)) he bB u s b H (λc H1=>c.length=1/\E (.ref C) Y H1) I ?_
 .rw[he]at f ⊢
  refine zv<|eD f (λj s2 i=>?_) λ_ _ y=>y;obtain⟨c,H1,a,r,l1,q1⟩:=i;refine⟨J,?_,a.bk _ _ p,o.keeps a.bk,T.keeps a.bk,λA e z=>?_⟩
  .show j.length<=de
   rw[<- r.length,l1];decide
  .exact Qu Z a z q1
 .exact h
abbrev xy(X:Cx)(a:cq)(E:Kp):Cx:={X with A:=X.A.mark (U<|.ref a),calm:=Zi,xe:=E}
section
variable{aa:dH}{σ:L2.St}{s':ax}{a t CB:cq}{d:Option cq}{c2:bp}{oe:Obj}{Eo:Kp}
def Inv.Qv(I:Inv X aa σ H s):Inv (xy X a Eo) aa σ H s:=
 ⟨⟨I.ok.mod,I.ok.kind,I.ok.glob,I.ok.blt,I.ok.above,I.ok.inj,I.ok.has,I.ok.cab,(λz=>nomatch z),I.ok.frames,I.ok.stk,I.ok.exf,I.ok.bs,I.ok.bsz,I.ok.noex,I.ok.exfs,I.ok.jM,I.ok.frf⟩,I.os,I.bare,I.base,I.loc,I.cell,I.free,I.freeC,I.pin,I.bA,I.len⟩
def Inv.Cp(ok:X.Ok)(I:Inv (xy X a Eo) aa σ H s):Inv X aa σ H s:=⟨ok,I.os,I.bare,I.base,I.loc,I.cell,I.free,I.freeC,I.pin,I.bA,I.len⟩
def name_goes{A:eh}{E:Kp}{Q:L6}(I:Inv X aa σ H s)(T:X.N.Nodup)(R:X.N[i]?=U x)(P:X.env.scope.names.lookup x=U .local)
  (h:∀s',Inv X aa (σ.set i Y) H s'->Q () s'):dg M A (do qd X.env x .none;pf X.env x pos) Q E s:=by
 obtain⟨m,w,hl⟩:=id I.loc;have Pw:(X.env.scope.kind == .class ||(X.env.scope.kind == .module&&X.env.locals != X.env.globals))=Zi:=by rw[I.ok.kind];rfl
 refine wpAny_nameGoes_keeps P w Pw λh' v Uk a=>h _ ?_;obtain⟨oL,V,W,L,S,_⟩:=id w;have ø:∀b o,X.s₀.heap.get? b=U o->b≠X.env.locals:=λb o e=>dP<|eS (c4 e) I.ok.above;refine⟨I.ok,I.os,I.bare,⟨λb o e n t l=>(a.2 b<|ø b o e).trans<|I.base.keep b o e n t l,λb o e n t l=>?_,I.base.free,λb o e l=>?_,I.base.mX,I.base.lu,I.base.mY⟩,⟨_,Uk,λj y C g f Z=>?_⟩,λy c e=>?_,I.free,I.freeC,λp K=>?_,λb ob e=>?_,by simpa using I.len⟩
 .obtain⟨sl,g⟩:=I.base.slot b o e n t l
  exact⟨sl,(a.2 b<|ø b o e).trans g⟩
 .obtain⟨G,g⟩:=I.base.there b o e l
  exact⟨G,(a.2 b<|ø b o e).trans g⟩
 .have B:j≠i:=by
   rintro rfl
   by_cases eT:j<σ.length
   .rw[gy eT]at f;cases f
   .rw[DU<|by simpa using eT]at f;cases f
  rw[iu<|et B]at f;obtain⟨D,F,q⟩:=hl j y C g f Z;refine⟨D,F,?_⟩;rcases q with⟨k,e⟩|⟨k,c,e,z⟩
  .refine .inl ⟨k,?_⟩
   have:y≠x:=λe=>B<|oG T g<|e▸R
   simp[this,e]
  .exact .inr ⟨k,c,e,z.sameBut a<|I.JK y c e⟩
 .obtain⟨u,z⟩:=I.cell y c e
  exact⟨u,z.sameBut a<|I.JK y c e⟩
 .obtain⟨e,n,ne,nf,d⟩:=I.pin p K
  exact⟨(a.2 p.1 ne).trans e,n,ne,nf,d⟩
 .refine(I.bA b ob e).oF (λc u r q=>(a.2 c ?_).trans q) (λ_ q=>q) λ_ _ q=>q
  rintro rfl
  rcases r with z|r
  .have:=I.free;rw[z,e]at this;cases this
  .have:=I.free;rw[r]at this;cases this
def tK(I:Inv X aa σ H s)(R:s'.os=s.os)(S:kz s'.gens)(L:Lies X.prog X.w X.stack H s H' B g)(F:jO B X.stack a (.ref C) (.ref t) (d,c2) g) :
  ∃oe j,oe.cls=.ref C/\oe.data=.fields j/\oe.dict=d/\j[2]?=U c2/\g.get? a=U oe/\H' a=Y/\Inv X aa σ (upd H' a<|EX a oe) {s' with heap:=g}:=by
 have f:Inv X aa σ H' {s' with heap:=g}:=I.Ed (s':={s' with heap:=g}) R L.un L.bA S λb z=>dy z<|by simp
 obtain⟨oe,j,i,ù,l,_⟩:=F.1.first
 obtain⟨h,dQ,E,T,K,V⟩:=F.2;rw[i]at E;cases E;rw[l]at K;cases K;have new:H' a=Y:=by
  cases e:H' a with
  |none=>rfl
  |some u=>
   obtain⟨o,q⟩:=L.Jr a u e;rw[F.1.2.1]at q;cases q
 have D:a∉kc X.stack:=λz=>by
  obtain⟨_,h,N,d'⟩:=F.1.2.2.1.mem z;rw[i]at N;cases N;exact d' j l
 have VC:∀b o,s.heap.get? b=U o->b∉kc X.stack->b≠a:=λb o e n z=>by
  obtain⟨h,q⟩:=L.old b o e n;rw[z,F.1.2.1]at q;cases q
 have Q:X.env.locals≠a:=λz=>by
  obtain⟨m,⟨h,es,ep,r,P,_⟩,_⟩:=f.loc;have r:g.get? X.env.locals=U h:=r;rw[z,i]at r;cases r;rw[l]at P;cases P
 refine⟨oe,j,ù,l,T,V,i,new,⟨f.ok,f.os,f.bare,⟨f.base.keep,f.base.slot,λb o e n G=>?_,f.base.there,λb xs z=>?_,λb o u z=>?_,λb ps z=>?_⟩,f.loc,f.cell,?_,λx c e=>?_,λp M=>?_,λb u z=>?_,f.len⟩⟩
 .rw[ai λz=>?_]
  .exact f.base.free b o e n G
  .subst z
   obtain⟨h,W⟩:=I.base.there b o e G;exact VC b h W D J
 .have q:=f.base.mX b xs z
  rw[ai λy=>by rw[y,new]at q;cases q];exact q
 .have q:=f.base.lu b o u z
  rw[ai λy=>by rw[y,new]at q;cases q];exact q
 .obtain⟨k,q⟩:=f.base.mY b ps z
  exact⟨k,by rw[ai λy=>by rw[y,new]at q;cases q];exact q⟩
 .rw[ai Q];exact f.free
 .rw[ai λz=>?_]
  .exact f.freeC x c e
  .obtain⟨v,o,q,hd⟩:=f.cell x c e
   have q:g.get? c=U o:=q;rw[z,i]at q;cases q;rw[l]at hd;cases hd
 .obtain⟨e,n,ne,nf,dd⟩:=f.pin p M
  obtain⟨Z,_,_,_,_⟩:=I.pin p M;refine⟨e,?_,ne,nf,dd⟩;rw[ai<|VC p.1 p.2 Z λz=>?_]
  .exact n
  .rcases bF.mp (I.jN p.1 z)with q|q
   .exact ne q
   .exact nf q
 .by_cases q:b=a
  .subst q
   rw[ak]at z;cases z;exact EX.mk i
  .rw[ai q]at z
   exact(f.bA b u z).oF (λ_ _ _ y=>y) (λc y=>by rw[ai λA=>by rw[A,new]at y;cases y];exact y) λc xs y=>by rw[ai λA=>by rw[A,new]at y;cases y];exact y
def ku{A:eh}{E:Kp}{d:Option cq×bp}{Q:L6}(F:jO base l e cls a0 d s.heap)
  (h:∀h',jO base l e cls a0 d h'->s.heap.UpToSlots h'->Q () {s with heap:=h'}):dg M A (uk (.ref e) Y) Q E s:=by
 obtain⟨⟨m,k,j,i⟩,D⟩:=F;exact z8 m j i.at D λh' k1 k2 k3 c a=>h h' ⟨⟨k1,k,k2,k3⟩,c⟩ λb o g f=>⟨o.slots,a b o g f⟩
def Fb{Q:Flow->ax->Prop}{y:Str}{E pos:Pos}{ú:Option Str}{p:Ee}{rest:List Dq}(I:Inv X aa σ H s)(j:X.stack=X.env::X.outer)(D:X.env.frame=U X.env.locals)(N:s'.os=s.os)(S:kz s'.gens)
  (L:Lies X.prog X.w X.stack H s H' B s'.heap) (F:jO B X.stack a (.ref C) (.ref t) (d,c2) s'.heap) (P:X.mg y=U (.ref CB)) (G:exmOne X.K (.ref C) (.ref CB)=U O)
  (k:∀i,Lies X.prog X.w X.stack H s H' B i->jO B X.stack a (.ref C) (.ref t) (d,c2) i ->
   hZ (mX X) (X.A.mark<|U<|.ref a) (.handlers (.ref a) [.ExceptHandler Y ú p pos] X.env) (λr b=>match r with
     |.ok f=>(match ú with
      |none=>Q f b
      |some n=>Md X (do qd X.env n .none;pf X.env n pos) (λ_ g=>Q f g) Eo b)
     |.error x=>cameBackBy (mX X) X.A X.env Eo x b) {s' with heap:=i})
  (R:Gl X y) (T:aX y) :
  Md X (rg (.ref a) X.env) (λ_ b=>Md X (uk (.ref a) Y) (λ_ g=>
   Md X (handleBy (.ref a) X.env<|.ExceptHandler (U<|.Name y E) ú p pos::rest) Q Eo g) Eo b) Eo s':=by
 have z:=F;rw[j]at z;refine NS (L:=X.env.locals) (by rw[I.ok.frames,j]) D z λh4 c o=>?_
 have W:=L.on F.1.1 c.1.1 o F.1.2.2.1;refine E4 c λi l m=>?_;have u:=W.on c.1.1 l.1.1 m (by rw[j];exact c.1.2.2.1)
 rw[<- j]at l;obtain⟨oe,Z,ù,_,_,_,V,_,v⟩:=tK (s':=s') I N S u l;refine wpAny_handleBy_cons (codeAny_handlers_test ?_) (by intro q;cases q)
 refine fE (X:=xy X a λ_ _=>False) (Inv.Qv v) R P ?_ T;have LT:sq (mX X) i (sr<|.ref a)<|.ref C:=ù▸(og V).andThen .now;refine exm_one (M:=cx X.prog X.w) (h:=i) v.iw LT G _ _ _ _ (λ_ _ e=>e) ?_;exact k i u l
def Qw{Q:Flow->ax->Prop}{pos:Pos}{st:hF}{e:ek}(I:Inv X aa σ H s)(j:s'.os=s.os)(m:kz s'.gens)(i:qs (mX X) (X.A.mark<|U<|.ref a) X.A X.env X.xe)
  (L:Lies X.prog X.w X.stack H s H' B e) (F:jO B X.stack a (.ref C) (.ref t) (d,c2) e)
  (k:∀oe c s6,oe.cls=.ref C->oe.data=.fields c->c[2]?=U c2->H' a=Y->Inv (xy X a X.xe) aa σ (upd H' a<|EX a oe) s6->dg (mX X) (X.A.mark<|U<|.ref a) (execs [st] X.env) Q X.xe s6) :
  hZ (mX X) (X.A.mark<|U<|.ref a) (.handlers (.ref a) [.ExceptHandler Y Y [st] pos] X.env) (λr b=>match r with
     |.ok f=>Q f b
     |.error x=>cameBackBy (mX X) X.A X.env X.xe x b) {s' with heap:=e}:=by
 refine codeAny_handlers_suite<|ku F λu g û=>?_;have o:=L.on F.1.1 g.1.1 û F.1.2.2.1;obtain⟨oe,c,l,h,hd,n,q,new,p⟩:=tK (s':=s') I j m o g;exact wpAny_passesOwnAt i<|k oe c _ l h n new<|Inv.Qv p
def Kc{Q:Flow->ax->Prop}{pos:Pos}{n:Str}{i:Nat}{st:hF}{m:Ee}{j:ek}(I:Inv X aa σ H s)(E:s'.os=s.os)(K:kz s'.gens)(p:X.N.Nodup)(o:X.N[i]?=U n)(h:X.env.scope.names.lookup n=U .local)
  (L:Lies X.prog X.w X.stack H s H' B j) (F:jO B X.stack a (.ref C) (.ref t) (d,c2) j)
  (k:∀oe g s6,oe.cls=.ref C->oe.data=.fields g->oe.dict=d->H' a=Y->Inv (xy X a λ_ _=>False) aa (σ.set i<|U<|.ref a) (upd H' a<|EX a oe) s6->dg (mX X) (X.A.mark<|U<|.ref a) (execs (st::m) X.env) (λf s8=>∃c l,Inv (xy X a λ_ _=>False) aa c l s8/\∀s9,Inv X aa (c.set i Y) l s9->Q f s9) (λ_ _=>False) s6) :
  hZ (mX X) (X.A.mark<|U<|.ref a) (.handlers (.ref a) [.ExceptHandler Y (U n) (st::m) pos] X.env) (λr b=>match r with
     |.ok f=>Md X (do qd X.env n .none;pf X.env n pos) (λ_ e=>Q f e) (λ_ _=>False) b
     |.error x=>cameBackBy (mX X) X.A X.env (λ_ _=>False) x b) {s' with heap:=j}:=by
 refine codeAny_handlers_suite_as<|ku F λV u û=>?_;have M:=L.on F.1.1 u.1.1 û F.1.2.2.1;obtain⟨oe,g,G,D,hd,_,T,new,S⟩:=tK (s':=s') I E K M u;refine g8 S p o (Or.inl h) (v:=.ref a) J (λs7 R=>?_)<|Or.inr h;refine eD (k oe g s7 G D hd new<|Inv.Qv R) (λf s8 y=>?_) λ_ _ z=>z.elim;obtain⟨c,l,P,q⟩:=y;exact name_goes (Inv.Cp I.ok P) p o h q
end
section
variable{K:vT}{dV kV doc pm Z ct oc:bp}
def Kd{A:eh}(B:K.lookup f=U ⟨oc,od,.func<|fnOf name qual T W scope dV kV doc pm an Z ct,oQ⟩)(L:codeIn K Z qual=O)(S:fW N ps scope)
  (m:A.depth<pv) (c:qE P w K mg base A outer s H) (G:xp s (fnOf name qual T W scope dV kV doc pm an Z ct) g<|ps.zip us) (r:Vals vs us) (hl:vs.length=ps.length)
  (D:gY {iK iL P w K mg base N qual scope f Z A outer s H (λ_ _ _=>False)with calm:=Zi,xe:=λ_ _=>False} W t) (E:t {nx:=λ_ H'=>Q .non H',rt:=Q} (start N vs) H) :
  hZ (cx P w) A (.call (.ref f) g) (CR iL outer P w H s Q λ_ _ _=>False) s:=by
 have p:K.In s.heap:=c.mod.kin.keeps λb o e=>(c.bs b o e).1;have l:s.heap.NoLimit:=c.mod.nolimit.keeps λb o e=>(c.bs b o e).1;have R:∀y∈ps.zip us,scope.names.lookup y.1=U .local\/(scope.names.lookup y.1=U .cell/\((FV (s.z+1) scope.names []).lookup y.1).isSome=O):=λ⟨n,v⟩ C=>by
  rcases S.par n (zu C).1 with q|q
  .exact .inl q
  .exact .inr ⟨q,cellsFrom_some _ _ _<|.inl q⟩
 refine Jw m (p _ _ B) J S.co S.gen J (codeRec_of p L)<|G _ _ _ _ ?_;refine yA S.kind R λenv F i x=>?_;subst F;refine⟨l.keeps x.toInCall.keep,codeAny_func ?_⟩;have M:qE P w K mg base {A with handled:=Y} outer s H:=⟨c.frames,c.mod,c.bs,c.bsz,c.jM,c.frf,c.bA,c.bare⟩
 have a:Inv (iK iL P w K mg base N qual scope f Z {A with handled:=Y} outer s H λ_ _ _=>False) [] (start N vs) H i:=rm S J M hl r x
 have I:Inv {iK iL P w K mg base N qual scope f Z A outer s H (λ_ _ _=>False)with calm:=Zi,xe:=λ_ _=>False} [] (start N vs) H i:=
  ⟨⟨a.ok.mod,a.ok.kind,a.ok.glob,a.ok.blt,a.ok.above,a.ok.inj,a.ok.has,a.ok.cab,(λz=>nomatch z),xI c.frames,a.ok.stk,a.ok.exf,a.ok.bs,a.ok.bsz,a.ok.noex,a.ok.exfs,a.ok.jM,a.ok.frf⟩,a.os,a.bare,a.base,a.loc,a.cell,a.free,a.freeC,a.pin,a.bA,a.len⟩
 refine eD (D [] i (start N vs) H _ I E) (λfl j h=>?_) λe j h=>h.elim;have fin:∀{d:St}{H':Hp}{v:V}{u:bp},Inv {iK iL P w K mg base N qual scope f Z A outer s H (λ_ _ _=>False)with calm:=Zi,xe:=λ_ _=>False} [] d H' j->RelV v u->Q v H'->CE outer P w H s Q u j:=
  λ{d H' v u} X k q=>⟨v,H',X.os,X.bare,X.base,X.bA,k,q⟩
 cases fl with
 |ret u=>
  obtain⟨v,d,H',X,k,q⟩:=h;exact fin X k q
 |next=>
  obtain⟨d,H',X,q⟩:=h;exact fin (v:=V.non) (u:=gG) X J q
 |brk=>
  obtain⟨_,_,_,q⟩:=h;exact eI q
 |cont=>
  obtain⟨_,_,_,q⟩:=h;exact eI q
end
def ü(P:dv)(w:ee)(K:vT)(mg:Str->D1)(base:ek)(f:cq)(fd:ef)(ps:Bi)(sp:Sp):Prop:=∀(A:eh)(outer:List Env)(s:ax)(H:Hp)(a:Args)(c:B2)(b:List V)(Q:VK),A.depth<pv->qE P w K mg base A outer s H->xp s fd a (ps.zip c)->Vals b c->b.length=ps.length->sp b H Q (λ_ _ _=>False) ->
  hZ (cx P w) A (.call (.ref f) a) (CR iL outer P w H s Q λ_ _ _=>False) s
def Cq(ok:X.Ok)(Z:ye X E)(q:E9 X.K C fI=O)(kp:keepIn X.K (.ref C)=O)(Q:isFn X.K (.ref fI)=O)(F:ü X.prog X.w X.K X.mg X.base fI fd ps<|Dm C f)(Qi:ps.length=2)(W:Binds X.K fd ps [])(hr:bj 2 X.A)(hm:X.mg x=U (.ref C))(ha:PA (xy X a X.xe) (e::es) t)(hg:Gl X x)(gB:aX x)
  (he:dn (e::es) X.env=(Zi,fC e X.env)::dn es X.env) (hpl:(hQ bB<|dn es X.env).any (·.1)=Zi) :
  PS (xy X a X.xe) (.Raise (U<|.Call (.Name x np) (e::es) [] bB) (U<|.Constant .none k0' kp') pos) λ_ y H=>t y H λvs H1=>∃u m B,vs=[u]/\H1 a=U (EX a m)/\m.data=.fields B/\B[2]?=U .none/\∀d,H1 d=Y->E (.ref C) (U d) (upd H1 d<|XD d [(f,u)]):=by
 intro aa s y H D I h;obtain⟨bm,N,nm,qn,bs,hd,sn,sub,ab,col,dd,k0,k1,k2,k3,k5,hC,hN,VA,T⟩:=vE I.mod.kin q;have FB:=md;have hf:∃oI,X.base.get? fI=U oI/\oI.cls=.type "function" := by
  have Q:=beq_iff_eq.mp Q;obtain⟨o,ho,e⟩:=d_.mp<|show(X.K.lookup fI).map (·.cls)=U (.type "function")from Q
  exact⟨o,I.mod.kin _ _ ho,e⟩
 obtain⟨oI,ô,õ⟩:=hf;rw[arm_exec_Raise];refine ag<|gN<|J9 (C:=C) (a:=a) (nm:=nm) (q:=qn) (N:=N) (bs:=bs) (bm:=bm) (hdct:=hd) (sn:=sn) (sub:=sub) (ab:=ab) (col:=col) (dd:=dd) (k0:=k0) (k1:=k1) (k2:=k2) (k3:=k3) (k5:=k5) (newId := "ValueError.__new__")
  (T.hasType FB.hasBase) J (λs' Q' hq=>?_)<|ag<|eD (ew<|fE I hg hm ?_ gB) (λv s₃ n=>ag<|gN<|dk n) λ_ _ x=>x
 .exact ag<|Constant_none<|ag<|gN<|dk hq
 refine callWith_K (h₀:=X.base) I.ok.mod.kin kp (b7 (ha bB aa s y H _ I h) λj s1 zz=>?_) he hpl;obtain⟨vs,H1,i,r,u,m,B,ev,M,R,S,q1⟩:=zz;refine⟨i.iw,?_⟩;subst ev;obtain⟨hp,gn,dr,tk,os⟩:=s1;refine rC (rest:=j) FB (T.keeps i.bk) (i.bk _ _ hC) (hN.keeps i.bk) VA (i.bk _ _ ô) õ (λh' e Qs ge=>?_) (by rw[<- r.length];show 1<=de;decide)
 obtain⟨G,Qt,_,_⟩:=Qs.there;obtain⟨c,g⟩:∃c:Obj,c={cls:=.ref C,data:=.fields #[.ref G,.none,.none,.none,.bool Zi,.none]}:=⟨_,J⟩;rw[<- g]at Qt;have I2:Inv (xy X a X.xe) aa y (upd H1 e<|EX e c) ⟨h',gn,dr,tk,os⟩:=i.laid (a:=e) (h':=h') (t':=tk) Qs.keeps ge<|EX.mk Qt;have r2:Vals (V.ref e::[u])<|Value.ref e::j:=.cons J r;have sp:Dm C f (V.ref e::[u]) (upd H1 e<|EX e c) (λw H'=>w=.non/\∃d,H1 d=Y/\d≠e/\H'=upd (upd (upd H1 e<|EX e c) d<|XD d [(f,u)]) e (EX e {c with dict:=U d})) λ_ _ _=>False:=
  ⟨e,u,c,_,J,ak,by rw[g],by rw[g],by rw[g],λd k L=>⟨J,d,by rw[ai L]at k;exact k,L,J⟩⟩
 have qI:=W ⟨h',gn,dr,tk,os⟩ (Value.ref e::j) I2.iw (by rw[bG,<- r2.length,Qi];rfl)
 rw[bG]at qI;refine f7<|gs (F _ X.stack _ _ ⟨Value.ref e::j,[]⟩ (Value.ref e::j) _ _ (hr.make C j []).depth (I2.EE.make C j []) qI r2 Qi.symm sp) λr s' l=>?_;cases r with
 |error e=>exact l.elim
 |ok fl=>
  cases fl with
  |next=>exact l.elim
  |brk=>exact l.elim
  |cont=>exact l.elim
  |ret u'=>
   obtain⟨v',H',I3,rv,ev,d,k,L,eH⟩:=I2.after l;subst ev;have h3:H' e=U (EX e {c with dict:=U d}):=by rw[eH];exact ak
   have fr:=i.bA.fresh ge;have ý:a≠e:=λz=>by rw[z,fr]at M;cases M
   have P:a≠d:=λz=>by rw[<- z,M]at k;cases k
   have ha3:H' a=U (EX a m):=by rw[eH,ai ý,ai P,ai ý];exact M
   have p:=I3.bk _ _ hC;have Pu:C≠e:=λz=>by
    have:=(EX.at_<|I3.bA e _ h3).symm.trans<|z▸p
    rw[g]at this;cases this
   refine⟨rv,e,_,m,G,B,J,p,EX.at_<|I3.bA e _ h3,by rw[g],by rw[g],Pu,ý,EX.at_<|I3.bA a _ ha3,R,S,λh6 g1 g2=>?_⟩
   have I6:=I3.write (x:=e) (e:=e) (h':=h6) (t':=s'.toks) (by rw[h3];exact gL) (.inl J) (λb o W q=>(g2 b W).trans q) ⟨_,g1⟩<|EX.mk g1
   refine E8 (t:=G) (c2:=.ref a) Z (Inv.Cp ok I6) ak (by rw[g]) J J J J (λz=>nomatch z) (i5<|eY i.sz ge) ?_
   have e1:nq (upd H' e<|EX e {c with dict:=U d,data:=.fields #[.ref G,.none,.ref a,.none,.bool O,.none]}) e=upd H1 d (XD d [(f,u)]):=by
    rw[<- Ab fr L eH]
    funext b
    unfold nq upd;by_cases h1:b=e
    .rw[cv h1,cv h1]
    .rw[cb h1,cb h1,cb h1]
   rw[e1];exact q1 d k
end L2
namespace L2
open PySem PySem.Spec PyProof.Rows
section
variable{j:Type}[DecidableEq j]
def lE(b:List<|j×V)(k:j):Option V:=(b.find? λa=>decide<|a.1=k).map (·.2)
def putK(b:List<|j×V)(k:j)(v:V):List<|j×V:=
 if(b.any λa=>decide<|a.1=k)=O then b.map (λa=>if a.1=k then(a.1,v)else a)else b++[(k,v)]
def ky{k:j}(e:p.1=k):lE (p::r) k=U p.2:=by simp[lE,BV,e]
def kB{k:j}(e:¬ p.1=k):lE (p::r) k=lE r k:=by simp[lE,BV,e]
theorem oV(k:j):∀a:List<|j×V,(a.any λb=>decide<|b.1=k)=(lE a k).isSome
 |[]=>J
 |p::r=>by
  rw[lq];by_cases e:p.1=k
  .simp only[ky e,cw e,Bool.true_or,Option.isSome_some]
  .rw[kB e,ar e,zk];exact oV k r
def mF(a:List<|j×V)(k:j)(v:V):(putK a k v).length<=a.length+1:=by
 unfold putK;split
 .rw[cU];lia
 .rw[cA,eu,xJ];lia
def iV.hU(r:iV o u):o.isSome=u.isSome:=by
 cases o with
 |none=>cases u with
  |none=>rfl
  |some _=>exact(show False from r).elim
 |some _=>cases u with
  |none=>exact(show False from r).elim
  |some _=>rfl
def KV.val(r:KV f vs)(k:j):iV (lE f k)<|wk vs k:=by
 unfold KV at r
 induction r with
 |nil=>exact gL
 | @cons p q ps a h t g=>
  obtain⟨d,i⟩:=h;by_cases e:p.1=k
  .have c:q.1=k:=d.symm.trans e
   have b:wk (q::a) k=U q.2:=by simp[wk,BV,c]
   rw[ky e,b];exact i
  .have c:¬ q.1=k:=λz=>e<|d.trans z
   have b:wk (q::a) k=wk a k:=by simp[wk,BV,c]
   rw[kB e,b];exact g
theorem KV.any(r:KV b vs)(k:j):(b.any λa=>decide<|a.1=k)=vs.any λa=>decide<|a.1=k:=by
 unfold KV at r
 induction r with
 |nil=>rfl
 |cons h t c=>rw[lq,lq,c,h.1]
def KV.Qx(r:KV c vs)(k:j)(d:RelV y u) :
  KV (c.map λa=>if a.1=k then(a.1,y)else a)<|vs.map λa=>if a.1=k then(a.1,u)else a:=by
 unfold KV at r ⊢
 induction r with
 |nil=>exact .nil
 | @cons p q ps i h t f=>
  rw[fV,fV];refine .cons ?_ f;obtain⟨b,g⟩:=h;by_cases e:p.1=k
  .rw[cv e,cv<|b.symm.trans e];exact⟨b,d⟩
  .rw[cb e,cb λz=>e<|b.trans z];exact⟨b,g⟩
def KV.put(r:KV b vs)(k:j)(a:RelV y u):KV (putK b k y)<|stored vs k u:=by
 unfold putK stored;rw[r.any k];by_cases e:(vs.any λc=>decide<|c.1=k)=O
 .rw[cv e,cv e];exact r.Qx k a
 .rw[cb e,cb e];exact Paired.snoc r ⟨J,a⟩
theorem KV.length{vs:List<|j×bp}(r:KV a vs):a.length=vs.length:=Paired.length r
end
def Ac(r:RelV (kV k) u):(c9 P w).is k u=O:=by
 cases k with
 |inl i=>obtain⟨t,e⟩:=(show ∃t,u=Value.int i t from r);subst e;exact vc P w i t
 |inr x=>obtain⟨t,e⟩:=(show ∃t,u=Value.str x t from r);subst e;exact vd P w x t
theorem rE:∀{ks:List Key}{us:B2},Vals (ks.map kV) us->ItemsAre (c9 P w) ks us
 |[],_,r=>by rw[MV]at r;cases r;exact .nil
 |k::ks,_,r=>by
  rw[fV]at r;cases r with
  |cons h t=>exact .cons (Ac h)<|rE t
abbrev KT(H:Hp):List (List Key×V)->List (List Key×cq×bp)->Prop:=I0 λp q=>p.1=q.1/\H q.2.1=U (.tup<|p.1.map kV)/\RelV p.2 q.2.2
def KT.val(r:KT H f xs)(k:List Key):iV (lE f k)<|(F2 xs k).map (·.2):=by
 induction r with
 |nil=>exact gL
 | @cons p q ps a h t g=>
  obtain⟨d,_,i⟩:=h;by_cases e:p.1=k
  .have c:q.1=k:=d.symm.trans e
   have b:F2 (q::a) k=U q.2:=by simp[F2,BV,c]
   rw[ky e,b];exact i
  .have c:¬ q.1=k:=λz=>e<|d.trans z
   have b:F2 (q::a) k=F2 a k:=by simp[F2,BV,c]
   rw[kB e,b];exact g
def KT.Qx(r:KT H d xs)(k:List Key)(f:RelV y u) :
  KT H (d.map λb=>if b.1=k then(b.1,y)else b)<|xs.map<|putAt k u:=by
 induction r with
 |nil=>exact .nil
 | @cons p q ps j h t g=>
  rw[fV,fV];refine .cons ?_ g;obtain⟨a,c,i⟩:=h;unfold putAt;by_cases e:p.1=k
  .rw[cv e,cv<|a.symm.trans e];exact⟨a,c,f⟩
  .rw[cb e,cb λz=>e<|a.trans z];exact⟨a,c,i⟩
def KT.put(r:KT H a xs)(k:List Key)(f:H b=U (.tup<|k.map kV))(c:RelV y u) :
  KT H (putK a k y)<|storedH xs k b u:=by
 have e:(a.any λd=>decide<|d.1=k)=(F2 xs k).isSome:=by
  rw[oV,(r.val k).hU,Dv]
 unfold putK storedH;rw[e];by_cases q:(F2 xs k).isSome=O
 .rw[cv q,cv q];exact r.Qx k c
 .rw[cb q,cb q];exact Paired.snoc r ⟨J,f,c⟩
def KT.keeps(r:KT H a xs)(c:∀b ys,H b=U (.tup ys)->H' b=U (.tup ys)):KT H' a xs:=
 Paired.Pq r λ_ _ z=>⟨z.1,c _ _ z.2.1,z.2.2⟩
variable{A:eh}
def NV{u:HO}(ok:jL P w H h)(e:Rd H a u):bV P w H h a u:=e.ok ok
def Fc(ok:jL P w H h)(e:Rd H a<|.dK b):b.length<=de/\(a == kl)=Zi/\∃vs,KV b vs/\h.DictOf (c9 P w) a vs:=
 show bV P w H h a (.dK b)from NV ok e
def VD(ok:jL P w H h)(e:H a=U (.dK b)):b.length<=de/\(a == kl)=Zi/\∃vs,KV b vs/\h.DictOf (c9 P w) a vs:=Fc ok<|.inl e
def tL(ok:jL P w H h)(e:H a=U (.tup<|ks.map kV)):(uj<|c9 P w).is h ks a:=by
 obtain⟨_,au,r,o,d,c,n,b⟩:=(show bV P w H h a (.tup<|ks.map kV)from ok a _ e);exact⟨o,au.toArray,n,d,c,b,by simpa using rE r⟩
def Fd(ok:jL P w H h)(e:Rd H a<|.dT c):c.length<=de/\(a == kl)=Zi /\
  ∃xs,KT H c xs/\h.DictOfH (uj<|c9 P w) a xs:=by
 obtain⟨z,y,xs,r,o,s,u,n,k,j,i,g⟩:=(show bV P w H h a (.dT c)from NV ok e);refine⟨z,y,xs,r,o,s,u,n,k,j,i,λx b=>?_,g⟩;have all:∀{l:List<|List Key×V}{m:List<|List Key×cq×bp},KT H l m->∀x∈m,(uj<|c9 P w).is h x.1 x.2.1:=by
  intro l m q
  induction q with
  |nil=>intro x b;exact nomatch b
  | @cons p q ps v d t f=>
   intro x b;rcases bF.mp b with e|b
   .subst e
    exact tL ok (by rw[<- d.1];exact d.2.1)
   .exact f x b
 exact all r x b
def VE(ok:jL P w H h)(e:H a=U (.dT b)):b.length<=de/\(a == kl)=Zi /\
  ∃xs,KT H b xs/\h.DictOfH (uj<|c9 P w) a xs:=Fd ok<|.inl e
def Ff(H:Hp)(a:cq)(y:V)(r:Option V):Prop:=
 (∃c k,Rd H a (.dK c)/\y=kV k/\r=lE c k)\/∃c k b,Rd H a (.dT c)/\y=.ref b/\H b=U (.tup<|k.map kV)/\r=lE c k
def Ke(H:Hp)(a:cq)(y v:V)(H':Hp):Prop:=
 (∃c k,H a=U (.dK c)/\y=kV k/\c.length<de/\H'=upd H a (.dK<|putK c k v)) \/
 ∃c k b,H a=U (.dT c)/\y=.ref b/\H b=U (.tup<|k.map kV)/\c.length<de/\H'=upd H a (.dT<|putK c k v)
theorem Ff.k{k:Key}(e:H a=U (.dK b)):Ff H a (kV k)<|lE b k:=.inl ⟨b,k,.inl e,J,J⟩
theorem Ke.k{k:Key}(e:H a=U (.dK b))(hl:b.length<de):Ke H a (kV k) v<|upd H a<|.dK<|putK b k v:=.inl ⟨b,k,e,J,hl,J⟩
def Inv.big(I:Inv X Z W H s):kl<s.z:=by
 have h:eP<s.z:=(I.mod.glob.keeps I.bk).lt;exact Nj (by decide) h
def þ{Q:Kp}(j:A.units+1<mI)(I:Inv X Z W H s)(g:Ff H a y o)(i:RelV y u)(h:∀s',Inv X Z W H s'->Q (.bool o.isSome) s') :
  dg (mX X) A (en .In u<|.ref a) Q E s:=by
 rcases g with⟨n,k,e,d,l⟩|⟨n,k,b,e,d,m,l⟩
 .subst d
  obtain⟨z,hd,p,c,f⟩:=Fc I.bA e;refine wpAny_in_of (Ac i) hd f.mapOf ?_;rw[<- (c.val k).hU,<- l];exact h _<|I.tok _
 .subst d
  cases(show u=Value.ref b from i);obtain⟨z,hd,xs,c,f⟩:=Fd I.bA e;refine wpAny_in_heap (sT j) (tL I.bA m) hd f ?_;have q:=(c.val k).hU;rw[Dv]at q;rw[<- q,<- l];exact h _<|I.tok _
def Kf{Q:Kp}(j:A.units+1<mI)(I:Inv X Z W H s)(g:Ff H a y o)(i:RelV y u)(h:∀s',Inv X Z W H s'->Q (.bool<|!o.isSome) s') :
  dg (mX X) A (en .NotIn u<|.ref a) Q E s:=by
 rcases g with⟨n,k,e,d,l⟩|⟨n,k,b,e,d,m,l⟩
 .subst d
  obtain⟨z,hd,p,c,f⟩:=Fc I.bA e;refine wpAny_notIn_of (Ac i) hd f.mapOf ?_;rw[<- (c.val k).hU,<- l];exact h _<|I.tok _
 .subst d
  cases(show u=Value.ref b from i);obtain⟨z,hd,xs,c,f⟩:=Fd I.bA e;refine wpAny_notIn_heap (sT j) (tL I.bA m) hd f ?_;have q:=(c.val k).hU;rw[Dv]at q;rw[<- q,<- l];exact h _<|I.tok _
def Ad(I:Inv X Z W H s)(mu:UL<|H a)(c:ry a s.heap h')(he:∃q,h'.get? a=U q)(new:bV X.prog X.w (upd H a ob) h' a ob) :
  Inv X Z W (upd H a ob) {s with heap:=h',toks:=t'}:=
 I.write (x:=a) (e:=a) mu (.inl J) (λb q d z=>(c.2 b d).trans z) he new
def Qy(z:c.length<=de)(hd:(a == kl)=Zi)(b:KV c vs)(dd:h'.DictOf (c9 P w) a vs) :
  bV P w H' h' a<|.dK c:=⟨z,hd,vs,b,dd⟩
def Cr{Q:L6}(K:A.units+1<mI)(I:Inv X Z W H s)(g:Ke H a y v H')(x:RelV y u)(B:RelV v r)(h:∀s',Inv X Z W H' s'->Q () s') :
  dg (mX X) A (setItem (.ref a) u r) Q E s:=by
 rcases g with⟨f,k,e,o,l,p⟩|⟨f,k,b,e,o,F,l,p⟩
 .subst o p
  obtain⟨z,hd,G,d,t⟩:=VD I.bA e;have m:G.length<=de:=by rw[<- d.length];exact z
  have hl:(putK f k v).length<=de:=by have:=mF f k v;lia
  refine wpAny_setItem_pairs (hsz:=m) (Ac x) t λC j n=>h _ ?_;have L:∃q,C.get? a=U q:=let⟨q,_,_,i,_⟩:=j;⟨q,i⟩;exact Ad I (by rw[e];exact gL) n L<|Qy hl hd (d.put k B) j
 .subst o p
  cases(show u=Value.ref b from x);obtain⟨z,hd,xs,d,t⟩:=VE I.bA e;have m:xs.length<=de:=by rw[<- Paired.length d];exact z
  have hl:(putK f k v).length<=de:=by have:=mF f k v;lia
  refine wpAny_setItem_heap (hsz:=m) (sT K) (tL I.bA F) t λC j n=>h _ ?_;obtain⟨q,S,T,i,R,P,N,_,M⟩:=j;refine Ad I (by rw[e];exact gL) n ⟨q,i⟩ ⟨hl,hd,_,(d.put k F B).keeps λc ys D=>?_,q,S,T,i,R,P,N,M⟩
  rw[ai (UK D e (λz=>nomatch z))];exact D
def VF(d ty c:TE):TS:=λD W H=>c W H λv H1=>d W H1 λx f=>ty W f λy e=>∃a b,x=.ref a/\Ke e a y v b/\D.nx W b
section
variable{K ty L:TE}
def Kg(l:X.A.units+1<mI)(n:PE X o K)(p:PE X i ty)(k:PE X Q L)(m:fu Q (U<|.Subscript o i R) pos.line X.env=pure Zi) :
  PS X (.Assign [.Subscript o i R] Q pos)<|VF K ty L:=by
 intro Z s W H D I h;refine Gu (b7 (k Z s W H _ I h) λr c b=>?_) m;obtain⟨v,H1,z,f,q1⟩:=b;refine b7 (n Z c W H1 _ z q1) λu s2 b=>?_;obtain⟨x,C,w,e,q2⟩:=b;refine b7 (p Z s2 W C _ w q2) λF s3 b=>?_;obtain⟨y,G,t,d,a,B,ex,g,j⟩:=b;subst ex
 obtain rfl:u=Value.ref a:=e
 exact Cr l t g d f λE q=>⟨W,B,q,j⟩
end
def Fg(h:ek)(a:kl<h.objs.size):bV P w H (h.push {cls:=.type "dict",data:=.dict #[]}) h.objs.size<|.dK []:=
 ⟨iU _,beq_eq_false_iff_ne.mpr<|et<|dP a,[],.nil,Heap.DictOf.new h⟩
def Qz:TE:=λ_ H Q=>∀p,H p=Y->Q (.ref p) (upd H p<|.dK [])
def Fi:PE X (.Dict [] [] pos) Qz:=λZ s W H Q I h=>
 wpAny_Dict_empty ⟨.ref s.z,_,I.laid (a:=s.z) (o:=.dK []) (t':=s.toks) (λ_ _ q=>b0 _ q) (eA _)<|Fg s.heap I.big,J,h _<|I.bA.fresh<|eA _⟩
end L2
namespace Pf
def fK:B1->B1->B1
 |seen,[]=>seen
 |seen,c::l=>fK (if c∈seen then seen else c::seen) l
end Pf
namespace L2
open PySem PySem.Spec PyProof.Rows
def i0(seen:B1)(k:Str):Bool:=seen.any λc=>decide<|k=⟨#[c]⟩
theorem kC{A:eh}(D:A.in1.handled=Y)(m:I≠S)(K:x.cps.size+1<n9) :
  ∀(l:B1)(i:Nat)(seen:B1)(s:ax),x.cps.toList.drop i=l->seen.length<=i->i<=x.cps.size->s.heap.IsStrIter I "str_ascii_iterator" x t i->o8 (strKind prog w) s.heap S (i0 seen) seen.length ->
   (∀(h':ek)(tk:Nat),(∀b o,b≠S->b≠I->s.heap.get? b=U o->h'.get? b=U o)->o8 (strKind prog w) h' S (i0<|Pf.fK seen l) (Pf.fK seen l).length->R (.ok<|.ret .none) {s with heap:=h',toks:=tk}) ->
   hZ (cx prog w) A (Code.builtin "set.update.loop" {pos:=[.ref S,.ref I]}) R s
 |[],i,seen,s,hl,v,H,a,r,h=>by
  refine nu F.entry_set_update_loop ?_;rw[xw F.plain_set_update_loop];have n:x.cps[i]?=Y:=by
   have:=List.drop_eq_nil_iff.mp hl
   rw[kf]at this;exact Array.getElem?_eq_none (by lia)
  refine ag<|wpAny_pyNext_ascii_end D a n λh' E=>?_;apply dk;refine h h' s.toks (λb o _ p y=>E b o p y) ?_;obtain⟨o,B,C,u,j,g⟩:=r;exact⟨o,B,C,u,E _ _ (et m) j,g⟩
 |c::l,i,seen,s,hl,v,H,a,r,h=>by
  refine nu F.entry_set_update_loop ?_;rw[xw F.plain_set_update_loop];have T:x.cps.toList[i]?=U c:=by
   have:=ey (λq=>q[0]?) hl
   simpa using this
  have n:x.cps[i]?=U c:=by simpa using T
  have W:i<x.cps.size:=(Array.getElem?_eq_some_iff.mp n).1;refine ag<|wpAny_pyNext_ascii_item a n λM ÿ e=>?_;have Q:o8 (strKind prog w) M S (i0 seen) seen.length:=by
   obtain⟨o,B,C,u,j,g⟩:=r;exact⟨o,B,C,u,(e.2 S<|et m).trans j,g⟩
  refine ag<|eJ<|eJ<|ag<|(strKind prog w).pyHash (k:=⟨#[c]⟩) (strKind_is prog w ⟨#[c]⟩ _) ?_;refine wpAny_setAddHashed_of (strKind_is prog w ⟨#[c]⟩ _) J Q (by lia) λL d P=>?_
  refine dk ⟨plainId_quiet F.plain_set_update_loop _,?_⟩;have N:i0 seen ⟨#[c]⟩=decide (c∈seen):=by
   unfold i0;rw[zm];simp
  have Ā:L.IsStrIter I "str_ascii_iterator" x t<|i+1:=by
   obtain⟨o,j,g⟩:=ÿ;exact⟨o,(d.2 I m).trans j,g⟩
  refine kC D m K l (i+1) (if c∈seen then seen else c::seen) _ ?_ ?_ (by lia) Ā ?_ λh' tk G V=>?_
  .have:=ey List.tail hl
   rw[List.tail_drop]at this;exact this
  .split
   .lia
   .simp;lia
  .refine SetOf_congr P (λk=>?_) ?_
   .by_cases hc:c∈seen
    .rw[cv hc]
     unfold i0;rw[zm];simp only[oq,DV,c7];constructor
     .rintro(z|z)
      .exact z
      .exact⟨c,hc,z⟩
     .exact λz=>.inl z
    .rw[cb hc]
     unfold i0;rw[lq,Bool.or_comm]
   .rw[N]
    by_cases hc:c∈seen
    .rw[cw hc,cv J,cv hc]
    .rw[ar hc,cb gx,cb hc];rfl
  .exact h h' tk (λb o f p y=>G b o f p<|(d.2 b f).trans<|(e.2 b p).trans y) V
def tM{A:eh}(C:A.handled=Y)(G:x.cps.all (· < 128)=O)(D:x.cps.size+1<n9)
  (h:∀h' tk,(∀b o,s.heap.get? b=U o->h'.get? b=U o)->o8 (strKind prog w) h' s.z (i0<|Pf.fK [] x.cps.toList) (Pf.fK [] x.cps.toList).length->Q (.ref s.z) {s with heap:=h',toks:=tk}) :
  dg (cx prog w) A (call (.type "set") [.str x t]) Q E s:=by
 obtain⟨i,g,d,j,os⟩:=s;obtain⟨c,tl,z⟩:=F.called_set.mro;refine f7<|vu ?_;refine dk ⟨kn _<|by decide +kernel,nu F.entry_type_call ?_⟩
 rw[z3 (Jn _ _ _) J];unfold Builtin.«type.__call__»;dsimp only;refine nr ?_ ?_
 .rw[F.called_set.notType];rfl
 refine nr ?_ ?_
 .rw[F.called_set.canCreate];rfl
 refine ag<|pb (F.typeCall_set_1 _) ?_;refine ag<|pb z ?_;refine nr J ?_;refine ag<|pb F.called_set.made ?_;refine ag<|dk ?_;refine ag<|eJ<|f7<|gs (code_set_new_1 (E:=λ_ _=>False) (Q₁:=λv u=>∃a,v=.ref i.objs.size/\u=⟨i.push {cls:=.type "set",data:=.set #[] 0 (SetTable.fresh 0 0 a)},g,d,j,os⟩) (.str x t) λa=>⟨a,J,J⟩) ?_;intro r K k;cases r with
 |error e=>exact k.elim
 |ok f=>
  cases f with
  |next=>exact k.elim
  |brk=>exact k.elim
  |cont=>exact k.elim
  |ret v=>
   obtain⟨a,rfl,rfl⟩:=k;have p:=dw i (o:={cls:=.type "set",data:=.set #[] 0 (SetTable.fresh 0 0 a)}) J;have l:Shared.TypeIs ⟨i.push {cls:=.type "set",data:=.set #[] 0 (SetTable.fresh 0 0 a)},g,d,j,os⟩ (.ref i.objs.size) "set" := ⟨_,p,J⟩;refine ag<|wpAny_isInstance l F.called_set.sub ?_;refine nr J ?_;refine ag<|eJ ?_;unfold callSpecial?;refine ag<|wpAny_specialOf l F.called_set.init.lookup ?_;dsimp only;refine eJ<|ag<|pb (F.called_set.init.bind _) ?_;dsimp only;refine ag<|f7<|fw F.called_set.init.plain F.entry_set_init<|check_set_init_1 l ?_;have I:=F.sub_str_set;have H:=F.sub_str_frozenset
   wp_walk using wpAny_pyIter_ascii G
   have n:(i.push {cls:=.type "set",data:=.set #[] 0 (SetTable.fresh 0 0 a)}).objs.size=i.objs.size+1:=i4 ..;refine kC (A:=A.in1.in1) (x:=x) (t:=t) (show A.in1.in1.in1.handled=Y from C) ?_ D x.cps.toList 0 [] _ BW (iU _) (iU _) ?_ ?_ λh' tk B y=>?_
   .show(i.push _).objs.size≠i.objs.size
    rw[n];lia
   .exact⟨_,dw _ J,J,J⟩
   .refine SetOf_congr ((setObjOf_fresh a).setOf (b0 _ p)<|by decide) (λ_=>J) J
   .refine dk<|dk<|dk<|nr J<|dk ?_
    refine h h' tk (λb o m=>?_) y;have q:b<i.objs.size:=c4 m;refine B b o (dP q) ?_<|b0 _<|b0 _ m;show b≠(i.push _).objs.size;rw[n];exact dP<|D9 q
def Cs(L:X.calm=O)(ā:X.mg "len" = Y)(Ă:X.mg "set" = Y)(M:PE X a ta)(Ut:Gl X "len" := by rfl)(ă:Gl X "set" := by rfl)
  (r:dn [a] X.env=(Zi,fC a X.env)::dn [] X.env:=by rfl) (hpl:(hQ lF<|dn [] X.env).any (·.1)=Zi:=by rfl)
  (C:dn [.Call (.Name "set" p1) [a] [] lF] X.env=(Zi,fC (.Call (.Name "set" p1) [a] [] lF) X.env)::dn [] X.env:=by rfl) (Ą:(hQ pos<|dn [] X.env).any (·.1)=Zi:=by rfl) :
  PE X (.Call (.Name "len" p) [.Call (.Name "set" p1) [a] [] lF] [] pos) λc H Q=>ta c H λv H1=>∃z:Str,v=.str z/\z.cps.all (· < 128)=O/\z.cps.size+1<n9/\Q (.int ((Pf.fK [] z.cps.toList).length:Nat)) H1:=by
 intro B s c H Q I h;have b:Md X (fC (.Call (.Name "set" p1) [a] [] lF) X.env) (λu m=>∃(D:cq)(n:Nat)(S:Str->Bool)(H1:Hp),u=.ref D/\Inv X B c H1 m/\o8 (strKind X.prog X.w) m.heap D S n/\n<n9/\Q (.int (n:Nat)) H1) X.xe s:=by
  have N:=(bq M dm r) lF B s c H (λl H1=>∃z:Str,l=[.str z]/\z.cps.all (· < 128)=O/\z.cps.size+1<n9/\Q (.int ((Pf.fK [] z.cps.toList).length:Nat)) H1) I (by
   show ta c H _;exact cast (ey (ta c H)<|funext λv=>funext λH1=>propext ⟨by rintro⟨z,e,q⟩;exact⟨z,by rw[e],q⟩,λ⟨z,e,q⟩=>⟨z,(by cases e;rfl),q⟩⟩) h)
  refine ew<|iW I ă Ă PyProof.Rows.boot_set<|zP (b7 N λus i g=>?_) r hpl;obtain⟨l,H1,f,F,q1⟩:=g;obtain⟨z,rfl,k,j,q⟩:=q1;obtain⟨u,rfl,⟨t,rfl⟩⟩:=F.one;refine tM (f.ok.hd L) k j λh' tk K d=>?_;have x:(Pf.fK [] z.cps.toList).length<n9:=by
   obtain⟨o,P,R,E,_,_,_,_,_,V,_,y⟩:=d
   lia
  exact⟨_,_,_,H1,J,f.kept (t':=tk) K,d,x,q⟩
 refine ew<|iW I Ut ā tv<|Nr ?_ C Ą;rw[C];refine EB<|b7 b λu i g=>?_;obtain⟨D,n,S,H1,e,f,d,x,q⟩:=g;subst e;apply dk;obtain⟨o,P,R,E,e1,Z,W,e4,e5,V,T,y⟩:=d;have G:n9=4096:=J;refine call_len_set e1 Z W T (by lia) ⟨.int (n:Nat),H1,f.kept (t':=i.toks+1+1) λ_ _ z=>z,⟨i.toks+1,?_⟩,q⟩
 rw[y]
end L2
namespace PySem
open Sem (wp)
open AutoSeq1 (wpAny_loadPart')
section
variable{prog:dv}{w:ee}{A:eh}{E:Kp}{s:ax}
set_option maxHeartbeats 4000000 in
def i6(l:cq)(items:Array bp)(n:Nat)(h_:Option cq)(sl:Array D1)(t:Tok) :
  Meets (Builtin.«enumerate.__new__» ⟨[.type "enumerate",.ref l],[(hJ "start",.int 1 t)]⟩) λ_ R s=>s.heap.get? l=U {cls:=.type "list",dict:=h_,data:=.seq items n,slots:=sl} /\
   R (.ok<|.ret<|.ref (s.heap.push {cls:=.type "list_iterator",data:=.fields #[.ref l,.int 0 0]}).objs.size)
    {s with heap:=(s.heap.push {cls:=.type "list_iterator",data:=.fields #[.ref l,.int 0 0]}).push {cls:=.type "enumerate",data:=.fields #[.none,.bool Zi,.ref s.z,oy 1,.none,.none]}}:=
 .of_wp λprog w A R s h=>by
  obtain⟨hp,g,d,tk,os⟩:=s;obtain⟨hl,h⟩:=h;have ą:=sub_enumerate;have hL:Heap.IsList (Shared.heap ⟨hp,g,d,tk,os⟩) l items:=⟨_,hl,J,n,J⟩
  wp_walk using oT hl
  refine wpAny_stack_any λst=>dk ?_;split
  .rename_i c _ _ _ _ _
   cases(c == n3 "enumerate")
   .wp_walk using oT hl,ke hL
    exact⟨_,J,h⟩
   .wp_walk using oT hl,ke hL
    exact⟨_,J,h⟩
  .wp_walk using oT hl,ke hL
   exact⟨_,J,h⟩
def jP(hl:sx (.type T) "__init__" = pure (U<|.builtin "object.__init__"))
  (e:Bind.madeBy (.type T)=pure (U newId)) (d:(U newId != U "object.__new__")=O) :
  Meets (Builtin.«object.__init__» ⟨self::rest,kw⟩) λ_ R s=>s.TypeIs self T/\R (.ok<|.ret .none) s:=by
 refine Meets.of_wp λprog w A R s c=>?_;obtain⟨f,b⟩:=c;cases rest with
 |nil=>
  cases kw with
  |nil=>exact dk ⟨_,J,b⟩
  |cons a kw=>
   repeat (any_goals (first|assumption|wp_step))
   exact⟨_,J,b⟩
 |cons a rest=>
  repeat (any_goals (first|assumption|wp_step))
  exact⟨_,J,b⟩
def i7(a b:bp):checkTypeCall "enumerate" ⟨[a],[(hJ "start",b)]⟩=pure ():=by kernel_rfl
def jB(a b:bp):ma "enumerate.__new__" ⟨[.type "enumerate",a],[(hJ "start",b)]⟩=pure ():=by kernel_rfl
def vH(o a b:bp):argsOk "object.__init__" ⟨[o,a],[(hJ "start",b)]⟩:=by
 unfold argsOk;rw[signature?_of (id := "object.__init__") (n:=['_','_','t','i','n','i','_','_']) (o:=['t','c','e','j','b','o']) (by kernel_rfl) F.owner_object];kernel_rfl
set_option maxHeartbeats 4000000 in
def lG{l:cq}{items:Array bp}{t:Tok}{Q:Kp}(hL:s.heap.IsList l items)
  (h:∀h',IsEnum h' (s.z+1) s.z 1 .none->h'.IsListIter s.z l 0->h'.objs.size=s.z+2 ->
   (∀b o,s.heap.get? b=U o->h'.get? b=U o)->Q (.ref<|s.z+1) {s with heap:=h'}) :
  dg (cx prog w) A (call (.type "enumerate") [.ref l] [(hJ "start",.int 1 t)]) Q E s:=by
 obtain⟨⟨c,h_,dt,sl⟩,hl,hc,n,hd⟩:=hL
 replace hc:c=.type "list" := hc
 replace hd:dt=.seq items n:=hd
 subst hc hd;have ft:=F.called_enumerate;obtain⟨c,tl,aaq⟩:=ft.mro;have aal:=ft.made;have ą:=ft.sub;have hct:=i7 (.ref l)<|.int 1 t;have hcn:=jB (.ref l)<|.int 1 t;refine f7<|vu ?_;show dg _ _ (callAny (.type "enumerate") _) _ _ _;refine dk ⟨kn _<|by decide +kernel,nu F.entry_type_call ?_⟩
 rw[z3 (Jn "enumerate" _ _)<|units_type_call_type "enumerate" _ _];have h1:=ft.notType;have h2:=ft.canCreate
 repeat (any_goals (first|assumption|wp_step))
 have hz:(s.heap.push {cls:=.type "list_iterator",data:=.fields #[.ref l,.int 0 0]}).objs.size=s.z+1:=i4 ..;have he:IsEnum ((s.heap.push {cls:=.type "list_iterator",data:=.fields #[.ref l,.int 0 0]}).push
   {cls:=.type "enumerate",data:=.fields #[.none,.bool Zi,.ref s.z,oy 1,.none,.none]}) (s.z+1) s.z 1 .none:=by
  have:=dw (s.heap.push {cls:=.type "list_iterator",data:=.fields #[.ref l,.int 0 0]})
   (o:={cls:=.type "enumerate",data:=.fields #[.none,.bool Zi,.ref s.z,oy 1,.none,.none]}) J
  rw[hz]at this;exact this
 have fin:=h _ he ⟨_,b0 _<|dw _ J,J,J⟩ (by rw[i4,hz]) λb o x=>b0 _<|b0 _ x
 refine gs (fw ft.plain F.entry_enumerate_new<|pb hcn<|i6 l items n h_ sl t prog w A.in1 (wants (λobj s₁=>s₁.TypeIs obj "enumerate" /\ Q obj s₁) E) s ⟨hl,?_⟩) λr s₁ hr=>?_
 .show _/\_
  rw[hz];exact⟨⟨_,he,J⟩,fin⟩
 cases r with
 |error e=>exact hr
 |ok fl=>
  cases fl with
  |ret obj=>
   obtain⟨hT,hq⟩:=hr;have VJ:=ft.init.lookup;have hbi:=ft.init.bind obj
   repeat (any_goals (first|assumption|wp_step))
   refine gs (fw ft.init.plain F.entry_object_init<|ft.init.check _ _ _ _ _ _ _ _ hT (vH _ _ _)<|jP ft.init.lookup ft.made (by decide) prog w A.in1 (wants (λr s₂=>r=.none/\Q obj s₂) E) s₁ ⟨hT,J,hq⟩) λr₂ s₂ hr₂=>?_
   cases r₂ with
   |error e=>exact hr₂
   |ok fl₂=>
    cases fl₂ with
    |ret r=>
     obtain⟨rfl,hq⟩:=hr₂
     repeat (any_goals (first|assumption|wp_step))
    |_=>exact hr₂.elim
  |_=>exact hr.elim
end
end PySem
namespace L2
open PySem PySem.Spec PyProof.Rows
def Fj{A:eh}{St:Nat->ek->Prop}(D:Draws prog w A it b n P St)(m:Nat):Draws prog w A it b (m+n) (λj x=>∃i,j=m+i/\P i x) λj h=>∃i,j=m+i/\St i h where
 live:=λ_ h ⟨i,_,st⟩=>D.live i h st
 frame:=λ_ h a ⟨i,e,st⟩ k=>⟨i,e,D.frame i h a st k⟩
 item:=λj s Q E l ⟨i,e,st⟩ f=>D.item i s Q E (by lia) st λx a tk p c d=>f x a tk ⟨i,e,p⟩ ⟨i+1,by lia,c⟩ d
 done:=λs Q E ⟨i,e,st⟩ g=>by
  have:i=n:=by lia
  subst this;exact D.done s Q E st g
def VL(K:bh)(m:Nat)(l:cq)(xs:List V):It:=
 ⟨λi H=>i<xs.length/\dW K H l xs,λi H v a=>∃p x,H p=Y/\xs[i]?=U x/\v=.ref p/\a=upd H p (.tup [.int ((m+i:Nat):Int),x]),λi H=>i=xs.length/\dW K H l xs⟩
def oX{K:bh}(Ć:e≠it)(Z:l≠e)(VJ:l≠it) :
  Turn P w K (.Tuple z x1 pos) (VL K m l xs) [e,it] e λi h=>(∃old,IsEnum h e it ((m+i:Nat):Int) old)/\h.IsListIter it l i where
 mem:=by simp
 obj:=λi h st b a=>by
  obtain⟨⟨old,g⟩,o1,e1,_,d1⟩:=st;simp only[bF,mU,lb]at a;rcases a with rfl|rfl
  .exact⟨_,g,λv q=>by cases q⟩
  .exact⟨o1,e1,λv q=>by rw[d1]at q;cases q⟩
 keep:=λi h L st k=>by
  obtain⟨⟨old,g⟩,y⟩:=st;exact⟨⟨old,k e (by simp) _ g⟩,y.at λo q=>k it (by simp) o q⟩
 item:=by
  intro X hP Q hK j i aa s σ H E I f st hg;subst hP Q hK;obtain⟨G,S⟩:=hg;obtain⟨⟨old,g⟩,y⟩:=st;obtain⟨au,C,pl,R⟩:=I.list S;obtain⟨u,hu,ru⟩:=C.get<|fQ G;have ZC:i<au.toArray.size:=by rw[cM,<- C.length];exact G
  have D:=Fj (Draws.list (prog:=X.prog) (w:=X.w) (A:=X.A.in1) (I.ok.hd j) it l VJ au.toArray) m;refine wpAny_pyNext_enum_itemD (n:=m+au.toArray.size) D g ⟨i,J,y,pl.isList⟩ (by lia) Ć (by simp only[bF,mU,lb,tc];exact⟨Ć,et Z⟩) λx L tk F a1 a2 a3 a4 N=>?_
  obtain⟨p,ei,F⟩:=F
  have:p=i:=by lia
  subst this;have hx:x=u:=by
   rw[List.getElem?_toArray,hu]at F;exact(j8.inj F).symm
  subst hx;obtain⟨i2,ei2,a2,_⟩:=a2
  have:i2=p+1:=by lia
  subst this;refine⟨.ref s.z,J,?_⟩;refine wpAny_letOwnedTupleGo_enum (s:={s with heap:=L,toks:=tk+1}) a1 λM b1 b2=>?_
  have lt:∀{d o},s.heap.get? d=U o->s.z≠d:=λe=>BZ<|c4 e;have fpn:∀b∈[e,it],s.z≠b:=λb a=>by
   obtain⟨o1,e1,_⟩:=y;simp only[bF,mU,lb]at a;rcases a with rfl|rfl
   .exact lt g
   .exact lt e1
  have keep:∀b o,b∉[e,it]->s.heap.get? b=U o->M.get? b=U o:=λb o a q=>by
   simp only[bF,mU,lb,tc]at a;exact(b2.2 b a.1).trans<|N b o a.1 a.2 q
  have t:H s.z=Y:=I.bA.fresh<|eA _;have hT:M.get? s.z=U {cls:=.type "tuple",data:=.seq #[.int ((m+p:Nat):Int) tk,x]}:=(b2.2 _<|lt g).trans a3;have VM:IsTup M s.z ([.int ((m+p:Nat):Int) tk,x]:B2).toArray:=⟨_,hT,J,0,J⟩;have B:∀b v,H b=U v->b∉[e,it]:=λb v q a=>by rw[(f b a).1]at q;cases q
  have I1:Inv X aa σ (upd H s.z<|.tup [.int ((m+p:Nat):Int),xs[p]]) {s with heap:=M,toks:=tk+1}:=by
   refine I.step (g':=s.gens) (d':=s.drawn) (t':=tk+1) (ch:=[e,it]) (λb a=>⟨(f b a).2.2.2.1,(f b a).2.1,(f b a).2.2.2.2.1,(f b a).2.2.2.2.2⟩) (λb o _ _ a e _=>keep b o a e) (λb o _ _ a e _=>⟨o.slots,keep b o a e⟩)
    (λb o a e n=>by rw[ai<|et<|lt e];exact n) (λb o a e=>⟨o,keep b o a e⟩) (λb ys e=>by rw[ai<|aJ e t];exact e) (λb o v e=>by rw[ai<|aJ e t];exact e)
    (λb ps e=>⟨#[],by rw[ai<|aJ e t,e];simp⟩) (λm W=>?_) ?_ I.bare
   .obtain⟨o,es,ep,T,r⟩:=W
    exact⟨o,es,ep,keep _ o (λa=>(f _ a).2.1 J) T,r⟩
   .intro b v e
    by_cases a:b=s.z
    .subst a
     rw[ak]at e;cases e;exact⟨by show 2<=de;decide,_,.cons ⟨_,J⟩<|.cons ru .nil,VM⟩
    .rw[ai a]at e
     refine(I.bA b v e).oF (λc o j q=>keep c o ?_ q) (λc q=>by rw[ai<|aJ q t];exact q) λc ys q=>by rw[ai<|aJ q t];exact q
     rcases j with rfl|j
     .exact B c v e
     .exact B c _ j
  have eN:((m+p:Nat):Int)+1=((m+(p+1):Nat):Int):=by lia
  refine⟨.ref s.z,_,I1,J,⟨_,_,t,fQ G,J,J⟩,⟨⟨x,eN▸b1⟩,a2.at λo q=>(b2.2 it Ć.symm).trans q⟩,λb a=>?_⟩;rw[ai<|et<|fpn b a];exact(f b a).1
 done:=by
  intro X hP Q hK j i aa s σ H E I f st hg;subst hP Q hK;obtain⟨G,S⟩:=hg;obtain⟨⟨old,g⟩,y⟩:=st;obtain⟨au,C,pl,R⟩:=I.list S;have hl:=C.length;have D:=Fj (Draws.list (prog:=X.prog) (w:=X.w) (A:=X.A.in1) (I.ok.hd j) it l VJ au.toArray) m;refine wpAny_pyNext_enum_endD (n:=m+au.toArray.size) D g ⟨i,by rw[cM];lia,y,pl.isList⟩ λL N=>⟨J,?_⟩
  have B:∀b v,H b=U v->b∉[e,it]:=λb v q a=>by rw[(f b a).1]at q;cases q
  have keep:∀b o,b∉[e,it]->s.heap.get? b=U o->L.get? b=U o:=λb o a q=>by
   simp only[bF,mU,lb,tc]at a;exact N b o a.2 q
  refine I.step (g':=s.gens) (d':=s.drawn) (t':=s.toks) (ch:=[e,it]) (λb a=>⟨(f b a).2.2.2.1,(f b a).2.1,(f b a).2.2.2.2.1,(f b a).2.2.2.2.2⟩) (λb o _ _ a e _=>keep b o a e) (λb o _ _ a e _=>⟨o.slots,keep b o a e⟩)
   (λb o a e n=>n) (λb o a e=>⟨o,keep b o a e⟩) (λ_ _ e=>e) (λ_ _ _ e=>e) (λb ps e=>⟨#[],by rw[e];simp⟩) (λm W=>?_) (λb v e=>?_) I.bare
  .obtain⟨o,es,ep,T,r⟩:=W
   exact⟨o,es,ep,keep _ o (λa=>(f _ a).2.1 J) T,r⟩
  .refine(I.bA b v e).oF (λc o j q=>keep c o ?_ q) (λ_ q=>q) λ_ _ q=>q
   rcases j with rfl|j
   .exact B c v e
   .exact B c _ j
 self:=λ_ _ _ _ _ st h=>by obtain⟨⟨old,g⟩,_⟩:=st;exact ti g h
def QA(K:bh)(m:Nat)(c:TA):TI:=λa H R=>c a H λb H1=>∃l xs,b=[.ref l]/\dW K H1 l xs/\R (VL K m l xs) H1
def VO(z:Gl X "enumerate")(y:X.mg "enumerate" = Y)(A:PA X [a] f)(w:dn [a] X.env=[(Zi,fC a X.env)]) :
  PI X (.Tuple d n v) (.Call (.Name "enumerate" p) [a] [] pos)<|QA X.K 0 f:=by
 intro C s k H R I h;refine Call_<|iW I z y Nx<|zP (b7 (A pos C s k H _ I h) λE c m=>?_) (by rw[w];rfl) J
 obtain⟨D,H1,I1,r,q1⟩:=m;obtain⟨l,xs,e,x,q⟩:=q1;subst e;obtain⟨u,rfl,o⟩:=vals1 r;cases o;obtain⟨au,F,pl,G⟩:=I1.list x;refine call_enumerate_list pl.isList λB a1 a2 _ t=>ti (s:={c with heap:=B}) a1 ?_
 have i:l<c.z:=let⟨_,e,_⟩:=pl.isList;c4 e;refine⟨c.z+1,_,_,_,H1,J,I1.kept (t':=c.toks) t,oX (l:=l) (it:=c.z) (BZ<|ou _) (dP<|D9 i)<|dP i,⟨⟨_,a1⟩,a2⟩,λb j=>?_,q⟩;have g:c.z<=b:=by
  simp only[bF,mU,lb]at j;rcases j with rfl|rfl
  .exact fJ _ _
  .exact eA _
 exact I1.xO g<|I1.bA.fresh g
def QC{A p pos j kp:Pos}(D:Gl X "enumerate")(C:X.mg "enumerate" = Y)(E:PA X [a] g)(n:dn [a] X.env=[(Zi,fC a X.env)]) :
  PI X (.Tuple d w A) (.Call (.Name "enumerate" p) [a] [⟨U<|hJ "start",.Constant (.int 1) k1 j,kp⟩] pos)<|QA X.K 1 g:=by
 intro r s f H R I h;refine ew<|iW I D C Nx ?_;refine PySem.W.callWith_of (P:=λ_=>True) (by rw[n];rfl) (λh _=>⟨.machine,.inr<|.inl J,.now⟩) ?_
 refine PyProof.Rows.evalArgs_kw2 J (b7 (E pos r s f H _ I h) λM c t=>?_) n;obtain⟨L,H1,G,y,q1⟩:=t;show dg _ _ (evalAll [(do let v <- fC (.Constant (.int 1) k1 j) X.env;rb pos;pure v)]) _ _ c
 refine wpAny_evalAll_cons<|ag<|wpAny_Constant_int<|ag<|gN<|dk<|wpAny_evalAll_nil ⟨trivial,?_⟩;obtain⟨l,xs,e,B,q⟩:=q1;subst e;obtain⟨u,rfl,x⟩:=vals1 y;cases x;have I2:Inv X r f H1 {c with toks:=c.toks+1}:=G.tok _
 obtain⟨au,N,pl,Q⟩:=I2.list B;show dg _ _ (call (.type "enumerate") [.ref l] [(hJ "start",.int 1 c.toks)]) _ _ {c with toks:=c.toks+1}
 refine lG pl.isList λF a1 a2 _ z=>ti (s:={c with heap:=F,toks:=c.toks+1}) a1 ?_
 have k:l<c.z:=let⟨_,e,_⟩:=pl.isList;c4 e;refine⟨c.z+1,_,_,_,H1,J,I2.kept (t':=c.toks+1) z,oX (m:=1) (l:=l) (it:=c.z) (BZ<|ou _) (dP<|D9 k)<|dP k,⟨⟨_,a1⟩,a2⟩,λb o=>?_,q⟩;have i:c.z<=b:=by
  simp only[bF,mU,lb]at o;rcases o with rfl|rfl
  .exact fJ _ _
  .exact eA _
 exact I2.xO i<|I2.bA.fresh i
end L2
namespace D
inductive Ky where
 |i (n:Int)|s (l:B1)
 deriving DecidableEq
inductive T where
 |non|bl (b:Bool)|int (i:Int)|str (l:B1)|tup (xs:List T)|lst (xs:List T)
 |scr (ns:Dx)
 |obj (c:Nat) (fs:List T)
 |own (k:Nat)
 |h_ (ks:List Ky) (vs:List T)
inductive C where
 |val (t:T)|ol (ts:List T)|od (ks:List Ky) (vs:List T)
 |yg (t:T)
structure Ob where
 c:Nat
 fs:List C
structure S where
 r:List<|Option C
 m:List Ob
abbrev Fm:=List<|Option C
abbrev Fs:=Option<|List T
abbrev FC:=List T
abbrev FK:=Option T
abbrev FR:=List Ob
inductive Res(α:Type) where
 |ok (a:α)|bad
 |exc (c:Nat) (fs:FC) (s:S)
def Res.bind(x:Res α)(f:α->Res b):Res b:=match x with
 |.ok a=>f a
 |.bad=>.bad
 |.exc c fs s=>.exc c fs s
def ae{x:Res α}{b:d}(h:x.bind f=.ok b):∃a,x=.ok a/\f a=.ok b:=by
 cases x with
 |ok a=>exact⟨a,J,h⟩
 |bad=>cases h
 |exc c fs s=>cases h
def cH:Option α->Res α
 |some a=>.ok a
 |none=>.bad
def aq{a:α}(h:cH o=.ok a):o=U a:=by
 cases o with
 |none=>cases h
 |some b=>cases h;rfl
def gd{α:Type}(p:Prop)[Decidable p](x:α):Option α:=if p then U x else Y
def bC[Decidable p]{x a:α}(h:gd p x=U a):p/\x=a:=by
 unfold gd at h;split at h
 .rename_i q;cases h;exact⟨q,J⟩
 .cases h
abbrev FE:=S->Res (T×S)
abbrev FT:=S->Res (Bool×S)
abbrev FL:=S->Res (FC×S)
inductive Out where
 |nx|rt (t:T)|bk|ct
abbrev FS:=S->Res (Out×S)
abbrev Fn:=FC->FR->Res (T×FR)
def VP:T->T->FK
 |.int i,.int j=>U<|.int<|i+j
 |.str a,.str b=>gd (a.length+b.length<=1000000)<|.str<|a++b
 |.lst a,.lst b=>gd (a.length+b.length<=1000000)<|.lst<|a++b
 |_,_=>Y
def VQ:T->T->FK
 |.int i,.int j=>U<|.int<|i-j
 |_,_=>Y
def ć:T->T->FK
 |.int i,.int j=>gd (((-(2^64)<i/\i<2^64)\/(-(2^64)<j/\j<2^64))\/(i.natAbs.log2<2000000/\j.natAbs.log2<2000000))<|.int<|i*j
 |.lst a,.int k=>gd (k<1000000/\-1000000<k/\a.length*k.toNat<=1000000)<|.lst (eQ k.toNat a).flatten
 |.str a,.int k=>gd (2<=k/\k<1000000/\a≠[]/\a.length*k.toNat<=1000000)<|.str (eQ k.toNat a).flatten
 |_,_=>Y
def VR:T->T->FK
 |.int i,.int j=>gd (0<j/\j<1073741824)<|.int<|i/j
 |_,_=>Y
def VS:T->T->FK
 |.int i,.int j=>gd (0<j)<|.int<|i % j
 |_,_=>Y
def VT:T->T->FK
 |.int i,.int j=>gd (0<=j/\j<=1000000/\i.natAbs<2^64)<|.int<|i^j.toNat
 |_,_=>Y
def kD:T->FK
 |.int i=>U<|.int<|-i
 |_=>Y
def Fo(f:Int->Int->Bool):T->T->FK
 |.int i,.int j=>U<|.bl<|f i j
 |_,_=>Y
mutual
def eqT:T->T->Bool
 |.non,.non=>O
 |.bl a,.bl b=>a == b
 |.int a,.int b=>decide<|a=b
 |.bl a,.int b=>decide<|(if a then 1 else 0:Int)=b
 |.int a,.bl b=>decide<|a=(if b then 1 else 0:Int)
 |.str a,.str b=>decide<|a=b
 |.tup a,.tup b=>i9 a b
 |.lst a,.lst b=>i9 a b
 |.scr a,.scr b=>decide<|a=b
 |.obj c a,.obj d b=>decide (c=d)&&i9 a b
 |.own a,.own b=>decide<|a=b
 |.h_ ks a,.h_ ls b=>decide (ks=ls)&&i9 a b
 |_,_=>Zi
def i9:FC->FC->Bool
 |[],[]=>O
 |a::as,b::bs=>eqT a b&&i9 as bs
 |_,_=>Zi
end
mutual
theorem oY:∀t:T,eqT t t=O
 |.non=>J
 |.bl b=>by cases b<;>rfl
 |.int i=>cw J
 |.str l=>cw J
 |.tup xs=>ia xs
 |.lst xs=>ia xs
 |.scr ns=>cw J
 |.obj c xs=>by
  show(decide (c=c)&&i9 xs xs)=O;rw[cw J,ia xs];rfl
 |.own k=>cw J
 |.h_ ks xs=>by
  show(decide (ks=ks)&&i9 xs xs)=O;rw[cw J,ia xs];rfl
theorem ia:∀ts:FC,i9 ts ts=O
 |[]=>J
 |t::ts=>by
  show(eqT t t&&i9 ts ts)=O;rw[oY t,ia ts];rfl
end
def cy:T->Bool
 |.bl _=>O
 |.int _=>O
 |.str _=>O
 |.non=>O
 |_=>Zi
def all2(p:T->T->Bool):FC->FC->Bool
 |a::as,b::bs=>p a b&&all2 p as bs
 |_,_=>O
def shape:Nat->T->T->Bool
 |n+1,.tup as,.tup bs=>all2 (shape n) as bs
 |n+1,.lst as,.lst bs=>all2 (shape n) as bs
 |_,a,b=>cy a&&cy b
def ZD:T->T->FK:=λa b=>gd (shape 5 a b=O)<|.bl<|eqT a b
def Ĉ:T->T->FK:=λa b=>gd (shape 5 a b=O)<|.bl<|!eqT a b
def Fp:T->Bool
 |.non=>O
 |_=>Zi
def VU(p:Bool)(x y:T):FK:=match y with
 |.non=>U<|.bl<|p == Fp x
 |.bl b=>(match x with
  |.bl a=>U<|.bl<|p == (a == b)
  |_=>Y)
 |_=>Y
def ĉ:B1->B1->Bool
 |[c],l=>decide<|c∈l
 |x,l=>(gQ<|l.length+1).any λi=>decide (i+x.length<=l.length)&&((l.drop i).take x.length == x)
def Dp(x y:T):Option Bool:=match y with
 |.str l=>(match x with
  |.str x=>U<|ĉ x l
  |_=>Y)
 |.tup ys=>gd (cy x=O/\ys.all cy=O)<|ys.any λy=>eqT y x
 |.lst ys=>gd (cy x=O/\ys.all cy=O)<|ys.any λy=>eqT y x
 |_=>Y
def inD:T->T->FK:=λx y=>(Dp x y).map .bl
def QD:T->T->FK:=λx y=>(Dp x y).map λb=>.bl<|!b
def atT{α:Type}(xs:List α)(i:Int):Option α:=if 0<=i then(if i<xs.length then xs[i.toNat]? else Y)else if -(xs.length:Int)<=i then xs[(i+xs.length).toNat]? else Y
def VV(ks:List Ky)(vs:FC)(k:Ky):FK:=match ks,vs with
 |a::ks,v::vs=>if a=k then U v else VV ks vs k
 |_,_=>Y
def putK:List Ky->FC->Ky->T->List Ky×FC
 |a::ks,v::vs,k,t=>if a=k then(a::ks,t::vs)else let p:=putK ks vs k t;(a::p.1,v::p.2)
 |_,_,k,t=>([k],[t])
def Fq:T->Option Ky
 |.int i=>U<|.i i
 |.str l=>U<|.s l
 |_=>Y
def ZE:T->T->FK
 |.lst xs,.int i=>atT xs i
 |.tup xs,.int i=>atT xs i
 |.str l,.int i=>(atT l i).map λc=>.str [c]
 |.scr ns,.int i=>(atT ns i).map .int
 |.h_ b a,x=>(Fq x).bind<|VV b a
 |_,_=>Y
def QG:T->FK
 |.str l=>U<|.int l.length
 |.tup xs=>U<|.int xs.length
 |.lst xs=>U<|.int xs.length
 |.scr ns=>U<|.int ns.length
 |.h_ a _=>U<|.int a.length
 |_=>Y
def gu(n d:Nat):D2->Nat
 |none=>d
 |some v=>if v<0 then(v+(n:Int)).toNat else min v.toNat n
def bf{α:Type}(xs:List α)(lo a:D2):List α:=(xs.drop<|gu xs.length 0 lo).take<|gu xs.length xs.length a-gu xs.length 0 lo
def QH(lo a:D2):T->FK
 |.str l=>U<|.str<|bf l lo a
 |.lst l=>U<|.lst<|bf l lo a
 |.scr ns=>U<|.lst<|(bf ns lo a).map .int
 |_=>Y
def Kh:T->Option Bool
 |.bl b=>U b
 |.lst ts=>U<|!ts.isEmpty
 |_=>Y
def strsOf:FC->Option Ap
 |[]=>U []
 |.str l::ts=>(strsOf ts).map (l::·)
 |_=>Y
def gc(c:B1):Ap->B1
 |[]=>[]
 |[a]=>a
 |a::b::r=>a++c++gc c (b::r)
def NW:T->T->FK
 |.str a,.lst ts=>(strsOf ts).bind λys=>gd ((ys.map (·.length)).sum+ys.length*a.length<=1000000)<|.str<|gc a ys
 |_,_=>Y
def pre(s l:B1):Bool:=decide (s.length<=l.length)&&(l.take s.length == s)
def uN(s l:B1):Bool:=decide (s.length<=l.length)&&(l.drop (l.length-s.length) == s)
def boolsOf:FC->Option Fh
 |[]=>U []
 |.bl b::ts=>(boolsOf ts).map (b::·)
 |_=>Y
def QI:T->FK
 |.lst ts=>(boolsOf ts).map λbs=>.bl<|bs.all id
 |_=>Y
def Kl:T->FK
 |.lst ts=>(boolsOf ts).map λbs=>.bl<|bs.any id
 |_=>Y
def NX:T->FK
 |.lst a=>U<|.lst a
 |.tup a=>U<|.lst a
 |_=>Y
def VW:T->FK
 |.int i=>U<|.int<|if i<0 then -i else i
 |_=>Y
def bU:FE:=λ_=>.bad
def cF(t:T):FE:=λs=>.ok (t,s)
def jE(s:S)(i:Nat)(c:C):S:={s with r:=s.r.set i (U c)}
def vF(i:Nat):FE:=λs=>match s.r[i]? with
 |U<|U<|.val t=>.ok (t,s)
 |U<|U<|.ol ts=>.ok (.lst ts,jE s i<|.val<|.lst ts)
 |U<|U<|.od ks ts=>.ok (.h_ ks ts,jE s i<|.val<|.h_ ks ts)
 |_=>.bad
def dE(g:T->FK)(a:FE):FE:=λs=>(a s).bind λp=>(cH<|g p.1).bind λt=>.ok (t,p.2)
def bH(g:T->T->FK)(a b:FE):FE:=λs=>(a s).bind λp=>(b p.2).bind λq=>(cH<|g p.1 q.1).bind λt=>.ok (t,q.2)
def bD:FL:=λs=>.ok ([],s)
def bQ(a:FE)(r:FL):FL:=λs=>(a s).bind λp=>(r p.2).bind λq=>.ok (p.1::q.1,q.2)
def kE:FL:=λ_=>.bad
def aG(g:FC->FK)(a:FL):FE:=λs=>(a s).bind λp=>(cH<|g p.1).bind λt=>.ok (t,p.2)
def aE(ts:FC):FK:=gd (ts.length<=1000)<|.tup ts
def eB(ts:FC):FK:=gd (ts.length<=1000)<|.lst ts
def qJ:FT:=λ_=>.bad
def tB(a:FE):FT:=λs=>(a s).bind λp=>(cH<|Kh p.1).bind λb=>.ok (b,p.2)
def fY(a b:FT):FT:=λs=>(a s).bind λp=>if p.1 then b p.2 else .ok (Zi,p.2)
def Ae(a b:FT):FT:=λs=>(a s).bind λp=>if p.1 then .ok (O,p.2)else b p.2
def fm(a:FT):FT:=λs=>(a s).bind λp=>.ok (!p.1,p.2)
def dX:FT:=λs=>.ok (O,s)
def QJ:T->Option Bool
 |.bl b=>U b
 |_=>Y
def oZ(a b:FE):FE:=λs=>(a s).bind λp=>(cH<|QJ p.1).bind λk=>if k then b p.2 else .ok (.bl Zi,p.2)
def Ċ(a b:FE):FE:=λs=>(a s).bind λp=>(cH<|QJ p.1).bind λk=>if k then .ok (.bl O,p.2)else b p.2
def Fu(a:FE):FE:=λs=>(a s).bind λp=>(cH<|QJ p.1).bind λk=>.ok (.bl<|!k,p.2)
def rF(c:FT)(a b:FE):FE:=λs=>(c s).bind λp=>if p.1 then a p.2 else b p.2
abbrev FO:=S->Res (D2×S)
def nJ:FO:=λs=>.ok (Y,s)
def QK:T->D2
 |.int i=>U i
 |_=>Y
def jv(a:FE):FO:=λs=>(a s).bind λp=>(cH<|QK p.1).bind λi=>.ok (U i,p.2)
def jQ(a:FE)(lo b:FO):FE:=λs=>(a s).bind λp=>(lo p.2).bind λq=>(b q.2).bind λz=>(cH<|QH q.1 z.1 p.1).bind λt=>.ok (t,z.2)
def lH:Option (Option C)->Fs
 |U<|U<|.ol ts=>U ts
 |_=>Y
def jF(i:Nat):FE:=λs=>(cH<|lH s.r[i]?).bind λts=>.ok (.int ts.length,s)
def Fv(i:Nat)(b:FE):FE:=λs=>(cH<|lH s.r[i]?).bind λ_=>(b s).bind λp=>(cH<|lH p.2.r[i]?).bind λts=>(cH<|ZE (.lst ts) p.1).bind λt=>.ok (t,p.2)
def Fw(tab:Ap)(c f:Nat):Option Nat:=(tab[c]?).bind λns=>ns.idxOf? f
def aV(tab:Ap)(f:Nat)(a:FE):FE:=λs=>(a s).bind λp=>match p.1 with
 |.obj c fs=>(cH<|(Fw tab c f).bind λj=>fs[j]?).bind λt=>.ok (t,p.2)
 |.own k=>(cH<|(p.2.m[k]?).bind λob=>(Fw tab ob.c f).bind λj=>ob.fs[j]?).bind λc=>(match c with
  |.val t=>.ok (t,p.2)
  |_=>.bad)
 |_=>.bad
def dh(c n:Nat)(fl:FL):FE:=λs=>(fl s).bind λp=>if p.1.length=n then .ok (.obj c p.1,p.2)else .bad
def yh(c:Nat)(g:Fn)(fl:FL):FE:=λs=>(fl s).bind λp=>match g (.own p.2.m.length::p.1) (p.2.m++[⟨c,[]⟩])with
 |.ok (.non,b)=>.ok (.own p.2.m.length,{p.2 with m:=b})
 |.exc c fs a=>.exc c fs {p.2 with m:=a.m}
 |_=>.bad
def QM(c:Nat):T->FK
 |.lst ts=>U<|.obj c [.lst ts]
 |_=>Y
def af(g:Fn)(ds:FC)(fl:FL):FE:=λs=>(fl s).bind λp=>match g (p.1++ds) p.2.m with
 |.ok q=>.ok (q.1,{p.2 with m:=q.2})
 |.bad=>.bad
 |.exc c fs a=>.exc c fs {p.2 with m:=a.m}
def bJ(g:Nat->Option Fn)(o:FE)(fl:FL):FE:=λs=>(o s).bind λp=>match p.1 with
 |.own k=>(cH<|(p.2.m[k]?).bind λob=>g ob.c).bind λh=>af h [] (λs=>(fl s).bind λq=>.ok (.own k::q.1,q.2)) p.2
 |.obj c fs=>(cH<|g c).bind λh=>af h [] (λs=>(fl s).bind λq=>.ok (.obj c fs::q.1,q.2)) p.2
 |_=>.bad
def ZF:T->Fs
 |.lst ts=>U ts
 |.tup ts=>U ts
 |.str l=>U<|l.map λc=>.str [c]
 |.scr ns=>U<|ns.map .int
 |_=>Y
def mG(a:FE):FL:=λs=>(a s).bind λp=>(cH<|ZF p.1).bind λts=>.ok (ts,p.2)
def oz(lo:Int)(n:Nat):FC:=(gQ n).map λk=>.int<|lo+(k:Nat)
def nt:FC->Fs
 |[.int j]=>gd (j<1000000/\-1000000<j)<|oz 0 j.toNat
 |[.int i,.int j]=>gd (i<1000000/\-1000000<i/\j<1000000/\-1000000<j)<|oz i (j-i).toNat
 |[.int i,.int j,.int k]=>gd (k=-1/\i<1000000/\-1000000<i/\j<1000000/\-1000000<j)<|(gQ (i-j).toNat).map λk=>.int<|i-(k:Nat)
 |_=>Y
def xA(g:FC->Fs)(a:FL):FL:=λs=>(a s).bind λp=>(cH<|g p.1).bind λts=>.ok (ts,p.2)
def e9:Int->FC->FC
 |_,[]=>[]
 |n,t::ts=>.tup [.int n,t]::e9 (n+1) ts
def VX(n:Int):T->Fs
 |.lst ts=>U<|e9 n ts
 |_=>Y
def mH(n:Int)(a:FE):FL:=λs=>(a s).bind λp=>(cH<|VX n p.1).bind λts=>.ok (ts,p.2)
abbrev FG:=T->Fm->Option Fm
def setG(i:Nat):FG:=λt r=>U<|r.set i<|U<|.val t
def rG:B1->FC->Fm->Option Fm
 |[],[],r=>U r
 |i::is,t::ts,r=>rG is ts<|r.set i<|U<|.val t
 |_,_,_=>Y
def cP(is:B1):FG:=λt r=>match t with
 |.tup ts=>rG is ts r
 |_=>Y
def Km(r:Fm)(j:Nat):Fm:=match r[j]? with
 |U<|U<|.ol ts=>r.set j<|U<|.val<|.lst ts
 |_=>r
def jR:B1->Fm->Fm
 |[],r=>r
 |j::js,r=>jR js<|Km r j
def i_(k:Nat)(js:B1)(r:Fm):Fm:=eQ k Y++js.map λj=>match r[j]? with
 |U<|U<|.val t=>U<|.val t
 |_=>Y
def bM(g:FG)(c:FT)(e:FE)(b:Fm):FC->FR->Res (FC×FR)
 |[],m=>.ok ([],m)
 |t::ts,m=>(cH<|g t b).bind λb1=>(c ⟨b1,m⟩).bind λp=>if p.1 then(e p.2).bind λq=>(bM g c e b ts q.2.m).bind λz=>.ok (q.1::z.1,z.2)else bM g c e b ts p.2.m
def bP(a:FL)(k:Nat)(js:B1)(g:FG)(c:FT)(e:FE):FL:=λs=>(a s).bind λp=>if p.1.length<=1000000 then
  (bM g c e (i_ k js<|jR js p.2.r) p.1 p.2.m).bind λq=>.ok (q.1,⟨jR js p.2.r,q.2⟩)else .bad
def dR(fl:FL):FE:=λs=>(fl s).bind λp=>.ok (.lst p.1,p.2)
def az:FS:=λs=>.ok (.nx,s)
def dJ:FS:=λ_=>.bad
def ah(a b:FS):FS:=λs=>(a s).bind λp=>match p.1 with
 |.nx=>b p.2
 |o=>.ok (o,p.2)
def aA(i:Nat)(a:FE):FS:=λs=>(a s).bind λp=>.ok (.nx,jE p.2 i<|.val p.1)
def iz(i:Nat)(a:FL):FS:=λs=>(a s).bind λp=>.ok (.nx,jE p.2 i<|.ol p.1)
def yi(g:FG)(a:FE):FS:=λs=>(a s).bind λp=>(cH<|g p.1 p.2.r).bind λr=>.ok (.nx,{p.2 with r:=r})
def ao(a:FE):FS:=λs=>(a s).bind λp=>.ok (.rt p.1,p.2)
def bW(a:FE):FS:=λs=>(a s).bind λp=>.ok (.nx,p.2)
def aO(c:FT)(a b:FS):FS:=λs=>(c s).bind λp=>if p.1 then a p.2 else b p.2
def gf(i:Nat)(a:FE):FS:=λs=>(cH<|lH s.r[i]?).bind λ_=>(a s).bind λp=>(cH<|lH p.2.r[i]?).bind λts=>(cH<|gd (ts.length<1000000) ts).bind λts=>.ok (.nx,jE p.2 i<|.ol<|ts++[p.1])
def eg(i:Nat)(b a:FE):FS:=λs=>(a s).bind λp=>(cH<|lH p.2.r[i]?).bind λ_=>(b p.2).bind λq=>(cH<|lH q.2.r[i]?).bind λts=>(cH<|QK q.1).bind λj=>(cH<|gd (0<=j/\j<ts.length)<|ts.set j.toNat p.1).bind λc=>.ok (.nx,jE q.2 i<|.ol c)
def Fx(g:T->T->FK)(i:Nat)(a:FE):FS:=λs=>match s.r[i]? with
 |U<|U<|.val x=>(a s).bind λp=>(cH<|g x p.1).bind λt=>.ok (.nx,jE p.2 i<|.val t)
 |_=>.bad
def setAt(fs:List C)(j:Nat)(c:C):Option<|List C:=if j<fs.length then U (fs.set j c)else if j=fs.length then U (fs++[c])else Y
def NY(tab:Ap)(f:Nat)(c:C)(ob:Ob):Option Ob:=(Fw tab ob.c f).bind λj=>(setAt ob.fs j c).map λfs=>⟨ob.c,fs⟩
def kF(tab:Ap)(f:Nat)(o a:FE):FS:=λs=>(a s).bind λp=>(o p.2).bind λq=>match q.1 with
 |.own k=>(cH<|(q.2.m[k]?).bind<|NY tab f<|.val p.1).bind λob=>.ok (.nx,{q.2 with m:=q.2.m.set k ob})
 |_=>.bad
def aZ(g:FG)(b:FS):FC->FS
 |[],s=>.ok (.nx,s)
 |t::ts,s=>(cH<|g t s.r).bind λr=>(b ⟨r,s.m⟩).bind λp=>match p.1 with
  |.nx=>aZ g b ts p.2
  |.ct=>aZ g b ts p.2
  |.bk=>.ok (.nx,p.2)
  |.rt t=>.ok (.rt t,p.2)
def gT(a:FL)(g:FG)(b:FS):FS:=λs=>(a s).bind λp=>aZ g b p.1 p.2
def bu(c:FT)(b:FS):Nat->FS
 |0,_=>.bad
 |n+1,s=>(c s).bind λp=>if p.1 then(b p.2).bind λq=>(match q.1 with
  |.nx=>bu c b n q.2
  |.ct=>bu c b n q.2
  |.bk=>.ok (.nx,q.2)
  |.rt t=>.ok (.rt t,q.2))else .ok (.nx,p.2)
def jS(n:Nat)(c:FT)(b:FS):FS:=bu c b n
def vI(c:Nat)(fl:FL):FE:=λs=>(fl s).bind λp=>.ok (.own p.2.m.length,{p.2 with m:=p.2.m++[⟨c,[.ol p.1]⟩]})
def Ct(c:Nat)(m:FR):T->Option (Nat×FC)
 |.own k=>match m[k]? with
  |some ⟨d,[.ol ts]⟩=>if d=c then U (k,ts)else Y
  |_=>Y
 |_=>Y
def ny(c:Nat)(a b:FE):FE:=λs=>(a s).bind λp=>(b p.2).bind λq=>(cH<|Ct c q.2.m p.1).bind λz=>(cH<|QK q.1).bind λj=>(cH<|atT z.2 j).bind λt=>.ok (t,q.2)
def o9(c:Nat)(a b e:FE):FS:=λs=>(e s).bind λv=>(a v.2).bind λp=>(b p.2).bind λq=>(cH<|Ct c q.2.m p.1).bind λz=>(cH<|QK q.1).bind λj=>(cH<|gd (0<=j/\j<z.2.length) ()).bind λ_=>.ok (.nx,{q.2 with m:=q.2.m.set z.1 ⟨c,[.ol<|z.2.set j.toNat v.1]⟩})
def aH(a n:Nat)(b:FS):Fn:=λts m=>if ts.length=a then(b ⟨ts.map (λt=>U<|.val t)++eQ (n-ts.length) Y,m⟩).bind λp=>match p.1 with
 |.rt t=>.ok (t,p.2.m)
 |.nx=>.ok (.non,p.2.m)
 |_=>.bad else .bad
mutual
def noOwn:T->Bool
 |.own _=>Zi
 |.tup xs=>aK xs
 |.lst xs=>aK xs
 |.obj _ xs=>aK xs
 |.h_ _ xs=>aK xs
 |_=>O
def aK:FC->Bool
 |[]=>O
 |t::ts=>noOwn t&&aK ts
end
def aI(g:Fn):Fn:=λts m=>if aK ts=O then(match g ts []with
 |.ok q=>if noOwn q.1=O then .ok (q.1,m)else .bad
 |.bad=>.bad
 |.exc c fs s=>if aK fs=O then .exc c fs ⟨s.r,m⟩else .bad)else .bad
end D
namespace D
open PySem L2
abbrev SV(l:B1):V:=.str ⟨l.toArray⟩
structure KT where
 K:bh
 P:dv
 w:ee
 cn:Bi
 fn:List Bi
def ib(B:KT)(c:Nat)(C:cq)(ns:Bi):Prop:=∃n,B.cn[c]?=U n/\B.fn[c]?=U ns/\ns.Nodup/\om B.K eP n=U (U<|.ref C)
def ib.eq{C j:cq}(h:ib B c C ns)(h':ib B c j i):C=j/\ns=i:=by
 obtain⟨n,a,b,_,d⟩:=h;obtain⟨k,g,f,_,e⟩:=h';rw[a]at g;cases g;rw[b]at f;cases f;rw[d]at e;cases e;exact⟨J,J⟩
def o_:Ky->Key
 |.i n=>.inl n
 |.s l=>.inr ⟨l.toArray⟩
inductive jT where
 |loc (i:Nat)|ob (k:Nat)|fld (k j:Nat)
 deriving DecidableEq
structure G where
 HF:Hp
 o:cq->Option jT
 al:BM
mutual
def Rep(B:KT)(al:BM)(H:Hp):T->V->Prop
 |.non,v=>v=.non
 |.bl b,v=>v=.bl b
 |.int i,v=>v=.int i
 |.str l,v=>v=SV l/\l.length<=1000000
 |.tup ts,v=>∃a vs,v=.ref a/\mh B.K H a vs/\aD B al H ts vs
 |.lst ts,v=>∃a vs,v=.ref a/\H a=U (.lst vs)/\aD B al H ts vs
 |.scr ns,v=>∃a,v=.ref a/\dW B.K H a (ns.map V.int)
 |.obj c ts,v=>∃a C dx ns vs,v=.ref a/\ib B c C ns/\H a=U (.ins C dx<|ns.zip vs)/\vs.length<=ns.length/\H dx=U (.own a)/\aD B al H ts vs
 |.own k,v=>∃a,v=.ref a/\al[k]?=U a
 |.h_ ks ts,v=>∃a vs,v=.ref a/\H a=U (.dK<|(ks.map o_).zip vs)/\ks.length=vs.length/\aD B al H ts vs
def aD(B:KT)(al:BM)(H:Hp):FC->List V->Prop
 |[],vs=>vs=[]
 |t::ts,vs=>∃v r,vs=v::r/\Rep B al H t v/\aD B al H ts r
end
def cQ(s:aL H H')(q:mh K H a xs):mh K H' a xs:=by
 rcases q with(q|⟨o,q⟩)|q
 .exact .inl<|.inl<|s _ _ q
 .exact .inl<|.inr ⟨o,s _ _ q⟩
 .exact .inr q
def jw{α:Type}{l m:List α}(p:l <+: m){k:Nat}{a:α}(h:l[k]?=U a):m[k]?=U a:=by
 obtain⟨r,rfl⟩:=p;rw[jJ (dj.mp h).1];exact h
variable{X:Cx}{a b c e:cC}{Z fb j:FE}{g g':G}{H H':Hp}{B:KT}{p pos:Pos}{s s':S}{W:St}
variable{al d:BM}{HF R:Hp}
mutual
theorem Rep.mv(p:al <+: d)(s:aL H H'):∀{t:T}{v:V},Rep B al H t v->Rep B d H' t v
 |.non,_,h=>h
 |.bl _,_,h=>h
 |.int _,_,h=>h
 |.str _,_,h=>h
 |.tup ts,_,h=>by
  obtain⟨a,vs,e,q,r⟩:=h;exact⟨a,vs,e,cQ s q,aD.mv p s r⟩
 |.lst ts,_,h=>by
  obtain⟨a,vs,e,q,r⟩:=h;exact⟨a,vs,e,s _ _ q,aD.mv p s r⟩
 |.scr ns,_,h=>by
  obtain⟨a,e,q⟩:=h;exact⟨a,e,s.seq q⟩
 |.obj c ts,_,h=>by
  obtain⟨a,C,dx,ns,vs,e,z,q,l,q2,r⟩:=h;exact⟨a,C,dx,ns,vs,e,z,s _ _ q,l,s _ _ q2,aD.mv p s r⟩
 |.own k,_,h=>by
  obtain⟨a,e,q⟩:=h;exact⟨a,e,jw p q⟩
 |.h_ ks ts,_,h=>by
  obtain⟨a,vs,e,q,l,r⟩:=h;exact⟨a,vs,e,s _ _ q,l,aD.mv p s r⟩
theorem aD.mv(p:al <+: d)(s:aL H H'):∀{ts:FC}{vs:List V},aD B al H ts vs->aD B d H' ts vs
 |[],_,h=>h
 |t::ts,_,h=>by
  obtain⟨v,r,e,h1,h2⟩:=h;exact⟨v,r,e,Rep.mv p s h1,aD.mv p s h2⟩
end
def Rep.same(s:aL H H')(h:Rep B al H t v):Rep B al H' t v:=h.mv fH s
def aD.same(s:aL H H')(h:aD B al H t v):aD B al H' t v:=h.mv fH s
theorem aD.len:∀{ts:FC}{vs:List V},aD B al H ts vs->ts.length=vs.length
 |[],_,h=>by cases(show _=[]from h);rfl
 |t::ts,_,h=>by
  obtain⟨v,r,rfl,_,a⟩:=h;simp[aD.len a]
theorem aD.get:∀{ts:FC}{vs:List V},aD B al H ts vs->∀{i:Nat}{t:T},ts[i]?=U t->∃v,vs[i]?=U v/\Rep B al H t v
 |[],_,_,_,_,e=>by simp at e
 |t::ts,_,h,0,_,e=>by
  obtain⟨v,r,rfl,c,_⟩:=h;simp at e;subst e;exact⟨v,J,c⟩
 |t::ts,_,h,i+1,_,e=>by
  obtain⟨v,r,rfl,_,b⟩:=h;obtain⟨a,f,d⟩:=aD.get b (i:=i) (by simpa using e)
  exact⟨a,by simpa using f,d⟩
theorem aD.Cu:∀{ts:FC}{vs:List V},aD B al H ts vs->∀{i:Nat}{v:V},vs[i]?=U v->∃t,ts[i]?=U t/\Rep B al H t v
 |[],_,h,_,_,e=>by have h:_=[]:=h;subst h;simp at e
 |t::ts,_,h,0,_,e=>by
  obtain⟨v,r,rfl,c,_⟩:=h;simp at e;subst e;exact⟨t,J,c⟩
 |t::ts,_,h,i+1,_,e=>by
  obtain⟨v,r,rfl,_,b⟩:=h;obtain⟨a,f,d⟩:=aD.Cu b (i:=i) (by simpa using e)
  exact⟨a,by simpa using f,d⟩
theorem aD.app:∀{ts us:FC}{vs b:List V},aD B al H ts vs->aD B al H us b->aD B al H (ts++us) (vs++b)
 |[],_,_,_,h,a=>by have h:_=[]:=h;subst h;exact a
 |t::ts,_,_,_,h,a=>by
  obtain⟨v,r,rfl,d,c⟩:=h;exact⟨v,_,J,d,c.app a⟩
theorem aD.drop:∀{ts:FC}{vs:List V}(n:Nat),aD B al H ts vs->aD B al H (ts.drop n) (vs.drop n)
 |ts,vs,0,h=>by simpa using h
 |[],_,n+1,h=>by have h:_=[]:=h;subst h;rfl
 |t::ts,_,n+1,h=>by
  obtain⟨v,r,rfl,_,a⟩:=h;simpa using a.drop n
theorem aD.take:∀{ts:FC}{vs:List V}(n:Nat),aD B al H ts vs->aD B al H (ts.take n) (vs.take n)
 |ts,vs,0,h=>by simp[aD]
 |[],_,n+1,h=>by have h:_=[]:=h;subst h;rfl
 |t::ts,_,n+1,h=>by
  obtain⟨v,r,rfl,b,a⟩:=h;exact⟨v,r.take n,J,b,a.take n⟩
theorem aD.set(q:Rep B al H t v):∀{ts:FC}{vs:List V}(n:Nat),aD B al H ts vs->aD B al H (ts.set n t) (vs.set n v)
 |[],_,n,h=>by have h:_=[]:=h;subst h;rfl
 |_::ts,_,0,h=>by
  obtain⟨w,r,rfl,b,a⟩:=h;exact⟨v,r,J,q,a⟩
 |u::ts,_,n+1,h=>by
  obtain⟨w,r,rfl,b,a⟩:=h;exact⟨w,r.set n v,J,b,a.set q n⟩
def aD.one(q:Rep B al H t v):aD B al H [t] [v]:=⟨v,[],J,q,J⟩
theorem aD.ints:∀ns:Dx,aD B al H (ns.map T.int)<|ns.map V.int
 |[]=>J
 |n::ns=>⟨_,_,J,J,aD.ints ns⟩
theorem aD.signs:∀l:B1,aD B al H (l.map λc=>T.str [c])<|l.map λc=>V.str ⟨#[c]⟩
 |[]=>J
 |c::l=>⟨_,_,J,⟨J,by simp⟩,aD.signs l⟩
mutual
theorem Rep.no:∀{t:T}{v:V},noOwn t=O->Rep B al H t v->Rep B d H t v
 |.non,_,_,h=>h
 |.bl _,_,_,h=>h
 |.int _,_,_,h=>h
 |.str _,_,_,h=>h
 |.tup ts,_,n,h=>by
  obtain⟨a,vs,e,q,r⟩:=h;exact⟨a,vs,e,q,aD.no n r⟩
 |.lst ts,_,n,h=>by
  obtain⟨a,vs,e,q,r⟩:=h;exact⟨a,vs,e,q,aD.no n r⟩
 |.scr ns,_,_,h=>h
 |.obj c ts,_,n,h=>by
  obtain⟨a,C,dx,ns,vs,e,z,q,l,q2,r⟩:=h;exact⟨a,C,dx,ns,vs,e,z,q,l,q2,aD.no n r⟩
 |.own k,_,n,h=>by cases n
 |.h_ ks ts,_,n,h=>by
  obtain⟨a,vs,e,q,l,r⟩:=h;exact⟨a,vs,e,q,l,aD.no n r⟩
theorem aD.no:∀{ts:FC}{vs:List V},aK ts=O->aD B al H ts vs->aD B d H ts vs
 |[],_,_,h=>h
 |t::ts,_,n,h=>by
  obtain⟨v,r,e,h1,h2⟩:=h;have n:(noOwn t&&aK ts)=O:=n;rw[bZ]at n;exact⟨v,r,e,Rep.no n.1 h1,aD.no n.2 h2⟩
end
structure Gr(HF H R H':Hp):Prop where
 fr:aL HF R
 sub:aL R H'
 rest:∀b o,H b=U o->HF b=Y->H' b=U o/\R b=Y
theorem Gr.refl(s:aL HF H):Gr HF H HF H:=⟨aL.refl _,s,λ_ _ h n=>⟨h,n⟩⟩
theorem Gr.trans{HF H e H1 d f:Hp}(a:Gr HF H e H1)(b:Gr e H1 d f):Gr HF H d f:=
 ⟨a.fr.trans b.fr,b.sub,λc o h n=>let⟨h1,n1⟩:=a.rest c o h n;b.rest c o h1 n1⟩
def Gr.same(s:aL HF H)(a:Gr HF H R H'):aL H H':=λb o h=>by
 cases e:HF b with
 |none=>exact(a.rest b o h e).1
 |some u=>
  have:=s b u e
  rw[h]at this;cases this;exact a.sub _ _<|a.fr _ _ e
def aS{p:cq}(h:H p=Y):aL H<|upd H p o:=λb u e=>by rw[ai<|aJ e h];exact e
def Gr.new(s:aL HF H){p:cq}(h:H p=Y):Gr HF H (upd HF p o)<|upd H p o:=by
 have c:HF p=Y:=s.free h;refine⟨aS c,λb u e=>?_,λb u e n=>?_⟩
 .by_cases a:b=p
  .subst a;rw[ak]at e ⊢;exact e
  .rw[ai a]at e ⊢;exact s _ _ e
 .have a:b≠p:=aJ e h
  rw[ai a,ai a];exact⟨e,n⟩
def Gr.jU(s:aL HF H){p:cq}(h:H p=Y):Gr HF H HF<|upd H p o:=
 ⟨aL.refl _,s.trans<|aS h,λb u e n=>⟨aS h _ _ e,n⟩⟩
def bK(B:KT)(g:G)(H:Hp)(p:jT):C->V->Prop
 |.val t,v=>Rep B g.al g.HF t v
 |.ol ts,v=>∃l a,v=.ref l/\g.o l=U p/\H l=U (.lst a)/\aD B g.al g.HF ts a
 |.od c ts,v=>∃l a,v=.ref l/\g.o l=U p/\H l=U (.dK<|(c.map o_).zip a)/\c.length=a.length/\aD B g.al g.HF ts a
 |.yg t,v=>∃d:Hp,(∀b u,d b=U u->g.o b=U p/\H b=U u)/\Rep B [] d t v
structure Ko(B:KT)(g:G)(H:Hp)(k:Nat)(ob:Ob)(a C dx:cq)(ns:Bi)(vs:List V):Prop where
 al:g.al[k]?=U a
 o:g.o a=U (.ob k)
 cl:ib B ob.c C ns
 h:H a=U (.ins C dx<|ns.zip vs)
 le:vs.length<=ns.length
 ln:vs.length=ob.fs.length
 f:∀j c,ob.fs[j]?=U c->∃v,vs[j]?=U v/\bK B g H (.fld k j) c v
structure ċ(B:KT)(g:G)(H:Hp)(k:Nat)(ob:Ob)(a:cq):Prop where
 al:g.al[k]?=U a
 nc:B.cn[ob.c]?=Y
 nf:B.fn[ob.c]?=Y
 f:∀c,ob.fs=[c]->bK B g H (.ob k) c (.ref a)
def QN(B:KT)(g:G)(H:Hp)(k:Nat)(ob:Ob):Prop:=(∃a C c ns b,Ko B g H k ob a C c ns b)\/∃a,ċ B g H k ob a
structure eU(B:KT)(g:G)(H:Hp)(m:FR):Prop where
 sub:aL g.HF H
 live:∀b p,g.o b=U p->g.HF b=Y/\∃u,H b=U u
 len:m.length=g.al.length
 at_:∀k ob,m[k]?=U ob->QN B g H k ob
structure pe(B:KT)(g:G)(H:Hp)(W:St)(r:Fm):Prop where
 len:r.length=W.length
 at_:∀i c,r[i]?=U (U c)->∃v,W[i]?=U (U v)/\bK B g H (.loc i) c v
structure SR(B:KT)(g:G)(H:Hp)(W:St)(s:S):Prop where
 st:eU B g H s.m
 lc:pe B g H W s.r
structure dq(g:G)(H:Hp)(g':G)(H':Hp):Prop where
 fr:aL g.HF g'.HF
 pre:g.al <+: g'.al
 rest:∀b u,H b=U u->g.HF b=Y->g.o b=Y->H' b=U u/\g'.HF b=Y/\g'.o b=Y
 there:∀b,H' b=Y->H b=Y
variable{F S:G}
theorem dq.refl:dq g H g H:=⟨aL.refl _,fH,λ_ _ h n o=>⟨h,n,o⟩,λ_ h=>h⟩
theorem dq.trans(a:dq g H F H1)(b:dq F H1 S H2):dq g H S H2:=
 ⟨a.fr.trans b.fr,a.pre.trans b.pre,λc u h n o=>let⟨h1,n1,o1⟩:=a.rest c u h n o;b.rest c u h1 n1 o1,λc h=>a.there c<|b.there c h⟩
abbrev G.grow(g:G)(R:Hp):G:={g with HF:=R}
theorem bK.grow(a:Gr g.HF H R H')(lv:∀b p,g.o b=U p->g.HF b=Y/\∃u,H b=U u){p:jT}:∀{c:C}{v:V},bK B g H p c v->bK B (g.grow R) H' p c v
 |.val t,v,h=>h.same a.fr
 |.ol ts,v,h=>by
  obtain⟨l,d,e,o,q,r⟩:=h;exact⟨l,d,e,o,(a.rest l _ q (lv l p o).1).1,r.same a.fr⟩
 |.od j ts,v,h=>by
  obtain⟨l,d,e,o,q,n,r⟩:=h;exact⟨l,d,e,o,(a.rest l _ q (lv l p o).1).1,n,r.same a.fr⟩
 |.yg t,v,h=>by
  obtain⟨i,f,r⟩:=h;exact⟨i,λb u e=>let⟨h2,h3⟩:=f b u e;⟨h2,(a.rest b u h3 (lv b p h2).1).1⟩,r⟩
theorem Ko.grow{a C dx:cq}(x:Ko B g H k ob a C dx ns vs)(d:Gr g.HF H R H')(lv:∀b p,g.o b=U p->g.HF b=Y/\∃u,H b=U u):Ko B (g.grow R) H' k ob a C dx ns vs:=
 ⟨x.al,x.o,x.cl,(d.rest _ _ x.h (lv _ _ x.o).1).1,x.le,x.ln,λj c e=>let⟨v,h1,h2⟩:=x.f j c e;⟨v,h1,h2.grow d lv⟩⟩
theorem QN.grow(x:QN B g H k ob)(d:Gr g.HF H R H')(lv:∀b p,g.o b=U p->g.HF b=Y/\∃u,H b=U u):QN B (g.grow R) H' k ob:=by
 rcases x with⟨a,C,i,ns,h,y⟩|⟨a,y⟩
 .exact .inl ⟨a,C,i,ns,h,y.grow d lv⟩
 .exact .inr ⟨a,y.al,y.nc,y.nf,λc e=>(y.f c e).grow d lv⟩
theorem eU.grow(x:eU B g H m)(a:Gr g.HF H R H'):eU B (g.grow R) H' m:=
 ⟨a.sub,λb p e=>by
  obtain⟨h,u,f⟩:=x.live b p e;obtain⟨d,c⟩:=a.rest b u f h;exact⟨c,u,d⟩,x.len,λk ob e=>(x.at_ k ob e).grow a x.live⟩
theorem SR.grow(x:SR B g H W s)(a:Gr g.HF H R H'):SR B (g.grow R) H' W s:=
 ⟨x.st.grow a,x.lc.len,λi c e=>let⟨v,h1,h2⟩:=x.lc.at_ i c e;⟨v,h1,h2.grow a x.st.live⟩⟩
theorem SR.sub(x:SR B g H W s):aL g.HF H:=x.st.sub
theorem Gr.free(a:Gr HF H R H')(sm:aL HF H){b:cq}(h:H' b=Y):H b=Y:=(a.same sm).free h
def SR.lI(x:SR B g H W s)(a:Gr g.HF H R H'):dq g H (g.grow R) H':=
 ⟨a.fr,fH,λb u h n o=>let⟨h1,h2⟩:=a.rest b u h n;⟨h1,h2,o⟩,λb h=>a.free x.sub h⟩
variable{m:FR}
theorem bK.mv{p:jT}(fr:aL g.HF g'.HF)(pre:g.al <+: g'.al)(k:∀l,g.o l=U p->g'.o l=U p/\H' l=H l):∀{c:C}{v:V},bK B g H p c v->bK B g' H' p c v
 |.val t,v,h=>Rep.mv pre fr h
 |.ol ts,v,h=>by
  obtain⟨l,a,e,o,q,r⟩:=h;obtain⟨d,f⟩:=k l o;exact⟨l,a,e,d,f.trans q,r.mv pre fr⟩
 |.od m ts,v,h=>by
  obtain⟨l,a,e,o,q,n,r⟩:=h;obtain⟨d,f⟩:=k l o;exact⟨l,a,e,d,f.trans q,n,r.mv pre fr⟩
 |.yg t,v,h=>by
  obtain⟨j,i,r⟩:=h;exact⟨j,λb u e=>let⟨h2,h3⟩:=i b u e;let⟨h4,h5⟩:=k b h2;⟨h4,h5.trans h3⟩,r⟩
theorem Ko.mv{a C dx:cq}(x:Ko B g H k ob a C dx ns vs)(fr:aL g.HF g'.HF)(pre:g.al <+: g'.al)(b:∀l p,g.o l=U p->(p=.ob k\/∃j,p=.fld k j)->g'.o l=U p/\H' l=H l):Ko B g' H' k ob a C dx ns vs:=by
 obtain⟨d,i⟩:=b a _ x.o<|.inl J;exact⟨jw pre x.al,d,x.cl,i.trans x.h,x.le,x.ln,λj c e=>let⟨v,h1,h2⟩:=x.f j c e;⟨v,h1,h2.mv fr pre λl z=>b l _ z<|.inr ⟨j,J⟩⟩⟩
theorem QN.mv(x:QN B g H k ob)(fr:aL g.HF g'.HF)(pre:g.al <+: g'.al)(b:∀l p,g.o l=U p->(p=.ob k\/∃j,p=.fld k j)->g'.o l=U p/\H' l=H l):QN B g' H' k ob:=by
 rcases x with⟨a,C,h,ns,d,y⟩|⟨a,y⟩
 .exact .inl ⟨a,C,h,ns,d,y.mv fr pre b⟩
 .exact .inr ⟨a,jw pre y.al,y.nc,y.nf,λc e=>(y.f c e).mv fr pre λl z=>b l _ z<|.inl J⟩
theorem eU.mv(x:eU B g H m)(sub:aL g'.HF H')(live:∀b p,g'.o b=U p->g'.HF b=Y/\∃u,H' b=U u)(fr:aL g.HF g'.HF)(a:g'.al=g.al)(c:∀l p,g.o l=U p->(∀i,p≠.loc i)->g'.o l=U p/\H' l=H l):eU B g' H' m:=
 ⟨sub,live,by rw[a];exact x.len,λk ob e=>(x.at_ k ob e).mv fr (by rw[a];exact fH) λl p h q=>c l p h (by
  rcases q with q|⟨j,q⟩
  .subst q;exact λi z=>by cases z
  .subst q;exact λi z=>by cases z)⟩
theorem pe.set{c:C}(x:pe B g H W r)(q:bK B g' H' (.loc i) c v)(b:∀j c v,j≠i->bK B g H (.loc j) c v->bK B g' H' (.loc j) c v):pe B g' H' (W.set i<|U v)<|r.set i<|U c:=by
 refine⟨by rw[iJ,iJ];exact x.len,λj d h=>?_⟩
 by_cases hj:i=j
 .subst hj
  have a:i<r.length:=by have:=(dj.mp h).1;rw[iJ]at this;exact this
  rw[gy a]at h;cases h;exact⟨v,gy<|by rw[<- x.len];exact a,q⟩
 .rw[iu hj]at h
  obtain⟨w,f,e⟩:=x.at_ j d h;exact⟨w,by rw[iu hj];exact f,b j d w (et hj) e⟩
theorem SR.set(x:SR B g H W s)(r:Rep B g.al g.HF t v):SR B g H (W.set i<|U v)<|jE s i<|.val t:=
 ⟨x.st,x.lc.set r λ_ _ _ _ h=>h⟩
def G.j_(g:G)(l:cq)(o:HO):G:={g with HF:=upd g.HF l o,o:=λb=>if b=l then Y else g.o b}
def vJ{p q:jT}(hl:g.o l=U p)(f:g.HF l=Y)(d:q≠p){c:C}(h:bK B g H q c v):bK B (g.j_ l o) H q c v:=
 bK.mv (g':=g.j_ l o) (aS f) fH (λb a=>by
  have:b≠l:=λe=>d (by rw[e,hl]at a;cases a;rfl)
  exact⟨by show(if b=l then Y else g.o b)=_;rw[cb this];exact a,J⟩) h
def Af{p:jT}(hl:g.o l=U p)(a:g.HF l=Y):dq g H (g.j_ l o) H:=
 ⟨aS a,fH,λb u h n z=>by
  have:b≠l:=λe=>by rw[e,hl]at z;cases z
  exact⟨h,by show upd g.HF l o b=Y;rw[ai this];exact n,by show(if b=l then Y else g.o b)=Y;rw[cb this];exact z⟩,λ_ h=>h⟩
def Ag(x:eU B g H m)(hl:g.o l=U (.loc i))(d:H l=U o):eU B (g.j_ l o) H m:=by
 have f:=(x.live l _ hl).1;refine x.mv (λb u e=>?_) (λb p e=>?_) (aS f) J λb p a c=>?_
 .have e:upd g.HF l o b=U u:=e
  by_cases a:b=l
  .subst a;rw[ak]at e;cases e;exact d
  .rw[ai a]at e;exact x.sub _ _ e
 .have e:(if b=l then Y else g.o b)=U p:=e
  by_cases a:b=l
  .rw[cv a]at e;cases e
  .rw[cb a]at e
   obtain⟨j,h⟩:=x.live b p e;exact⟨by show upd g.HF l o b=Y;rw[ai a];exact j,h⟩
 .have:b≠l:=λe=>c i (by rw[e,hl]at a;cases a;rfl)
  exact⟨by show(if b=l then Y else g.o b)=_;rw[cb this];exact a,J⟩
theorem SR.j_(x:SR B g H W s){i:Nat}{ts:FC}(h:s.r[i]?=U (U<|.ol ts)):∃g' v,dq g H g' H/\SR B g' H W (jE s i<|.val<|.lst ts)/\W[i]?=U (U v)/\Rep B g'.al g'.HF (.lst ts) v:=by
 obtain⟨v,f,l,a,rfl,b,k,r⟩:=x.lc.at_ i _ h;have e:=(x.st.live l _ b).1;have rp:Rep B (g.j_ l<|.lst a).al (g.j_ l<|.lst a).HF (.lst ts)<|.ref l:=⟨l,a,J,ak,r.mv fH<|aS e⟩;refine⟨g.j_ l<|.lst a,.ref l,Af b e,⟨Ag x.st b k,?_⟩,f,rp⟩
 have:=x.lc.set (i:=i) (v:=.ref l) (c:=.val<|.lst ts) rp λj c v d q=>vJ (q:=.loc j) b e (λz=>d<|by cases z;rfl) q
 have m:W.set i (U<|.ref l)=W:=by
  apply zE;intro j;by_cases d:i=j
  .subst d
   rw[gy (dj.mp f).1,f]
  .rw[iu d]
 rw[m]at this;exact this
def SR.Č(x:SR B g H W s)(h:s.r[i]?=U (U<|.od ks ts)):∃g' v,dq g H g' H/\SR B g' H W (jE s i<|.val<|.h_ ks ts)/\W[i]?=U (U v)/\Rep B g'.al g'.HF (.h_ ks ts) v:=by
 obtain⟨v,f,l,a,rfl,b,k,hl,r⟩:=x.lc.at_ i _ h;have e:=(x.st.live l _ b).1;have rp:Rep B (g.j_ l<|.dK<|(ks.map o_).zip a).al (g.j_ l<|.dK<|(ks.map o_).zip a).HF (.h_ ks ts)<|.ref l:=⟨l,a,J,ak,hl,r.mv fH<|aS e⟩;refine⟨g.j_ l<|.dK<|(ks.map o_).zip a,.ref l,Af b e,⟨Ag x.st b k,?_⟩,f,rp⟩
 have:=x.lc.set (i:=i) (v:=.ref l) (c:=.val<|.h_ ks ts) rp λj c v d q=>vJ (q:=.loc j) b e (λz=>d<|by cases z;rfl) q
 have m:W.set i (U<|.ref l)=W:=by
  apply zE;intro j;by_cases d:i=j
  .subst d
   rw[gy (dj.mp f).1,f]
  .rw[iu d]
 rw[m]at this;exact this
def G.own(g:G)(l:cq)(p:jT):G:={g with o:=λb=>if b=l then U p else g.o b}
def vK{p q:jT}(d:g.o l=Y){c:C}(h:bK B g H q c v):bK B (g.own l p) H q c v:=
 bK.mv (g:=g) (g':=g.own l p) (aL.refl g.HF) fH (λb a=>by
  have:b≠l:=λe=>by rw[e,d]at a;cases a
  exact⟨by show(if b=l then U p else g.o b)=_;rw[cb this];exact a,J⟩) h
def Ah{p:jT}(x:eU B g H m)(c:g.o l=Y)(f:g.HF l=Y)(d:H l=U u):eU B (g.own l p) H m:=by
 refine x.mv x.sub (λb q e=>?_) (aL.refl _) J λb q a h=>?_
 .have e:(if b=l then U p else g.o b)=U q:=e
  by_cases a:b=l
  .subst a;exact⟨f,u,d⟩
  .rw[cb a]at e;exact x.live b q e
 .have:b≠l:=λe=>by rw[e,c]at a;cases a
  exact⟨by show(if b=l then U p else g.o b)=_;rw[cb this];exact a,J⟩
theorem SR.own(x:SR B g H W s)(a:g.o l=Y)(d:g.HF l=Y)(b:H l=U (.lst vs))(r:aD B g.al g.HF ts vs):SR B (g.own l<|.loc i) H (W.set i<|U<|.ref l)<|jE s i<|.ol ts:=
 ⟨Ah x.st a d b,x.lc.set (c:=.ol ts) ⟨l,vs,J,by show(if l=l then U (jT.loc i)else g.o l)=_;rw[cv J],b,r⟩ λj c v e q=>vK a q⟩
def SR.č(x:SR B g H W s)(a:g.o l=Y)(e:g.HF l=Y)(b:H l=U (.dK<|(ks.map o_).zip vs))(d:ks.length=vs.length)(r:aD B g.al g.HF ts vs):SR B (g.own l<|.loc i) H (W.set i<|U<|.ref l)<|jE s i<|.od ks ts:=
 ⟨Ah x.st a e b,x.lc.set (c:=.od ks ts) ⟨l,vs,J,by show(if l=l then U (jT.loc i)else g.o l)=_;rw[cv J],b,d,r⟩ λj c v f q=>vK a q⟩
def Ai(x:eU B g H m)(c:g.o l=U (.loc i)):eU B g (upd H l u) m:=by
 have h:=(x.live l _ c).1;refine x.mv (λb w e=>?_) (λb q e=>?_) (aL.refl _) J λb q a f=>?_
 .have:b≠l:=λz=>by rw[z,h]at e;cases e
  rw[ai this];exact x.sub _ _ e
 .obtain⟨d,w,j⟩:=x.live b q e
  by_cases a:b=l
  .exact⟨d,u,by rw[a,ak]⟩
  .exact⟨d,w,by rw[ai a];exact j⟩
 .have:b≠l:=λe=>f i (by rw[e,c]at a;cases a;rfl)
  exact⟨a,by rw[ai this]⟩
def nK{p:jT}(a:g.o l=U p):dq g H g<|upd H l u:=
 ⟨aL.refl _,fH,λb w h n z=>by
  have:b≠l:=λe=>by rw[e,a]at z;cases z
  exact⟨by rw[ai this];exact h,n,z⟩,λb h=>by
  by_cases hb:b=l
  .subst hb;rw[ak]at h;cases h
  .rw[ai hb]at h;exact h⟩
def SR.chg(x:SR B g H W s){d:List V}(h:s.r[i]?=U (U<|.ol ts))(a:W[i]?=U (U<|.ref l))(r:aD B g.al g.HF n d):SR B g (upd H l<|.lst d) W (jE s i<|.ol n)/\dq g H g (upd H l<|.lst d):=by
 obtain⟨v,o,w,t,rfl,f,y,u⟩:=x.lc.at_ i _ h;rw[a]at o;cases o;refine⟨⟨Ai x.st f,?_⟩,nK f⟩
 have:=x.lc.set (g':=g) (H':=upd H l<|.lst d) (i:=i) (v:=.ref l) (c:=.ol n) ⟨l,d,J,f,ak,r⟩ λj c v k q=>q.mv (aL.refl _) fH λb m=>by
  have:b≠l:=λe=>k (by rw[e,f]at m;cases m;rfl)
  exact⟨m,ai this⟩
 have p:W.set i (U<|.ref l)=W:=by
  apply zE;intro j;by_cases k:i=j
  .subst k
   rw[gy (dj.mp a).1,a]
  .rw[iu k]
 rw[p]at this;exact this
def SR.Ď(x:SR B g H W s){d:List V}(h:s.r[i]?=U (U<|.od ks ts))(a:W[i]?=U (U<|.ref l))(t:f.length=d.length)(r:aD B g.al g.HF o d):SR B g (upd H l<|.dK<|(f.map o_).zip d) W (jE s i<|.od f o)/\dq g H g (upd H l<|.dK<|(f.map o_).zip d):=by
 obtain⟨v,p,z,w,rfl,k,A,C,y⟩:=x.lc.at_ i _ h;rw[a]at p;cases p;refine⟨⟨Ai x.st k,?_⟩,nK k⟩
 have:=x.lc.set (g':=g) (H':=upd H l<|.dK<|(f.map o_).zip d) (i:=i) (v:=.ref l) (c:=.od f o) ⟨l,d,J,k,ak,t,r⟩ λj c v m q=>q.mv (aL.refl _) fH λb n=>by
  have:b≠l:=λe=>m (by rw[e,k]at n;cases n;rfl)
  exact⟨n,ai this⟩
 have u:W.set i (U<|.ref l)=W:=by
  apply zE;intro j;by_cases m:i=j
  .subst m
   rw[gy (dj.mp a).1,a]
  .rw[iu m]
 rw[u]at this;exact this
def VY:Option jT->Option jT
 |U<|.loc _=>Y
 |x=>x
def G.aj(g:G):G:={g with o:=λb=>VY<|g.o b}
def Cw{p:jT}:VY q=U p ↔ q=U p/\∀i,p≠.loc i:=by
 cases q with
 |none=>exact⟨λh=>(by cases h),λh=>(by cases h.1)⟩
 |some q=>
  cases q with
  |loc i=>exact⟨λh=>(by cases h),λh=>(by obtain⟨h,n⟩:=h;cases h;exact dy J<|n i)⟩
  |ob k=>exact⟨λh=>(by cases h;exact⟨J,λi z=>(by cases z)⟩),λh=>h.1⟩
  |fld k j=>exact⟨λh=>(by cases h;exact⟨J,λi z=>(by cases z)⟩),λh=>h.1⟩
def kG{b:cq}{p:jT}:g.aj.o b=U p ↔ g.o b=U p/\∀i,p≠.loc i:=Cw
theorem eU.aj(x:eU B g H m):eU B g.aj H m:=
 x.mv x.sub (λb p e=>x.live b p (kG.mp e).1) (aL.refl _) J λl p h n=>⟨kG.mpr ⟨h,n⟩,J⟩
def ď:Option jT->Option jT->Option jT
 |U<|.loc i,_=>U<|.loc i
 |_,y=>y
def G.back(g g':G):G:={g' with o:=λb=>ď (g.o b)<|g'.o b}
def Fz{b:cq}(h:g.o b=U (.loc i)):(G.back g g').o b=U (.loc i):=by
 show ď (g.o b) (g'.o b)=_;rw[h];rfl
def ph{b:cq}(h:∀i,g.o b≠U (.loc i)):(G.back g g').o b=g'.o b:=by
 show ď (g.o b) (g'.o b)=_;cases q:g.o b with
 |none=>rfl
 |some p=>cases p with
  |loc i=>exact dy q<|h i
  |ob k=>rfl
  |fld k j=>rfl
theorem SR.back(x:SR B g H W s)(p:dq g.aj H g' H')(y:eU B g' H' m'):dq g H (G.back g g') H'/\SR B (G.back g g') H' W {s with m:=m'}:=by
 have keep:∀l i,g.o l=U (.loc i)->H' l=H l/\g'.HF l=Y/\g'.o l=Y:=λl i e=>by
  obtain⟨r,u,d⟩:=x.st.live l _ e;have A:g.aj.o l=Y:=by
   cases q:g.aj.o l with
   |none=>rfl
   |some p=>obtain⟨a,b⟩:=kG.mp q;rw[e]at a;cases a;exact dy J<|b i
  obtain⟨j,f,t⟩:=p.rest l u d r A;exact⟨j.trans d.symm,f,t⟩
 have Đ:∀l q,g'.o l=U q->∀i,g.o l≠U (.loc i):=λl q e i z=>by rw[(keep l i z).2.2]at e;cases e
 refine⟨⟨p.fr,p.pre,λb u h n z=>?_,p.there⟩,⟨⟨y.sub,λb q e=>?_,y.len,λk ob e=>?_⟩,x.lc.len,λi c e=>?_⟩⟩
 .have A:g.aj.o b=Y:=by
   cases q:g.aj.o b with
   |none=>rfl
   |some p=>rw[(kG.mp q).1]at z;cases z
  obtain⟨j,f,t⟩:=p.rest b u h n A;exact⟨j,f,(ph λi w=>by rw[z]at w;cases w).trans t⟩
 .by_cases hl:∃i,g.o b=U (.loc i)
  .obtain⟨i,hl⟩:=hl
   obtain⟨r,u,d⟩:=x.st.live b _ hl;obtain⟨j,f,_⟩:=keep b i hl;exact⟨f,u,j.trans d⟩
  .rw[ph λi w=>hl ⟨i,w⟩]at e
   exact y.live b q e
 .exact(y.at_ k ob e).mv (aL.refl _) fH λl q h _=>⟨(ph<|Đ l q h).trans h,J⟩
 .obtain⟨v,r,d⟩:=x.lc.at_ i c e
  exact⟨v,r,bK.mv (g:=g) (g':=G.back g g') p.fr p.pre (λl o=>⟨Fz o,(keep l i o).1⟩) d⟩
abbrev KTb:=Bi×List Bi
def _root_.L2.Cx.kt(X:Cx)(t:KTb):KT:=⟨X.K,X.prog,X.w,t.1,t.2⟩
inductive tE(B:KT)(f:FE)(W:St)(H:Hp)(Q:VK):Prop where
 |mk g s t s' (x:SR B g H W s) (h:f s=.ok (t,s')) (k:∀v g' H',dq g H g' H'->SR B g' H' W s'->Rep B g'.al g'.HF t v->Q v H')
inductive tA(B:KT)(f:FL)(W:St)(H:Hp)(Q:List V->Hp->Prop):Prop where
 |mk g s ts s' (x:SR B g H W s) (h:f s=.ok (ts,s')) (k:∀vs g' H',dq g H g' H'->SR B g' H' W s'->aD B g'.al g'.HF ts vs->Q vs H')
inductive tT(B:KT)(f:FT)(W:St)(H:Hp)(Q:Bool->Hp->Prop):Prop where
 |mk g s k s' (x:SR B g H W s) (h:f s=.ok (k,s')) (q:∀g' H',dq g H g' H'->SR B g' H' W s'->Q k H')
inductive tP(B:KT)(f:FO)(W:St)(H:Hp)(Q:D2->Hp->Prop):Prop where
 |mk g s k s' (x:SR B g H W s) (h:f s=.ok (k,s')) (q:∀g' H',dq g H g' H'->SR B g' H' W s'->Q k H')
inductive tO(B:KT)(f:FL)(W:St)(H:Hp)(Q:VK):Prop where
 |mk g s ts s' (x:SR B g H W s) (h:f s=.ok (ts,s')) (k:∀l vs g' H',dq g H g' H'->SR B g' H' W s'->H l=Y->g'.HF l=Y->g'.o l=Y->H' l=U (.lst vs)->aD B g'.al g'.HF ts vs->Q (.ref l) H')
def aT{t t':TE}(h:PE X e t)(i:∀W H Q,t' W H Q->t W H Q):PE X e t':=λa s W H Q I q=>h a s W H Q I<|i W H Q q
def Aj{t t':TT}(h:PT X e t)(i:∀W H Q,t' W H Q->t W H Q):PT X e t':=λa s W H Q I q=>h a s W H Q I<|i W H Q q
def NZ{t t':TT}(h:PW X e t)(i:∀W H Q,t' W H Q->t W H Q):PW X e t':=λa b s W H Q I q=>h a b s W H Q I<|i W H Q q
def rH{t t':TA}(h:PA X y t)(i:∀W H Q,t' W H Q->t W H Q):PA X y t':=λpo a s W H Q I q=>h po a s W H Q I<|i W H Q q
def bX{t t':TS}(h:PS X st t)(i:∀D W H,t' D W H->t D W H):PS X st t':=λa s W H D I q=>h a s W H D I<|i D W H q
def pj{t t':TS}(h:gY X st t)(i:∀D W H,t' D W H->t D W H):gY X st t':=λa s W H D I q=>h a s W H D I<|i D W H q
def N1{e:Option cC}{t t':TO}(h:PO X e t)(i:∀W H Q,t' W H Q->t W H Q):PO X e t':=λa s W H Q I q=>h a s W H Q I<|i W H Q q
def vL{t t':TI}(h:PI X tg e t)(i:∀W H a,t' W H a->t W H a):PI X tg e t':=λb s W H a I q=>h b s W H a I<|i W H a q
def aU:PE X e<|tE B bU:=λ_ _ _ _ _ _ a=>by obtain⟨_,_,_,_,_,h,_⟩:=a;cases h
def jV:PT X e<|tT B qJ:=λ_ _ _ _ _ _ a=>by obtain⟨_,_,_,_,_,h,_⟩:=a;cases h
def ja:PE X e<|tO B kE:=λ_ _ _ _ _ _ a=>by obtain⟨_,_,_,_,_,h,_⟩:=a;cases h
def kH(h:PE X e<|tC v)(r:∀al H,Rep B al H t v):PE X e<|tE B<|cF t:=aT h λW H Q z=>by
 obtain⟨g,s,a,s',x,h,k⟩:=z;cases h;exact k v g H .refl x<|r _ _
def Ak(e:X.N[i]?=U x)(d:kg X.env.scope x)(hd:aX x)(j:fh x):PE X (.Name x pos)<|tE B<|vF i:=by
 refine aT (bL e d hd j) λW H Q c=>?_;obtain⟨g,s,t,s',x,h,k⟩:=c;unfold vF at h;split at h
 .rename_i l a
  cases h;obtain⟨v,b,f⟩:=x.lc.at_ i _ a;exact⟨v,b,k v g H .refl x f⟩
 .rename_i ts a
  cases h;obtain⟨g',v,p,y,b,r⟩:=x.j_ a;exact⟨v,b,k v g' H p y r⟩
 .rename_i m ts a
  cases h;obtain⟨g',v,p,y,b,r⟩:=x.Č a;exact⟨v,b,k v g' H p y r⟩
 .cases h
def L1(X:Cx)(f:T->FK)(r:V->Hp->VK->Prop):Prop:=∀(B:KT)(_:B.K=X.K)(al:BM)(HF H:Hp)(x:V)(t tx:T)(Q:VK),aL HF H->Rep B al HF tx x->f tx=U t->(∀v R H',Gr HF H R H'->Rep B al R t v->Q v H')->r x H Q
def qK(X:Cx)(f:T->T->FK)(r:R2):Prop:=∀(B:KT)(_:B.K=X.K)(al:BM)(HF H:Hp)(x y:V)(t tx ty:T)(Q:VK),aL HF H->Rep B al HF tx x->Rep B al HF ty y->f tx ty=U t->(∀v R H',Gr HF H R H'->Rep B al R t v->Q v H')->r x y H Q
def LN(X:Cx)(f:FC->FK)(r:List V->Hp->VK->Prop):Prop:=∀(B:KT)(_:B.K=X.K)(al:BM)(HF H:Hp)(xs:List V)(t:T)(ts:FC)(Q:VK),aL HF H->aD B al HF ts xs->f ts=U t->(∀v R H',Gr HF H R H'->Rep B al R t v->Q v H')->r xs H Q
def FA(l:B.K=X.K)(j:L1 X f r):∀W H Q,tE B (dE f Z) W H Q->tUn r (tE B Z) W H Q:=by
 rintro W H Q ⟨g,s,t,s',x,h,k⟩
 obtain⟨⟨tx,c⟩,n,h⟩:=ae h;obtain⟨o,m,h⟩:=ae h;cases h;exact⟨g,s,tx,c,x,n,λv F H1 i a e=>j B l F.al F.HF H1 v _ tx Q a.sub e (aq m) λu R H' b d=>k u (F.grow R) H' (i.trans<|a.lI b) (a.grow b) d⟩
def jb(o:B.K=X.K)(n:qK X f r):∀W H Q,tE B (bH f Z fb) W H Q->Eu r (tE B Z) (tE B fb) W H Q:=by
 rintro W H Q ⟨g,s,t,s',x,h,k⟩
 obtain⟨⟨tx,c⟩,y,h⟩:=ae h;obtain⟨⟨ty,s2⟩,q,h⟩:=ae h;obtain⟨z,p,h⟩:=ae h;cases h;exact⟨g,s,tx,c,x,y,λv F H1 m e l=>⟨F,c,ty,s2,e,q,λw S H2 b a j=>
  n B o S.al S.HF H2 v w _ tx ty Q a.sub (l.mv b.pre b.fr) j (aq p) λu R H' d i=>k u (S.grow R) H' ((m.trans b).trans<|a.lI d) (a.grow d) i⟩⟩
def N3(m:B.K=X.K)(l:LN X f r):∀W H Q,tE B (aG f fl) W H Q->Û r (tA B fl) W H Q:=by
 rintro W H Q ⟨g,s,t,s',x,h,k⟩
 obtain⟨⟨ts,d⟩,o,h⟩:=ae h;obtain⟨p,n,h⟩:=ae h;cases h;exact⟨g,s,ts,d,x,o,λc F H1 j a i=>l B m F.al F.HF H1 c _ ts Q a.sub i (aq n) λu R H' b e=>k u (F.grow R) H' (j.trans<|a.lI b) (a.grow b) e⟩
def tN:PA X []<|tA B bD:=rH dm λW H Q z=>by
 obtain⟨g,s,t,s',x,h,k⟩:=z;cases h;exact k [] g H .refl x J
def nM(n:PE X e<|tE B Z)(m:PA X y<|tA B fl)(l:dn (e::y) X.env=(Zi,fC e X.env)::dn y X.env):PA X (e::y)<|tA B<|bQ Z fl:=rH (bq n m l) λW H Q z=>by
 obtain⟨g,s,t,s',x,h,k⟩:=z;obtain⟨⟨tx,b⟩,p,h⟩:=ae h;obtain⟨⟨ty,s2⟩,o,h⟩:=ae h;cases h;exact⟨g,s,tx,b,x,p,λv F H1 j d i=>⟨F,b,ty,s2,d,o,λw S H2 a c f=>k (v::w) S H2 (j.trans a) c ⟨v,w,J,i.mv a.pre a.fr,f⟩⟩⟩
def yj(h:n<=1000):n<=de:=by rw[ez];exact eY h (by decide)
def VZ{a}(h:PA X y<|tA B fl):PE X (.Tuple y a pos)<|tE B<|aG aE fl:=aT (ED h) λW H Q z=>by
 obtain⟨g,s,t,s',x,h,k⟩:=z;obtain⟨⟨ts,e⟩,l,h⟩:=ae h;obtain⟨m,j,h⟩:=ae h;cases h;obtain⟨z,rfl⟩:=bC<|aq j;refine⟨g,s,ts,e,x,l,λc F H1 f a d=>⟨yj<|by rw[<- d.len];exact z,λq i=>?_⟩⟩
 have b:=Gr.new (o:=.tup c) a.sub i;exact k _ _ _ (f.trans<|a.lI b) (a.grow b) ⟨q,c,J,.inl<|.inl ak,d.same b.fr⟩
def V0(h:PA X y<|tA B fl):PE X (.List y pos)<|tE B<|aG eB fl:=aT (oO h) λW H Q z=>by
 obtain⟨g,s,t,s',x,h,k⟩:=z;obtain⟨⟨ts,e⟩,l,h⟩:=ae h;obtain⟨m,j,h⟩:=ae h;cases h;obtain⟨z,rfl⟩:=bC<|aq j;refine⟨g,s,ts,e,x,l,λc F H1 f a d=>⟨yj<|by rw[<- d.len];exact z,λq i=>?_⟩⟩
 have b:=Gr.new (o:=.lst c) a.sub i;exact k _ _ _ (f.trans<|a.lI b) (a.grow b) ⟨q,c,J,ak,d.same b.fr⟩
def iN(fl:FL):FL:=λs=>(fl s).bind λp=>if p.1.length<=1000 then .ok p else .bad
theorem jU{u:HO}(x:SR B g H W s)(h:H l=Y):Gr g.HF H g.HF (upd H l u)/\g.HF l=Y/\g.o l=Y:=by
 refine⟨.jU x.sub h,x.sub.free h,?_⟩;cases q:g.o l with
 |none=>rfl
 |some p=>obtain⟨_,u,z⟩:=x.st.live l p q;rw[h]at z;cases z
def QO(h:PA X y<|tA B fl):PE X (.List y pos)<|tO B<|iN fl:=aT (oO h) λW H Q z=>by
 obtain⟨g,s,t,s',x,h,k⟩:=z;obtain⟨⟨ts,m⟩,l,h⟩:=ae h;dsimp only at h;split at h
 .rename_i z
  cases h;refine⟨g,s,_,_,x,l,λb F H1 d a c=>⟨yj<|by rw[<- c.len];exact z,λq e=>?_⟩⟩
  obtain⟨f,j,i⟩:=jU (u:=.lst b) a e;exact k q b _ _ (d.trans<|a.lI f) (a.grow f) (d.there q e) j i ak c
 .cases h
def SR.yk{u:HO}(x:SR B g H W s)(j:g.HF l=Y)(f:g.o l=Y)(k:H l=U u):SR B (g.grow<|upd g.HF l u) H W s:=by
 have sl:∀p c v,bK B g H p c v->bK B (g.grow<|upd g.HF l u) H p c v:=λp c v h=>bK.mv (g:=g) (g':=g.grow<|upd g.HF l u) (aS j) fH (λ_ q=>⟨q,J⟩) h;refine⟨x.st.mv (λb w e=>?_) (λb p e=>?_) (aS j) J λ_ _ q _=>⟨q,J⟩,x.lc.len,λi c e=>let⟨v,d,a⟩:=x.lc.at_ i c e;⟨v,d,sl _ _ _ a⟩⟩
 .have e:upd g.HF l u b=U w:=e
  by_cases hb:b=l
  .subst hb;rw[ak]at e;cases e;exact k
  .rw[ai hb]at e;exact x.sub _ _ e
 .obtain⟨d,a⟩:=x.st.live b p e
  have:b≠l:=λz=>by subst z;rw[show g.o b=U p from e]at f;cases f
  exact⟨by show upd g.HF l u b=Y;rw[ai this];exact d,a⟩
def dq.yk{u:HO}(p:dq g H F H1)(h0:H l=Y)(d:F.HF l=Y):dq g H (F.grow<|upd F.HF l u) H1:=
 ⟨p.fr.trans<|aS d,p.pre,λb w h n z=>by
  obtain⟨a,e,c⟩:=p.rest b w h n z
  have:b≠l:=aJ h h0
  exact⟨a,by show upd F.HF l u b=Y;rw[ai this];exact e,c⟩,p.there⟩
def FH(h:PE X e<|tO B fl):PE X e<|tE B<|dR fl:=aT h λW H Q z=>by
 obtain⟨g,s,t,s',x,h,k⟩:=z;obtain⟨⟨ts,m⟩,j,h⟩:=ae h;cases h;refine⟨g,s,_,_,x,j,λl c F H1 f b h0 a i hl d=>?_⟩;exact k _ _ H1 (f.yk h0 a) (b.yk a i hl) ⟨l,c,J,ak,d.same<|aS a⟩
def QP(b:PT X a<|tT B ft):PW X (.BoolOp .And [a] pos)<|tT B ft:=JL b
def V1(b:PT X a<|tT B ft):PW X (.BoolOp .Or [a] pos)<|tT B ft:=Pz b
def V2{rest:Bz}(m:PT X a<|tT B ft)(l:PW X (.BoolOp .And (b::rest) pos)<|tT B u):PW X (.BoolOp .And (a::b::rest) pos)<|tT B<|fY ft u:=NZ (PB m l) λW H Q z=>by
 obtain⟨g,s,t,s',x,h,k⟩:=z;obtain⟨⟨d,e⟩,n,h⟩:=ae h;refine⟨g,s,d,e,x,n,λF H1 f c=>?_⟩;cases d with
 |true=>exact ng ⟨F,e,_,_,c,h,λS H2 j i=>k S H2 (f.trans j) i⟩
 |false=>cases h;exact oR<|k F H1 f c
def đ{rest:Bz}(m:PT X a<|tT B ft)(l:PW X (.BoolOp .Or (b::rest) pos)<|tT B u):PW X (.BoolOp .Or (a::b::rest) pos)<|tT B<|Ae ft u:=NZ (UP m l) λW H Q z=>by
 obtain⟨g,s,t,s',x,h,k⟩:=z;obtain⟨⟨d,e⟩,n,h⟩:=ae h;refine⟨g,s,d,e,x,n,λF H1 f c=>?_⟩;cases d with
 |true=>cases h;exact ng<|k F H1 f c
 |false=>exact oR ⟨F,e,_,_,c,h,λS H2 j i=>k S H2 (f.trans j) i⟩
def V3(f:PT X a<|tT B ft):PT X (.UnaryOp .Not a pos)<|tT B<|fm ft:=Aj (PD f) λW H Q z=>by
 obtain⟨g,s,t,s',x,h,k⟩:=z;obtain⟨⟨d,c⟩,i,h⟩:=ae h;cases h;exact⟨g,s,d,c,x,i,λF H1 e b=>k F H1 e b⟩
def nN(h:QJ t=U k):t=.bl k:=by
 cases t<;>first|(cases h;done)|(cases h;rfl)
def FI{op}(b:PE X a<|tE B Z):PE X (.BoolOp op [a] pos)<|tE B Z:=PF b
def QQ{rest:Bz}(p:PE X a<|tE B Z)(o:PE X (.BoolOp .And (b::rest) pos)<|tE B fb):PE X (.BoolOp .And (a::b::rest) pos)<|tE B<|oZ Z fb:=aT (PH p o) λW H Q z=>by
 obtain⟨g,s,t,s',x,h,k⟩:=z;obtain⟨⟨d,e⟩,r,h⟩:=ae h;obtain⟨i,q,h⟩:=ae h;cases nN (aq q);refine⟨g,s,_,e,x,r,λv F H1 f c m=>⟨i,m,?_⟩⟩;cases i with
 |true=>exact ng ⟨F,e,_,_,c,h,λw S H2 n j l=>k w S H2 (f.trans n) j l⟩
 |false=>cases h;exact oR<|k _ F H1 f c J
def V4{rest:Bz}(p:PE X a<|tE B Z)(o:PE X (.BoolOp .Or (b::rest) pos)<|tE B fb):PE X (.BoolOp .Or (a::b::rest) pos)<|tE B<|Ċ Z fb:=aT (US p o) λW H Q z=>by
 obtain⟨g,s,t,s',x,h,k⟩:=z;obtain⟨⟨d,e⟩,r,h⟩:=ae h;obtain⟨i,q,h⟩:=ae h;cases nN (aq q);refine⟨g,s,_,e,x,r,λv F H1 f c m=>⟨i,m,?_⟩⟩;cases i with
 |true=>cases h;exact ng<|k _ F H1 f c J
 |false=>exact oR ⟨F,e,_,_,c,h,λw S H2 n j l=>k w S H2 (f.trans n) j l⟩
def QR(i:PE X a<|tE B Z):PE X (.UnaryOp .Not a pos)<|tE B<|Fu Z:=aT (PJ i) λW H Q z=>by
 obtain⟨g,s,t,s',x,h,k⟩:=z;obtain⟨⟨d,c⟩,l,h⟩:=ae h;obtain⟨m,j,h⟩:=ae h;cases nN (aq j);cases h;exact⟨g,s,_,c,x,l,λv F H1 f b e=>⟨m,e,k _ F H1 f b J⟩⟩
def V5(n:PT X c<|tT B ft)(p:PE X a<|tE B Z)(o:PE X b<|tE B fb):PE X (.IfExp c a b pos)<|tE B<|rF ft Z fb:=aT (Eg n p o) λW H Q z=>by
 obtain⟨g,s,t,s',x,h,k⟩:=z;obtain⟨⟨d,f⟩,q,h⟩:=ae h;refine⟨g,s,d,f,x,q,λF H1 m l=>?_⟩;cases d with
 |true=>exact ng ⟨F,f,_,_,l,h,λw S H2 j e i=>k w S H2 (m.trans j) e i⟩
 |false=>exact oR ⟨F,f,_,_,l,h,λw S H2 j e i=>k w S H2 (m.trans j) e i⟩
def FJ(h:Kh t=U k)(sm:aL HF H)(r:Rep B al HF t v):P7 B.K v H k:=by
 cases t<;>try(cases h;done)
 .cases h;cases r;rfl
 .cases h
  obtain⟨a,b,rfl,q,rr⟩:=r;refine .inl ⟨b,dW.of<|sm _ _ q,?_⟩
  have:=rr.len
  rename_i xs;cases xs<;>cases b<;>first|rfl|(cases this)
def N4(j:PE X a<|tE B Z)(l:B.K=X.K)(he:∀c,H4 a X.env c=(do let v <- c;rb a.pos;ri [v] (truthy v))):PT X a<|tT B<|tB Z:=Aj (Ew j he) λW H Q z=>by
 obtain⟨g,s,t,s',x,h,k⟩:=z;obtain⟨⟨d,e⟩,n,h⟩:=ae h;obtain⟨o,m,h⟩:=ae h;cases h;exact⟨g,s,_,e,x,n,λv F H1 i b f=>⟨_,l▸FJ (aq m) b.sub f,k F H1 i b⟩⟩
def eo(l:B1):(⟨l.toArray⟩:Str).length=l.length:=by show l.toArray.size=_;simp
def Ē{l:B1}(h:l.length<=1000000):(⟨l.toArray⟩:Str).length<=de:=by rw[eo,ez];exact eY h (by decide)
def QT(a b:B1):(⟨a.toArray⟩:Str)++⟨b.toArray⟩=⟨(a++b).toArray⟩:=by
 show(⟨a.toArray++b.toArray⟩:Str)=_;simp
def N5:R2:=λx y H Q=>Di (λi j=>.int<|i+j) x y H Q\/(∃i j,x=.str i/\y=.str j/\i.length+j.length<=de/\Q (.str<|i++j) H)\/Vn x y H Q
def Kq:gE X (kv .Add) N5:=PZ.or<|xU.or yc
def V6:qK X VP N5:=λB i al HF H x y t tx ty Q sm b a h k=>by
 cases tx<;>first|(cases h;done)|(cases ty<;>try(cases h;done))
 .cases h;exact .inl ⟨_,_,b,a,k _ HF H (.refl sm) J⟩
 .obtain⟨c,rfl⟩:=bC h
  obtain⟨rfl,_⟩:=b;obtain⟨rfl,_⟩:=a;refine .inr<|.inl ⟨_,_,J,J,?_,?_⟩
  .rw[eo,eo,ez];exact eY c (by decide)
  .rw[QT]
   exact k _ HF H (.refl sm) ⟨J,by rw[cA];exact c⟩
 .obtain⟨c,rfl⟩:=bC h
  obtain⟨l,xs,rfl,q,r⟩:=b;obtain⟨m,ys,rfl,f,d⟩:=a;refine .inr<|.inr ⟨l,m,xs,ys,J,J,sm _ _ q,sm _ _ f,by rw[<- r.len,<- d.len,ez];exact eY c<|by decide,λp g=>?_⟩
  have e:=Gr.new (o:=.lst<|xs++ys) sm g;exact k _ _ _ e ⟨p,_,J,ak,(r.app d).same e.fr⟩
def V7{f:T->T->FK}{a:Int->Int->V}{G:Int->Int->T}(e:∀tx ty t,f tx ty=U t->∃i j,tx=.int i/\ty=.int j/\t=G i j)(d:∀B al i j H,Rep B al H (G i j)<|a i j):qK X f<|Di a:=λB g al HF H x y t tx ty Q sm c b h k=>by
 obtain⟨i,j,rfl,rfl,rfl⟩:=e _ _ _ h;exact⟨i,j,c,b,k _ HF H (.refl sm)<|d B al i j HF⟩
def FN{f:T->T->FK}{a:Int->Int->V}{G:Int->Int->T}{C:Int->Int->Prop}(g:∀tx ty t,f tx ty=U t->∃i j,tx=.int i/\ty=.int j/\t=G i j/\C i j)(e:∀B al i j H,Rep B al H (G i j)<|a i j):qK X f<|rI C a:=λB l al HF H x y t tx ty Q sm d b h k=>by
 obtain⟨i,j,rfl,rfl,rfl,c⟩:=g _ _ _ h;exact⟨i,j,d,b,c,k _ HF H (.refl sm)<|e B al i j HF⟩
def V8:qK X VQ<|Di λi j=>.int<|i-j:=V7 (G:=λi j=>.int<|i-j) (λtx ty t h=>by
 cases tx<;>first | (cases h;done) | (cases ty<;>first | (cases h;done) | (cases h;exact⟨_,_,J,J,J⟩))) λ_ _ _ _ _=>J
def V9:qK X VR<|rI U6 λi j=>.int<|i/j:=FN (G:=λi j=>.int<|i/j) (λtx ty t h=>by
 cases tx<;>first | (cases h;done) | (cases ty<;>first | (cases h;done) | (obtain⟨c,rfl⟩:=bC h;exact⟨_,_,J,J,J,c⟩))) λ_ _ _ _ _=>J
def V_:qK X VS<|rI (λ_ j=>0<j) λi j=>.int<|i % j:=FN (G:=λi j=>.int<|i % j) (λtx ty t h=>by
 cases tx<;>first | (cases h;done) | (cases ty<;>first | (cases h;done) | (obtain⟨c,rfl⟩:=bC h;exact⟨_,_,J,J,J,c⟩))) λ_ _ _ _ _=>J
def Wa:qK X VT<|rI U7 λi j=>.int<|i^j.toNat:=FN (G:=λi j=>.int<|i^j.toNat) (λtx ty t h=>by
 cases tx<;>first | (cases h;done) | (cases ty<;>first | (cases h;done) | (obtain⟨c,rfl⟩:=bC h;exact⟨_,_,J,J,J,c⟩))) λ_ _ _ _ _=>J
def Al(i j:Int):Prop:=PY i j\/(i.natAbs.log2<2000000/\j.natAbs.log2<2000000)
def rJ(h:i.natAbs.log2<2000000):iv i<=2000000:=by
 unfold iv;split
 .exact zL ..
 .exact eY h (by decide)
theorem Al.ok{i j:Int}(h:Al i j):IntMulOk i j:=by
 rcases h with h|⟨f,e⟩
 .exact h.ok
 .have a:=rJ f
  have b:=rJ e;intro q;rw[bZ]at q;have c:=bt<|show decide (((iv i:Nat):Int)+(iv j:Nat) > (bitsLine:Nat))=O from q.2;have d:(bitsLine:Nat)=134217728:=J
  lia
def Kr:gE X (kv .Mult)<|rI Al λi j=>.int<|i*j:=Zp λ_ _ _ _ _ _ _ a q=>PyProof.Rows.mul_int q a.ok
def FP:R2:=λx y H Q=>∃l k,x=SV l/\y=.int k/\(0<=k/\k<=100)/\l≠[]/\l.length<=10000/\Q (SV (eQ k.toNat l).flatten) H
theorem Am(l:B1):∀(k:Nat)(a:B1),(eQ k l.toArray).foldl (·++·) a.toArray=(a++(eQ k l).flatten).toArray
 |0,a=>by simp
 |k+1,a=>by
  rw[MX,List.foldl_cons,show a.toArray++l.toArray=(a++l).toArray by simp,Am l k,MX,MY,dU]
def An(l:B1)(k:Nat):(eQ k l).flatten.length=k*l.length:=by
 rw[MZ,List.map_replicate,List.sum_replicate_nat]
def FQ:gE X (kv .Mult) FP:=by
 intro z s W H x y v u Q I c b h;obtain⟨l,k,rfl,rfl,⟨h0,i⟩,d,f,q⟩:=h;obtain⟨t,rfl⟩:=c;obtain⟨o,rfl⟩:=b;have len:=eo l;have g:=ez;have r:k.toNat*l.length<=100*10000:=Nk (by lia) f
 refine PySem.P.mul_str (by rw[ar<|by lia,ar<|by lia];rfl) (λp _=>?_) (λ_ _=>?_) ?_
 .intro n
  rw[len]at n;have w:((2:Int)^63-1)/k*k<=2^63-1:=Int.ediv_mul_le _ (by lia)
  have j:(2:Int)^63-1<((2^63-1)/k+1)*k:=Int.lt_ediv_add_one_mul_self _ (by lia)
  have m:(((2:Int)^63-1)/k+1)*k<=10000*100:=Int.le_trans (Int.mul_le_mul_of_nonneg_right (by lia)<|by lia)<|Int.mul_le_mul_of_nonneg_left i<|by decide
  exact dy (Int.lt_of_lt_of_le j m) (by decide)
 .rw[len,Nat.mul_comm]
  unfold Builtin.Str.tooLong;exact ar (by lia)
 .by_cases h1:k<1
  .have e:k=0:=by lia
   subst e;rw[cv h1];exact⟨by show 0<=_;lia,⟨SV [],H,I.tok _,⟨_,J⟩,q⟩⟩
  .rw[cb h1]
   split
   .rename_i a
    have e:k=1:=by
     rw[oq]at a;rcases a with a|a
     .exact bt (by simpa using a)
     .have a:=eq_of_beq a
      rw[len]at a;exact dy (M0.mp a) d
    subst e;have e:(eQ (Int.toNat 1) l).flatten=l:=by simp
    rw[e]at q;exact⟨SV l,H,I,⟨_,J⟩,q⟩
   .have e:=Am l k.toNat []
    rw[BX]at e;refine⟨?_,?_⟩
    .show Array.size _<=_
     rw[show((eQ k.toNat (⟨l.toArray⟩:Str).cps).foldl (·++·) #[])=_ from e,cM,An]
     lia
    .rw[show((eQ k.toNat (⟨l.toArray⟩:Str).cps).foldl (·++·) #[])=_ from e]
     exact⟨SV (eQ k.toNat l).flatten,H,I.tok _,⟨_,J⟩,q⟩
def N7:R2:=λx y H Q=>rI Al (λi j=>.int<|i*j) x y H Q\/FP x y H Q
def Ks:gE X (kv .Mult) N7:=Kr.or FQ
def N8:T->T->FK
 |.int i,.int j=>ć (.int i)<|.int j
 |.str l,.int k=>gd ((0<=k/\k<=100)/\l≠[]/\l.length<=10000)<|.str (eQ k.toNat l).flatten
 |_,_=>Y
def Wb:qK X N8 N7:=λB e al HF H x y t tx ty Q sm b a h k=>by
 cases tx<;>first|(cases h;done)|(cases ty<;>try(cases h;done))
 .obtain⟨c,rfl⟩:=bC h
  exact .inl ⟨_,_,b,a,c,k _ HF H (.refl sm) J⟩
 .obtain⟨c,rfl⟩:=bC h
  obtain⟨rfl,d⟩:=b;refine .inr ⟨_,_,J,a,c.1,c.2.1,c.2.2,k _ HF H (.refl sm) ⟨J,?_⟩⟩;rw[An]
  have:=Nk (show _<=100 from Int.toNat_le.mpr c.1.2) c.2.2
  exact this
def cz:qv->T->T->FK
 |.Add=>VP
 |.Sub=>VQ
 |.Mult=>N8
 |.FloorDiv=>VR
 |.Mod=>VS
 |.Pow=>VT
 |_=>λ_ _=>Y
def Wc(e:B.K=X.K)(op:qv)(d:PE X a<|tE B Z)(c:PE X b<|tE B fb):PE X (.BinOp a op b pos)<|tE B<|bH (cz op) Z fb:=by
 have no:∀f:T->T->FK,(∀x y,f x y=Y)->PE X (.BinOp a op b pos) (tE B<|bH f Z fb):=λf i _ _ _ _ _ _ z=>by
  obtain⟨_,_,_,_,_,h,_⟩:=z;obtain⟨⟨tx,k⟩,m,h⟩:=ae h;obtain⟨⟨ty,s2⟩,l,h⟩:=ae h;obtain⟨j,g,h⟩:=ae h;rw[i]at g;cases g
 cases op
 case Add=>exact aT (mw Kq d c)<|jb e V6
 case Sub=>exact aT (mw P0 d c)<|jb e V8
 case Mult=>exact aT (mw Ks d c)<|jb e Wb
 case FloorDiv=>exact aT (mw JS d c)<|jb e V9
 case Mod=>exact aT (mw P1 d c)<|jb e V_
 case Pow=>exact aT (mw P4 d c)<|jb e Wa
 all_goals exact no _ λ_ _=>J
def Wd(b:B.K=X.K)(d:PE X a<|tE B Z):PE X (.UnaryOp .USub a pos)<|tE B<|dE kD Z:=
 aT (U4 P5 d)<|FA b λB b al HF H x t tx Q sm c h k=>by
  cases tx<;>try(cases h;done)
  cases h;exact⟨_,c,k _ HF H (.refl sm) J⟩
def yl(h:Rep B al H t v)(f:cy t=O):(t=.non/\v=.non)\/(∃b,t=.bl b/\v=.bl b)\/(∃i,t=.int i/\v=.int i)\/∃l,t=.str l/\v=.str ⟨l.toArray⟩:=by
 cases t with
 |non=>exact .inl ⟨J,h⟩
 |bl b=>exact .inr<|.inl ⟨b,J,h⟩
 |int i=>exact .inr<|.inr<|.inl ⟨i,J,h⟩
 |str l=>exact .inr<|.inr<|.inr ⟨l,J,h.1⟩
 |_=>cases f
def eE{B:KT}{al:BM}{H:Hp}{t:T}{v:V}(h:Rep B al H t v)(f:cy t=O):eZ v=O:=by
 rcases yl h f with⟨_,rfl⟩|⟨_,_,rfl⟩|⟨_,_,rfl⟩|⟨_,_,rfl⟩<;>rfl
def str_beq(l m:B1):((⟨l.toArray⟩:Str) == ⟨m.toArray⟩)=decide (l=m):=by
 by_cases h:l=m
 .subst h;simp
 .rw[ar h,beq_eq_false_iff_ne]
  intro e;injection e with e
  exact h (by simpa using e)
def kI{t u:T}(h:Rep B al H t v)(h':Rep B al H u w)(f:cy t=O)(a:cy u=O):EM v w=eqT t u:=by
 rcases yl h f with⟨rfl,rfl⟩|⟨b,rfl,rfl⟩|⟨i,rfl,rfl⟩|⟨l,rfl,rfl⟩<;>rcases yl h' a with⟨rfl,rfl⟩|⟨c,rfl,rfl⟩|⟨j,rfl,rfl⟩|⟨m,rfl,rfl⟩<;>first|rfl|exact str_beq _ _|exact Bool.beq_eq_decide_eq _ _
def kJ{c:dH}{s:ax}{a:cq}(I:Inv X c W H s)(sm:aL HF H)(h:mh X.K HF a vs):∃au:B2,Vals vs au/\s.heap.IsTuple a au.toArray:=by
 obtain⟨au,r,b,d⟩:=I.tuple (xs:=vs)<|cQ sm h;exact⟨au,r,b⟩
def kK{b:dH}{s:ax}{a:cq}(I:Inv X b W H s)(sm:aL HF H)(h:HF a=U (.lst vs)):∃au:B2,Vals vs au/\s.heap.IsList a au.toArray:=by
 obtain⟨au,r,p,c⟩:=I.list<|dW.of<|sm _ _ h;exact⟨au,r,p.isList⟩
def FU{v:V}(f:eZ v=O):EM v v=O:=by
 cases v<;>first|(cases f;done)|rfl|(show(_ == _)=O;exact nL _)
def FW(t u:T):shape 0 t u=(cy t&&cy u):=J
def Ao(p:B.K=X.K){s:ax}(I:Inv X D W H s)(sm:aL HF H)(n:Nat):∀{t u:T}{v:V},Rep B al HF t v->Rep B al HF u v->shape n t u=O->eqT t u=O:=by
 have flat:∀{t u:T}{v:V},Rep B al HF t v->Rep B al HF u v->(cy t&&cy u)=O->eqT t u=O:=λh b f=>by
  obtain⟨w,A⟩:=xG.mp f;rw[<- kI h b w A];exact FU<|eE h w
 induction n with
 |zero=>exact λ{t u v} h b g=>flat h b<|(FW t u).symm.trans g
 |succ n x=>
  intro t u v h b g;have d:∀{ts c:FC}{i:List V},aD B al HF ts i->aD B al HF c i->all2 (shape n) ts c=O->i9 ts c=O:=by
   intro ts
   induction ts with
   |nil=>intro c i h b _;cases(show i=[]from h);cases c with
    |nil=>rfl
    |cons u c=>obtain⟨_,_,e,_⟩:=b;cases e
   |cons t ts o=>intro c i h b g;cases c with
    |nil=>obtain⟨_,_,e,_⟩:=h;cases(show i=[]from b);cases e
    |cons u c=>
     obtain⟨v,r,rfl,z,y⟩:=h;obtain⟨L,j,e,F,G⟩:=b;cases e;obtain⟨m,l⟩:=xG.mp<|show(shape n t u&&all2 (shape n) ts c)=O from g;show(eqT t u&&i9 ts c)=O;rw[x z F m,o y G l];rfl
  cases t with
  |tup ts=>
   cases u with
   |tup c=>
    obtain⟨a,i,rfl,q,r⟩:=h;obtain⟨E,C,e,k,j⟩:=b;cases e;have ev:=I.qX (cQ sm<|p▸q)<|cQ sm<|p▸k;subst ev;exact d r j g
   |_=>exact flat h b g
  |lst ts=>
   cases u with
   |lst c=>
    obtain⟨a,i,rfl,q,r⟩:=h;obtain⟨E,C,e,k,j⟩:=b;cases e;rw[q]at k;cases k;exact d r j g
   |_=>exact flat h b g
  |_=>exact flat h b (by cases u<;>exact g)
theorem vM{p:T->T->Bool}:∀{as bs:FC},all2 p as bs=O->∀{j:Nat}{a b:T},as[j]?=U a->bs[j]?=U b->p a b=O
 |a::as,b::bs,h,0,_,_,d,c=>by
  simp at d c;subst d c;exact(xG.mp h).1
 |a::as,b::bs,h,j+1,_,_,d,c=>vM (xG.mp h).2 (j:=j) (by simpa using d) (by simpa using c)
 |[],_,_,_,_,_,d,_=>by simp at d
 |_::_,[],_,_,_,_,_,c=>by simp at c
theorem gh:∀(xs ys:FC),((gQ<|min xs.length ys.length).all (λj=>eqT (xs.getD j .non)<|ys.getD j .non)&&xs.length == ys.length)=i9 xs ys
 |[],[]=>J
 |[],_::_=>by simp[i9]
 |_::_,[]=>by simp[i9]
 |x::xs,y::ys=>by
  have a:=gh xs ys;rw[eu,eu,Nat.succ_min_succ,DT,ed,DO];have e:(xs.length+1 == ys.length+1)=(xs.length == ys.length):=by
   by_cases h:xs.length=ys.length<;>simp[h]
  rw[e];show((eqT x y&&(gQ<|min xs.length ys.length).all λj=>eqT (xs.getD j .non)<|ys.getD j .non)&&_)=(eqT x y&&i9 xs ys);rw[<- a,Bool.and_assoc]
theorem pA:∀{xs ys:FC},xs.length≠ys.length->i9 xs ys=Zi
 |[],[],h=>dy J h
 |[],_::_,_=>J
 |_::_,[],_=>J
 |x::xs,y::ys,h=>by
  show(eqT x y&&i9 xs ys)=Zi;rw[pA λe=>h<|by simp[e],zo]
def in1_units(A:eh):A.in1.units=A.units+1:=J
def kL{A:eh}{s:ax}{vs c:List V}(r:aD B al HF ts vs)(e:aD B al HF us c)(d:Vals vs au)(h:Vals c its')(i:all2 (shape n) ts us=O)
  (l:∀{t u:T}{v w:V}{x y:bp},Rep B al HF t v->Rep B al HF u w->RelV v x->RelV w y->shape n t u=O->mM A s x y (eqT t u)) :
  ∀j(g:j<au.toArray.size)(f:j<its'.toArray.size),mM A s au.toArray[j] its'.toArray[j]<|(λj=>eqT (ts.getD j .non)<|us.getD j .non) j:=by
 intro j g f;have l1:=d.length;have l2:=h.length;have l3:=r.len;have l4:=e.len;have a:j<ts.length:=by rw[l3,l1];simpa using g
 have b:j<us.length:=by rw[l4,l2];simpa using f
 obtain⟨v,q,q1⟩:=r.get<|fQ a;obtain⟨w,p,q2⟩:=e.get<|fQ b;obtain⟨x,o,k⟩:=d.get q;obtain⟨y,m,q4⟩:=h.get p;have q5:au.toArray[j]=x:=by
  obtain⟨_,z⟩:=dj.mp o;simpa using z
 have q6:its'.toArray[j]=y:=by
  obtain⟨_,z⟩:=dj.mp m;simpa using z
 rw[q5,q6];have F:ts.getD j .non=ts[j]:=by rw[zy,fQ a];rfl
 have S:us.getD j .non=us[j]:=by rw[zy,fQ b];rfl
 show mM A s x y<|eqT (ts.getD j .non)<|us.getD j .non;rw[F,S];exact l q1 q2 k q4<|vM i (fQ a)<|fQ b
def Ku(E:B.K=X.K){s:ax}(I:Inv X Q W H s)(sm:aL HF H)(n:Nat):∀(A:eh){t u:T}{v w:V}{x y:bp},A.units+n<mI->Rep B al HF t v->Rep B al HF u w->RelV v x->RelV w y->shape n t u=O->mM A s x y (eqT t u):=by
 induction n with
 |zero=>
  intro A t u v w x y C rt g i h f;have f:=(FW t u).symm.trans f;obtain⟨o,m⟩:=xG.mp f;rw[<- kI rt g o m];exact ya i h (eE rt o)<|eE g m
 |succ n M=>
  intro A t u v w x y C rt g i h f;have flat:(cy t&&cy u)=O->mM A s x y (eqT t u):=λf=>by
   obtain⟨o,m⟩:=xG.mp f;rw[<- kI rt g o m];exact ya i h (eE rt o)<|eE g m
  cases t with
  |tup ts=>
   cases u with
   |tup G=>
    obtain⟨a,P,rfl,q,r⟩:=id rt;obtain⟨b,N,rfl,L,k⟩:=id g;cases i;cases h;by_cases hab:a=b
    .subst hab
     rw[Ao E I sm (n+1) rt g f];exact SeqAt.EqAt.same _
    obtain⟨au,j,D⟩:=kJ I sm<|E▸q;obtain⟨l,p,F⟩:=kJ I sm<|E▸L;have z:=vy D F (B3 (fJ _ _) C)<|kL (A:=A.in1) r k j p f λa b c d e=>M A.in1 (by rw[in1_units];lia) a b c d e
    rw[cM,cM,<- j.length,<- p.length,<- r.len,<- k.len,gh]at z;exact .of_refs hab z
   |_=>exact flat f
  |lst ts=>
   cases u with
   |lst G=>
    obtain⟨a,P,rfl,q,r⟩:=id rt;obtain⟨b,N,rfl,L,k⟩:=id g;cases i;cases h;by_cases hab:a=b
    .subst hab
     rw[Ao E I sm (n+1) rt g f];exact SeqAt.EqAt.same _
    obtain⟨au,j,D⟩:=kK I sm q;obtain⟨l,p,F⟩:=kK I sm L;have l1:=j.length;have l2:=p.length;have l3:=r.len;have l4:=k.len;by_cases hsz:ts.length=G.length
    .have z:=xi D F (by rw[cM,cM];lia) (B3 (fJ _ _) C)<|kL (A:=A.in1) r k j p f λa b c d e=>M A.in1 (by rw[in1_units];lia) a b c d e
     have e:=gh ts G;rw[<- hsz,Nl,nL,DL]at e;rw[cM,<- l1,<- l3,e]at z;exact .of_refs hab z
    .have z:=so (s:=s) (A:=A) D F (by rw[cM,cM,bne_iff_ne];lia)<|B3 (fJ _ _) C
     rw[<- pA hsz]at z;exact .of_refs hab z
   |_=>exact flat f
  |_=>exact flat (by cases u<;>exact f)
def Kv{A:eh}{s:ax}{t u:T}{x y:bp}(rt:Rep B al HF t v)(f:Rep B al HF u w)(e:RelV v x)(d:RelV w y)(h:cy t=O)(g:cy u=O):CC A s x y (eqT t u)/\vx A s x y (!eqT t u):=by
 rw[<- kI rt f h g];have F:=eE rt h;have S:=eE f g;cases v with
 |non=>
  cases e;cases w with
  |non=>cases d;exact⟨SeqAt.RcAt.none_none,SeqAt.RcNeAt.none_none⟩
  |bl b=>cases d;exact⟨SeqAt.RcAt.none_bool b,SeqAt.RcNeAt.none_bool b⟩
  |int b=>obtain⟨t,rfl⟩:=d;exact⟨SeqAt.RcAt.none_int b t,SeqAt.RcNeAt.none_int b t⟩
  |str b=>obtain⟨t,rfl⟩:=d;exact⟨SeqAt.RcAt.none_str b t,SeqAt.RcNeAt.none_str b t⟩
  |_=>exact dy (show Zi=O from S) gx
 |bl a=>
  cases e;cases w with
  |non=>cases d;exact⟨SeqAt.RcAt.bool_none a,SeqAt.RcNeAt.bool_none a⟩
  |bl b=>cases d;exact⟨SeqAt.RcAt.bool_bool a b,SeqAt.RcNeAt.bool_bool a b⟩
  |int b=>obtain⟨t,rfl⟩:=d;exact⟨SeqAt.RcAt.bool_int a b t,SeqAt.RcNeAt.bool_int a b t⟩
  |str b=>obtain⟨t,rfl⟩:=d;exact⟨SeqAt.RcAt.bool_str a b t,SeqAt.RcNeAt.bool_str a b t⟩
  |_=>exact dy (show Zi=O from S) gx
 |int a=>
  obtain⟨c,rfl⟩:=e;cases w with
  |non=>cases d;exact⟨SeqAt.RcAt.int_none a c,SeqAt.RcNeAt.int_none a c⟩
  |bl b=>cases d;exact⟨SeqAt.RcAt.int_bool a c b,SeqAt.RcNeAt.int_bool a c b⟩
  |int b=>obtain⟨t,rfl⟩:=d;exact⟨SeqAt.RcAt.int_int a c b t,SeqAt.RcNeAt.int_int a c b t⟩
  |str b=>obtain⟨t,rfl⟩:=d;exact⟨SeqAt.RcAt.int_str a c b t,SeqAt.RcNeAt.int_str a c b t⟩
  |_=>exact dy (show Zi=O from S) gx
 |str a=>
  obtain⟨c,rfl⟩:=e;cases w with
  |non=>cases d;exact⟨SeqAt.RcAt.str_none a c,SeqAt.RcNeAt.str_none a c⟩
  |bl b=>cases d;exact⟨SeqAt.RcAt.str_bool a c b,SeqAt.RcNeAt.str_bool a c b⟩
  |int b=>obtain⟨t,rfl⟩:=d;exact⟨SeqAt.RcAt.str_int a c b t,SeqAt.RcNeAt.str_int a c b t⟩
  |str b=>obtain⟨t,rfl⟩:=d;exact⟨SeqAt.RcAt.str_str a c b t,SeqAt.RcNeAt.str_str a c b t⟩
  |_=>exact dy (show Zi=O from S) gx
 |_=>exact dy (show Zi=O from F) gx
def FY(G:B.K=X.K){s:ax}(I:Inv X Q W H s)(sm:aL HF H)(A:eh){t u:T}{x y:bp}(R:A.units+6<mI)(rt:Rep B al HF t v)(E:Rep B al HF u w)(D:RelV v x)(C:RelV w y)(h:shape 5 t u=O) :
  CC A s x y (eqT t u)/\vx A s x y (!eqT t u):=by
 have flat:(cy t&&cy u)=O->CC A s x y (eqT t u)/\vx A s x y (!eqT t u):=λh=>by
  obtain⟨P,N⟩:=xG.mp h;exact Kv rt E D C P N
 have k:A.units<mI:=by lia
 have dp:=λ{t u:T} {v w:V} {x y:bp} (a:Rep B al HF t v) (b:Rep B al HF u w) (c:RelV v x) (d:RelV w y) (e:shape 4 t u=O)=>Ku G I sm 4 A.in1 (by rw[in1_units];lia) a b c d e
 cases t with
 |tup ts=>
  cases u with
  |tup p=>
   obtain⟨a,M,rfl,q,r⟩:=id rt;obtain⟨b,L,rfl,F,m⟩:=id E;cases D;cases C;obtain⟨au,l,i⟩:=kJ I sm<|G▸q;obtain⟨f,o,j⟩:=kJ I sm<|G▸F;have it:=kL (A:=A.in1) (s:=s) r m l o h dp;have z:=vy i j k it;have g:=SeqAt.RcNeAt.tuples i j k it;rw[cM,cM,<- l.length,<- o.length,<- r.len,<- m.len,gh]at z g;exact⟨z,g⟩
  |_=>exact flat h
 |lst ts=>
  cases u with
  |lst p=>
   obtain⟨a,M,rfl,q,r⟩:=id rt;obtain⟨b,L,rfl,F,m⟩:=id E;cases D;cases C;obtain⟨au,l,i⟩:=kK I sm q;obtain⟨f,o,j⟩:=kK I sm F;have l1:=l.length;have l2:=o.length;have l3:=r.len;have l4:=m.len;by_cases hsz:ts.length=p.length
   .have it:=kL (A:=A.in1) (s:=s) r m l o h dp
    have n:au.toArray.size=f.toArray.size:=by rw[cM,cM];lia
    have z:=xi i j n k it;have g:=SeqAt.RcNeAt.lists i j n k it;have e:=gh ts p;rw[<- hsz,Nl,nL,DL]at e;rw[cM,<- l1,<- l3,e]at z g;exact⟨z,g⟩
   .have n:(au.toArray.size != f.toArray.size)=O:=by rw[cM,cM,bne_iff_ne];lia
    have z:=so (s:=s) (A:=A) i j n k;have g:=SeqAt.RcNeAt.lists_lengths (s:=s) (A:=A) i j n k;have e:eqT (.lst ts) (.lst p)=Zi:=pA hsz;rw[e];exact⟨z,g⟩
  |_=>exact flat h
 |_=>exact flat (by cases u<;>exact h)
def ym(e:X.A.units+6<mI):gE X (en .Eq) λx y H Q=>∃B al HF t u,B.K=X.K/\aL HF H/\Rep B al HF t x/\Rep B al HF u y/\shape 5 t u=O/\Q (.bl<|eqT t u) H:=by
 intro i s W H x y v u Q I c b h;obtain⟨B,al,HF,t,g,f,sm,rt,d,a,q⟩:=h;exact(FY f I sm X.A e rt d c b a).1 _ _ _ _<|iY I q J
def QU(e:X.A.units+6<mI):gE X (en .NotEq) λx y H Q=>∃B al HF t u,B.K=X.K/\aL HF H/\Rep B al HF t x/\Rep B al HF u y/\shape 5 t u=O/\Q (.bl<|!eqT t u) H:=by
 intro i s W H x y v u Q I c b h;obtain⟨B,al,HF,t,g,f,sm,rt,d,a,q⟩:=h;exact(FY f I sm X.A e rt d c b a).2 _ _ _ _<|iY I q J
def FZ:gE X (en .Is) λx y H Q=>∃a b,x=.bl a/\y=.bl b/\Q (.bl<|a == b) H:=by
 intro e s W H x y v u Q I d c h;obtain⟨a,b,rfl,rfl,q⟩:=h;cases d;cases c;exact PyProof.Rows.is_bool<|iY I q J
theorem vN{B:KT}{al:BM}{H:Hp}:∀{ts:FC}{vs:List V},aD B al H ts vs->ts.all cy=O->vs.all eZ=O
 |[],_,h,_=>by cases(show _=[]from h);rfl
 |t::ts,_,h,f=>by
  obtain⟨v,r,rfl,b,a⟩:=h;rw[ed,bZ]at f;rw[ed,eE b f.1,vN a f.2];rfl
theorem any_eq{a:V}(b:Rep B al H x a)(fx:cy x=O):∀{ts:FC}{vs:List V},aD B al H ts vs->ts.all cy=O->(vs.any λy=>EM y a)=ts.any λy=>eqT y x
 |[],_,h,_=>by cases(show _=[]from h);rfl
 |t::ts,_,h,f=>by
  obtain⟨v,r,rfl,d,c⟩:=h;rw[ed,bZ]at f;rw[lq,lq,kI d b f.1 fx,any_eq b fx c f.2]
def yn(xs:List α)(i:Int):atT xs i=EK xs i:=by
 unfold atT EK Ju;by_cases h0:0<=i
 .rw[cv h0,cv h0]
  by_cases h1:i<xs.length
  .rw[cv h1,cv h1];rfl
  .rw[cb h1,cb h1];rfl
 .rw[cb h0,cb h0]
  by_cases h1:-(xs.length:Int)<=i
  .rw[cv h1,cv h1];rfl
  .rw[cb h1,cb h1];rfl
def nO(r:aD B al H ts vs)(h:atT ts i=U t):∃v,EK vs i=U v/\Rep B al H t v:=by
 rw[yn]at h;unfold EK at h ⊢;rw[<- r.len];cases e:Ju ts.length i with
 |none=>rw[e]at h;cases h
 |some j=>
  rw[e]at h;exact r.get h
def F0{v:V}(h:Rep B al H t v):decide (v=.non)=Fp t:=by
 cases t with
 |non=>cases(show v=.non from h);rfl
 |bl b=>cases(show v=.bl b from h);rfl
 |int i=>cases(show v=.int i from h);rfl
 |str l=>obtain⟨rfl,_⟩:=h;rfl
 |tup ts=>obtain⟨a,c,rfl,_⟩:=h;rfl
 |lst ts=>obtain⟨a,c,rfl,_⟩:=h;rfl
 |scr ts=>obtain⟨a,rfl,_⟩:=h;rfl
 |obj _ _=>obtain⟨a,_,_,_,_,rfl,_⟩:=h;rfl
 |own _=>obtain⟨a,rfl,_⟩:=h;rfl
 |h_ _ _=>obtain⟨a,xs,rfl,_⟩:=h;rfl
def rIs:R2:=λx y H Q=>(y=.non/\Q (.bl<|decide<|x=.non) H)\/∃a b,x=.bl a/\y=.bl b/\Q (.bl<|a == b) H
def ė:R2:=λx y H Q=>(y=.non/\Q (.bl<|!decide (x=.non)) H)\/∃a b,x=.bl a/\y=.bl b/\Q (.bl<|a != b) H
def Ar{p:Bool}(h:VU p tx ty=U t):(ty=.non/\t=.bl (p == Fp tx))\/∃a b,tx=.bl a/\ty=.bl b/\t=.bl (p == (a == b)):=by
 cases ty<;>try(cases h;done)
 .cases h;exact .inl ⟨J,J⟩
 .cases tx<;>try(cases h;done)
  cases h;exact .inr ⟨_,_,J,J,J⟩
def Ę:qK X (VU O) rIs:=λB e al HF H x y t tx ty Q sm d c h k=>by
 rcases Ar h with⟨rfl,rfl⟩|⟨a,b,rfl,rfl,rfl⟩
 .exact .inl ⟨c,by rw[F0 d];exact k _ HF H (.refl sm)<|by cases Fp tx<;>rfl⟩
 .exact .inr ⟨a,b,d,c,k _ HF H (.refl sm)<|by cases(a == b)<;>rfl⟩
def Wf:qK X (VU Zi) ė:=λB e al HF H x y t tx ty Q sm d c h k=>by
 rcases Ar h with⟨rfl,rfl⟩|⟨a,b,rfl,rfl,rfl⟩
 .exact .inl ⟨c,by rw[F0 d];exact k _ HF H (.refl sm)<|by cases Fp tx<;>rfl⟩
 .exact .inr ⟨a,b,d,c,k _ HF H (.refl sm)<|by show V.bl (a != b)=V.bl (Zi == (a == b));cases a<;>cases b<;>rfl⟩
def vO(K:bh)(neg:Bool):R2:=λx y H Q=>(∃i j,x=.str i/\y=.str j/\Q (.bl<|if neg then(!(!(dA j i 0 j.length 1).isEmpty))else(!(dA j i 0 j.length 1).isEmpty)) H)\/Zs K neg x y H Q
def F3:gE X (en .In)<|vO X.K Zi:=Cc.or rq
def As:gE X (en .NotIn)<|vO X.K O:=sY.or tF
def Kw(h:Dp tx ty=U k):(∃x l,tx=.str x/\ty=.str l/\k=ĉ x l)\/((∃ys,(ty=.tup ys\/ty=.lst ys)/\(cy tx=O/\ys.all cy=O)/\k=ys.any λy=>eqT y tx)):=by
 cases ty<;>try(cases h;done)
 .cases tx<;>try(cases h;done)
  cases h;exact .inl ⟨_,_,J,J,J⟩
 .obtain⟨c,rfl⟩:=bC h
  exact .inr ⟨_,.inl J,c,J⟩
 .obtain⟨c,rfl⟩:=bC h
  exact .inr ⟨_,.inr J,c,J⟩
def Au(x l:B1):(!(dA (⟨l.toArray⟩:Str) ⟨x.toArray⟩ 0 (⟨l.toArray⟩:Str).length 1).isEmpty)=(gQ<|l.length+1).any λi=>decide (i+x.length<=l.length)&&((l.drop i).take x.length == x):=by
 rw[zm,StrLaws.found_iff,DV];constructor
 .rintro⟨i,b,a⟩
  rw[kA,eo]at a;rw[eo,eo]at b;exact⟨i,uT.mpr<|by lia,by rw[cw b,zq];exact a⟩
 .rintro⟨i,_,h⟩
  rw[bZ,decide_eq_true_iff]at h;exact⟨i,by rw[eo,eo];exact h.1,by rw[kA,eo];exact h.2⟩
def Kz(x l:B1):(!(dA (⟨l.toArray⟩:Str) ⟨x.toArray⟩ 0 (⟨l.toArray⟩:Str).length 1).isEmpty)=ĉ x l:=by
 match x with
 |[]=>exact Au ..
 |[c]=>exact StrLaws.found_one ..
 |_::_::_=>exact Au ..
def F4(m:B.K=X.K){x y:V}(sm:aL HF H)(e:Rep B al HF tx x)(d:Rep B al HF ty y)(h:Dp tx ty=U k)(q:Q (.bl<|if neg then !k else k) H):vO X.K neg x y H Q:=by
 rcases Kw h with⟨x,l,rfl,rfl,rfl⟩|⟨ys,j,⟨g,f⟩,rfl⟩
 .obtain⟨rfl,_⟩:=e
  obtain⟨rfl,_⟩:=d;refine .inl ⟨_,_,J,J,?_⟩;rw[Kz];exact q
 .right
  have c:∀a b,y=.ref a->(dW X.K H a b\/mh X.K H a b)->aD B al HF ys b->Zs X.K neg x y H Q:=λa b n i r=>by
   refine⟨a,b,n,i,eE e g,vN r f,?_⟩;unfold Up;rw[any_eq e g r f];exact q
  rcases j with rfl|rfl
  .obtain⟨a,b,rfl,q1,r⟩:=d
   exact c a b J (.inr<|m▸cQ sm q1) r
  .obtain⟨a,b,rfl,q1,r⟩:=d
   exact c a b J (.inl<|dW.of<|sm _ _ q1) r
def ę:qK X inD<|vO X.K Zi:=λB c al HF H x y t tx ty Q sm b a h k=>by
 unfold inD at h;cases e:Dp tx ty with
 |none=>rw[e]at h;cases h
 |some d=>rw[e]at h;cases h;exact F4 c sm b a e<|k _ HF H (.refl sm) J
def Wg:qK X QD<|vO X.K O:=λB c al HF H x y t tx ty Q sm b a h k=>by
 unfold QD at h;cases e:Dp tx ty with
 |none=>rw[e]at h;cases h
 |some d=>rw[e]at h;cases h;exact F4 c sm b a e<|k _ HF H (.refl sm) J
def QV(X:Cx)(neg:Bool):R2:=λx y H Q=>∃B al HF t u,B.K=X.K/\aL HF H/\Rep B al HF t x/\Rep B al HF u y/\shape 5 t u=O/\Q (.bl<|if neg then !eqT t u else eqT t u) H
def Ě:qK X ZD<|QV X Zi:=λB d al HF H x y t tx ty Q sm b a h k=>by
 obtain⟨c,rfl⟩:=bC h;exact⟨B,al,HF,tx,ty,d,sm,b,a,c,k _ HF H (.refl sm) J⟩
def ě:qK X Ĉ<|QV X O:=λB d al HF H x y t tx ty Q sm b a h k=>by
 obtain⟨c,rfl⟩:=bC h;exact⟨B,al,HF,tx,ty,d,sm,b,a,c,k _ HF H (.refl sm) J⟩
def Av(f:Int->Int->Bool):qK X (Fo f)<|Di λi j=>.bl<|f i j:=V7 (G:=λi j=>.bl<|f i j) (λtx ty t h=>by
 cases tx<;>first | (cases h;done) | (cases ty<;>first | (cases h;done) | (cases h;exact⟨_,_,J,J,J⟩))) λ_ _ _ _ _=>J
def KA:lp->T->T->FK
 |.Eq=>ZD
 |.NotEq=>Ĉ
 |.Lt=>Fo λi j=>decide<|i<j
 |.LtE=>Fo λi j=>decide<|i<=j
 |.Gt=>Fo λi j=>decide<|j<i
 |.GtE=>Fo λi j=>decide<|j<=i
 |.Is=>VU O
 |.IsNot=>VU Zi
 |.In=>inD
 |.NotIn=>QD
def QW(b:bj k X.A):∃r,gE X (en op) r/\qK X (KA op) r:=by
 have a:X.A.units+6<mI:=by have:=b.units;lia
 cases op
 case Eq=>exact⟨_,ym a,Ě⟩
 case NotEq=>exact⟨_,QU a,ě⟩
 case Lt=>exact⟨_,U8,Av _⟩
 case LtE=>exact⟨_,U9,Av _⟩
 case Gt=>exact⟨_,U_,Av _⟩
 case GtE=>exact⟨_,Va,Av _⟩
 case Is=>exact⟨_,P6.or FZ,Ę⟩
 case IsNot=>exact⟨_,JT.or vz,Wf⟩
 case In=>exact⟨_,F3,ę⟩
 case NotIn=>exact⟨_,As,Wg⟩
def aY(a:FE):FT:=λs=>(a s).bind λp=>(cH<|QJ p.1).bind λb=>.ok (b,p.2)
def F7(h:tT B (aY f) W H Q):tE B f W H λx H'=>∃k,x=.bl k/\Q k H':=by
 obtain⟨g,s,t,s',x,h,k⟩:=h;obtain⟨⟨d,b⟩,j,h⟩:=ae h;obtain⟨l,i,h⟩:=ae h;cases nN (aq i);cases h;exact⟨g,s,_,b,x,j,λv F H1 e a c=>⟨_,c,k F H1 e a⟩⟩
def jC:T->T->FK
 |.h_ _ _,_=>Y
 |x,y=>ZE x y
def F8(h:jC tx ty=U t):∃i,ty=.int i/\((∃xs,(tx=.lst xs\/tx=.tup xs)/\atT xs i=U t)\/(∃l c,tx=.str l/\atT l i=U c/\t=.str [c])\/∃ns n,tx=.scr ns/\atT ns i=U n/\t=.int n):=by
 cases tx<;>first|(cases h;done)|(cases ty<;>try(cases h;done))
 .rename_i l i
  have h:(atT l i).map (λc=>T.str [c])=U t:=h;cases e:atT l i with
  |none=>rw[e]at h;cases h
  |some c=>rw[e]at h;cases h;exact⟨i,J,.inr<|.inl ⟨l,c,J,e,J⟩⟩
 .exact⟨_,J,.inl ⟨_,.inr J,h⟩⟩
 .exact⟨_,J,.inl ⟨_,.inl J,h⟩⟩
 .rename_i l i
  have h:(atT l i).map T.int=U t:=h;cases e:atT l i with
  |none=>rw[e]at h;cases h
  |some c=>rw[e]at h;cases h;exact⟨i,J,.inr<|.inr ⟨l,c,J,e,J⟩⟩
def QX{α a:Type}(f:α->a){l:List α}{c:α}(h:atT l i=U c):EK (l.map f) i=U (f c):=by
 rw[yn]at h;unfold EK at h ⊢;rw[cU];cases e:Ju l.length i with
 |none=>rw[e]at h;cases h
 |some j=>
  rw[e]at h;show(DQ f _)[j]?=_;rw[f6,show _[j]?=U c from h];rfl
def Ĝ:qK X jC<|rIx X.K:=λB j al HF H x y t tx ty Q sm b a h k=>by
 obtain⟨i,rfl,⟨xs,g|g,e⟩|⟨l,c,rfl,e,rfl⟩|⟨ns,n,rfl,e,rfl⟩⟩:=F8 h
 .subst g
  obtain⟨p,d,rfl,q,r⟩:=b;obtain⟨v,e,f⟩:=nO r e;exact .inl ⟨p,d,_,v,J,a,dW.of<|sm _ _ q,e,k v HF H (.refl sm) f⟩
 .subst g
  obtain⟨p,d,rfl,q,r⟩:=b;obtain⟨v,e,f⟩:=nO r e;exact .inr<|.inl ⟨p,d,_,v,J,a,j▸cQ sm q,e,k v HF H (.refl sm) f⟩
 .obtain⟨rfl,m⟩:=b
  refine .inr<|.inr ⟨_,_,c,J,a,Ē m,?_,k _ HF H (.refl sm) ⟨J,by simp⟩⟩
  rw[<- yn];exact e
 .obtain⟨p,rfl,q⟩:=b
  exact .inl ⟨p,_,_,.int n,J,a,j▸sm.seq q,QX V.int e,k _ HF H (.refl sm) J⟩
def ĝ(f:B.K=X.K)(e:PE X a<|tE B Z)(d:PE X b<|tE B fb)(c:jt b):PE X (.Subscript a b pos)<|tE B<|bH jC Z fb:=aT (EL Qd e d c)<|jb f Ĝ
end D
namespace L2
open PySem PySem.Spec PyProof.Rows
theorem rK:∀(ls:Bi)(t:Nat),Vals (ls.map V.str)<|strsFrom t ls
 |[],_=>.nil
 |x::ls,t=>.cons ⟨_,J⟩<|rK ls<|t+1
def F9:x9 X "str.split" λx vs H Q=>∃a b,x=.str a/\vs=[.str b]/\(b.length == 0)=Zi/\a.length<=de/\(Txt.split a b).length<=de/\∀l,H l=Y->Q (.ref l) (upd H l<|.lst<|(Txt.split a b).map V.str):=by
 intro n s k H x vs v m Q I g i h;obtain⟨a,b,rfl,rfl,f,j,c,q⟩:=h;obtain⟨t,rfl⟩:=g;obtain⟨u,rfl,⟨t',rfl⟩⟩:=i.one;unfold Txt.split at c q;by_cases c1:(decide (a.length<b.length) ||decide (hG a<hG b))=O
 .rw[cv c1]at c q
  refine y4 F.slot_str_split (ox s a t) F.entry_str_split (F.args_str_split_2 _ _) (meets_str_split_cannot_occur a b t t' c1) ?_;exact⟨.ref s.z,_,I.ET (t':=s.toks) (ys:=[V.str a]) (.cons ⟨_,J⟩ .nil) c,J,q _ I.fresh⟩
 .rw[cb c1]at c q
  have d:(decide (a.length<b.length) ||decide (hG a<hG b))=Zi:=by
   rcases MS (decide (a.length<b.length) ||decide (hG a<hG b))with z|z
   .exact dy z c1
   .exact z
  by_cases c2:(dA a b 0 a.length<|a.length+1).isEmpty=O
  .rw[cv c2]at c q
   refine y4 F.slot_str_split (ox s a t) F.entry_str_split (F.args_str_split_2 _ _) (meets_str_split_not_found a b t t' d f c2) ?_;exact⟨.ref s.z,_,I.ET (t':=s.toks) (ys:=[V.str a]) (.cons ⟨_,J⟩ .nil) c,J,q _ I.fresh⟩
  .rw[cb c2]at c q
   have e:(dA a b 0 a.length<|a.length+1).isEmpty=Zi:=by
    rcases MS (dA a b 0 a.length<|a.length+1).isEmpty with z|z
    .exact dy z c2
    .exact z
   refine y4 F.slot_str_split (ox s a t) F.entry_str_split (F.args_str_split_2 _ _) (meets_str_split_sep a b t t' d f e j c) ?_;exact⟨.ref s.z,_,I.ET (rK _ _)<|by rw[cU];exact c,J,q _ I.fresh⟩
def F_:x9 X "str.find" λx vs H Q=>∃a b,x=.str a/\vs=[.str b]/\Q (.int<|oP a b) H:=by
 intro i s e H x vs v f Q I c d h;obtain⟨a,b,rfl,rfl,q⟩:=h;obtain⟨t,rfl⟩:=c;obtain⟨u,rfl,⟨g,rfl⟩⟩:=d.one;exact SC.find ⟨.int _,H,I.tok _,⟨_,J⟩,q⟩
end L2
namespace D
open PySem L2
variable{X:Cx}{a b c e o tg:cC}{fa j z fo:FE}{g g':G}{H H':Hp}{B:KT}{ck R p pos:Pos}{s s':S}{σ:St}{x y:Str}
def Ga(lo a:D2)(n:Nat):gg lo a 1 n=gg (U ((D.gu n 0 lo:Nat):Int)) (U ((D.gu n n a:Nat):Int)) 1 n:=by
 have c:∀v:Int,max 0 (min (if v<0 then v+(n:Int)else v) (n:Int))=((if v<0 then(v+(n:Int)).toNat else min v.toNat n:Nat):Int):=λv=>by
  by_cases hv:v<0
  .rw[cv hv,cv hv];lia
  .rw[cb hv,cb hv];lia
 have d:∀m:Nat,m<=n->max 0 (min (if((m:Nat):Int)<0 then((m:Nat):Int)+(n:Int)else((m:Nat):Int)) (n:Int))=((m:Nat):Int):=λm b=>by
  rw[cb<|by lia];lia
 have l1:D.gu n 0 lo<=n:=by
  cases lo with
  |none=>exact iU _
  |some v=>show(if v<0 then(v+(n:Int)).toNat else min v.toNat n)<=n;split<;>lia
 have l2:D.gu n n a<=n:=by
  cases a with
  |none=>exact eA _
  |some v=>show(if v<0 then(v+(n:Int)).toNat else min v.toNat n)<=n;split<;>lia
 unfold gg;simp only[show((1:Int) > 0)from by decide,E6]
 rw[d _ l1,d _ l2]
 congr 1
 .cases lo with
  |none=>rfl
  |some v=>exact c v
 .cases a with
  |none=>rfl
  |some v=>exact c v
def Gb(n d:Nat)(hd:d<=n)(o:D2):D.gu n d o<=n:=by
 cases o with
 |none=>exact hd
 |some v=>show(if v<0 then(v+(n:Int)).toNat else min v.toNat n)<=n;split<;>lia
def cut_str(l:B1)(lo a:D2):xa ⟨l.toArray⟩ lo a=⟨(bf l lo a).toArray⟩:=by
 have h:xa ⟨l.toArray⟩ lo a=kq ⟨l.toArray⟩ lo a:=J;have g:kq ⟨l.toArray⟩ lo a=kq ⟨l.toArray⟩ (U ((D.gu l.length 0 lo:Nat):Int)) (U ((D.gu l.length l.length a:Nat):Int)):=by
  unfold kq;rw[eo,Ga]
 rw[h,g];have b:=Gb l.length l.length (eA _) a;by_cases hab:D.gu l.length 0 lo<=D.gu l.length l.length a
 .rw[StrLaws.sliceText_nat _ hab<|by rw[eo];exact b]
  rfl
 .have c:=Gb l.length 0 (iU _) lo
  have f:bf l lo a=[]:=by
   unfold bf;rw[show D.gu l.length l.length a-D.gu l.length 0 lo=0 by lia,List.take_zero]
  rw[f];have e:gg (U ((D.gu l.length 0 lo:Nat):Int)) (U ((D.gu l.length l.length a:Nat):Int)) 1 l.length=[]:=by
   have d:∀m:Nat,m<=l.length->max 0 (min (if((m:Nat):Int)<0 then((m:Nat):Int)+(l.length:Int)else((m:Nat):Int)) (l.length:Int))=((m:Nat):Int):=λm i=>by
    rw[cb<|by lia];lia
   unfold gg;simp only[show((1:Int) > 0)from by decide,E6]
   rw[d _ c,d _ b];simp only[sliceRange];rw[cv<|by decide,cb<|by lia]
   rfl
  unfold kq;rw[eo,e];rw[cb<|by simp;lia]
  rfl
def Gd(l:List α)(lo a:D2):(bf l lo a).length<=l.length:=by
 unfold bf;rw[uU,BU]
 lia
def Aw(xs:List V)(lo a:D2):tm xs lo a=bf xs lo a:=by
 have e:∀(n d:Nat)(o:D2),HT.gu n d o=D.gu n d o:=λn d o=>by cases o<;>rfl
 unfold tm bf;rw[e,e]
def aD.cut(r:aD B al H ts vs)(lo a:D2):aD B al H (bf ts lo a)<|bf vs lo a:=by
 unfold bf;rw[r.len];exact(r.drop _).take _
def KC{α b:Type}(f:α->b)(l:List α)(lo a:D2):(bf l lo a).map f=bf (l.map f) lo a:=by
 unfold bf;rw[cU,M1,List.map_drop]
theorem vP:∀{ts:FC}{vs:List V}{ls:Ap},aD B al H ts vs->strsOf ts=U ls->vs=(ls.map λl=>(⟨l.toArray⟩:Str)).map V.str
 |[],_,_,h,e=>by cases(show _=[]from h);cases e;rfl
 |t::ts,_,ls,h,e=>by
  obtain⟨v,r,rfl,c,b⟩:=h;cases t<;>try(cases e;done)
  rename_i l;have e:(strsOf ts).map (l::·)=U ls:=e
  cases a:strsOf ts with
  |none=>rw[a]at e;cases e
  |some ms=>
   rw[a]at e;cases e;obtain⟨rfl,_⟩:=c;rw[vP b a];rfl
theorem join_eq(a:B1):∀ls:Ap,Str.join ⟨a.toArray⟩ (ls.map λl=>(⟨l.toArray⟩:Str))=⟨(gc a ls).toArray⟩
 |[]=>J
 |[c]=>J
 |c::d::r=>by
  have b:=join_eq a<|d::r;show(⟨c.toArray⟩:Str)++⟨a.toArray⟩++Str.join ⟨a.toArray⟩ ((d::r).map λl=>(⟨l.toArray⟩:Str))=⟨(c++a++gc a (d::r)).toArray⟩;rw[b,QT,QT]
theorem rL(a:B1):∀ls:Ap,(gc a ls).length<=(ls.map (·.length)).sum+ls.length*a.length
 |[]=>by simp[gc]
 |[c]=>by simp[gc]
 |c::d::r=>by
  have b:=rL a<|d::r;show(c++a++gc a (d::r)).length<=_;rw[cA,cA,fV,List.sum_cons,eu,Nat.succ_mul]
  lia
def Ge(ls:Ap):((ls.map λl=>(⟨l.toArray⟩:Str)).map (·.length))=ls.map (·.length):=by
 rw[qC];apply M3;intro l _;exact eo l
def QY(l s:B1):oC ⟨l.toArray⟩ ⟨s.toArray⟩=pre s l:=by
 unfold oC pre;rw[kA];show(decide (0+(⟨s.toArray⟩:Str).length<=l.toArray.size)&&((l.drop 0).take (⟨s.toArray⟩:Str).length == s))=_;rw[eo,cM,ow,BW]
def QZ(l s:B1):sb ⟨l.toArray⟩ ⟨s.toArray⟩=uN s l:=by
 unfold sb uN;rw[kA,eo,eo];show(decide (0+s.length<=l.length)&&((l.drop<|l.length-s.length).take s.length == s))=_;rw[ow];by_cases h:s.length<=l.length
 .rw[cw h,zq,zq]
  rw[M4<|by rw[BU];lia]
 .rw[ar h,DK,DK]
theorem lJ:∀{ts:FC}{vs:List V}{ks:Fh},aD B al H ts vs->boolsOf ts=U ks->vs=ks.map V.bl
 |[],_,_,h,e=>by cases(show _=[]from h);cases e;rfl
 |t::ts,_,b,h,e=>by
  obtain⟨v,r,rfl,d,c⟩:=h;cases t<;>try(cases e;done)
  rename_i l;have e:(boolsOf ts).map (l::·)=U b:=e
  cases a:boolsOf ts with
  |none=>rw[a]at e;cases e
  |some ms=>
   rw[a]at e;cases e;cases(show v=.bl l from d);rw[lJ c a];rfl
def vQ(a T:String):Option Bool:=if(n3 a == n3 T)=O then U O else if PySem.W.kitMeta T=O then(fastBuiltinMro a).map (·.contains<|n3 T)else Y
def lK(K:bh){a T:String}{b:Bool}(h:vQ a T=U b):oh K (.type a) (.type T)=U b:=h
structure yo(T:String):Prop where
 non:vQ "NoneType" T=U Zi
 bl:vQ "bool" T=U (T == "bool" ||T == "int")
 int:vQ "int" T=U (T == "int")
 str:vQ "str" T=U (T == "str")
 tup:vQ "tuple" T=U (T == "tuple")
 lst:vQ "list" T=U (T == "list")
 dic:vQ "dict" T=U (T == "dict")
def Q0:yo "str" := by constructor<;>decide +kernel
def aF(c:Nat):B1->Ap
 |[]=>[[]]
 |d::l=>if d=c then[]::aF c l else match aF c l with
  |p::r=>(d::p)::r
  |[]=>[[d]]
theorem dY{c:Nat}:∀{p:B1},c∉p->aF c p=[p]
 |[],_=>J
 |d::p,h=>by
  have hd:d≠c:=λe=>h (by rw[e];exact eX ..)
  have a:c∉p:=λe=>h<|bw _ e;unfold aF;rw[cb hd,dY a]
theorem pC{c:Nat}(l:B1):∀{p:B1},c∉p->aF c (p++[c]++l)=p::aF c l
 |[],_=>by
  show aF c (c::l)=_;rw[aF,cv J]
 |d::p,h=>by
  have hd:d≠c:=λe=>h (by rw[e];exact eX ..)
  have a:c∉p:=λe=>h<|bw _ e;show aF c (d::(p++[c]++l))=_;rw[aF,cb hd,pC l a]
theorem mJ{c:Nat}:∀{ls:Ap},ls≠[]->(∀p∈ls,c∉p)->aF c (gc [c] ls)=ls
 |[],h,_=>dy J h
 |[p],_,h=>dY<|h p<|eX ..
 |p::q::r,_,h=>by
  show aF c (p++[c]++gc [c] (q::r))=_;rw[pC _<|h p<|eX ..,mJ (by simp) λx a=>h x<|bw _ a]
def split_len(x y:Str):(Txt.split x y).length<=x.length+2:=by
 unfold Txt.split;split
 .simp
 .split
  .simp
  .rw[length_partsBetween]
   have:=StrLaws.occ_length_le x y 0 x.length<|x.length+1
   exact Nat.add_le_add_right this _
def pD(x y:Str):Txt.split x y≠[]:=by
 unfold Txt.split;split
 .simp
 .split
  .simp
  .intro e
   have:=length_partsBetween x (dA x y 0 x.length<|x.length+1) y.length
   rw[e]at this;simp at this
def Gg(a:B1)(c:Nat):Txt.split ⟨a.toArray⟩ ⟨#[c]⟩=(aF c a).map λl=>(⟨l.toArray⟩:Str):=by
 obtain⟨L,f⟩:∃L:Ap,L=(Txt.split ⟨a.toArray⟩ ⟨#[c]⟩).map λp=>p.cps.toList:=⟨_,J⟩;have g:Txt.split ⟨a.toArray⟩ ⟨#[c]⟩=L.map λl=>(⟨l.toArray⟩:Str):=by
  rw[f,qC]
  conv=>lhs;rw[<- List.map_id<|Txt.split ⟨a.toArray⟩ ⟨#[c]⟩]
  apply M3;intro p _;show p=(⟨p.cps.toList.toArray⟩:Str);rw[Array.toArray_toList]
 have i:L≠[]:=by
  rw[f];intro e;exact pD _ _<|DW.mp e
 have h:∀p∈L,c∉p:=by
  rw[f];intro p k;obtain⟨q,j,rfl⟩:=lr.mp k;exact StrLaws.split_free _ c q j
 have b:=StrLaws.join_split ⟨a.toArray⟩ ⟨#[c]⟩;rw[g,show(⟨#[c]⟩:Str)=⟨([c]:B1).toArray⟩from J,join_eq]at b;have d:gc [c] L=a:=by
  injection b with b
  simpa using b
 rw[g,<- d,mJ i h]
theorem rM:∀{ls:Ap},(∀l∈ls,l.length<=1000000)->aD B al H (ls.map T.str) (ls.map λl=>SV l)
 |[],_=>J
 |l::ls,h=>⟨_,_,J,⟨J,h l<|eX ..⟩,rM λx a=>h x<|bw _ a⟩
theorem kM(c:Nat):∀(a:B1),∀l∈aF c a,l.length<=a.length
 |[],l,h=>by
  rw[gA.mp h];simp
 |d::a,l,h=>by
  have f:=kM c a;rw[aF]at h;split at h
  .rcases bF.mp h with e|e
   .rw[e];simp
   .have:=f l e;simp;exact eY this<|fJ ..
  .split at h
   .rename_i p r b
    rcases bF.mp h with e|e
    .have:=f p (by rw[b];exact eX ..)
     rw[e];simp;exact this
    .have:=f l (by rw[b];exact bw _ e)
     simp;exact eY this<|fJ ..
   .rw[gA.mp h];simp
def Wh:PO X Y<|tP B nJ:=N1 zW λσ H Q z=>by
 obtain⟨g,s,t,s',x,h,k⟩:=z;cases h;exact k g H .refl x
def Ax(h:QK t=U i):t=.int i:=by
 cases t<;>first|(cases h;done)|(cases h;rfl)
def Wi(j:PE X a<|tE B fa):PO X (U a)<|tP B<|jv fa:=N1 (zX j) λσ H Q z=>by
 obtain⟨g,s,t,s',x,h,k⟩:=z;obtain⟨⟨d,c⟩,m,h⟩:=ae h;obtain⟨i,l,h⟩:=ae h;cases Ax (aq l);cases h;exact⟨g,s,_,c,x,m,λv n H1 f b e=>⟨_,e,k n H1 f b⟩⟩
def Ğ(K:bh):V->D2->D2->Hp->VK->Prop:=λx lo a H Q=>(∃z,x=.str z/\z.length<=de/\Q (.str<|xa z lo a) H)\/Vm K x lo a H Q
def ğ:NJ X<|Ğ X.K:=Ql.or zZ
def Ġ(E:B.K=X.K)(D:PE X a<|tE B fa)(hl:PO X ĕ<|tP B ē)(C:PO X Ė<|tP B Ĕ):PE X (.Subscript a (.Slice ĕ Ė Y Z) pos)<|tE B<|jQ fa ē Ĕ:=by
 refine aT (vq ğ D hl C) λσ H Q u=>?_;obtain⟨g,s,t,s',x,h,k⟩:=u;obtain⟨⟨tx,m⟩,I,h⟩:=ae h;obtain⟨⟨lo,s2⟩,G,h⟩:=ae h;obtain⟨⟨p,s3⟩,F,h⟩:=ae h;obtain⟨R,c,h⟩:=ae h;cases h;have c:QH lo p tx=U _:=aq c;refine⟨g,s,_,m,x,I,λv N H1 A y z=>⟨N,m,_,s2,y,G,λM S Z w=>⟨M,s2,_,_,w,F,λL P f b=>?_⟩⟩⟩;have d:=(z.mv Z.pre Z.fr).mv f.pre f.fr;have e:=(A.trans Z).trans f;cases tx<;>try(cases c;done)
 .cases c
  obtain⟨rfl,n⟩:=d;refine .inl ⟨_,J,Ē n,?_⟩;rw[cut_str];exact k _ L P e b ⟨J,eY (Gd _ _ _) n⟩
 .cases c
  obtain⟨a,j,rfl,q,r⟩:=d;refine .inr ⟨a,j,J,dW.of<|b.sub _ _ q,λl hl=>?_⟩;rw[Aw];have i:=Gr.new (o:=.lst<|bf j lo p) b.sub hl;exact k _ _ _ (e.trans<|b.lI i) (b.grow i) ⟨l,_,J,ak,(r.cut _ _).same i.fr⟩
 .cases c
  obtain⟨a,rfl,q⟩:=d;refine .inr ⟨a,_,J,E▸b.sub.seq q,λl hl=>?_⟩;rw[Aw,<- KC];exact k _ _ _ (e.trans<|b.lI<|Gr.new b.sub hl) (b.grow<|Gr.new b.sub hl) ⟨l,_,J,ak,aD.ints _⟩
def noStar:cC->Bool
 |.Starred _ _=>Zi
 |_=>O
def aB(h:noStar e=O):dn (e::es) env=(Zi,fC e env)::dn es env:=by
 cases e<;>first|rfl|(cases h)
theorem cT:∀{es:Bz},es.all noStar=O->(hQ pos<|dn es env).any (·.1)=Zi
 |[],_=>J
 |e::es,h=>by
  rw[ed,bZ]at h;rw[aB h.1];show(Zi ||(hQ pos<|dn es env).any (·.1))=Zi
  rw[cT h.2];rfl
theorem pF:∀{es:Bz},es.all noStar=O->(hQ pos<|dn es env).all (λx=>!x.1)=O
 |[],_=>J
 |e::es,h=>by
  rw[ed,bZ]at h;rw[aB h.1];show(O&&(hQ pos<|dn es env).all (λx=>!x.1))=O;rw[pF h.2];rfl
def nz(h:(e::es).all noStar=O)(hl:es.length<29):((hQ R<|dn (e::es) env).all (λx=>!x.1)&&(qr R<|mB [] env).all (λx=>x.1.isSome)
   && decide ((e::es).length+([]:List tJ).length+(if([]:List tJ).isEmpty then 0 else 1)<30))=O:=by
 rw[pF h,bZ];exact⟨J,cw<|show es.length+1+0+0<30 from B3 hl<|by decide⟩
def c5:cC->Bool
 |.Call (.Name _ _) [] [] _=>Zi
 |_=>O
def jx{a:Sem bp}(h:c5 o=O):kx o f env a=a:=by
 unfold kx;split
 .cases h
 .rfl
def LM(X:Cx)(f:B1->FC->FK)(r:V->List V->Hp->VK->Prop):Prop:=∀(B:KT)(_:B.K=X.K)(al:BM)(HF H:Hp)(l:B1)(xs:List V)(t:T)(ts:FC)(Q:VK),aL HF H->l.length<=1000000->aD B al HF ts xs->f l ts=U t->(∀v a H',Gr HF H a H'->Rep B al a t v->Q v H')->r (SV l) xs H Q
def KD:T->Option B1
 |.str l=>U l
 |_=>Y
def mK(f:B1->FC->FK)(o:FE)(fl:FL):FE:=λs=>(o s).bind λp=>(cH<|KD p.1).bind λl=>(fl p.2).bind λq=>(cH<|f l q.1).bind λt=>.ok (t,q.2)
def Gh(h:KD t=U l):t=.str l:=by
 cases t<;>first|(cases h;done)|(cases h;rfl)
def ġ(y:B.K=X.K)(w:LM X f r):∀σ H Q,tE B (mK f fo fl) σ H Q->tBM X.K "str" r (tE B fo) (tA B fl) σ H Q:=by
 rintro σ H Q ⟨g,s,t,s',x,h,k⟩
 obtain⟨⟨tx,c⟩,D,h⟩:=ae h;obtain⟨l,C,h⟩:=ae h;obtain⟨⟨ts,s2⟩,A,h⟩:=ae h;obtain⟨I,z,h⟩:=ae h;cases h;cases Gh (aq C);refine⟨g,s,_,c,x,D,λv F H1 p e n=>?_⟩;obtain⟨rfl,q⟩:=n;exact⟨J,F,c,_,_,e,A,λi b G o a m=>w B y b.al b.HF G l i _ ts Q a.sub q m (aq z) λu E H' d j=>k u (b.grow E) H' ((p.trans o).trans<|a.lI d) (a.grow d) j⟩
def Gi(l:B1):FC->FK
 |[.str s]=>U<|.bl<|pre s l
 |_=>Y
def Ģ(l:B1):FC->FK
 |[.str s]=>U<|.bl<|uN s l
 |_=>Y
def joinM(l:B1):FC->FK
 |[t]=>NW (.str l) t
 |_=>Y
def splitM(l:B1):FC->FK
 |[.str [c]]=>gd (l.length<=100000)<|.lst<|(aF c l).map .str
 |_=>Y
open PySem.Spec PyProof.Rows in
def jG(l:B1):FC->FK
 |[.str s]=>U<|.int<|oP ⟨l.toArray⟩ ⟨s.toArray⟩
 |[.str s,.int i]=>U<|.int<|n4 ⟨l.toArray⟩ ⟨s.toArray⟩ i
 |_=>Y
def cW(r:aD B al H [t] xs):∃v,xs=[v]/\Rep B al H t v:=by
 obtain⟨v,w,rfl,h,e⟩:=r;cases(show w=[]from e);exact⟨v,J,h⟩
def KG(r:aD B al H [t,u] xs):∃v w,xs=[v,w]/\Rep B al H t v/\Rep B al H u w:=by
 obtain⟨v,b,rfl,h,e⟩:=r;obtain⟨w,rfl,a⟩:=cW e;exact⟨v,w,J,h,a⟩
def ģ:LM X Gi λx vs H Q=>∃a b,x=.str a/\vs=[.str b]/\Q (.bl<|oC a b) H:=λB d al HF H l xs t ts Q sm c r h k=>by
 match ts,h with
 |[.str s],h=>
  cases h;obtain⟨v,rfl,rfl,_⟩:=cW r;refine⟨_,_,J,J,?_⟩;rw[QY];exact k _ HF H (.refl sm) J
def Ĥ:LM X Ģ λx vs H Q=>∃a b,x=.str a/\vs=[.str b]/\Q (.bl<|sb a b) H:=λB d al HF H l xs t ts Q sm c r h k=>by
 match ts,h with
 |[.str s],h=>
  cases h;obtain⟨v,rfl,rfl,_⟩:=cW r;refine⟨_,_,J,J,?_⟩;rw[QZ];exact k _ HF H (.refl sm) J
def Q2:LM X joinM λx vs H Q=>∃b l ys,x=.str b/\vs=[.ref l]/\dW X.K H l (ys.map V.str)/\(ys.map (·.length)).sum+ys.length*b.length<=16777216/\Q (.str<|Str.join b ys) H:=λB j al HF H l xs t ts Q sm i r h k=>by
 match ts,h with
 |[u],h=>
  obtain⟨v,rfl,d⟩:=cW r;have h:NW (.str l) u=U t:=h;cases u with
  |lst c=>
   have h:(strsOf c).bind (λys=>gd ((ys.map (·.length)).sum+ys.length*l.length<=1000000)<|T.str<|gc l ys)=U t:=h
   revert h;refine Nw λg f=>λh=>?_;obtain⟨z,rfl⟩:=bC h;obtain⟨a,vs,rfl,q,r⟩:=d;have e:=vP r f;subst e;refine⟨_,a,_,J,J,dW.of<|sm _ _ q,?_,?_⟩
   .rw[Ge,cU,eo];exact eY z (by decide)
   .rw[join_eq]
    exact k _ HF H (.refl sm) ⟨J,eY (rL _ _) z⟩
  |_=>cases h
def m_find:LM X jG λx vs H Q=>(∃a b,x=.str a/\vs=[.str b]/\Q (.int<|oP a b) H)\/∃a b i,x=.str a/\vs=[.str b,.int i]/\Q (.int<|n4 a b i) H:=λB d al HF H l xs t ts Q sm c r h k=>by
 match ts,h with
 |[.str s],h=>
  cases h;obtain⟨v,rfl,rfl,_⟩:=cW r;exact .inl ⟨_,_,J,J,k _ HF H (.refl sm) J⟩
 |[.str s,.int i],h=>
  cases h;obtain⟨v,w,rfl,⟨rfl,_⟩,rfl⟩:=KG r;exact .inr ⟨_,_,_,J,J,k _ HF H (.refl sm) J⟩
def m_split:LM X splitM λx vs H Q=>∃a b,x=.str a/\vs=[.str b]/\(b.length == 0)=Zi/\a.length<=de/\(Txt.split a b).length<=de/\∀l,H l=Y->Q (.ref l) (upd H l<|.lst<|(Txt.split a b).map V.str):=λB j al HF H l xs t ts Q sm d r h k=>by
 match ts,h with
 |[.str [c]],h=>
  obtain⟨z,rfl⟩:=bC h;obtain⟨v,rfl,rfl,_⟩:=cW r;have i:=split_len ⟨l.toArray⟩ ⟨([c]:B1).toArray⟩;rw[eo]at i;refine⟨_,_,J,J,J,by rw[eo,ez];exact eY z<|by decide,by rw[ez];lia,λq f=>?_⟩
  have e:(Txt.split ⟨l.toArray⟩ ⟨([c]:B1).toArray⟩).map V.str=(aF c l).map λl=>SV l:=by
   rw[show(⟨([c]:B1).toArray⟩:Str)=⟨#[c]⟩from J,Gg,qC];rfl
  rw[e];refine k _ _ _ (Gr.new sm f) ⟨q,_,J,ak,rM λm g=>?_⟩
  have:=kM c l m g
  exact eY this d
 |[.str []],h=>cases h
 |[.str<|_::_::_],h=>cases h
def x9.or{id:String}(h:x9 X id r)(h':x9 X id d):x9 X id λx vs H Q=>r x vs H Q\/d x vs H Q:=λe s σ H x vs v a Q I b c q=>by
 rcases q with q|q
 .exact h e s σ H x vs v a Q I b c q
 .exact h' e s σ H x vs v a Q I b c q
structure SMt(X:Cx)(n:Str)(f:B1->FC->FK):Prop where
 ex:∃id r,Slot "str" n id/\sr (.builtin id)=pure (.type "method_descriptor")/\x9 X id r/\LM X f r
def Wj(M:SMt X n f)(i:B.K=X.K)(d:PE X o<|tE B fo)(h:PA X (e::es)<|tA B fl)(g:c5 o=O)(b:(e::es).all noStar=O)(hl:es.length<29)(c:(ck.endLine == R.line)=O) :
  PE X (.Call (.Attribute o n ck) (e::es) [] R)<|tE B<|mK f fo fl:=by
 obtain⟨id,r,m,l,k,j⟩:=M.ex;have a:=b;rw[ed,bZ]at a;exact aT (ES u7 m l k d h (jx g) (nz b hl) c (aB a.1)<|cT a.2)<|ġ i j
def yq:List<|Str×(B1->FC->FK):=[("startswith",Gi),("endswith",Ģ),("join",joinM),("split",splitM),("find",jG)]
def Q3:∀p∈yq,SMt X p.1 p.2:=by
 intro p h;simp only[yq,bF,mU,lb]at h;rcases h with rfl|rfl|rfl|rfl|rfl
 .exact⟨_,_,PySem.F.slot_str_startswith,PySem.F.type_str_startswith,qH,ģ⟩
 .exact⟨_,_,PySem.F.slot_str_endswith,PySem.F.type_str_endswith,vv,Ĥ⟩
 .exact⟨_,_,PySem.F.slot_str_join,PySem.F.type_str_join,J8,Q2⟩
 .exact⟨_,_,PySem.F.slot_str_split,PySem.F.type_str_split,F9,m_split⟩
 .exact⟨_,_,PySem.F.slot_str_find,PySem.F.type_str_find,x9.or F_ EY,m_find⟩
def cJ:FC->FK
 |[t]=>(match t with
  |.h_ _ _=>Y
  |t=>QG t)
 |_=>Y
def Wk:LN X cJ λxs H Q=>∃x n,xs=[x]/\Vc X.K x H n/\Q (.int n) H:=λB d al HF H xs t ts Q sm r h k=>by
 match ts,h with
 |[tx],h=>
  obtain⟨v,rfl,b⟩:=cW r;cases tx<;>try(cases h;done)
  .cases h
   obtain⟨rfl,e⟩:=b;exact⟨_,_,J,⟨Ē e,(eo _).symm⟩,k _ HF H (.refl sm) J⟩
  .cases h
   obtain⟨a,c,rfl,q,r⟩:=b;exact⟨_,_,J,.inr ⟨c,d▸cQ sm q,r.len⟩,k _ HF H (.refl sm) J⟩
  .cases h
   obtain⟨a,c,rfl,q,r⟩:=b;exact⟨_,_,J,.inl ⟨c,dW.of<|sm _ _ q,r.len⟩,k _ HF H (.refl sm) J⟩
  .cases h
   obtain⟨a,rfl,q⟩:=b;exact⟨_,_,J,.inl ⟨_,d▸sm.seq q,(cU _).symm⟩,k _ HF H (.refl sm) J⟩
def Cy:FC->FK
 |[t]=>VW t
 |_=>Y
def Wl:LN X Cy λxs H Q=>∃i,xs=[.int i]/\Q (.int<|if i<0 then -i else i) H:=λB b al HF H xs t ts Q sm r h k=>by
 match ts,h with
 |[tx],h=>
  obtain⟨v,rfl,a⟩:=cW r;have h:VW tx=U t:=h;cases tx<;>try(cases h;done)
  cases h;exact⟨_,by rw[show v=_ from a],k _ HF H (.refl sm) J⟩
def KI:FC->FK
 |[t]=>QI t
 |_=>Y
def yr:FC->FK
 |[t]=>Kl t
 |_=>Y
def Wm:LN X KI λxs H Q=>∃(p:cq)(ks:Fh),xs=[.ref p]/\dW X.K H p (ks.map V.bl)/\Q (.bl<|ks.all id) H:=λB g al HF H xs t ts Q sm r h k=>by
 match ts,h with
 |[tx],h=>
  obtain⟨v,rfl,c⟩:=cW r;have h:QI tx=U t:=h;cases tx with
  |lst b=>
   obtain⟨ks,d,h⟩:=d_.mp<|show(boolsOf b).map _=U t from h;obtain⟨a,f,rfl,q,r⟩:=c;have e:=lJ r d;subst e h;exact⟨a,ks,J,dW.of<|sm _ _ q,k _ HF H (.refl sm) J⟩
  |_=>cases h
def Wn:LN X yr λxs H Q=>∃(p:cq)(ks:Fh),xs=[.ref p]/\dW X.K H p (ks.map V.bl)/\Q (.bl<|ks.any id) H:=λB g al HF H xs t ts Q sm r h k=>by
 match ts,h with
 |[tx],h=>
  obtain⟨v,rfl,c⟩:=cW r;have h:Kl tx=U t:=h;cases tx with
  |lst b=>
   obtain⟨ks,d,h⟩:=d_.mp<|show(boolsOf b).map _=U t from h;obtain⟨a,f,rfl,q,r⟩:=c;have e:=lJ r d;subst e h;exact⟨a,ks,J,dW.of<|sm _ _ q,k _ HF H (.refl sm) J⟩
  |_=>cases h
def cV(i:Int):B1:=(toString i).toList.map Gf
def strN:FC->FK
 |[.int i]=>gd (i.natAbs.log2<1920/\(cV i).length<=1000000)<|.str<|cV i
 |_=>Y
def Wo:LN X strN λxs H Q=>∃i,xs=[.int i]/\i.natAbs.log2<1920/\Q (.str<|toString i) H:=λB d al HF H xs t ts Q sm r h k=>by
 match ts,h with
 |[.int i],h=>
  obtain⟨v,rfl,a⟩:=cW r;obtain⟨⟨c,b⟩,rfl⟩:=bC h;cases a;refine⟨i,J,c,k _ HF H (.refl sm) ⟨?_,b⟩⟩;show V.str (hJ<|toString i)=_;rw[Str.ofString_eq_toList];rfl
def qL:FC->FK
 |[.str l]=>(PySem.intText? ⟨l.toArray⟩).bind λn=>gd (l.length<=640)<|.int n
 |[.bl b]=>U<|.int<|if b then 1 else 0
 |_=>Y
abbrev Wq:List V->Hp->VK->Prop:=λxs H Q=>(∃y n,xs=[.str y]/\PySem.intText? y=U n/\y.length<=640/\Q (.int n) H)\/∃b,xs=[.bl b]/\Q (.int<|if b then 1 else 0) H
def Cz:fS X (.type "int") Wq:=by
 intro d s σ H xs c Q I r h;rcases h with⟨y,n,rfl,a,hl,q⟩|⟨b,rfl,q⟩
 .obtain⟨u,rfl,t,rfl⟩:=vals1 r
  exact PySem.W.KIN.call_text a hl ⟨.int n,H,I.tok _,⟨_,J⟩,q⟩
 .obtain⟨u,rfl,e⟩:=vals1 r
  cases(show u=o6 b from e);exact PySem.call_int_bool ⟨.int<|if b then 1 else 0,H,I.tok _,⟨_,J⟩,q⟩
def Wr:LN X qL Wq:=λB d al HF H xs t ts Q sm r h k=>by
 match ts,h with
 |[.str l],h=>
  obtain⟨v,rfl,a⟩:=cW r;revert h;refine Nw λn c=>λh=>?_;obtain⟨z,rfl⟩:=bC h;obtain⟨rfl,_⟩:=a;exact .inl ⟨_,n,J,c,by rw[eo];exact z,k _ HF H (.refl sm) J⟩
 |[.bl b],h=>
  obtain⟨v,rfl,a⟩:=cW r;cases h;cases a;exact .inr ⟨b,J,k _ HF H (.refl sm) J⟩
def N_:FC->FK
 |[t]=>NX t
 |_=>Y
def Q4:LN X N_ λxs H Q=>∃p ys,xs=[.ref p]/\(dW X.K H p ys\/mh X.K H p ys)/\∀l,H l=Y->Q (.ref l) (upd H l<|.lst ys):=λB c al HF H xs t ts Q sm r h k=>by
 match ts,h with
 |[tx],h=>
  obtain⟨v,rfl,b⟩:=cW r;have h:NX tx=U t:=h;cases tx<;>try(cases h;done)
  .cases h
   obtain⟨l,xs,rfl,q,r⟩:=b;exact⟨l,xs,J,.inr<|c▸cQ sm q,λp a=>k _ _ _ (Gr.new sm a) ⟨p,_,J,ak,r.same<|aS<|sm.free a⟩⟩
  .cases h
   obtain⟨l,xs,rfl,q,r⟩:=b;exact⟨l,xs,J,.inl<|dW.of<|sm _ _ q,λp a=>k _ _ _ (Gr.new sm a) ⟨p,_,J,ak,r.same<|aS<|sm.free a⟩⟩
structure ĥ(X:Cx)(n:Str)(f:FC->FK):Prop where
 ex:∃r,LN X f r/\((∃id,hX n=U (.builtin id)/\fS X (.builtin id) r)\/∃ty,hX n=U (.type ty)/\fS X (.type ty) r)
 nn:n ≠ "__name__"
 nd:aX n
def Ws(M:ĥ X x f)(i:B.K=X.K)(g:Gl X x)(d:X.mg x=Y)(h:PA X (e::es)<|tA B fl)(a:(e::es).all noStar=O):PE X (.Call (.Name x p) (e::es) [] pos)<|tE B<|aG f fl:=by
 obtain⟨⟨r,j,k⟩,nn,nd⟩:=M;rw[ed,bZ]at a;rcases k with⟨id,c,b⟩|⟨ty,c,b⟩
 .exact aT (f9 b g d c h nn nd (aB a.1)<|cT a.2)<|N3 i j
 .exact aT (rn b g d c h nn nd (aB a.1)<|cT a.2)<|N3 i j
def yt:List<|Str×(FC->FK):=[("len",cJ),("all",KI),("any",yr),("str",strN),("int",qL),("list",N_)]
def Q5(a:X.calm=O):∀p∈yt,ĥ X p.1 p.2:=by
 intro p h;simp only[yt,bF,mU,lb]at h;rcases h with rfl|rfl|rfl|rfl|rfl|rfl
 .exact⟨⟨_,Wk,.inl ⟨_,tv,vh⟩⟩,by decide,by decide⟩
 .exact⟨⟨_,Wm,.inl ⟨_,PyProof.Rows.boot_all,EZ a⟩⟩,by decide,by decide⟩
 .exact⟨⟨_,Wn,.inl ⟨_,PyProof.Rows.boot_any,E1 a⟩⟩,by decide,by decide⟩
 .exact⟨⟨_,Wo,.inr ⟨_,Ny,sZ⟩⟩,by decide,by decide⟩
 .exact⟨⟨_,Wr,.inr ⟨_,PyProof.Rows.boot_int,Cz⟩⟩,by decide,by decide⟩
 .exact⟨⟨_,Q4,.inr ⟨_,Nz,ko⟩⟩,by decide,by decide⟩
structure Pg where
 cn:Bi
 an:Bi
 tab:Ap
 sub:Ap
def Pg.fn(P:Pg):List Bi:=P.tab.map λl=>l.map λi=>P.an.getD i ij
structure Ux(K:bh)(mg:Str->D1)(n:Str)(ns:Bi)(C:cq):Prop where
 at_:om K eP n=U (U<|.ref C)
 gl:mg n=U (.ref C)
 nd:ns.Nodup
 nz:ns.length<=100
 cl:q_ K C
 na:∀f∈ns,cO K C f
 ca:fG K (.ref C) "__class__" = U (U<|.builtin Mz)
 mo:BO K C (.type "object")=U O
structure tQ(K:bh)(mg:Str->D1)(P:Pg):Prop where
 cls:∀(c:Nat)(n:Str)(ns:Bi),P.cn[c]?=U n->P.fn[c]?=U ns->∃C,Ux K mg n ns C
 sub:∀(c d:Nat)(n n':Str)(C D:cq)(l:B1),P.cn[c]?=U n->P.cn[d]?=U n'->mg n=U (.ref C)->mg n'=U (.ref D)->P.sub[c]?=U l->oh K (.ref C) (.ref D)=U (decide<|d∈l)
 gt:zg K (.builtin Mz) "__get__" = U (U<|.builtin "getset_descriptor.__get__")/\zh K (.builtin Mz)=U O
abbrev Pg.kt(P:Pg)(X:Cx):KT:=⟨X.K,X.prog,X.w,P.cn,P.fn⟩
variable{P:Pg}
def tQ.of(g:tQ X.K X.mg P){c:Nat}{C:cq}(h:ib (P.kt X) c C ns):∃n,P.cn[c]?=U n/\P.fn[c]?=U ns/\Ux X.K X.mg n ns C:=by
 obtain⟨n,b,a,f,d⟩:=h;obtain⟨e,F⟩:=g.cls c n ns b a
 have:C=e:=by
  have:=(show om X.K eP n=U (U<|.ref C)from d).symm.trans F.at_
  injection this with this
  injection this with this
  injection this
 subst this;exact⟨n,b,a,F⟩
theorem jW:∀{ns:Bi}{vs:List V}{j:Nat},ns.Nodup->ns[j]?=U f->(ns.zip vs).lookup f=vs[j]?
 |[],vs,j,_,h=>by simp at h
 |n::ns,[],j,_,_=>by simp
 |n::ns,v::vs,0,nd,h=>by
  simp at h;subst h;rw[sH,List.lookup_cons_self];rfl
 |n::ns,v::vs,j+1,nd,h=>by
  simp at h;have e:(f == n)=Zi:=beq_eq_false_iff_ne.mpr λz=>by subst z;exact(mT.mp nd).1<|gZ h
  rw[sH,jK,e];simpa using jW (mT.mp nd).2 h
theorem jc:∀{ns:Bi}{vs:List V},f∉ns->(ns.zip vs).lookup f=Y
 |[],vs,_=>by simp
 |n::ns,[],_=>by simp
 |n::ns,v::vs,h=>by
  have e:(f == n)=Zi:=beq_eq_false_iff_ne.mpr λz=>h (by rw[z];exact eX ..)
  rw[sH,jK,e];exact jc λz=>h<|bw _ z
theorem Ay:∀{ns:Bi}{vs:List V}{j:Nat},ns.Nodup->ns[j]?=U f->vs.length<=ns.length->j<vs.length->L2.eg f v (ns.zip vs)=ns.zip (vs.set j v)
 |[],vs,j,_,h,_,_=>by simp at h
 |n::ns,[],j,_,_,_,h=>by simp at h
 |n::ns,w::vs,0,nd,h,_,_=>by
  simp at h;subst h;show(if n=n then(n,v)::ns.zip vs else(n,w)::L2.eg n v (ns.zip vs))=_
  rw[cv J];rfl
 |n::ns,w::vs,j+1,nd,h,hl,a=>by
  simp at h hl a;show(if n=f then(n,v)::ns.zip vs else(n,w)::L2.eg f v (ns.zip vs))=_
  rw[cb λz=>(mT.mp nd).1<|by rw[z];exact gZ h,Ay (mT.mp nd).2 h hl a]
  rfl
theorem tR:∀{ns:Bi}{vs:List V},ns.Nodup->ns[vs.length]?=U f->L2.eg f v (ns.zip vs)=ns.zip (vs++[v])
 |[],vs,_,h=>by simp at h
 |n::ns,[],nd,h=>by
  simp at h;subst h;show L2.eg n v []=(n,v)::ns.zip [];simp[L2.eg]
 |n::ns,w::vs,nd,h=>by
  simp at h;show(if n=f then(n,v)::ns.zip vs else(n,w)::L2.eg f v (ns.zip vs))=_
  rw[cb λz=>(mT.mp nd).1<|by rw[z];exact gZ h,tR (mT.mp nd).2 h]
  rfl
def KJ{l:B1}{f j:Nat}(h:l.idxOf? f=U j):l[j]?=U f:=by
 rw[M5,M6]at h;obtain⟨a,b,_⟩:=h;rw[fQ a,eq_of_beq b]
def tU{c f j:Nat}(b:P.an[f]?=U n)(a:P.fn[c]?=U ns)(h:Fw P.tab c f=U j):ns[j]?=U n:=by
 unfold Fw at h;obtain⟨l,e,d⟩:=a_.mp h;unfold Pg.fn at a;rw[f6,e]at a;cases a;rw[f6,KJ d];show U (P.an.getD f ij)=_;rw[zy,b];rfl
def Oa(Kt:tQ X.K X.mg P)(G:P.an[f]?=U n)(he:PE X e<|tE (P.kt X) fa)(W:c5 e=O):PE X (.Attribute e n pos)<|tE (P.kt X)<|aV P.tab f fa:=by
 refine aT (P_ he<|jx W) λσ H Q M=>?_;obtain⟨g,s,t,s',x,h,k⟩:=M;obtain⟨⟨tx,R⟩,h1,h⟩:=ae h;refine⟨g,s,_,R,x,h1,λv L H1 E d D=>?_⟩;cases tx<;>try(cases h;done)
 .rename_i c fs
  obtain⟨u,A,h⟩:=ae h;cases h;obtain⟨j,y,p⟩:=a_.mp<|aq A;obtain⟨a,C,B,ns,N,rfl,hC,T,hl,hd,r⟩:=D;obtain⟨m,V,i,F⟩:=Kt.of hC;have b:=tU G i y;obtain⟨w,o,Ep⟩:=r.get p;exact⟨a,C,B,_,w,J,d.sub _ _ T,F.cl,F.na _<|gZ b,by rw[jW F.nd b,o],k _ L H1 E d Ep⟩
 .rename_i S
  obtain⟨c,A,h⟩:=ae h;obtain⟨ob,y,p⟩:=a_.mp<|aq A;obtain⟨j,I,h6⟩:=a_.mp p;obtain⟨a,rfl,ha⟩:=D;rcases d.st.at_ S ob y with⟨a',C,B,ns,N,Z⟩|⟨a',Z⟩
  case inr=>
   obtain⟨l,q,_⟩:=a_.mp I;have z:(P.tab.map _)[ob.c]?=Y:=Z.nf;rw[f6,q]at z;cases z
  have:=Z.al.symm.trans ha
  cases this;obtain⟨m,V,i,F⟩:=Kt.of Z.cl;have b:=tU G i I;obtain⟨w,o,sl⟩:=Z.f j c h6;cases c with
  |val t'=>
   cases h;exact⟨a,C,B,_,w,J,Z.h,F.cl,F.na _<|gZ b,by rw[jW F.nd b,o],k _ L H1 E d sl⟩
  |ol ts=>cases h
  |od ks ts=>cases h
  |yg t=>cases h
def tyB(ty:String):T->Option Bool
 |.non=>U Zi
 |.bl _=>U<|ty == "bool" ||ty == "int"
 |.int _=>U<|ty == "int"
 |.str _=>U<|ty == "str"
 |.tup _=>U<|ty == "tuple"
 |.lst _=>U<|ty == "list"
 |_=>Y
def Wt(ty:String):T->FK:=λt=>(tyB ty t).map .bl
def Q6(c:yo Ty)(r:Rep B al H t v)(h:tyB Ty t=U u):∃d,jA B.K H v d/\oh B.K d (.type Ty)=U u:=by
 cases t with
 |non=>cases(show v=.non from r);cases h;exact⟨_,.non,lK B.K c.non⟩
 |bl b=>cases(show v=.bl b from r);cases h;exact⟨_,.bl _,lK B.K c.bl⟩
 |int i=>cases(show v=.int i from r);cases h;exact⟨_,.int _,lK B.K c.int⟩
 |str l=>obtain⟨rfl,_⟩:=r;cases h;exact⟨_,.str _,lK B.K c.str⟩
 |tup ts=>obtain⟨a,e,rfl,q,_⟩:=r;cases h;exact⟨_,.tup q,lK B.K c.tup⟩
 |lst ts=>obtain⟨a,e,rfl,q,_⟩:=r;cases h;exact⟨_,.lst q,lK B.K c.lst⟩
 |_=>cases h
def vR:List<|Str×String:=[("str","str")]
def Wu:∀q∈vR,yo q.2/\hX q.1=U (.type q.2)/\q.1 ≠ "__name__" /\ (q.1 == ("__debug__" : Str))=Zi:=by
 intro p h;simp only[vR,bF,mU,lb]at h;subst h;exact⟨Q0,Ny,by decide,by decide⟩
def Q7(c:B.K=X.K)(n:(y,ty)∈vR)(q:X.mg "isinstance" = Y)(e:X.mg y=Y)(z:PE X a<|tE B fa)(s:Gl X "isinstance")(E:Gl X y)(g:noStar a=O) :
  PE X (.Call (.Name "isinstance" p) [a,.Name y d] [] pos)<|tE B<|dE (Wt ty) fa:=by
 obtain⟨m,w,o,hd⟩:=Wu _ n;have F:dn [JE y d] X.env=(Zi,fC (.Name y d) X.env)::dn [] X.env:=J;refine aT (f9 vA s q u_ (bq z (bq (zR E e w (v:=.ty ty) J o hd) dm F)<|aB g) (he:=aB g) (hpl:=J))
 <|FA c (r:=λx H Q=>∃f i t b,[x,.ty ty]=[f,.ty i]/\jA X.K H f t/\oh X.K t (.type i)=U b/\Q (.bl b) H) λB c al HF H x t tx Q sm l h k=>?_
 obtain⟨u,D,rfl⟩:=d_.mp h;obtain⟨j,C,A⟩:=Q6 m (l.same sm) D;exact⟨x,ty,j,u,J,c▸C,c▸A,k _ HF H (.refl sm) J⟩
def iO(sub:Ap)(ds:B1):T->FK
 |.obj c _=>(sub[c]?).map λl=>.bl<|ds.any λd=>decide<|d∈l
 |_=>Y
def Gj:fS X (.builtin "isinstance") λxs H Q=>∃x D t b,xs=[x,.ref D]/\jA X.K H x t/\oh X.K t (.ref D)=U b/\Q (.bl b) H:=by
 intro g s σ H xs d Q I r h;obtain⟨x,D,t,b,rfl,ty,e,q⟩:=h;obtain⟨u,f,rfl,a,c⟩:=vals2 r;cases c;exact rf I a ty e λtk=>⟨.bl b,H,I.tok _,J,q⟩
def Wv(Kt:tQ X.K X.mg P){c:Pos}(f:P.cn[d]?=U y)(z:X.mg "isinstance" = Y)(E:PE X a<|tE (P.kt X) fa)(B:Gl X "isinstance")(N:Gl X y)(i:noStar a=O)(hd:aX y)(M:(P.fn[d]?).isSome=O) :
  PE X (.Call (.Name "isinstance" p) [a,.Name y c] [] pos)<|tE (P.kt X)<|dE (iO P.sub [d]) fa:=by
 obtain⟨ns,o⟩:=Du.mp M;obtain⟨D,j⟩:=Kt.cls d y ns f o;have R:dn [JE y c] X.env=(Zi,fC (.Name y c) X.env)::dn [] X.env:=J;refine aT (f9 Gj B z u_ (bq E (bq (nF (v:=.ref D) N j.gl J hd) dm R)<|aB i) (he:=aB i) (hpl:=J)) λσ H Q n=>?_;obtain⟨g,s,t,s',x,h,k⟩:=n;obtain⟨⟨tx,W⟩,I,h⟩:=ae h;obtain⟨T,b,h⟩:=ae h;cases h;refine⟨g,s,_,_,x,I,λv L H1 u e q=>?_⟩;have b:=aq b;cases tx<;>try(cases b;done)
 obtain⟨l,hl,rfl⟩:=d_.mp b;obtain⟨a,C,Z,Fy,S,rfl,G,w,A,Ww,r⟩:=q;obtain⟨m,Ħ,ħ,F⟩:=Kt.of G;refine⟨_,D,_,_,J,.ins (e.sub _ _ w) F.cl F.ca Kt.gt.1 Kt.gt.2 F.mo,Kt.sub _ d m y C D l Ħ f F.gl j.gl hl,?_⟩
 have:=k (V.bl<|decide<|d∈l) L H1 u e (by show _=V.bl (([d]:B1).any λd=>decide<|d∈l);simp)
 exact this
abbrev gU(P:Pg)(K:bh)(Pr:dv)(w:ee):KT:=⟨K,Pr,w,P.cn,P.fn⟩
inductive qw(B:KT)(f:Fn)(vs:List V)(H:Hp)(Q:VK)(_:XK):Prop where
 |mk g ts m t m' (x:eU B g H m) (r:aD B g.al g.HF ts vs) (h:f ts m=.ok (t,m')) (k:∀v g' H',dq g H g' H'->eU B g' H' m'->Rep B g'.al g'.HF t v->Q v H')
structure Ĩ(P:Pg)(Pr:dv)(w:ee)(K:bh)(mg:Str->D1)(base:ek)(k:Nat)(x:Str)(ds:FC)(f:Fn):Prop where
 ex:∃(fa:cq)(fd:ef)(ps:Bi)(g_:B2)(dV:List V),cj Pr w K mg base iL k fa fd ps (qw (gU P K Pr w) f)/\mg x=U (.ref fa)/\j9 K (.ref fa)=O/\Binds K fd ps g_/\Vals dV g_/\∀al H,aD (gU P K Pr w) al H ds dV
def gi(h:af f ds fl s=.ok (t,s')):∃ts s1 m',fl s=.ok (ts,s1)/\f (ts++ds) s1.m=.ok (t,m')/\s'={s1 with m:=m'}:=by
 obtain⟨⟨ts,s1⟩,a,h⟩:=ae h;dsimp only at h;cases q:f (ts++ds) s1.m with
 |ok r=>rw[q]at h;cases h;exact⟨ts,s1,r.2,a,q,J⟩
 |bad=>rw[q]at h;cases h
 |exc c fs s2=>rw[q]at h;cases h
def vS{Q:VK}(x:SR B g H σ s)(r:aD B g.al g.HF ts vs)(h:f ts s.m=.ok (t,m'))(k:∀v g' H',dq g H g' H'->SR B g' H' σ {s with m:=m'}->Rep B g'.al g'.HF t v->Q v H'):qw B f vs H Q E:=
 ⟨g.aj,ts,s.m,t,m',x.st.aj,r,h,λv g' H' p y a=>let⟨p2,x2⟩:=x.back p y;k v (G.back g g') H' p2 x2 a⟩
def s_call{k j:Nat}(D:Ĩ P X.prog X.w X.K X.mg X.base k x ds f)(r:bj j X.A)(q:k<=j)(C:PA X (e::es)<|tA (P.kt X) fl)(z:Gl X x)(I:aX x)(a:(e::es).all noStar=O) :
  PE X (.Call (.Name x p) (e::es) [] pos)<|tE (P.kt X)<|af f ds fl:=by
 obtain⟨S,T,ps,N,V,F,u,y,B,hd,Az⟩:=D.ex;rw[ed,bZ]at a;refine aT (zU F (r.mono q) z u y B hd mC C I (aB a.1)<|cT a.2) λσ H Q b=>?_;obtain⟨g,s,t,s',x,h,k⟩:=b;obtain⟨ts,i,M,G,E,rfl⟩:=gi h;exact⟨g,s,ts,i,x,G,λL R H1 o d m=>vS d (m.app<|Az _ _) E λv g' H' n c l=>k v g' H' (o.trans n) c l⟩
def KL{k j:Nat}(D:Ĩ P X.prog X.w X.K X.mg X.base k x ds f)(i:bj j X.A)(e:k<=j)(n:Gl X x)(u:aX x) :
  PE X (.Call (.Name x p) [] [] pos)<|tE (P.kt X)<|af f ds bD:=by
 obtain⟨I,L,ps,G,y,F,l,m,o,hd,z⟩:=D.ex;refine aT (EG F (i.mono e) n l m o hd mC u) λσ H Q a=>?_;obtain⟨g,s,t,s',x,h,k⟩:=a;obtain⟨ts,B,C,r,q,rfl⟩:=gi h;cases r;exact vS (E:=E0) (vs:=[]++y) x (z _ _) q λv g' H' d b c=>k v g' H' d b c
structure ZG(P:Pg)(Pr:dv)(w:ee)(K:bh)(mg:Str->D1)(base:ek)(k:Nat)(c:Nat)(m:Str)(f:Fn):Prop where
 ex:∃(C fa:cq)(fd:ef)(ps:Bi)(ns:Bi),ib (gU P K Pr w) c C ns/\q_ K C/\Meth K C m fa/\cj Pr w K mg base iL k fa fd ps (qw (gU P K Pr w) f)/\Binds K fd ps []/\m∉ns
def Gk{ι:Type}{t:ι->TE}{t':TE}{C:ι->Prop}(h:∀i,C i->PE X e (t i))(k:∀σ H Q,t' σ H Q->∃i,C i/\t i σ H Q):PE X e t':=λc s σ H Q I q=>by
 obtain⟨i,b,a⟩:=k σ H Q q;exact h i b c s σ H Q I a
def vU(X:Cx)(o:cC)(m:Str)(ck:Pos)(es:Bz)(pos:Pos):Prop:=∃pl,fC (.Call (.Attribute o m ck) es [] pos) X.env=(do
   let ov <- fC o X.env
   rb ck.atName
   let(f,first) <- ri [ov] (u0 ov m pl)
   callWith pos f first (hQ pos<|dn es X.env) (qr pos<|mB [] X.env))
def vV(h:bJ gm fo fl s=.ok (t,s')):∃tx s1 c f ts s2 m',fo s=.ok (tx,s1)/\((∃k ob,tx=.own k/\s1.m[k]?=U ob/\ob.c=c)\/∃fs,tx=.obj c fs)/\gm c=U f/\fl s1=.ok (ts,s2)/\f (tx::ts) s2.m=.ok (t,m')/\s'={s2 with m:=m'}:=by
 obtain⟨⟨tx,s1⟩,i,h⟩:=ae h;cases tx<;>try(cases h;done)
 .rename_i c fs
  obtain⟨f,g,h⟩:=ae h;obtain⟨j,s2,m',e,a,rfl⟩:=gi h;obtain⟨⟨ts,s3⟩,d,b⟩:=ae e;cases b;rw[bG]at a;exact⟨_,s1,c,f,ts,_,m',i,.inr ⟨fs,J⟩,aq g,d,a,J⟩
 .rename_i l
  obtain⟨f,g,h⟩:=ae h;obtain⟨ob,o,n⟩:=a_.mp<|aq g;obtain⟨j,s2,m',e,a,rfl⟩:=gi h;obtain⟨⟨ts,s3⟩,d,b⟩:=ae e;cases b;rw[bG]at a;exact⟨_,s1,ob.c,f,ts,_,m',i,.inl ⟨l,ob,J,o,J⟩,n,d,a,J⟩
def tW{C:cq}{c:Nat}(x:SR B g H σ s)(d:ib B c C ns)(r:Rep B g.al g.HF tx v)(h:(∃k ob,tx=.own k/\s.m[k]?=U ob/\ob.c=c)\/∃fs,tx=.obj c fs):∃a dx vs,v=.ref a/\H a=U (.ins C dx<|ns.zip vs):=by
 rcases h with⟨k,ob,rfl,i,rfl⟩|⟨fs,rfl⟩
 .obtain⟨a,rfl,f⟩:=r
  rcases x.st.at_ k ob i with⟨j,o,dx,l,vs,Z⟩|⟨j,Z⟩
  case inr=>
   obtain⟨n,q,_⟩:=d;rw[Z.nc]at q;cases q
  have:=Z.al.symm.trans f
  cases this;obtain⟨rfl,rfl⟩:=Z.cl.eq d;exact⟨a,dx,vs,J,Z.h⟩
 .obtain⟨a,o,dx,l,vs,rfl,b,e,_⟩:=r
  obtain⟨rfl,rfl⟩:=b.eq d;exact⟨a,dx,vs,J,x.sub _ _ e⟩
def Q8{k j:Nat}{gm:Nat->Option Fn}(D:∀c f,gm c=U f->ZG P X.prog X.w X.K X.mg X.base k c m f)(W:bj j X.A)(T:k<=j)(Z:PE X o<|tE (P.kt X) fo)(ha:PA X (e::es)<|tA (P.kt X) fl)(n:(e::es).all noStar=O)(l:vU X o m ck (e::es) pos) :
  PE X (.Call (.Attribute o m ck) (e::es) [] pos)<|tE (P.kt X)<|bJ gm fo fl:=by
 obtain⟨pl,l⟩:=l;rw[ed,bZ]at n;refine Gk (ι:=cq×Fn) (C:=λi=>∃c fa b ps ns,ib (P.kt X) c i.1 ns/\gm c=U i.2/\q_ X.K i.1/\Meth X.K i.1 m fa/\cj X.prog X.w X.K X.mg X.base iL k fa b ps (qw (P.kt X) i.2)/\Binds X.K b ps []/\m∉ns)
  (t:=λi=>vj i.1 m (qw (P.kt X) i.2) [] E0 (tE (P.kt X) fo)<|tA (P.kt X) fl) (by rintro i ⟨c,fa,b,ps,ns,q,_,cl,M,F,p,_⟩;exact zV (pl:=pl) Z cl M F (W.mono T) p .nil mC ha (aB n.1) (cT n.2) l) ?_
 rintro σ H Q ⟨g,s,t,s',x,h,k⟩
 obtain⟨tx,y,c,f,ts,s2,m',h1,hc,E,h3,h4,rfl⟩:=vV h;obtain⟨C,fa,b,ps,ns,q,cl,M,F,p,B⟩:=(D c f E).ex;refine⟨(C,f),⟨c,fa,b,ps,ns,q,E,cl,M,F,p,B⟩,g,s,_,y,x,h1,λv g1 H1 S r z=>?_⟩;obtain⟨a,dx,vs,rfl,hi⟩:=tW r q z hc;refine⟨a,dx,_,J,hi,jc B,g1,y,ts,s2,r,h3,λu g2 H2 d I N=>?_⟩;show qw _ _ (V.ref a::(u++[])) H2 Q E0;rw[bG];exact vS (ts:=tx::ts) I ⟨_,u,J,z.mv d.pre d.fr,N⟩ h4 λv g' H' R G L=>k v g' H' ((S.trans d).trans R) G L
def KN{k j:Nat}{gm:Nat->Option Fn}(D:∀c f,gm c=U f->ZG P X.prog X.w X.K X.mg X.base k c m f)(L:bj j X.A)(I:k<=j)(N:PE X o<|tE (P.kt X) fo)(d:vU X o m ck [] pos) :
  PE X (.Call (.Attribute o m ck) [] [] pos)<|tE (P.kt X)<|bJ gm fo bD:=by
 obtain⟨pl,d⟩:=d;refine Gk (ι:=cq×Fn) (C:=λi=>∃c fa b ps ns,ib (P.kt X) c i.1 ns/\gm c=U i.2/\q_ X.K i.1/\Meth X.K i.1 m fa/\cj X.prog X.w X.K X.mg X.base iL k fa b ps (qw (P.kt X) i.2)/\Binds X.K b ps []/\m∉ns)
  (t:=λi=>vj i.1 m (qw (P.kt X) i.2) [] E0 (tE (P.kt X) fo) JV) (by rintro i ⟨c,fa,b,ps,ns,l,_,cl,M,F,e,_⟩;exact vm (pl:=pl) N cl M F (L.mono I) e .nil mC d) ?_
 rintro σ H Q ⟨g,s,t,s',x,h,k⟩
 obtain⟨tx,y,c,f,ts,s2,m',W,S,r,V,T,rfl⟩:=vV h;cases V;obtain⟨C,fa,b,ps,ns,l,cl,M,F,e,q⟩:=(D c f r).ex;refine⟨(C,f),⟨c,fa,b,ps,ns,l,r,cl,M,F,e,q⟩,g,s,_,y,x,W,λv g1 H1 G n p=>?_⟩;obtain⟨a,Z,vs,rfl,R⟩:=tW n l p S;exact⟨a,Z,_,J,R,jc q,vS (E:=E0) (ts:=[tx]) (vs:=[.ref a]) n (.one p) T λv g' H' B u z=>k v g' H' (G.trans B) u z⟩
def spI(C:cq)(ns:Bi):Sp:=λc H Q _=>∃x b a,c=.ref x::a/\a.length=ns.length/\H x=U (.ins C b [])/\Q .non (upd H x<|.ins C b<|ns.zip a)
structure ĩ(P:Pg)(Pr:dv)(w:ee)(K:bh)(mg:Str->D1)(base:ek)(k:Nat)(c n:Nat)(x:Str):Prop where
 ex:∃(C fi:cq)(fd:ef)(ps:Bi)(ns:Bi),ib (gU P K Pr w) c C ns/\ns.length=n/\mg x=U (.ref C)/\Mk K C fi/\cj Pr w K mg base iL k fi fd ps (spI C ns)/\Binds K fd ps []
def tY{c:Nat}{C x dx:cq}(f:SR B g H σ s)(e:ib B c C ns)(hl:vs.length<=ns.length)(r:aD B g.al g.HF ts vs)(nx:H x=Y)(nd:H dx=Y)(b:dx≠x) :
  ∃h:Gr g.HF H (upd (upd g.HF dx<|.own x) x<|.ins C dx<|ns.zip vs) (upd (upd H dx<|.own x) x<|.ins C dx<|ns.zip vs),Rep B g.al (upd (upd g.HF dx<|.own x) x<|.ins C dx<|ns.zip vs) (.obj c ts)<|.ref x:=by
 have a:=Gr.new (o:=.own x) f.sub nd;have Ī:upd H dx (.own x) x=Y:=by rw[ai<|et b];exact nx
 have d:=Gr.new (o:=.ins C dx<|ns.zip vs) a.sub Ī;exact⟨a.trans d,x,C,dx,ns,vs,J,e,ak,hl,by rw[ai b,ak],r.same<|a.fr.trans d.fr⟩
def Wx{k j c n:Nat}(D:ĩ P X.prog X.w X.K X.mg X.base k c n x)(v:bj j X.A)(u:k+1<=j)(G:PA X (e::es)<|tA (P.kt X) fl)(B:Gl X x)(N:aX x)(b:(e::es).all noStar=O) :
  PE X (.Call (.Name x p) (e::es) [] pos)<|tE (P.kt X)<|dh c n fl:=by
 obtain⟨C,f,V,ps,ns,I,y,z,M,F,E⟩:=D.ex;rw[ed,bZ]at b;refine aT (nI M F (v.mono u) B z E .nil mC G N (aB b.1)<|cT b.2) λσ H Q o=>?_;obtain⟨g,s,t,s',x,h,k⟩:=o;obtain⟨⟨ts,T⟩,L,h⟩:=ae h;dsimp only at h;split at h
 .rename_i hl
  cases h;refine⟨g,s,ts,_,x,L,λd R H1 q a i x S nx nd r=>?_⟩;have m:d.length=ns.length:=by rw[<- i.len,hl,y]
  refine⟨x,S,d++[],J,by rw[bG,m],ak,J,?_⟩
  rw[bG,sU];obtain⟨l,rp⟩:=tY (c:=c) (ts:=ts) a I (B0 m) i nx nd r;exact k _ (R.grow _) _ (q.trans<|a.lI l) (a.grow l) rp
 .cases h
structure Mk0(K:bh)(C:cq):Prop where
 makes:DA K C=O
 init:fG K (.ref C) "__init__" = U (U<|.builtin "object.__init__")
 kp:j9 K (.ref C)=O
def ī(C:cq):TE:=λ_ H Q=>∀x a,H x=Y->H a=Y->a≠x->Q (.ref x) (upd (upd H a<|.own x) x<|.ins C a [])
open PySem.W in
def Q9{C:cq}(M:Mk0 X.K C)(hg:Gl X x)(hm:X.mg x=U (.ref C))(gB:aX x:=by decide):PE X (.Call (.Name x p) [] [] pos)<|ī C:=by
 intro aa s σ H Q I h;refine ew<|fE I hg hm ?_ gB;refine DH I.iw M.kp ?_;have hq:=h (s.z+1) s.z (I.bA.fresh<|zJ _) (I.bA.fresh<|eA _)<|dP<|ou _;have I2:=Inv.made (C:=C) I;have KX:=I.iw;obtain⟨hh,g,d,t,os⟩:=s;apply f7;have a:=makes_of (M:=cx X.prog X.w) KX M.makes;refine make_core a (ll KX M.init) (λself=>Looks.of_pure<|oi_bind self) (.inr ⟨J,J⟩) ?_;have hz:(hh.push FD).objs.size=hh.objs.size+1:=i4 ..;have gt:((hh.push FD).push<|instObj C hh.objs.size).get? (hh.objs.size+1)=U (instObj C hh.objs.size):=by
  rw[<- hz];exact dw _ J
 have t1:sq (mX X) ((hh.push FD).push<|instObj C hh.objs.size) (sr<|.ref<|hh.objs.size+1)<|.ref C:=(og gt).andThen .now;have t2:sq (mX X) ((hh.push FD).push<|instObj C hh.objs.size) (oB (.ref<|hh.objs.size+1)<|.type "object") O:=t1.andThen<|a.top.keeps λb o e=>b0 _<|b0 _ e;refine fw oi_plain entry_oi<|@check_slot (mX X) _ _ _ "object.__init__" "object" "__init__" (.ref<|hh.objs.size+1) [] [] _ oi_kind oi_split t2 (oi_args<|.ref<|hh.objs.size+1) ?_;show dg _ _ (Builtin.«object.__init__» ⟨[Value.ref<|hh.objs.size+1],[]⟩) _ _ _;rw[oi_run];exact dk<|And.intro J ⟨V.ref<|hh.objs.size+1,_,I2,J,hq⟩
structure Wz(P:Pg)(Pr:dv)(w:ee)(K:bh)(mg:Str->D1)(c:Nat)(x:Str):Prop where
 ex:∃(C:cq)(ns:Bi),ib (gU P K Pr w) c C ns/\mg x=U (.ref C)/\Mk0 K C
def Q_{c:Nat}(D:Wz P X.prog X.w X.K X.mg c x)(i:Gl X x)(l:aX x):PE X (.Call (.Name x p) [] [] pos)<|tE (P.kt X)<|dh c 0 bD:=by
 obtain⟨C,ns,j,f,M⟩:=D.ex;refine aT (Q9 M i f l) λσ H Q b=>?_;obtain⟨g,s,t,s',z,h,k⟩:=b;cases h;intro x m nx nd d;obtain⟨a,rp⟩:=tY (c:=c) (ts:=[]) (vs:=[]) z j (iU _) J nx nd d;have e:ns.zip ([]:List V)=[]:=M7
 have:=k _ (g.grow _) _ (z.lI a) (z.grow a) rp
 rw[e]at this;exact this
structure Walk(B:KT)(al:BM)(a:It)(HF:Hp)(ts:FC):Prop where
 go:∀i H,aL HF H->i<ts.length->a.go i H
 yld:∀i H x H',aL HF H->i<ts.length->a.yld i H x H'->∃t,ts[i]?=U t/\∀yu,aL HF yu->aL yu H->∃Jx,Gr yu H Jx H'/\Rep B al Jx t x
 stop:∀i H,aL HF H->i=ts.length->a.stop i H
def CA(h:HF l=U (.lst vs))(r:aD B al HF ts vs):Walk B al (Zk B.K l) HF ts:=by
 refine⟨λi H sm a=>?_,λi H x H' sm a y=>?_,λi H sm a=>⟨vs,dW.of<|sm _ _ h,by rw[a,r.len];exact eA _⟩⟩
 .obtain⟨v,e,_⟩:=r.get<|fQ a
  exact⟨vs,v,dW.of<|sm _ _ h,e⟩
 .obtain⟨rfl,y⟩:=y
  have e:=y vs<|dW.of<|sm _ _ h;obtain⟨t,f,d⟩:=r.Cu e;exact⟨t,f,λb c s2=>⟨b,.refl s2,d.same c⟩⟩
def Gn(h:mh B.K HF l vs)(r:aD B al HF ts vs):Walk B al (Ñ B.K l) HF ts:=by
 refine⟨λi H sm a=>?_,λi H x H' sm a y=>?_,λi H sm a=>⟨vs,cQ sm h,by rw[a,r.len];exact eA _⟩⟩
 .obtain⟨v,e,_⟩:=r.get<|fQ a
  exact⟨vs,v,cQ sm h,e⟩
 .obtain⟨rfl,y⟩:=y
  have e:=y vs<|cQ sm h;obtain⟨t,f,d⟩:=r.Cu e;exact⟨t,f,λb c s2=>⟨b,.refl s2,d.same c⟩⟩
def vW{j:It}{a:List V}(d:ê j a λ_=>True)(r:aD B al HF ts a):Walk B al j HF ts:=by
 refine⟨λi H sm b=>d.go i H trivial<|by rw[<- r.len];exact b,λi H x H' sm b y=>?_,λi H sm b=>d.stop i H trivial<|by rw[<- r.len];exact b⟩
 obtain⟨rfl,e⟩:=d.yld i H x H' trivial (by rw[<- r.len];exact b) y
 obtain⟨t,h,g⟩:=r.Cu e;exact⟨t,h,λc f s2=>⟨c,.refl s2,g.same f⟩⟩
theorem aD.oz(lo:Int)(n:Nat):aD B al H (D.oz lo n)<|(gQ n).map λk=>V.int<|lo+(k:Nat):=by
 have b:D.oz lo n=((gQ n).map λk=>lo+((k:Nat):Int)).map T.int:=by unfold D.oz;rw[qC];rfl
 have a:((gQ n).map λk=>V.int<|lo+(k:Nat))=((gQ n).map λk=>lo+((k:Nat):Int)).map V.int:=by rw[qC];rfl
 rw[b,a];exact aD.ints _
structure Sets(B:KT)(al:BM)(HF:Hp)(S:B1)(σ σ':St)(ρ ρ':Fm):Prop where
 len:σ'.length=σ.length
 lenR:ρ'.length=ρ.length
 off:∀(i:Nat),i∉S->σ'[i]?=σ[i]?/\ρ'[i]?=ρ[i]?
 on:∀(i:Nat),i∈S->i<ρ.length->∃(t:T)(v:V),ρ'[i]?=U (U<|.val t)/\σ'[i]?=U (U v)/\Rep B al HF t v
structure qM(B:KT)(g:TG)(fg:FG)(S:B1):Prop where
 ok:∀(al:BM)(HF H:Hp)(σ:St)(ρ:Fm)(t:T)(v:V)(ρ':Fm)(Q:St->Hp->Prop),aL HF H->Rep B al HF t v->fg t ρ=U ρ'->ρ.length=σ.length->(∀σ',Sets B al HF S σ σ' ρ ρ'->Q σ' H)->g v σ H Q
def Sets.one{a:Fm}(hl:a.length=σ.length)(r:Rep B al HF t v):Sets B al HF [i] σ (σ.set i<|U v) a<|a.set i<|U<|.val t:=by
 refine⟨iJ,iJ,λj b=>?_,λj b c=>?_⟩
 .have:i≠j:=λe=>b (by simp[e])
  rw[iu this,iu this];exact⟨J,J⟩
 .have:j=i:=by simpa using b
  subst this;exact⟨t,v,by rw[gy c],by rw[gy<|by lia],r⟩
def AA(i:Nat):qM B (vf i) (setG i) [i]:=⟨λal HF H σ b t v a Q sm r h hl q=>by
 cases h;exact q _<|.one hl r⟩
def Sets.cons{B:KT}{al:BM}{HF:Hp}{i:Nat}{S:B1}{σ d:St}{g e:Fm}{t:T}{v:V}(hl:g.length=σ.length)(r:Rep B al HF t v)(h:Sets B al HF S (σ.set i<|U v) d (g.set i<|U<|.val t) e):Sets B al HF (i::S) σ d g e:=by
 have o:=Sets.one (B:=B) (al:=al) (i:=i) hl r;refine⟨h.len.trans o.len,h.lenR.trans o.lenR,λj f=>?_,λj f m=>?_⟩
 .obtain⟨l,k⟩:=h.off j λz=>f<|by simp[z]
  obtain⟨s,q⟩:=o.off j λz=>f<|by simp at z;simp[z]
  exact⟨l.trans s,k.trans q⟩
 .by_cases hs:j∈S
  .exact h.on j hs (by rw[iJ];exact m)
  .obtain⟨l,k⟩:=h.off j hs
   obtain⟨p,n,a,b,c⟩:=o.on j (by rcases bF.mp f with z|z;exact(by simp[z]);exact dy z hs) m
   exact⟨p,n,k.trans a,l.trans b,c⟩
def pG:B1->NF
 |[]=>UZ
 |i::is=>NG (vf i)<|pG is
theorem rN:∀(is:B1)(HF H:Hp)(σ:St)(c:Fm)(ts:FC)(vs:List V)(a:Fm)(Q:St->Hp->Prop),aL HF H->aD B al HF ts vs->rG is ts c=U a->c.length=σ.length->(∀b,Sets B al HF is σ b c a->Q b H)->pG is vs σ H Q
 |[],HF,H,σ,c,ts,vs,a,Q,sm,r,h,hl,q=>by
  cases ts with
  |cons t ts=>cases h
  |nil=>
   cases h;cases(show vs=[]from r);exact⟨J,q _ ⟨J,J,λ_ _=>⟨J,J⟩,λi g=>by cases g⟩⟩
 |i::is,HF,H,σ,c,ts,vs,a,Q,sm,r,h,hl,q=>by
  cases ts with
  |nil=>cases h
  |cons t ts=>
   obtain⟨v,d,rfl,f,e⟩:=r;refine⟨v,d,J,?_⟩;exact rN is HF H _ _ ts d a Q sm e h (by rw[iJ,iJ];exact hl) λb s=>q b<|.cons hl f s
def Gp(is:B1)(f:is.length=n:=by rfl):qM B (PL B.K n<|pG is) (cP is) is:=⟨λal HF H σ c t v b Q sm r h hl q=>by
 cases t<;>try(cases h;done)
 .rename_i ts
  obtain⟨a,d,rfl,q1,r⟩:=r;have g:∀(is:B1)(ts:FC)(c:Fm),rG is ts c=U b->is.length=ts.length:=by
   intro is
   induction is with
   |nil=>intro ts c h;cases ts with
    |nil=>rfl
    |cons=>cases h
   |cons i is e=>intro ts c h;cases ts with
    |nil=>cases h
    |cons t ts=>simp[e ts _ h]
  exact⟨a,d,J,cQ sm q1,by rw[<- r.len,<- g _ _ _ h,f],rN is HF H σ c ts d b Q sm r h hl q⟩
⟩
theorem Walk.mv{al b:BM}{HF a:Hp}(w:Walk B al f HF ts)(p:al <+: b)(s:aL HF a):Walk B b f a ts:=
 ⟨λi H h=>w.go i H<|s.trans h,λi H x H' h e y=>let⟨t,h1,h2⟩:=w.yld i H x H' (s.trans h) e y;⟨t,h1,λc d s2=>let⟨Jx,gr,r⟩:=h2 c (s.trans d) s2;⟨Jx,gr,r.mv p<|aL.refl _⟩⟩,λi H h=>w.stop i H<|s.trans h⟩
inductive tI(B:KT)(f:FL)(σ:St)(H:Hp)(R:It->Hp->Prop):Prop where
 |mk g s ts s' (x:SR B g H σ s) (h:f s=.ok (ts,s')) (k:∀a g' H',dq g H g' H'->SR B g' H' σ s'->Walk B g'.al a g'.HF ts->R a H')
def AB:PI X tg e<|tI B kE:=λ_ _ _ _ _ _ a=>by obtain⟨_,_,_,_,_,h,_⟩:=a;cases h
def Oc(h:PI X tg e t)(h':PI X tg e t'):PI X tg e λσ H R=>t σ H R\/t' σ H R:=λa s σ H R I q=>by
 rcases q with q|q
 .exact h a s σ H R I q
 .exact h' a s σ H R I q
def Ra:T->Bool
 |.str _=>Zi
 |_=>O
def Rb:T->Fs
 |.str _=>Y
 |t=>ZF t
def KO(a:FE):FL:=λs=>(a s).bind λp=>(cH<|Rb p.1).bind λts=>.ok (ts,p.2)
def CF{a:cq}{ns:Dx}(h:dW B.K HF a<|ns.map V.int):Walk B al (Zk B.K a) HF<|ns.map T.int:=by
 refine⟨λi H sm b=>?_,λi H x H' sm b y=>?_,λi H sm b=>⟨_,sm.seq h,by rw[b,cU,cU];exact eA _⟩⟩
 .rw[cU]at b
  exact⟨_,.int ns[i],sm.seq h,by rw[f6,fQ b];rfl⟩
 .rw[cU]at b
  obtain⟨rfl,y⟩:=y;have e:=y _<|sm.seq h;obtain⟨t,g,f⟩:=(aD.ints (B:=B) (al:=al) (H:=HF) ns).Cu e;exact⟨t,g,λc d s2=>⟨c,.refl s2,f.same d⟩⟩
def Od(j:B.K=X.K)(n:PE X e<|tE B fa):PI X tg e<|tI B<|KO fa:=by
 refine vL (Oc (JP n)<|PV n) λσ H R o=>?_;obtain⟨g,s,t,s',x,h,k⟩:=o;obtain⟨⟨tx,p⟩,m,h⟩:=ae h;obtain⟨ts,b,h⟩:=ae h;cases h;have b:=aq b;have Ĭ:=j.symm;cases tx<;>try(cases b;done)
 .cases b
  refine .inr ⟨g,s,_,_,x,m,λv f H1 d a c=>?_⟩;obtain⟨l,i,rfl,q,r⟩:=c;refine⟨l,J,⟨i,j▸cQ a.sub q⟩,?_⟩;rw[Ĭ];exact k _ f H1 d a<|Gn q r
 .cases b
  refine .inl ⟨g,s,_,_,x,m,λv f H1 d a c=>?_⟩;obtain⟨l,i,rfl,q,r⟩:=c;refine⟨l,J,⟨i,dW.of<|a.sub _ _ q⟩,?_⟩;rw[Ĭ];exact k _ f H1 d a<|CA q r
 .cases b
  refine .inl ⟨g,s,_,_,x,m,λv f H1 d a c=>?_⟩;obtain⟨l,rfl,q⟩:=c;refine⟨l,J,⟨_,j▸a.sub.seq q⟩,?_⟩;rw[Ĭ];exact k _ f H1 d a<|CF q
def WA(m:B.K=X.K){j:Pos}(b:PE X e<|tE B fa):PI X (.Name x j) e<|tI B<|mG fa:=by
 refine vL (Oc (Od m b)<|Qk b) λσ H R d=>?_;obtain⟨g,s,t,s',z,h,k⟩:=d;obtain⟨⟨tx,o⟩,c,h⟩:=ae h;obtain⟨ts,a,h⟩:=ae h;cases h;by_cases hs:Ra tx=O
 .refine .inl ⟨g,s,t,_,z,?_,k⟩
  unfold KO;rw[c];show(cH<|Rb tx).bind _=_;have e:Rb tx=ZF tx:=by cases tx<;>first|rfl|(cases hs)
  rw[e,a];rfl
 .cases tx<;>first|(exact dy J hs)|skip
  have a:=aq a;cases a;refine .inr ⟨g,s,_,_,z,c,λv n H1 l f i=>?_⟩;obtain⟨rfl,p⟩:=i;exact⟨_,J,k _ n H1 l f<|vW (J7 _)<|aD.signs _⟩
def Gq(m:Gl X "range")(l:X.mg "range" = Y)(n:PE X a<|tE B fa)(j:noStar a=O):PI X tg (.Call (.Name "range" p) [a] [] pos)<|tI B<|xA nt<|bQ fa bD:=by
 have h0:dn [a] X.env=[(Zi,fC a X.env)]:=aB j;refine vL (B_ m l (bq n dm h0) h0) λσ H R d=>?_;obtain⟨g,s,t,s',x,h,k⟩:=d;obtain⟨⟨ts,u⟩,c,h⟩:=ae h;obtain⟨r,b,h⟩:=ae h;cases h;obtain⟨⟨tx,s2⟩,o,c⟩:=ae c;cases c;have b:=aq b;cases tx<;>try(cases b;done)
 obtain⟨z,rfl⟩:=bC b;refine⟨g,s,_,_,x,o,λv q H1 i e f=>?_⟩;cases f;exact⟨_,J,by lia,by lia,k _ q H1 i e<|vW (Ci 0 _)<|aD.oz 0 _⟩
def pe.sets{a:St}{r j:Fm}(x:pe B g H σ r)(d:al=g.al)(t:Sets B al g.HF k σ a r j):pe B g H a j:=by
 subst d;refine⟨by rw[t.lenR,t.len];exact x.len,λi c h=>?_⟩
 by_cases hi:i∈k
 .have m:i<r.length:=by rw[<- t.lenR];exact(dj.mp h).1
  obtain⟨u,v,b,f,e⟩:=t.on i hi m;rw[h]at b;cases b;exact⟨v,f,e⟩
 .obtain⟨b,f⟩:=t.off i hi
  rw[f]at h;obtain⟨v,e,l⟩:=x.at_ i c h;exact⟨v,b.trans e,l⟩
def yv{S:B1}{c:St}{j d:Fm}(m:∀i∈S,i<k)(s:Sets B al HF S (c_ k js σ) c j d):dD (c_ k js σ) c:=by
 have gen:∀(a b:St),a.length=b.length->(∀(i:Nat)(v:V),a[i]?=U (U v)->b[i]?=U (U v))->dD a b:=by
  intro a
  induction a with
  |nil=>intro b hl _;cases b with
   |nil=>trivial
   |cons=>cases hl
  |cons x a l=>intro b hl h;cases b with
   |nil=>cases hl
   |cons y b=>
    have f:=l b (by simpa using hl) λi v e=>by simpa using h (i+1) v (by simpa using e)
    cases x with
    |none=>exact f
    |some v=>
     have:=h 0 v J
     simp at this;subst this;exact⟨J,f⟩
 refine gen _ _ s.len.symm λi v e=>?_;by_cases hi:i∈S
 .have g:=m i hi
  unfold c_ at e;rw[jJ<|by rw[BS];exact g,DN,cv g]at e
  cases e
 .rw[(s.off i hi).1];exact e
section
variable{js S':B1}{v:Bz}
theorem SR.jR:∀(js:B1){g:G}{s:S},SR B g H σ s->∃g',dq g H g' H/\SR B g' H σ {s with r:=jR js s.r}
 |[],g,s,x=>⟨g,.refl,x⟩
 |j::js,g,s,x=>by
  show ∃g',dq g H g' H/\SR B g' H σ {s with r:=D.jR js (Km s.r j)}
  have one:∃a,dq g H a H/\SR B a H σ {s with r:=Km s.r j}:=by
   unfold Km;split
   .rename_i ts h
    obtain⟨a,v,p,y,_⟩:=x.j_ h;exact⟨a,p,y⟩
   .exact⟨g,.refl,x⟩
  obtain⟨a,e,c⟩:=one;obtain⟨f,d,b⟩:=SR.jR js c;exact⟨f,e.trans d,b⟩
def pe.block(x:pe B g H σ r)(k:Nat)(js:B1):pe B g.aj H (c_ k js σ)<|i_ k js r:=by
 refine⟨by unfold i_ c_;simp,λi c h=>?_⟩
 unfold i_ at h;unfold c_;by_cases hi:i<k
 .rw[jJ<|by simpa using hi,DN,cv hi]at h
  cases h
 .rw[gz<|by simpa using hi,BS,f6]at h
  rw[gz<|by simpa using hi,BS,f6]
  cases a:js[i-k]? with
  |none=>rw[a]at h;cases h
  |some j=>
   rw[a]at h;have h:(match r[j]? with|U<|U<|.val t=>U<|C.val t|_=>Y)=U c:=by injection h
   split at h
   .rename_i t b
    cases h;obtain⟨v,e,d⟩:=x.at_ j _ b;exact⟨v,by show U ((σ[j]?).join)=_;rw[e];rfl,d⟩
   .cases h
def SR.Rf{u:HO}(x:SR B g H σ s)(j:g.HF D=Y)(f:g.o D=Y)(hl:∃w,H D=U w):SR B g (upd H D u) σ s:=by
 have ne:∀b p,g.o b=U p->b≠D:=λb p e z=>by rw[z,f]at e;cases e
 refine⟨x.st.mv (λb w e=>?_) (λb p e=>?_) (aL.refl _) J λl p h _=>⟨h,ai<|ne l p h⟩,x.lc.len,λi c e=>?_⟩
 .have:b≠D:=λz=>by rw[z,j]at e;cases e
  rw[ai this];exact x.sub _ _ e
 .obtain⟨d,w,a⟩:=x.st.live b p e
  exact⟨d,w,by rw[ai<|ne b p e];exact a⟩
 .obtain⟨v,d,a⟩:=x.lc.at_ i c e
  exact⟨v,d,bK.mv (g:=g) (g':=g) (aL.refl _) fH (λl h=>⟨h,ai<|ne l _ h⟩) a⟩
def dq.Rf{u:HO}{a:G}(p:dq g H a H1)(h0:H D=Y):dq g H a<|upd H1 D u:=
 ⟨p.fr,p.pre,λb w h n z=>by
  have:b≠D:=aJ h h0
  rw[ai this];exact p.rest b w h n z,λb h=>by
  by_cases hb:b=D
  .subst hb;exact h0
  .rw[ai hb]at h;exact p.there b h⟩
def WC:Jv X []<|tT B dX:=λa s σ H Q I z=>by
 obtain⟨g,st,t,s',x,h,k⟩:=z;cases h;exact J2 a s σ H Q I<|k g H .refl x
def WD(h:PT X c<|tT B ft):Jv X [c]<|tT B ft:=J3 h
def yw(Dr:qM B gt fg S')(hS:∀i∈S',i<k):∀σ H Q,tO B (bP xK k js fg ft fe) σ H Q->tComp (tI B xK) k js gt (tT B ft) (tE B fe) σ H Q:=by
 rintro σ H Q ⟨g,s,ys,s',x,h,kk⟩
 obtain⟨⟨xs,T⟩,h1,h⟩:=ae h;dsimp only at h;split at h
 case isFalse=>cases h
 rename_i hz;obtain⟨⟨rs,mm⟩,h2,h⟩:=ae h;cases h;unfold tComp;refine⟨g,s,xs,T,x,h1,λKt g1 H1 p1 x1 E D L=>?_⟩;obtain⟨g2,p2,R⟩:=x1.jR js;have E:=E.mv p2.pre p2.fr;obtain⟨b,hb⟩:∃b,b=i_ k js (_root_.D.jR js T.r):=⟨_,J⟩;rw[<- hb]at h2;have I:=p1.trans p2;have hD0:H D=Y:=I.there D L;have nD:∀{N:G}{ss:S},SR B N H1 σ ss->N.HF D=Y/\N.o D=Y:=λ{N ss} x=>⟨x.sub.free L,by
  cases q:N.o D with
  |none=>rfl
  |some p=>obtain⟨_,u,z⟩:=x.st.live D p q;rw[L]at z;cases z⟩
 obtain⟨f2,o2⟩:=nD R;obtain⟨M,_,_⟩:=jU (u:=.lst []) R L;refine⟨λi m A j=>m=xs.length-i/\i<=xs.length/\∃a m3 done rest,dq g2 H1 a j/\SR B a j σ ⟨_root_.D.jR js T.r,m3⟩/\a.HF D=Y/\a.o D=Y/\j D=U (.lst A)/\aD B a.al a.HF done A/\done.length<=i/\bM fg ft fe b (xs.drop i) m3=.ok (rest,mm)/\rs=done++rest,
  ⟨xs.length,by simp,iU _,g2.grow g2.HF,T.m,[],rs,R.lI M,R.grow M,f2,o2,ak,J,eA _,by rw[BW];exact h2,J⟩,?_⟩
 rintro i m A j ⟨rfl,hi,a,m3,done,rest,w,f,X,o3,hl,rd,K,d,rfl⟩
 by_cases eT:i<xs.length
 .have F:=w.fr.trans f.sub
  refine .inr ⟨E.go i j F eT,λv H3 y=>?_⟩;obtain⟨t,ht,y2⟩:=E.yld i j v H3 F eT y;obtain⟨P,n,rx⟩:=y2 a.HF w.fr f.sub;have WG:xs.drop i=t::xs.drop (i+1):=by
   obtain⟨hh,e⟩:=dj.mp ht;rw[uW hh,e]
  rw[WG]at d;obtain⟨b1,q1,d⟩:=ae d;obtain⟨⟨c,s5⟩,q2,d⟩:=ae d;have C:=f.grow n;have p4:=w.trans<|f.lI n;obtain⟨hl4,f4⟩:=n.rest D _ hl X;have eb:=C.lc.block k js;rw[<- hb]at eb;refine Dr.ok a.al P H3 _ _ t v b1 _ C.sub (rx.mv w.pre<|aL.refl _) (aq q1) eb.len λσ5 JQ=>⟨yv hS JQ,?_⟩;have xb:SR B (a.grow P).aj H3 σ5 ⟨b1,m3⟩:=⟨C.st.aj,eb.sets J JQ⟩;refine⟨(a.grow P).aj,⟨b1,m3⟩,c,s5,xb,q2,λg6 H6 p6 x6=>?_⟩;cases c with
  |true=>
   obtain⟨⟨y',s7⟩,q3,d⟩:=ae d;obtain⟨⟨ys',m8⟩,q4,d⟩:=ae d;cases d;refine ng ⟨g6,s5,y',s7,x6,q3,λv7 g7 H7 p7 x7 r7=>?_⟩;obtain⟨l,xB⟩:=C.back (p6.trans p7) x7.st;have p8:=p4.trans l;obtain⟨Z,W,V⟩:=(f.lI n |>.trans l).rest D _ hl X o3;have hzl:A.length<de:=by rw[<- rd.len,ez];lia
   refine⟨Z,hzl,xs.length-(i+1),zM eT<|ou i,J,eT,G.back (a.grow P) g7,s7.m,done++[y'],ys',p8.Rf L,xB.Rf W V ⟨_,Z⟩,W,V,ak,?_,by simp;exact K,q4,by simp⟩
   have st:=(f.lI n).trans l;exact(rd.mv st.pre st.fr).app<|.one r7
  |false=>
   obtain⟨l,xB⟩:=C.back p6 x6.st;obtain⟨Z,W,V⟩:=(f.lI n |>.trans l).rest D _ hl X o3;have st:=(f.lI n).trans l;exact oR ⟨xs.length-(i+1),zM eT<|ou i,J,eT,G.back (a.grow P) g6,s5.m,done,rest,p4.trans l,xB,W,V,Z,rd.mv st.pre st.fr,eY K<|fJ ..,d,J⟩
 .have e:i=xs.length:=D_ hi<|zK eT
  subst e;rw[DX]at d;cases d;rw[bG]at kk;exact .inl ⟨E.stop _ j (w.fr.trans f.sub) J,kk D A a j (I.trans w) f hD0 X o3 hl rd⟩
def Ri(ls:Bi)(f:X.calm=O)(h:gF X scope)(F:f_ X scope js fs)(d:PI X tg u<|tI B xK)(e:∀cl C a s H,PG (X.block (ls++fs) scope cl C a s H) tg gt)(j:qM B gt fg S')
  (b:∀cl C a s H,Jv (X.block (ls++fs) scope cl C a s H) v<|tT B ft) (he:∀cl C a s H,PE (X.block (ls++fs) scope cl C a s H) elt<|tE B fe)
  (g:∀i∈S',i<ls.length) (c:∀x,e6 u X.env x=pure x):PE X (.ListComp elt [⟨tg,u,v,0⟩] scope pos)<|tO B<|bP xK ls.length js fg ft fe:=
 aT (J4 ls f h F d e b he c)<|yw j g
end
def yx(B:KT)(g:G)(H:Hp)(D:Ends):Out->S->Prop
 |.nx,s'=>∀a g' H',dq g H g' H'->SR B g' H' a s'->D.nx a H'
 |.rt t,s'=>∀v g' H',dq g H g' H'->eU B g' H' s'.m->Rep B g'.al g'.HF t v->D.rt v H'
 |.bk,s'=>∀a g' H',dq g H g' H'->SR B g' H' a s'->D.bk a H'
 |.ct,s'=>∀a g' H',dq g H g' H'->SR B g' H' a s'->D.ct a H'
inductive tS(B:KT)(f:FS)(D:Ends)(σ:St)(H:Hp):Prop where
 |mk g s o s' (x:SR B g H σ s) (h:f s=.ok (o,s')) (k:yx B g H D o s')
section
variable{b_ v:Pos}{H1:Hp}{g1:G}{F u:FS}{st:hF}{rest d:Ee}{i:Nat}
def yx.mv{o:Out}(k:yx B g H D o s')(p:dq g H g1 H1):yx B g1 H1 D o s':=by
 cases o with
 |nx=>exact λa g' H' q x=>k a g' H' (p.trans q) x
 |rt t=>exact λv g' H' q x r=>k v g' H' (p.trans q) x r
 |bk=>exact λa g' H' q x=>k a g' H' (p.trans q) x
 |ct=>exact λa g' H' q x=>k a g' H' (p.trans q) x
def WH:gY X d<|tS B dJ:=λ_ _ _ _ _ _ a=>by obtain⟨_,_,_,_,_,h,_⟩:=a;cases h
def dc:PS X st<|tS B dJ:=λ_ _ _ _ _ _ a=>by obtain⟨_,_,_,_,_,h,_⟩:=a;cases h
def WI:gY X []<|tS B az:=pj nG λD σ H z=>by
 obtain⟨g,s,o,s',x,h,k⟩:=z;cases h;exact k σ g H .refl x
def Rj(i:PS X st<|tS B F)(f:gY X rest<|tS B u):gY X (st::rest)<|tS B<|ah F u:=pj (g9 i f) λD σ H z=>by
 obtain⟨g,s,o,s',x,h,k⟩:=z;obtain⟨⟨b,a⟩,j,h⟩:=ae h;refine⟨g,s,b,a,x,j,?_⟩;cases b with
 |nx=>exact λc g1 H1 e d=>⟨g1,a,o,s',d,h,k.mv e⟩
 |rt t=>cases h;exact k
 |bk=>cases h;exact k
 |ct=>cases h;exact k
def WJ(h:PS X st<|tS B F):gY X [st]<|tS B F:=jo h
def Rk:PS X (.Pass pos)<|tS B az:=bX JM λD σ H z=>by
 obtain⟨g,s,o,s',x,h,k⟩:=z;cases h;exact k σ g H .refl x
def Oe(n:X.N.Nodup)(l:X.N[i]?=U x)(f:Loc X.env.scope x)(he:PE X e<|tE B fa)(j:fu e (U<|.Name x b_) pos.line X.env=pure Zi)(m:L9 X x) :
  PS X (.Assign [.Name x b_] e pos)<|tS B<|aA i fa:=bX (iX n l f he j m) λD σ H z=>by
 obtain⟨g,s,o,s',x,h,k⟩:=z;obtain⟨⟨t,b⟩,p,h⟩:=ae h;cases h;exact⟨g,s,t,b,x,p,λv g1 H1 d a c=>k _ g1 H1 d<|a.set c⟩
def AD(k:yx B g H D .nx<|jE s1 i<|.ol ts)(d:dq g H g1 H1)(e:SR B g1 H1 σ s1)(h0:H l=Y)(j:g1.HF l=Y)(f:g1.o l=Y)(hl:H1 l=U (.lst vs))(r:aD B g1.al g1.HF ts vs):D.nx (σ.set i<|U<|.ref l) H1:=by
 refine k _ (g1.own l<|.loc i) H1 ⟨d.fr,d.pre,λb u h n z=>?_,d.there⟩<|e.own f j hl r;obtain⟨a,m,c⟩:=d.rest b u h n z
 have:b≠l:=aJ h h0
 exact⟨a,m,by show(if b=l then U (jT.loc i)else g1.o b)=Y;rw[cb this];exact c⟩
def Of(q:X.N.Nodup)(n:X.N[i]?=U x)(j:Loc X.env.scope x)(he:PE X e<|tO B fl)(m:fu e (U<|.Name x b_) pos.line X.env=pure Zi)(p:L9 X x) :
  PS X (.Assign [.Name x b_] e pos)<|tS B<|iz i fl:=bX (iX q n j he m p) λD σ H z=>by
 obtain⟨g,s,o,s',x,h,k⟩:=z;obtain⟨⟨ts,b⟩,t,h⟩:=ae h;cases h;exact⟨g,s,ts,b,x,t,λl u g1 H1 c a h0 f d hl r=>AD k c a h0 f d hl r⟩
section
variable{js V:B1}{S:FL}{T:FG}
def Gs(ls:Bi)(E:X.calm=O)(G:X.N.Nodup)(y:X.N[i]?=U x)(u:Loc X.env.scope x)(K:gF X scope)(Fr:f_ X scope js fs)(b:PI X tg Q<|tI B S)(z:∀cl C c s H,PG (X.block (ls++fs) scope cl C c s H) tg gt)(L:qM B gt T V)
  (v:∀cl C c s H,Jv (X.block (ls++fs) scope cl C c s H) M<|tT B ft) (he:∀cl C c s H,PE (X.block (ls++fs) scope cl C c s H) elt<|tE B fe)
  (F:∀i∈V,i<ls.length) (w:∀x,e6 Q X.env x=pure x) (A:L9 X x)
  (I:fu (.ListComp elt [⟨tg,Q,M,0⟩] scope R) (U<|.Name x b_) pos.line X.env=pure O) :
  PS X (.Assign [.Name x b_] (.ListComp elt [⟨tg,Q,M,0⟩] scope R) pos) (tS B<|iz i<|bP S ls.length js T ft fe) /\
  PS X (.Assign [.Name x b_] (.ListComp elt [⟨tg,Q,M,0⟩] scope R) pos) (tS B<|aA i<|dR<|bP S ls.length js T ft fe):=by
 constructor
 .refine bX (z7 ls E G y u K Fr b z v he w A I) λD σ H d=>?_
  obtain⟨g,s,o,s',x,h,k⟩:=d;obtain⟨⟨ts,j⟩,p,h⟩:=ae h;cases h;exact yw L F σ H _ ⟨g,s,ts,j,x,p,λl f g1 H1 m e h0 a n hl r=>AD k m e h0 a n hl r⟩
 .refine bX (z7 ls E G y u K Fr b z v he w A I) λD σ H d=>?_
  obtain⟨g,s,o,s',x,h,k⟩:=d;obtain⟨⟨t,s2⟩,q,h⟩:=ae h;obtain⟨⟨ts,j⟩,p,q⟩:=ae q;cases q;cases h;exact yw L F σ H _ ⟨g,s,ts,j,x,p,λl f g1 H1 m e h0 a n hl r=>k _ (g1.grow<|upd g1.HF l<|.lst f) H1 (m.yk h0 a)<|(e.yk a n hl).set (t:=.lst ts) ⟨l,f,J,ak,r.same<|aS a⟩⟩
end
def WK{gt:TG}{d:FG}{w:B1}(he:PE X e<|tE B fa)(n:PG X tg gt)(y:qM B gt d w)(m:z5 [tg] e pos.line X.env=pure Zi)(l:iM [tg] e X.env=pure Y)
  (p:(iq [tg] X.env).map (·.2)=[th tg X.env]):PS X (.Assign [tg] e pos)<|tS B<|yi d fa:=bX (En he n m l p) λD σ H z=>by
 obtain⟨g,s,o,s',x,h,k⟩:=z;obtain⟨⟨t,c⟩,u,h⟩:=ae h;obtain⟨i,q,h⟩:=ae h;cases h;exact⟨g,s,t,c,x,u,λv g1 H1 j a f=>y.ok g1.al g1.HF H1 σ c.r t v i _ a.sub f (aq q) a.lc.len λb st=>k b g1 H1 j ⟨a.st,a.lc.sets J st⟩⟩
def Og(he:PE X e<|tE B fa):PS X (.Return (U e) pos)<|tS B<|ao fa:=bX (Ej he) λD σ H z=>by
 obtain⟨g,s,o,s',x,h,k⟩:=z;obtain⟨⟨t,b⟩,f,h⟩:=ae h;cases h;exact⟨g,s,t,b,x,f,λv g1 H1 d a c=>k v g1 H1 d a.st c⟩
def Rm:PS X (.Return Y pos)<|tS B<|ao<|cF .non:=bX JN λD σ H z=>by
 obtain⟨g,s,o,s',x,h,k⟩:=z;cases h;exact k _ g H .refl x.st J
def Rn(he:PE X e<|tE B fa)(d:fu e Y pos.line X.env=pure Zi):PS X (.Expr e pos)<|tS B<|bW fa:=bX (nH he d) λD σ H z=>by
 obtain⟨g,s,o,s',x,h,k⟩:=z;obtain⟨⟨t,b⟩,f,h⟩:=ae h;cases h;exact⟨g,s,t,b,x,f,λv g1 H1 c a i=>k σ g1 H1 c a⟩
def ĭ{A f:Ee}(i:PT X c<|tT B ft)(l:gY X A<|tS B F)(j:gY X f<|tS B u):PS X (.If c A f pos)<|tS B<|aO ft F u:=bX (Ek i l j) λD σ H z=>by
 obtain⟨g,s,o,s',x,h,k⟩:=z;obtain⟨⟨d,a⟩,m,h⟩:=ae h;refine⟨g,s,d,a,x,m,λg1 H1 e b=>?_⟩;cases d with
 |true=>exact ng ⟨g1,a,o,s',b,h,k.mv e⟩
 |false=>exact oR ⟨g1,a,o,s',b,h,k.mv e⟩
def dF{r:Fm}(h:lH r[i]?=U ts):r[i]?=U (U<|.ol ts):=by
 unfold lH at h;split at h
 .rename_i a;cases h;exact a
 .cases h
def SR.lM(x:SR B g H σ s)(h:s.r[i]?=U (U<|.ol ts)):∃l vs,σ[i]?=U (U<|.ref l)/\g.o l=U (.loc i)/\H l=U (.lst vs)/\aD B g.al g.HF ts vs:=by
 obtain⟨v,d,l,vs,rfl,c,b,a⟩:=x.lc.at_ i _ h;exact⟨l,vs,d,c,b,a⟩
def WL(he:PE X e<|tE B fa)(C:X.N[i]?=U y)(A:kg X.env.scope y)(hd:aX y)(E:fh y)(a:noStar e=O)(w:(ck.endLine == R.line)=O) :
  PS X (.Expr (.Call (.Attribute (.Name y q) "append" ck) [e] [] R) pos)<|tS B<|gf i fa:=by
 refine bX (nH (ES ud tH tG lC (bL C A hd E) (bq he dm<|aB a) (jx J) (nz (by rw[ed,a];rfl)<|by decide) w (aB a) J) J) λD σ H d=>?_
 obtain⟨g,s,o,s',x,h,k⟩:=d;obtain⟨M,L,h⟩:=ae h;obtain⟨⟨t,m⟩,K,h⟩:=ae h;obtain⟨ts,I,h⟩:=ae h;obtain⟨P,G,h⟩:=ae h;obtain⟨z,rfl⟩:=bC<|aq G;cases h;obtain⟨l0,Į,q1,q2,p,q4⟩:=x.lM<|dF<|aq L;refine⟨_,q1,.inl ⟨J,_,dW.of p⟩,g,s,t,m,x,K,λv g1 H1 u b n=>?_⟩;have c:=dF<|aq I;obtain⟨l,j,w1,w2,w3,w4⟩:=b.lM c;rw[q1]at w1;cases w1;obtain⟨f,r⟩:=b.chg c q1<|w4.app<|.one n;exact⟨l0,j,v,J,J,w3,by rw[<- w4.len,ez];exact eS z<|by decide,k σ g1 _ (u.trans r) f⟩
def WM{d:cC}(hc:X.calm=O)(hi:PI X tg d<|tI B fl)(hg:PG X tg gt)(Dr:qM B gt N S')(hb:gY X l<|tS B F)(hp:me (mX X) X.A X.env X.xe)
  (hs:∀x,e6 d X.env x=pure x):PS X (.For tg d l [] pos)<|tS B<|gT fl N F:=by
 refine bX (Et hp hc hi hg hb hs) λD σ H zz=>?_;obtain⟨g,s,o,s',x,h,k⟩:=zz;obtain⟨⟨xs,T⟩,e1,h⟩:=ae h;refine⟨g,s,xs,T,x,e1,λKt g1 H1 R x1 P=>?_⟩;refine⟨λi m j C=>m=xs.length-i/\i<=xs.length/\∃z s2,dq g1 H1 z C/\SR B z C j s2/\aZ N F (xs.drop i) s2=.ok (o,s'),
  ⟨xs.length,by simp,iU _,g1,T,.refl,x1,by rw[BW];exact h⟩,?_⟩
 rintro i m j C ⟨rfl,ZC,z,s2,I,G,f⟩
 have S:=I.fr.trans G.sub;by_cases eT:i<xs.length
 .have hx:xs[i]?=U xs[i]:=fQ eT
  rw[uW eT]at f;obtain⟨V,q1,f⟩:=ae f;obtain⟨⟨W,Q⟩,q2,f⟩:=ae f;refine .inr ⟨P.go i C S eT,λE H'=>∃g' s5,dq g1 H1 g' H'/\SR B g' H' E s5/\aZ N F (xs.drop<|i+1) s5=.ok (o,s'),
   by rintro E H' ⟨g',s5,a,b,c⟩;exact⟨xs.length-(i+1),zM eT<|ou i,J,eT,g',s5,a,b,c⟩,λv H3 y=>?_⟩
  obtain⟨t,Z,y2⟩:=P.yld i C v H3 S eT y;rw[hx]at Z;cases Z;obtain⟨Jx,WN,rx⟩:=y2 z.HF I.fr G.sub;have L:=G.grow WN;have M:=I.trans<|G.lI WN;refine Dr.ok z.al Jx H3 j s2.r _ v V _ L.sub (rx.mv I.pre<|aL.refl _) (aq q1) L.lc.len λσ4 st=>⟨z.grow Jx,⟨V,s2.m⟩,W,Q,⟨L.st,L.lc.sets J st⟩,q2,?_⟩;cases W with
  |nx=>exact λn u K q p=>⟨u,Q,M.trans q,p,f⟩
  |ct=>exact λn u K q p=>⟨u,Q,M.trans q,p,f⟩
  |bk=>
   cases f;exact λn u K q p=>k n u K ((R.trans M).trans q) p
  |rt t=>
   cases f;exact λv u K q p r=>k v u K ((R.trans M).trans q) p r
 .have e:i=xs.length:=D_ ZC<|zK eT
  subst e;rw[DX]at f;cases f;exact .inl ⟨P.stop _ C S J,k j z C (R.trans I) G⟩
def KP(n:Nat)(S:PT X c<|tT B ft)(T:gY X f<|tS B F)(R:me (mX X) X.A X.env X.xe):PS X (.While c f [] pos)<|tS B<|jS n ft F:=by
 refine bX (vg R S T) λD σ H P=>?_;obtain⟨g,s,o,s',x,h,k⟩:=P;refine⟨λm j G=>∃z s2,dq g H z G/\SR B z G j s2/\bu ft F m s2=.ok (o,s'),⟨n,g,s,.refl,x,h⟩,?_⟩
 rintro m j G ⟨z,s2,L,Q,e⟩
 cases m with
 |zero=>cases e
 |succ m=>
  obtain⟨⟨d,s3⟩,q1,e⟩:=ae e;refine⟨z,s2,d,s3,Q,q1,λN V K I=>?_⟩;cases d with
  |false=>
   cases e;exact oR<|k j N V (L.trans K) I
  |true=>
   obtain⟨⟨M,E⟩,q2,e⟩:=ae e;refine ng ⟨λu H'=>∃g' s5,dq g H g' H'/\SR B g' H' u s5/\bu ft F m s5=.ok (o,s'),by rintro u H' ⟨g',s5,a,b,c⟩;exact⟨m,ou m,g',s5,a,b,c⟩,?_⟩
   refine⟨N,s3,M,E,I,q2,?_⟩;have C:=L.trans K;cases M with
   |nx=>exact λi q y p l=>⟨q,E,C.trans p,l,e⟩
   |ct=>exact λi q y p l=>⟨q,E,C.trans p,l,e⟩
   |bk=>
    cases e;exact λi q y p l=>k i q y (C.trans p) l
   |rt t=>
    cases e;exact λv q y p l r=>k v q y (C.trans p) l r
end
section
def lN(r:aD B g.al g.HF ts vs):pe B g H (L2.start N vs)<|ts.map (λt=>U<|C.val t)++eQ (N.length-ts.length) Y:=by
 refine⟨by unfold L2.start;simp[r.len],λi c h=>?_⟩
 by_cases hi:i<ts.length
 .rw[jJ<|by simpa using hi,f6,fQ hi]at h
  cases h;obtain⟨v,b,a⟩:=r.get<|fQ hi;refine⟨v,?_,a⟩;unfold L2.start;rw[jJ<|by rw[cU,<- r.len];exact hi,f6,b];rfl
 .rw[gz<|by simpa using hi,DN]at h
  split at h<;>cases h
def nP{a n:Nat}(h:aH a n F ts m=.ok (t,m')):ts.length=a/\∃o s',F ⟨ts.map (λt=>U<|.val t)++eQ (n-ts.length) Y,m⟩=.ok (o,s')/\s'.m=m'/\(o=.rt t\/(o=.nx/\t=.non)):=by
 unfold aH at h;split at h
 .rename_i hl
  obtain⟨⟨o,s'⟩,b,h⟩:=ae h;refine⟨hl,o,s',b,?_⟩;cases o with
  |rt u=>cases h;exact⟨J,.inl J⟩
  |nx=>cases h;exact⟨J,.inr ⟨J,J⟩⟩
  |bk=>cases h
  |ct=>cases h
 .cases h
variable{P:dv}{K:bh}
structure vX(K:bh)(x qual:Str)(st:hF)(f:cq)(fd:ef):Prop where
 ex:∃(oc:bp)(od:Option cq)(dV kV doc pm:bp)(an:Option cq)(fX ct:bp)(oQ:Array D1),
  fd=BP x qual (kr st) (cu st) (aC st) dV kV doc pm an fX ct/\K.lookup f=U ⟨oc,od,.func fd,oQ⟩/\DI K fX qual=O
 kp:j9 K (.ref f)=O
def vX.ok{sp:Sp}(F:vX K x qual st f fd)(i:fW N ps<|aC st)(len:∀vs H Q E,sp vs H Q E->vs.length=ps.length)
  (j:∀(a:bp)(A:eh)(outer:List Env)(s:ax)(H:Hp)(vs:List V)(Q:VK)(E:XK),bj k (A.deeper<|Eb qual (aC st) s.z f a)->sp vs H Q E ->
   ∃t,gY (iK iL P w K mg base N qual (aC st) f a A outer s H E).qD (cu st) t/\t {nx:=λ_ H'=>Q .non H',rt:=Q} (L2.start N vs) H):cj P w K mg base iL (k+1) f fd ps sp:=by
 obtain⟨m,od,o,kV,e,l,an,a,ct,n,rfl,b,d⟩:=F.ex;refine NI b d i len λA outer s H vs Q E c g=>?_;obtain⟨t,h,q⟩:=j a A outer s H vs Q E c g;exact⟨t,h.qD,q⟩
def Rp(Fn:vX K x qual st f fd)(u:fW N ps<|aC st)
  (a:∀(b:bp)(A:eh)(outer:List Env)(s:ax)(H:Hp)(E:XK),bj k (A.deeper<|Eb qual (aC st) s.z f b)->gY (iK iL P w K mg base N qual (aC st) f b A outer s H E).qD (cu st) (tS B F)) :
  cj P w K mg base iL (k+1) f fd ps<|qw B<|aH ps.length N.length F:=by
 refine Fn.ok u (λd H Q E h=>?_) λb A outer s H d Q E j h=>?_
 .obtain⟨g,ts,m,t,i,x,r,h,_⟩:=h
  rw[<- r.len,(nP h).1]
 .obtain⟨g,ts,m,t,i,x,r,h,q⟩:=h
  obtain⟨_,o,s',n,rfl,l⟩:=nP h;refine⟨_,a b A outer s H E j,g,_,o,s',⟨x,lN r⟩,n,?_⟩;rcases l with rfl|⟨rfl,rfl⟩
  .exact λv g' H' p y e=>q v g' H' p y e
  .exact λc g' H' p y=>q _ g' H' p y.st J
def KQ(F:cj P w K mg base iL k f fd ps<|qw B fn):cj P w K mg base iL k f fd ps<|qw B<|aI fn:=F.imp λL H Q E h=>by
 obtain⟨g,ts,m,t,M,x,r,h,q⟩:=h;unfold aI at h;split at h
 case isFalse=>cases h
 rename_i D;cases e:fn ts []with
 |bad=>rw[e]at h;cases h
 |exc c fs s=>rw[e]at h;dsimp only at h;split at h<;>cases h
 |ok z=>
  rw[e]at h;dsimp only at h;split at h
  case isFalse=>cases h
  rename_i I;cases h;refine⟨⟨g.HF,λ_=>Y,[]⟩,ts,[],z.1,z.2,⟨x.sub,λb p e=>(by cases e),J,λk ob e=>(by simp at e)⟩,aD.no D r,e,λv A H' p y C=>?_⟩
  have keep:∀b p,g.o b=U p->H' b=H b/\A.HF b=Y:=λb q G=>by
   obtain⟨j,u,i⟩:=x.live b q G;obtain⟨d,a,_⟩:=p.rest b u i j J;exact⟨d.trans i.symm,a⟩
  refine q v ⟨A.HF,g.o,g.al⟩ H' ⟨p.fr,fH,λb u h n z=>?_,p.there⟩ (x.mv y.sub (λb p e=>?_) p.fr J λl p h _=>⟨h,(keep l p h).1⟩)<|Rep.no I C
  .obtain⟨d,a,_⟩:=p.rest b u h n J
   exact⟨d,a,z⟩
  .obtain⟨j,u,i⟩:=x.live b p e
   obtain⟨d,a⟩:=keep b p e;exact⟨a,u,d.trans i⟩
end
def SR.Oh{ob n:Ob}{a C dx:cq}(x:SR B g H σ s)(Z:Ko B g H k ob a C dx ns vs)(E:s.m[k]?=U ob)(G:n.c=ob.c)(y:d.length<=ns.length)(u:d.length=n.fs.length)
  (F:∀j c,n.fs[j]?=U c->∃v,d[j]?=U v/\bK B g H (.fld k j) c v) :
  dq g H g (upd H a<|.ins C dx<|ns.zip d)/\SR B g (upd H a<|.ins C dx<|ns.zip d) σ {s with m:=s.m.set k n}:=by
 have ne:∀l q,g.o l=U q->q≠.ob k->upd H a (.ins C dx<|ns.zip d) l=H l:=λl q hl p=>ai λz=>p (by rw[z,Z.o]at hl;cases hl;rfl)
 have sl:∀{q:jT}{c:_root_.D.C}{v:V},q≠.ob k->bK B g H q c v->bK B g (upd H a<|.ins C dx<|ns.zip d) q c v:=λp h=>bK.mv (g:=g) (g':=g) (aL.refl _) fH (λl hl=>⟨hl,ne l _ hl p⟩) h;refine⟨nK Z.o,⟨⟨λb w e=>?_,λb q e=>?_,by rw[iJ];exact x.st.len,λt A e=>?_⟩,x.lc.len,λi c e=>?_⟩⟩
 .have:b≠a:=λz=>by rw[z,(x.st.live a _ Z.o).1]at e;cases e
  rw[ai this];exact x.sub _ _ e
 .obtain⟨f,w,r⟩:=x.st.live b q e
  by_cases hb:b=a
  .exact⟨f,_,by rw[hb,ak]⟩
  .exact⟨f,w,by rw[ai hb];exact r⟩
 .by_cases Gv:k=t
  .subst Gv
   have I:k<s.m.length:=(dj.mp E).1;have e:(s.m.set k n)[k]?=U A:=e;rw[gy I]at e;cases e;exact .inl ⟨a,C,dx,ns,d,Z.al,Z.o,by rw[G];exact Z.cl,ak,y,u,λj c h=>let⟨v,f,r⟩:=F j c h;⟨v,f,sl (λz=>by cases z) r⟩⟩
  .have e:(s.m.set k n)[t]?=U A:=e
   rw[iu Gv]at e;refine(x.st.at_ t A e).mv (aL.refl _) fH λl q h p=>⟨h,ne l q h ?_⟩;rcases p with rfl|⟨j,rfl⟩
   .exact λz=>Gv (by cases z;rfl)
   .exact λz=>by cases z
 .obtain⟨v,f,r⟩:=x.lc.at_ i c e
  exact⟨v,f,sl (λz=>by cases z) r⟩
def CH{fs a:List C}{j:Nat}{c:C}(h:setAt fs j c=U a):(j<fs.length/\a=fs.set j c)\/(j=fs.length/\a=fs++[c]):=by
 unfold setAt at h;split at h
 .rename_i q;cases h;exact .inl ⟨q,J⟩
 .split at h
  .rename_i q;cases h;exact .inr ⟨q,J⟩
  .cases h
def KR(M:tQ X.K X.mg P){a C dx:cq}(z:P.an[f]?=U n)(x:SR (P.kt X) g H σ s)(Z:Ko (P.kt X) g H k ob a C dx ns vs)(t:s.m[k]?=U ob)(h:NY P.tab f c' ob=U u)
  (r:∀j,bK (P.kt X) g H (.fld k j) c' v):q_ X.K C/\cO X.K C n/\(ns.zip vs).length<1000 /\
  ∃p,L2.eg n v (ns.zip vs)=ns.zip p/\dq g H g (upd H a<|.ins C dx<|ns.zip p)/\SR (P.kt X) g (upd H a<|.ins C dx<|ns.zip p) σ {s with m:=s.m.set k u}:=by
 obtain⟨j,E,B⟩:=a_.mp h;obtain⟨I,A,rfl⟩:=d_.mp B;obtain⟨m,L,y,F⟩:=M.of Z.cl;have b:=tU z y E;have G:j<ns.length:=(dj.mp b).1;refine⟨F.cl,F.na _<|gZ b,by rw[DY];have:=F.nz;lia,?_⟩
 rcases CH A with⟨o,rfl⟩|⟨rfl,rfl⟩
 .refine⟨vs.set j v,Ay F.nd b Z.le<|by rw[Z.ln];exact o,?_⟩
  refine x.Oh Z t J (by rw[iJ];exact Z.le) (by rw[iJ,iJ];exact Z.ln) λi c e=>?_
  by_cases hi:j=i
  .subst hi
   rw[gy o]at e;cases e;exact⟨v,by rw[gy<|by rw[Z.ln];exact o],r j⟩
  .rw[iu hi]at e
   obtain⟨w,l,d⟩:=Z.f i c e;exact⟨w,by rw[iu hi];exact l,d⟩
 .refine⟨vs++[v],tR F.nd<|by rw[Z.ln];exact b,?_⟩
  refine x.Oh Z t J (by rw[cA,Z.ln];exact G) (by rw[cA,cA,Z.ln];rfl) λi c e=>?_
  by_cases hi:i<ob.fs.length
  .rw[jJ hi]at e
   obtain⟨w,l,d⟩:=Z.f i c e;exact⟨w,by rw[jJ<|by rw[Z.ln];exact hi];exact l,d⟩
  .rw[gz<|by lia]at e
   have q:i-ob.fs.length=0:=by
    have:=(dj.mp e).1
    simp at this;exact this
   rw[q]at e;cases e;exact⟨v,by rw[gz<|by rw[Z.ln];lia,Z.ln,q];rfl,r i⟩
def WO(Kt:tQ X.K X.mg P)(L:P.an[f]?=U n)(I:PE X o<|tE (P.kt X) fo)(he:PE X e<|tE (P.kt X) fa)(G:fu e (U<|.Attribute o n b_) pos.line X.env=pure Zi) :
  PS X (.Assign [.Attribute o n b_] e pos)<|tS (P.kt X)<|kF P.tab f fo fa:=bX (xY I he G) λD σ H z=>by
 obtain⟨g,s,oo,s',x,h,k⟩:=z;obtain⟨⟨t,i⟩,R,h⟩:=ae h;obtain⟨⟨tx,s2⟩,Q,h⟩:=ae h;cases tx<;>try(cases h;done)
 rename_i F;obtain⟨Jy,N,h⟩:=ae h;cases h;obtain⟨ob,p,m⟩:=a_.mp<|aq N;refine⟨g,s,t,i,x,R,λv T H1 E u A=>⟨T,i,_,s2,u,Q,λw S H2 b d y=>?_⟩⟩;obtain⟨a,rfl,M⟩:=y;rcases d.st.at_ F ob p with⟨a',C,W,ns,vs,Z⟩|⟨a',Z⟩
 case inr=>
  obtain⟨j,q,_⟩:=a_.mp m;obtain⟨l,q,_⟩:=a_.mp q;have z:(P.tab.map _)[ob.c]?=Y:=Z.nf;rw[f6,q]at z;cases z
 have:=Z.al.symm.trans M
 cases this;obtain⟨cl,na,hl,dQ,V,B,r⟩:=KR Kt L d Z p m (v:=v) λj=>A.mv b.pre b.fr;refine⟨a,C,W,_,J,Z.h,cl,na,hl,?_⟩;rw[V];exact k σ S _ ((E.trans b).trans B) r
end D
namespace L2
open PySem PySem.Spec PyProof.Rows
def KS{k1 k2 l k j pos}(h:PE X e c)(m:x.length<=de) :
  PE X (.JoinedStr [.Constant (.str x) k1 l,.FormattedValue e (-1) Y k,.Constant (.str y) k2 j] pos) λa H Q=>c a H λv H1=>∃z:Str,v=.str z/\x.length+z.length+y.length<=de/\Q (.str<|ij++x++z++y) H1:=by
 intro o s a H Q I q;have g:(ij++x).length=x.length:=by rw[n8];exact ow _
 refine JoinedStr_many<|n0<|ni ⟨by rw[g];exact m,n0<|FormattedValue_plain<|b7 (h o _ a H _ (I.tok _) q) λv A i=>?_⟩
 obtain⟨u,H1,p,r,z,n,b,q1⟩:=i;subst n;obtain⟨t,rfl⟩:=r;have f:(ij++x++z).length=x.length+z.length:=by rw[n8,g]
 have d:(ij++x++z++y).length=x.length+z.length+y.length:=by rw[n8,f]
 refine formatField_str (λw tk=>⟨by rw[f];exact eY (fJ ..) b,n0<|ni ⟨by rw[d];exact b,joinParts_nil ⟨.str<|ij++x++z++y,H1,p.tok _,⟨_,J⟩,q1⟩<|by rw[d];exact b⟩⟩) (by lia)
end L2
namespace D
open PySem L2
variable{X:Cx}{a b c e o:cC}{x y:Str}
section
variable{P:Pg}
theorem AE:∀{Ds:BM}{au:B2},Vals (Ds.map V.ref) au->au=Ds.map Value.ref
 |[],_,h=>by cases h;rfl
 |D::Ds,_,h=>by
  cases h with
  |cons p q=>
   cases p;rw[AE q];rfl
def Gw:fS X (.builtin "isinstance") λxs H Q=>∃(a C dx tp:cq)(fs:List (Str×V))(Ds:BM)(b:Bool),xs=[.ref a,.ref tp]/\H a=U (.ins C dx fs)/\q_ X.K C/\fG X.K (.ref C) "__class__" = U (U<|.builtin Mz) /\
  zg X.K (.builtin Mz) "__get__" = U (U<|.builtin "getset_descriptor.__get__")/\zh X.K (.builtin Mz)=U O/\BO X.K C (.type "object")=U O /\
  H tp=U (.tup<|Ds.map V.ref)/\DJ X.K (.ref C) (Ds.map Value.ref)=U b/\Q (.bl b) H:=by
 intro L s σ H xs B Q I r h;obtain⟨a,C,dx,tp,fs,Ds,b,rfl,x,cl,l,j,y,k,t,e,q⟩:=h;obtain⟨u,D,rfl,f,A⟩:=vals2 r;cases f;cases A;obtain⟨G,M,_⟩:=kj I.bA x;obtain⟨od,N,_⟩:=M.look;obtain⟨_,au,d,o,c,p,n,m⟩:=(show bV X.prog X.w H s.heap tp (.tup<|Ds.map V.ref)from I.bA tp _ t);have v:au=Ds.map Value.ref:=AE d;obtain⟨E,i,g,F⟩:=o;cases p;cases m;rw[v]at c;exact PySem.W.kia_tup (ML (cl.get _) cl.hd l j y k) I.iw N c e (λz=>nomatch z) λtk=>⟨.bl b,H,I.tok _,J,q⟩
def G.e_(g:G)(a:cq):G:={g with o:=λb=>if b=a then U (.ob g.al.length)else g.o b,al:=g.al++[a]}
theorem SR.e_{c:Nat}{C q dx:cq}(x:SR B g H σ s)(A:ib B c C ns)(nx:H q=Y)(nd:H dx=Y)(F:dx≠q) :
  dq g H (g.e_ q) (upd (upd H dx<|.own q) q<|.ins C dx [])/\SR B (g.e_ q) (upd (upd H dx<|.own q) q<|.ins C dx []) σ {s with m:=s.m++[⟨c,[]⟩]}:=by
 have nf:g.HF q=Y:=x.sub.free nx;have w:g.HF dx=Y:=x.sub.free nd;have no:∀l a,g.o l=U a->l≠q/\l≠dx:=λl a h=>by
  obtain⟨_,u,z⟩:=x.st.live l a h;exact⟨aJ z nx,aJ z nd⟩
 have p:∀l,l≠q->l≠dx->upd (upd H dx<|.own q) q (.ins C dx []) l=H l:=λl d f=>by rw[ai d,ai f]
 have y:∀l a,g.o l=U a->(g.e_ q).o l=U a:=λl a h=>by
  show(if l=q then U (jT.ob g.al.length)else g.o l)=_
  rw[cb (no l a h).1];exact h
 have pre:g.al <+: (g.e_ q).al:=zF _ _;refine⟨⟨aL.refl _,pre,λb u h n z=>?_,λb h=>?_⟩,⟨⟨λb u e=>?_,λb a e=>?_,?_,λk ob e=>?_⟩,x.lc.len,λi D e=>?_⟩⟩
 .have d:=aJ h nx
  have f:=aJ h nd;refine⟨(p b d f).trans h,n,?_⟩;show(if b=q then U (jT.ob g.al.length)else g.o b)=Y
  rw[cb d];exact z
 .by_cases d:b=q
  .subst d;exact nx
  .by_cases f:b=dx
   .subst f;exact nd
   .rw[p b d f]at h;exact h
 .have d:b≠q:=λz=>by rw[z]at e;have e:g.HF q=U u:=e;rw[nf]at e;cases e
  have f:b≠dx:=λz=>by rw[z]at e;have e:g.HF dx=U u:=e;rw[w]at e;cases e
  rw[p b d f];exact x.sub _ _ e
 .have e:(if b=q then U (jT.ob g.al.length)else g.o b)=U a:=e
  by_cases hb:b=q
  .subst hb;exact⟨nf,_,ak⟩
  .rw[cb hb]at e
   obtain⟨d,u,f⟩:=x.st.live b a e;obtain⟨t,r⟩:=no b a e;exact⟨d,u,(p b t r).trans f⟩
 .show(s.m++[_]).length=(g.al++[q]).length
  rw[cA,cA,x.st.len];rfl
 .have e:(s.m++[(⟨c,[]⟩:Ob)])[k]?=U ob:=e
  by_cases hk:k<s.m.length
  .rw[jJ hk]at e
   refine(x.st.at_ k ob e).mv (aL.refl _) pre λl a h _=>⟨y l a h,?_⟩;obtain⟨t,r⟩:=no l a h;exact p l t r
  .rw[gz<|by lia]at e
   have į:k-s.m.length=0:=by
    have:=(dj.mp e).1
    simp at this;exact this
   rw[į]at e;cases e;have E:k=g.al.length:=by have:=x.st.len;lia
   subst E;refine .inl ⟨q,C,dx,ns,[],?_,?_,A,?_,iU _,J,λj c h=>by simp at h⟩
   .show(g.al++[q])[g.al.length]?=U q
    rw[gz<|eA _,sP];rfl
   .show(if q=q then U (jT.ob g.al.length)else g.o q)=_
    rw[cv J]
   .rw[ak,M7]
 .obtain⟨v,d,f⟩:=x.lc.at_ i D e
  refine⟨v,d,bK.mv (g:=g) (g':=g.e_ q) (aL.refl _) pre (λl h=>⟨y l _ h,?_⟩) f⟩;obtain⟨t,r⟩:=no l _ h;exact p l t r
structure DnN(P:Pg)(Pr:dv)(w:ee)(K:bh)(mg:Str->D1)(base:ek)(k:Nat)(c:Nat)(x:Str)(f:Fn):Prop where
 ex:∃(C fi:cq)(fd:ef)(ps:Bi)(ns:Bi),ib (gU P K Pr w) c C ns/\mg x=U (.ref C)/\Mk K C fi/\cj Pr w K mg base iL k fi fd ps (qw (gU P K Pr w) f)/\Binds K fd ps []
def KU{c:Nat}(h:yh c f fl s=.ok (t,s')):∃ts s1 m',fl s=.ok (ts,s1)/\f (.own s1.m.length::ts) (s1.m++[⟨c,[]⟩])=.ok (.non,m')/\t=.own s1.m.length/\s'={s1 with m:=m'}:=by
 obtain⟨⟨ts,s1⟩,a,h⟩:=ae h;dsimp only at h;cases q:f (.own s1.m.length::ts) (s1.m++[⟨c,[]⟩])with
 |ok r=>
  rw[q]at h;obtain⟨u,m'⟩:=r;cases u<;>try(cases h;done)
  cases h;exact⟨ts,s1,m',a,q,J,J⟩
 |bad=>rw[q]at h;cases h
 |exc c fs s2=>rw[q]at h;cases h
def KW{c:Nat}{C:cq}{Q:VK}(p:ib B c C ns)(d:SR B g H σ s)(n:aD B g.al g.HF ts vs)(r:f (.own s.m.length::ts) (s.m++[⟨c,[]⟩])=.ok (.non,m'))
  (k:∀v g' H',dq g H g' H'->SR B g' H' σ {s with m:=m'}->Rep B g'.al g'.HF (.own s.m.length) v->Q v H'):∀q a,H q=Y->H a=Y->a≠q->qw B f (.ref q::(vs++[])) (upd (upd H a<|.own q) q<|.ins C a []) (λv t=>v=.non/\Q (.ref q) t) E0:=λq a nx nd o=>by
 obtain⟨b,j⟩:=d.e_ p nx nd o;rw[bG];have h:(g.e_ q).al[s.m.length]?=U q:=by
  show(g.al++[q])[s.m.length]?=U q;rw[d.st.len,gz<|eA _,sP];rfl
 refine vS (E:=E0) (ts:=.own s.m.length::ts) j ⟨_,vs,J,⟨q,J,h⟩,n.mv b.pre b.fr⟩ r λv g' H' e i l=>⟨l,k _ g' H' (b.trans e) i ⟨q,J,jw e.pre h⟩⟩
def Rr{k j c:Nat}(D:DnN P X.prog X.w X.K X.mg X.base k c x f)(u:bj j X.A)(r:k+1<=j)(E:PA X (e::es)<|tA (P.kt X) fl)(z:Gl X x)(N:aX x)(a:(e::es).all noStar=O) :
  PE X (.Call (.Name x p) (e::es) [] pos)<|tE (P.kt X)<|yh c f fl:=by
 obtain⟨C,V,W,ps,ns,G,y,M,F,B⟩:=D.ex;rw[ed,bZ]at a;refine aT (nI M F (u.mono r) z y B .nil mC E N (aB a.1)<|cT a.2) λσ H Q b=>?_;obtain⟨g,s,t,s',x,h,k⟩:=b;obtain⟨ts,l,S,L,I,rfl,rfl⟩:=KU h;exact⟨g,s,ts,l,x,L,λR T H1 q i n=>KW G i n I λv g' H' o d m=>k v g' H' (q.trans o) d m⟩
def tZ:cC->Option (cC×Bz×List tJ×Pos)
 |.Call f a k p=>U (f,a,k,p)
 |_=>Y
def asName:cC->Option Str
 |.Name x _=>U x
 |_=>Y
def jX:cC->Option (cC×Str×Pos)
 |.Attribute o f p=>U (o,f,p)
 |_=>Y
def jY(e:cC):Option<|Str×Bz×List tJ:=(tZ e).bind λq=>(asName q.1).map λf=>(f,q.2.1,q.2.2.1)
def lO{q}(h:tZ e=U q):e=.Call q.1 q.2.1 q.2.2.1 q.2.2.2:=by
 cases e<;>first|(cases h;done)|(cases h;rfl)
def bI(h:asName e=U x):∃p,e=.Name x p:=by
 cases e<;>first|(cases h;done)|(cases h;exact⟨_,J⟩)
def kN{q}(h:jX e=U q):e=.Attribute q.1 q.2.1 q.2.2:=by
 cases e<;>first|(cases h;done)|(cases h;rfl)
def fq{q}(h:jY e=U q):∃p pos,e=.Call (.Name q.1 p) q.2.1 q.2.2 pos:=by
 obtain⟨w,d,c⟩:=a_.mp h;obtain⟨f,b,rfl⟩:=d_.mp c;obtain⟨p,a⟩:=bI b;rw[lO d,a];exact⟨_,_,J⟩
def kO{α b:Type}:List α->List b->Option α
 |[a],[]=>U a
 |_,_=>Y
def du{α c:Type}{a:α}{as:List α}{ks:List c}(h:kO as ks=U a):as=[a]/\ks=[]:=by
 match as,ks,h with
 |[b],[],h=>cases h;exact⟨J,J⟩
def nm1(e:cC):Option<|Str×cC:=(jY e).bind λq=>(kO q.2.1 q.2.2).map λa=>(q.1,a)
def KY{q}(h:nm1 e=U q):∃p pos,e=.Call (.Name q.1 p) [q.2] [] pos:=by
 revert h;refine Nw λu c=>λh=>?_;obtain⟨a,b,rfl⟩:=d_.mp h;obtain⟨p,r,g⟩:=fq c;obtain⟨f,d⟩:=du b;exact⟨p,r,by rw[g,f,d]⟩
def at1(e:cC):Option<|cC×Str×cC:=(tZ e).bind λq=>(jX q.1).bind λw=>(kO q.2.1 q.2.2.1).bind λa=>if noStar a=O/\(w.2.2.endLine == q.2.2.2.line)=O then U (w.1,w.2.1,a)else Y
def KZ(h:at1 e=U (o,m,a)):noStar a=O/\∃c cp,e=.Call (.Attribute o m c) [a] [] cp/\(c.endLine == cp.line)=O:=by
 revert h;refine Nw λu g=>Nw λw f=>Nw λb d=>λh=>?_;obtain⟨⟨q1,q2⟩,h⟩:=gv.mp h;cases h;obtain⟨j,i⟩:=du d;exact⟨q1,_,_,by rw[lO g,kN f,j,i],q2⟩
def AF:hF->Option (Str×Str×cC)
 |.Assign ts e _=>(match ts with
  |[t]=>(jX t).bind λq=>(asName q.1).map λs=>(s,q.2.1,e)
  |_=>Y)
 |_=>Y
def t_{q}(h:AF st=U q):∃b a pos,st=.Assign [.Attribute (.Name q.1 b) q.2.1 a] q.2.2 pos:=by
 cases st<;>try(cases h;done)
 rename_i ts e pos
 match ts,h with
 |[t],h=>
  obtain⟨w,g,f⟩:=a_.mp<|show(jX t).bind _=U q from h;obtain⟨s,d,rfl⟩:=d_.mp f;obtain⟨p,c⟩:=bI d;rw[kN g,c];exact⟨_,_,_,J⟩
def ua(st:hF):Option<|Str×Str×Str:=(AF st).bind λw=>(asName w.2.2).map λq=>(w.1,w.2.1,q)
def yy{z:Str×Str×Str}(h:ua st=U z):∃b a c pos,st=.Assign [.Attribute (.Name z.1 b) z.2.1 a] (.Name z.2.2 c) pos:=by
 obtain⟨w,g,f⟩:=a_.mp h;obtain⟨q,e,rfl⟩:=d_.mp f;obtain⟨b,a,pos,rfl⟩:=t_ g;obtain⟨p,d⟩:=bI e;rw[d];exact⟨_,_,_,_,J⟩
def pH(N:Bi):Nat->Ee->Bi->Bool
 |_,[],[]=>O
 |i,st::rest,n::ns=>(match ua st with
  |some z=>decide (N[0]?=U z.1)&&decide (N[i]?=U z.2.2)&&decide (z.2.1=n)
  |none=>Zi)&&pH N (i+1) rest ns
 |_,_,_=>Zi
def ZI(K:bh):Nat->Bi->TS
 |_,[]=>Ei
 |i,n::ns=>UT (Ve K (ve 0) (ve i) n)<|ZI K (i+1) ns
theorem AG(c:∀(i:Nat)(x:Str),X.N[i]?=U x->kg X.env.scope x/\aX x/\fh x):∀(a:Ee)(ns:Bi)(i:Nat),pH X.N i a ns=O->gY X a (ZI X.K i ns)
 |[],[],_,_=>nG
 |[],_::_,_,h=>by cases h
 |st::rest,[],_,h=>by cases h
 |st::rest,n::ns,i,h=>by
  have h:((match ua st with
   |some z=>decide (X.N[0]?=U z.1)&&decide (X.N[i]?=U z.2.2)&&decide (z.2.1=n)
   |none=>Zi)&&pH X.N (i+1) rest ns)=O:=h
  rw[bZ]at h;obtain⟨b,l⟩:=h;cases e:ua st with
  |none=>rw[e]at b;cases b
  |some z=>
   rw[e]at b;simp only[bZ,c7]at b;obtain⟨⟨f,d⟩,rfl⟩:=b;obtain⟨p,o,m,pos,rfl⟩:=yy e;obtain⟨k,j,g⟩:=c 0 _ f;obtain⟨w1,w2,w3⟩:=c i _ d;exact g9 (xY (bL f k j g) (bL d w1 w2 w3) J)<|AG c rest ns (i+1) l
theorem AH{C q dx:cq}(cl:q_ K C):∀(ns d:Bi)(as c:List V)(H:Hp),(∀f∈ns,cO K C f)->(d++ns).Nodup->(d++ns).length<=100->c.length=d.length->as.length=ns.length->all=.ref q::(c++as)->H q=U (.ins C dx<|d.zip c) ->
  D.nx (L2.start N all) (upd H q<|.ins C dx<|(d++ns).zip<|c++as)->ZI K (c.length+1) ns D (L2.start N all) H
 |[],d,as,c,H,_,_,_,l,hl,g,m,k=>by
  have:as=[]:=M0.mp hl
  subst this;rw[bG,bG]at k;have e:upd H q (.ins C dx<|d.zip c)=H:=by
   funext b
   by_cases hb:b=q
   .subst hb;rw[ak,m]
   .rw[ai hb]
  rw[e]at k;exact k
 |n::ns,d,[],c,H,_,_,_,l,hl,g,m,k=>by cases hl
 |n::ns,d,v::as,c,H,j,nd,i,l,hl,g,m,k=>by
  have s:(L2.start N all)[c.length+1]?=U (U v):=by
   unfold L2.start;rw[jJ<|by rw[g];simp,f6,g,List.getElem?_cons_succ,gz<|eA _,sP];rfl
  have h0:(L2.start N all)[0]?=U (U<|.ref q):=by
   unfold L2.start;rw[jJ<|by rw[g];simp,f6,g];rfl
  have w:n∉d:=λz=>by
   rw[DZ]at nd;exact nd.2.2 n z n (eX ..) J
  refine⟨v,s,.ref q,h0,q,C,dx,d.zip c,J,m,cl,j n<|eX ..,?_,?_⟩
  .rw[DY];rw[cA]at i;lia
  .have u:L2.eg n v (d.zip c)=(d++[n]).zip (c++[v]):=by
    have:=tR (f:=n) (v:=v) (ns:=d++[n]) (vs:=c) (by
     rw[show d++n::ns=(d++[n])++ns by simp]at nd
     exact(DZ.mp nd).1) (by rw[l,gz<|eA _,sP];rfl)
    rw[<- this]
    congr 1
    have:∀(a:Bi)(b:List V)(r:Bi),b.length=a.length->a.zip b=(a++r).zip b:=by
     intro a
     induction a with
     |nil=>intro b r h;cases b with
      |nil=>simp
      |cons=>cases h
     |cons x a p=>intro b r h;cases b with
      |nil=>cases h
      |cons y b=>rw[sH,M8,sH,p b r<|by simpa using h]
    exact this d c [n] l
   rw[u];have o:=AH (N:=N) (all:=all) (D:=D) (q:=q) (dx:=dx) cl ns (d++[n]) as (c++[v]) (upd H q<|.ins C dx<|(d++[n]).zip<|c++[v]) (λf t=>j f<|bw _ t) (by simpa using nd) (by simpa using i) (by simp[l]) (by simpa using hl) (by rw[g];simp) ak (by
    rw[sU];simpa using k)
   rw[show(c++[v]).length+1=c.length+1+1 by simp]at o
   exact o
end
theorem pI:∀(k:Int)(ts:FC),(e9 k ts).length=ts.length
 |_,[]=>J
 |k,_::ts=>ey (· + 1)<|pI (k+1) ts
theorem AI:∀(k:Nat)(ts:FC)(i:Nat)(t:T),ts[i]?=U t->(e9 (k:Int) ts)[i]?=U (.tup [.int ((k+i:Nat):Int),t])
 |_,[],_,_,h=>by simp at h
 |k,_::ts,0,_,h=>by simp at h;subst h;rfl
 |k,_::ts,i+1,t,h=>by
  have:=AI (k+1) ts i t (by simpa using h)
  rw[show k+(i+1)=k+1+i by lia]
  exact this
def WQ(L:B.K=X.K)(m:Nat):∀σ H R,tI B (mH (m:Int) fa) σ H R->QA X.K m (tA B<|bQ fa bD) σ H R:=by
 rintro σ H R ⟨g,s,t,s',x,h,k⟩
 obtain⟨⟨tx,z⟩,D,h⟩:=ae h;obtain⟨ts,e,h⟩:=ae h;cases h;have e:=aq e;obtain⟨c,rfl,rfl⟩:∃c,tx=.lst c/\t=e9 m c:=by
  cases tx<;>first|(cases e;done)|(cases e;exact⟨_,J,J⟩)
 have C:bQ fa bD s=.ok ([.lst c],z):=by
  show(fa s).bind _=_;rw[D];rfl
 refine⟨g,s,_,_,x,C,λI E H1 A j b=>?_⟩;obtain⟨v,rfl,l,u,rfl,q1,b⟩:=cW b;refine⟨l,u,J,dW.of<|j.sub _ _ q1,k _ E H1 A j ⟨λi q s3 a=>?_,λi q x M s3 a y=>?_,λi q s3 a=>?_⟩⟩
 .rw[pI,b.len]at a
  exact⟨a,dW.of<|s3 _ _ q1⟩
 .obtain⟨p,d,n,G,rfl,rfl⟩:=y
  obtain⟨t1,F,f⟩:=b.Cu G;refine⟨_,AI m c i t1 F,λr w s5=>⟨upd r p<|.tup [.int ((m+i:Nat):Int),d],.new s5 n,p,[.int ((m+i:Nat):Int),d],J,mh.of ak,?_⟩⟩;have s6:=w.trans<|aS (o:=.tup [.int ((m+i:Nat):Int),d])<|s5.free n;exact⟨.int ((m+i:Nat):Int),[d],J,J,.one<|f.same s6⟩
 .rw[pI,b.len]at a
  exact⟨a,dW.of<|s3 _ _ q1⟩
def WS(i:B.K=X.K){b:Bz}{d:Nat}{e:Pos}(g:Gl X "enumerate")(f:X.mg "enumerate" = Y)(h:PE X a<|tE B fa)(c:noStar a=O):PI X (.Tuple b d e) (.Call (.Name "enumerate" p) [a] [] pos)<|tI B<|mH 0 fa:=
 vL (VO g f (nM h tN<|aB c)<|aB c)<|WQ i 0
def WU(j:B.K=X.K){b:Bz}{d k1:Nat}{f e kp:Pos}(h:Gl X "enumerate")(g:X.mg "enumerate" = Y)(i:PE X a<|tE B fa)(c:noStar a=O):PI X (.Tuple b d f) (.Call (.Name "enumerate" p) [a] [⟨U<|hJ "start",.Constant (.int 1) k1 e,kp⟩] pos)<|tI B<|mH 1 fa:=
 vL (QC h g (nM i tN<|aB c)<|aB c)<|WQ j 1
section
variable{P:Pg}
def AJ(d:c5 o=O)(a:es.all noStar=O)(hl:es.length<30)(b:(j.endLine == pos.line)=O):vU X o m j es pos:=by
 have c:methodCallForm (es.length+0) (hQ pos<|dn es X.env) (qr pos<|mB [] X.env)=O:=by
  unfold methodCallForm;rw[pF a];show(O&&O&&decide (es.length+0+0<30))=O;rw[cw<|show es.length+0+0<30 from eS hl<|by decide];rfl
 refine⟨(do return(<- importBound o X.env).getD O),?_⟩
 show(do
  let ov <- kx o m X.env (fC o X.env)
  rb j.atName
  methodCall o m j pos X.env ov (es.length+0) (hQ pos<|dn es X.env) (qr pos<|mB [] X.env))=_
 rw[jx d];unfold methodCall;rw[c];unfold calleeOf methodCallPos;rw[b];rfl
def K0{f C:cq}(Fn:vX K n qual st f fd)(m:fW N ps<|aC st)
  (e:∀(i:Nat)(x:Str),N[i]?=U x->kg (aC st) x/\aX x/\fh x) (g:pH N 1 (cu st) ns=O) (hl:ps.length=ns.length+1) (cl:q_ K C) (na:∀f∈ns,cO K C f) (nd:ns.Nodup) (nz:ns.length<=100) :
  cj Pr w K mg base iL (k+1) f fd ps<|spI C ns:=by
 refine Fn.ok m (λc H Q E h=>?_) λj A outer s H c Q E o h=>?_
 .obtain⟨x,l,a,rfl,b,_⟩:=h
  rw[eu,b,hl]
 .obtain⟨x,l,a,rfl,b,d,q⟩:=h
  refine⟨ZI K 1 ns,AG (X:=(iK iL Pr w K mg base N qual (aC st) f j A outer s H E).qD) e _ ns 1 g,?_⟩;exact AH (N:=N) (D:={nx:=λ_ H'=>Q .non H',rt:=Q}) cl ns [] a [] H na (by simpa using nd) (by simpa using nz) J b J (by simpa using d) (by simpa using q)
def spP(K:bh)(C:cq)(n:Str):Sp:=λb H Q _=>∃x a p ys,b=[.ref x,.ref p]/\H x=U (.ins C a [])/\dW K H p ys/\∀l,H l=Y->Q .non (upd (upd H l<|.lst ys) x<|.ins C a [(n,.ref l)])
def ue(st:hF):Option<|Str×Str×Str:=(AF st).bind λw=>(jY w.2.2).bind λc=>(match c.2.1,c.2.2 with
 |[a],[]=>if c.1=("list" : Str)then(asName a).map λq=>(w.1,w.2.1,q)else Y
 |_,_=>Y)
def vY{z:Str×Str×Str}(h:ue st=U z):∃i g d pl pc pos,st=.Assign [.Attribute (.Name z.1 i) z.2.1 g] (.Call (.Name "list" pl) [.Name z.2.2 d] [] pc) pos:=by
 obtain⟨w,o,n⟩:=a_.mp h;obtain⟨⟨f,as,j⟩,c,b⟩:=a_.mp n
 match as,j,c,b with
 |[a],[],c,b=>
  dsimp only at b;split at b
  .rename_i e
   obtain⟨q,m,rfl⟩:=d_.mp b;obtain⟨i,g,pos,rfl⟩:=t_ o;obtain⟨pl,pc,l⟩:=fq c;obtain⟨d,k⟩:=bI m;rw[l,k,e];exact⟨_,_,_,_,_,_,J⟩
  .cases b
def Gy{nm qual b q n:Str}{st j:hF}{f C:cq}(Fn:vX K nm qual st f fd)(F:fW N ps<|aC st)
  (z:cu st=[j]) (B:ue j=U (b,n,q)) (h0:N[0]?=U b) (d:N[1]?=U q) (c:∀(i:Nat)(x:Str),N[i]?=U x->kg (aC st) x/\aX x/\fh x) (v:mg "list" = Y) (y:(aC st).names.lookup ("list" : Str)=U .globalImplicit) (hl:ps.length=2) (cl:q_ K C) (na:cO K C n) :
  cj Pr w K mg base iL (k+1) f fd ps<|spP K C n:=by
 obtain⟨L,I,G,pl,pc,pos,rfl⟩:=vY B;refine Fn.ok F (λm H Q E h=>?_) λD A outer s H m Q E M h=>?_
 .obtain⟨x,g,p,ys,rfl,_⟩:=h
  exact hl.symm
 .obtain⟨x,g,p,ys,rfl,a,u,k⟩:=h
  obtain⟨t,r,o⟩:=c 0 _ h0;obtain⟨w1,w2,w3⟩:=c 1 _ d;rw[z];refine⟨_,jo<|xY (bL h0 t r o) (rn ko (X:=(iK iL Pr w K mg base N qual (aC st) f D A outer s H E).qD) y v Nz<|bq (bL d w1 w2 w3) dm) J,?_⟩;refine⟨.ref p,J,p,ys,J,.inl u,λl hl=>⟨.ref x,J,x,C,g,[],J,?_,cl,na,by decide,k l hl⟩⟩
  rw[ai (λe=>by subst e;rw[hl]at a;cases a)]
  exact a
structure DnP(P:Pg)(Pr:dv)(w:ee)(K:bh)(mg:Str->D1)(base:ek)(k:Nat)(c:Nat)(x:Str):Prop where
 ex:∃(C fi:cq)(fd:ef)(ps:Bi)(n:Str),ib (gU P K Pr w) c C [n]/\mg x=U (.ref C)/\Mk K C fi/\cj Pr w K mg base iL k fi fd ps (spP K C n)/\Binds K fd ps []
def Rt{k j c:Nat}(D:DnP P X.prog X.w X.K X.mg X.base k c x)(hr:bj j X.A)(lL:k+1<=j)(ha:PE X e<|tE (P.kt X) fa)(hg:Gl X x)(gB:aX x)(L:noStar e=O) :
  PE X (.Call (.Name x p) [e] [] pos)<|tE (P.kt X)<|dE (QM c) fa:=by
 obtain⟨C,fi,fd,ps,n,hC,hm,M,F,f⟩:=D.ex;refine aT (nI M F (hr.mono lL) hg hm f .nil mC (bq ha dm<|aB L) gB (aB L) J) λσ H Q S=>?_;obtain⟨g,s,t,s',z,h,k⟩:=S;obtain⟨⟨tx,s1⟩,h1,h⟩:=ae h;obtain⟨t',r,h⟩:=ae h;cases h;have r:=aq r;cases tx<;>try(cases r;done)
 rename_i ts;cases r;refine⟨g,s,_,_,z,h1,λv E H1 Z m T x a nx nd I=>?_⟩;obtain⟨q,d,rfl,hq,rr⟩:=T;have R:=Gr.new (o:=.own x) m.sub nd;have Ī:upd H1 a (.own x) x=Y:=by rw[ai<|et I];exact nx
 have i:H1 q=U (.lst d):=m.sub _ _ hq;have W:q≠a:=λe=>by subst e;rw[nd]at i;cases i
 have V:q≠x:=λe=>by subst e;rw[nx]at i;cases i
 refine⟨x,a,q,d,J,ak,dW.of<|by rw[ai V,ai W];exact i,λl hl=>⟨J,?_⟩⟩
 have y:l≠x:=λe=>by subst e;rw[ak]at hl;cases hl
 have G:upd H1 a (.own x) l=Y:=by rw[ai y]at hl;exact hl
 have ld:l≠a:=λe=>by subst e;rw[ak]at G;cases G
 have N:=Gr.new (o:=.lst d) R.sub G;have u:upd (upd H1 a<|.own x) l (.lst d) x=Y:=by rw[ai<|et y];exact Ī
 have g4:=Gr.new (o:=.ins C a [(n,.ref l)]) N.sub u;have e:upd (upd (upd (upd H1 a<|.own x) x<|.ins C a []) l<|.lst d) x (.ins C a [(n,.ref l)])=upd (upd (upd H1 a<|.own x) l<|.lst d) x (.ins C a [(n,.ref l)]):=by
  funext b
  by_cases f:b=x
  .subst f;rw[ak,ak]
  .rw[ai f,ai f]
   by_cases hb2:b=l
   .subst hb2;rw[ak,ak]
   .rw[ai hb2,ai hb2,ai f]
 rw[e];have B:=(R.trans N).trans g4;refine k _ (E.grow _) _ (Z.trans<|m.lI B) (m.grow B) ⟨x,C,a,[n],[.ref l],J,hC,ak,eA _,?_,.one ⟨l,d,J,?_,rr.same B.fr⟩⟩
 .show upd (upd (upd E.HF a<|.own x) l<|.lst d) x _ a=_
  rw[ai I,ai<|et ld,ak]
 .show upd (upd (upd E.HF a<|.own x) l<|.lst d) x _ l=_
  rw[ai y,ak]
theorem AK:∀{cs:B2}{bs:Fh},cs.length=bs.length->(∀(i:Nat)(c:bp)(b:Bool),cs[i]?=U c->bs[i]?=U b->oh K t c=U b)->DJ K t cs=U (bs.any id)
 |[],[],_,_=>J
 |[],_::_,h,_=>by cases h
 |_::_,[],h,_=>by cases h
 |c::cs,b::bs,hl,h=>by
  have d:=h 0 c b J J;have a:=AK (cs:=cs) (bs:=bs) (by simpa using hl) λi c b f e=>h (i+1) c b (by simpa using f) (by simpa using e)
  unfold DJ;rw[d];cases b with
  |true=>rfl
  |false=>exact a
def nameOf:cC->Option Str
 |.Name x _=>U x
 |_=>Y
def namesOf:Bz->Option Bi
 |[]=>U []
 |.Name x _::es=>(namesOf es).map (x::·)
 |_=>Y
theorem vZ{Ds:BM}:∀{es:Bz}{ys:Bi}{Ds:BM},namesOf es=U ys->ys.length=Ds.length->(∀(i:Nat)(y:Str)(D:cq),ys[i]?=U y->Ds[i]?=U D->Gl X y/\X.mg y=U (.ref D)/\aX y)->PA X es (λ_ H Q=>Q (Ds.map V.ref) H)
 |[],_,Ds,h,hl,_=>by
  cases h;cases Ds with
  |nil=>exact dm
  |cons=>cases hl
 |e::es,ys,Ds,h,hl,k=>by
  cases e<;>try(cases h;done)
  rename_i x f;obtain⟨d,a,rfl⟩:=d_.mp<|show(namesOf es).map (x::·)=U ys from h
  cases Ds with
  |nil=>cases hl
  |cons D Ds=>
   obtain⟨k1,k2,k3⟩:=k 0 x D J J;exact bq (nF (v:=.ref D) k1 k2 J k3) (vZ (Ds:=Ds) a (by simpa using hl) λi y D c b=>k (i+1) y D (by simpa using c)<|by simpa using b) J
def WX(Kt:tQ X.K X.mg P)(u:namesOf es=U ys)(hd:ys.length=ds.length)(E:∀(i d:Nat)(y:Str),ds[i]?=U d->ys[i]?=U y->P.cn[d]?=U y/\(P.fn[d]?).isSome=O/\Gl X y/\aX y)
  (hl:es.length<=100) (hm:X.mg "isinstance" = Y) (ha:PE X a<|tE (P.kt X) fa) (hg:Gl X "isinstance") (I:noStar a=O) :
  PE X (.Call (.Name "isinstance" p) [a,.Tuple es q jz] [] pos)<|tE (P.kt X)<|dE (iO P.sub ds) fa:=by
 have cls:∀(ds:B1)(ys:Bi),ys.length=ds.length->(∀(i d:Nat)(y:Str),ds[i]?=U d->ys[i]?=U y->P.cn[d]?=U y/\(P.fn[d]?).isSome=O/\Gl X y/\aX y)->∃Ds:BM,Ds.length=ds.length/\∀(i:Nat)(y:Str)(D:cq),ys[i]?=U y->Ds[i]?=U D->X.mg y=U (.ref D):=by
  intro ds
  induction ds with
  |nil=>intro ys hl _;exact⟨[],J,λi y D _ h=>by simp at h⟩
  |cons d ds B=>
   intro ys hl h;cases ys with
   |nil=>cases hl
   |cons y ys=>
    obtain⟨z,n,_⟩:=h 0 d y J J;obtain⟨ns,S⟩:=Du.mp n;obtain⟨D,F⟩:=Kt.cls d y ns z S;obtain⟨Ds,hD,k⟩:=B ys (by simpa using hl) λi d y f j=>h (i+1) d y (by simpa using f) (by simpa using j)
    refine⟨D::Ds,by simp[hD],λi R D' f j=>?_⟩
    cases i with
    |zero=>simp at f j;subst f j;exact F.gl
    |succ i=>exact k i R D' (by simpa using f) (by simpa using j)
 obtain⟨Ds,İ,w⟩:=cls ds ys hd E;have get:∀(i:Nat)(y:Str),ys[i]?=U y->∃d,ds[i]?=U d:=λi y h=>by
  have:=(dj.mp h).1
  exact⟨_,fQ<|by lia⟩
 have names:=vZ (X:=X) (Ds:=Ds) u (by rw[hd,İ]) λi y D f j=>by
  obtain⟨d,G⟩:=get i y f;obtain⟨_,_,h3,h4⟩:=E i d y G f;exact⟨h3,w i y D f j,h4⟩
 refine aT (f9 Gw hg hm u_ (bq ha (bq (ED names) dm J)<|aB I) (he:=aB I) (hpl:=J)) λσ H Q M=>?_;obtain⟨g,s,t,s',x,h,k⟩:=M;obtain⟨⟨tx,s1⟩,z,h⟩:=ae h;obtain⟨t',n,h⟩:=ae h;cases h;refine⟨g,s,_,_,x,z,λv g1 H1 p1 q Z=>?_⟩;have n:=aq n;cases tx<;>try(cases n;done)
 obtain⟨l,T,rfl⟩:=d_.mp n;obtain⟨b,C,dx,Fy,vs,rfl,hC,hq,hle,Ww,r⟩:=Z;obtain⟨m,Ħ,ħ,F⟩:=Kt.of hC;have cD:ys.length=es.length:=by
  have:∀(es:Bz)(ys:Bi),namesOf es=U ys->ys.length=es.length:=by
   intro es
   induction es with
   |nil=>intro ys h;cases h;rfl
   |cons e es B=>
    intro ys h;cases e<;>try(cases h;done)
    rename_i x px;obtain⟨N,z,rfl⟩:=d_.mp<|show(namesOf es).map (x::·)=U ys from h
    rw[eu,eu,B N z]
  exact this es ys u
 refine⟨by rw[cU,İ,<- hd,cD,ez];exact eY hl<|by decide,λW ı=>?_⟩
 have A:=Gr.new (o:=.tup<|Ds.map V.ref) q.sub ı;have Ĳ:=AK (K:=X.K) (t:=.ref C) (cs:=Ds.map Value.ref) (bs:=ds.map λd=>decide<|d∈l) (by rw[cU,cU,İ]) λi c bb f j=>by
  rw[f6]at f j;obtain⟨D,G,rfl⟩:=d_.mp f;obtain⟨d,L,rfl⟩:=d_.mp j;have hi:i<ys.length:=by rw[hd];exact(dj.mp L).1
  have e5:ys[i]?=U ys[i]:=fQ hi;obtain⟨f1,_⟩:=E i d _ L e5;exact Kt.sub _ d m _ C D l Ħ f1 F.gl (w i _ D e5 G) T
 refine⟨b,C,dx,W,_,Ds,_,J,A.sub _ _<|A.fr _ _ hq,F.cl,F.ca,Kt.gt.1,Kt.gt.2,F.mo,ak,Ĳ,?_⟩
 have:=k (V.bl<|ds.any λd=>decide<|d∈l) (g1.grow _) _ (p1.trans<|q.lI A) (q.grow A) J
 rw[DP];exact this
def v5(u v:B1):T->FK
 |.str l=>gd (l.length<=100000)<|.str<|u++l++v
 |_=>Y
def Ru{k1 k2:Nat}{g f e:Pos}(c:B.K=X.K)(i:PE X a<|tE B fa)(hl:x.length<=1000)(b:y.length<=1000) :
  PE X (.JoinedStr [.Constant (.str x) k1 g,.FormattedValue a (-1) Y f,.Constant (.str y) k2 e] pos)<|tE B<|dE (v5 x.cps.toList y.cps.toList) fa:=by
 obtain⟨⟨u⟩⟩:=x;obtain⟨⟨v⟩⟩:=y;have hl:u.length<=1000:=by rw[<- eo u];exact hl
 have b:v.length<=1000:=by rw[<- eo v];exact b
 refine aT (KS i<|by show(⟨u.toArray⟩:Str).length<=_;rw[eo,ez];exact eY hl<|by decide)<|FA c λB c al HF H x t tx Q sm d h k=>?_
 cases tx<;>try(cases h;done)
 rename_i n;obtain⟨z,rfl⟩:=bC h;obtain⟨rfl,j⟩:=d;refine⟨_,J,by show(⟨u.toArray⟩:Str).length+_+(⟨v.toArray⟩:Str).length<=_;rw[eo,eo,eo,ez];lia,k _ HF H (.refl sm) ⟨?_,by rw[cA,cA];show u.length+_+v.length<=_;lia⟩⟩
 show V.str _=V.str _
 congr 1
 show(⟨(((#[]:Array Nat)++u.toArray)++n.toArray)++v.toArray⟩:Str)=⟨(u++n++v).toArray⟩
 congr 1
 simp
def K2(o:B.K=X.K){c:Pos}(j:X.N[i]?=U y)(d:kg X.env.scope y)(hd:aX y)(n:fh y)(f:Gl X "len")(e:X.mg "len" = Y) :
  PE X (.Call (.Name "len" p) [.Name y c] [] pos)<|tE B<|jF i:=by
 refine aT (f9 vh f e tv (bq (bL j d hd n) dm J) (he:=J) (hpl:=J)) λσ H Q a=>?_;obtain⟨g,s,t,s',x,h,k⟩:=a;obtain⟨ts,m,h⟩:=ae h;cases h;obtain⟨l,b,w1,w2,w3,w4⟩:=x.lM<|dF<|aq m;exact⟨_,w1,_,_,J,.inl ⟨b,dW.of w3,w4.len⟩,k _ g H .refl x J⟩
def Rv(r:X.N[i]?=U y)(o:kg X.env.scope y)(hd:aX y)(C:fh y)(q:PE X b<|tE B fb)(p:jt b) :
  PE X (.Subscript (.Name y m) b pos)<|tE B<|Fv i fb:=by
 refine aT (EL tw (bL r o hd C) q p) λσ H Q d=>?_;obtain⟨g,s,t,s',x,h,k⟩:=d;obtain⟨G,h0,h⟩:=ae h;obtain⟨⟨ty,K⟩,z,h⟩:=ae h;obtain⟨ts,u,h⟩:=ae h;obtain⟨I,a,h⟩:=ae h;cases h;obtain⟨l,F,w1,w2,w3,w4⟩:=x.lM<|dF<|aq h0;refine⟨_,w1,g,s,ty,_,x,z,λv A H1 n c f=>?_⟩;obtain⟨L,D,q1,q2,j,q4⟩:=c.lM<|dF<|aq u;rw[w1]at q1;cases q1;have a:=aq a;cases ty<;>try(cases a;done)
 obtain⟨w,e,E⟩:=nO q4<|show atT ts _=U _ from a;exact⟨l,D,_,w,J,f,dW.of j,e,k w A H1 n c E⟩
def AL:T->T->FK
 |.int i,.int j=>U<|.int<|i+j
 |_,_=>Y
def WY(u:X.N.Nodup)(q:X.N[i]?=U x)(m:Loc X.env.scope x)(he:PE X e<|tE B fa)(r:L9 X x) :
  PS X (.AugAssign (.Name x b_) .Add e pos)<|tS B<|Fx AL i fa:=bX (PQ u q m he PR r) λD σ H b=>by
 obtain⟨g,s,o,s',z,h,k⟩:=b;unfold Fx at h;split at h
 .rename_i tx p
  obtain⟨⟨ty,d⟩,y,h⟩:=ae h;obtain⟨t,a,h⟩:=ae h;cases h;obtain⟨v,n,f⟩:=z.lc.at_ i _ p;have a:=aq a;cases tx<;>first|(cases a;done)|(cases ty<;>try(cases a;done))
  cases a;cases(show v=V.int _ from f);refine⟨_,n,g,s,_,d,z,y,λw A H1 l c j=>?_⟩;cases(show w=V.int _ from j);exact⟨_,_,J,J,k _ A H1 l<|c.set (t:=.int _) J⟩
 .cases h
def AM(K:bh)(mg:Str->D1)(x:Str)(t:T):Prop:=∃u v,mg x=U u/\RelV v u/\∀(B:KT)(al:BM)(H:Hp),B.K=K->Rep B al H t v
def WZ(h:AM X.K X.mg x t)(b:B.K=X.K)(a:Gl X x)(hd:aX x):PE X (.Name x pos)<|tE B<|cF t:=by
 obtain⟨u,v,e,d,c⟩:=h;exact kH (nF a e d hd) λal H=>c B al H b
end
def K3(neg:Bool):T->T->FK
 |x,.h_ a _=>(Fq x).map λk=>.bl<|if neg then !decide (k∈a)else decide (k∈a)
 |_,_=>Y
def aM(op:lp)(x y:T):FK:=match op,y with
 |.In,.h_ b a=>K3 Zi x<|.h_ b a
 |.NotIn,.h_ b a=>K3 O x<|.h_ b a
 |op,y=>KA op x y
def UA:Option (Option C)->Option (List Ky×FC)
 |U<|U<|.od ks ts=>U (ks,ts)
 |_=>Y
def v8:lp->Option Bool
 |.In=>U Zi
 |.NotIn=>U O
 |_=>Y
def W0(neg:Bool)(i:Nat)(a:FE):FE:=λs=>(a s).bind λp=>(cH<|UA p.2.r[i]?).bind λd=>(cH<|Fq p.1).bind λk=>.ok (.bl<|if neg then !decide (k∈d.1)else decide (k∈d.1),p.2)
def ĳ(i:Nat)(s:S):Bool:=(UA s.r[i]?).isSome
def AN(neg:Bool)(i:Nat)(a:FE):FE:=λs=>(a s).bind λp=>(cH<|lH p.2.r[i]?).bind λts=>(cH<|Dp p.1<|.lst ts).bind λb=>.ok (.bl<|if neg then !b else b,p.2)
def Rw(i:Nat)(s:S):Bool:=(lH s.r[i]?).isSome
def rO(op:lp)(neg:Bool)(i:Nat)(a:FE):FE:=λs=>if ĳ i s then W0 neg i a s else if Rw i s then AN neg i a s else bH (aM op) a (vF i) s
def Gz(i:Nat):FS:=λs=>.ok (.nx,jE s i<|.od [] [])
def kP(ks:List Ky)(ts:FC)(k:Ky)(t:T):List Ky×FC:=if k∈ks then(ks,(ks.zip ts).map λp=>if p.1=k then t else p.2)else(ks++[k],ts++[t])
def Oi(i:Nat)(b a:FE):FS:=λs=>(a s).bind λp=>(b p.2).bind λq=>(cH<|UA p.2.r[i]?).bind λ_=>(cH<|UA q.2.r[i]?).bind λd=>(cH<|Fq q.1).bind λk=>(cH<|gd (d.1.length<1000000) ()).bind λ_=>.ok (.nx,jE q.2 i<|let z:=kP d.1 d.2 k p.1;.od z.1 z.2)
def K4:B1->B1->B1:=Pf.fK
def pJ:T->FK
 |.str l=>gd (l.all (· < 128)=O/\l.length<=4000)<|.int ((K4 [] l).length:Nat)
 |_=>Y
def AO{a b:Ky}(h:o_ a=o_ b):a=b:=by
 cases a<;>cases b
 .injection h with h;rw[h]
 .cases h
 .cases h
 .injection h with h
  injection h with h
  have h:=ey wh h;dsimp only at h;rw[h]
def uf{v:V}(h:Fq t=U k)(r:Rep B al H t v):v=kV (o_ k):=by
 cases t<;>try(cases h;done)
 .cases h;exact r
 .cases h;exact r.1
theorem ug:∀{ks:List Ky}{vs:List V},ks.length=vs.length->∀k,(lE ((ks.map o_).zip vs)<|o_ k).isSome=decide (k∈ks)
 |[],_,_,k=>by simp[lE]
 |q::ks,[],h,_=>by cases h
 |q::ks,v::vs,h,k=>by
  rw[fV,sH];by_cases e:q=k
  .rw[ky (p:=(o_ q,v))<|by rw[e]]
   simp[e]
  .rw[kB (p:=(o_ q,v)) λz=>e<|AO z,ug (Ea.inj h) k]
   have:(k∈q::ks) ↔ (k∈ks):=⟨λz=>(bF.mp z).elim (λz=>dy z.symm e) id,bw _⟩
   simp only[this]
theorem AQ{v:V}(rt:Rep B al H t v):∀{ks:List Ky}{vs:List V}{ts:FC},ks.length=vs.length->aD B al H ts vs ->
  ((ks.map o_).zip vs).map (λa=>if a.1=o_ k then(a.1,v)else a)=(ks.map o_).zip ((ks.zip vs).map λp=>if p.1=k then v else p.2)/\ks.length=((ks.zip vs).map λp=>if p.1=k then v else p.2).length/\aD B al H ((ks.zip ts).map λp=>if p.1=k then t else p.2) ((ks.zip vs).map λp=>if p.1=k then v else p.2)
 |[],[],_,_,r=>⟨J,J,by cases ‹FC›<;>exact J⟩
 |q::ks,[],_,h,_=>by cases h
 |[],_::_,_,h,_=>by cases h
 |q::ks,u::vs,ts,h,r=>by
  cases ts with
  |nil=>cases(show u::vs=[]from r)
  |cons j ts=>
   obtain⟨i,l,e,c,d⟩:=r;cases e;obtain⟨b,g,f⟩:=AQ rt (ks:=ks) (vs:=vs) (ts:=ts) (Ea.inj h) d;refine⟨?_,?_,?_⟩
   .simp only[fV,sH]at b ⊢
    rw[b];by_cases e:q=k
    .rw[cv<|by rw[e],cv e]
    .rw[cb λz=>e<|AO z,cb e]
   .simp only[sH,fV,eu]
    rw[<- g]
   .simp only[sH,fV]
    refine⟨_,_,J,?_,f⟩;by_cases e:q=k
    .rw[cv e,cv e];exact rt
    .rw[cb e,cb e];exact c
def Rx{v:V}(hl:ks.length=vs.length)(r:aD B al H ts vs)(rt:Rep B al H t v) :
  ∃a,L2.putK ((ks.map o_).zip vs) (o_ k) v=((kP ks ts k t).1.map o_).zip a/\(kP ks ts k t).1.length=a.length/\aD B al H (kP ks ts k t).2 a:=by
 unfold L2.putK kP;rw[oV,ug hl];by_cases e:k∈ks
 .rw[cv<|cw e,cv e]
  obtain⟨d,c,b⟩:=AQ (k:=k) rt hl r;exact⟨_,d,c,b⟩
 .rw[cb<|by simpa using e,cb e]
  refine⟨vs++[v],?_,by simp[hl],r.app<|.one rt⟩
  rw[mV,List.zip_append<|by rw[cU];exact hl]
  rfl
def UB(neg:Bool):R2:=λx y H Q=>∃a o,y=.ref a/\Ff H a x o/\Q (.bl<|if neg then !o.isSome else o.isSome) H
def GA(d:X.A.units+1<mI):gE X (en .In)<|UB Zi:=λh s σ H x y v u Q I c b z=>by
 obtain⟨a,o,e,g,q⟩:=z;subst e
 obtain rfl:u=Value.ref a:=b
 exact þ d I g c λs3 f=>⟨.bl o.isSome,H,f,J,q⟩
def AR(d:X.A.units+1<mI):gE X (en .NotIn)<|UB O:=λh s σ H x y v u Q I c b z=>by
 obtain⟨a,o,e,g,q⟩:=z;subst e
 obtain rfl:u=Value.ref a:=b
 exact Kf d I g c λs3 f=>⟨.bl<|!o.isSome,H,f,J,q⟩
def Oj(neg:Bool):qK X (K3 neg)<|UB neg:=λB l al HF H x y t tx ty Q sm c b h k=>by
 unfold K3 at h;split at h
 case h_2=>cases h
 rename_i i ts;obtain⟨j,f,rfl⟩:=d_.mp h;obtain⟨a,g,rfl,e,d,m⟩:=b;rw[uf f c];refine⟨a,_,J,.k<|sm _ _ e,?_⟩;rw[ug d];exact k _ HF H (.refl sm) J
def nQ(g:bj k X.A):∃r,gE X (en op) r/\qK X (aM op) r:=by
 have f:X.A.units+1<mI:=by have:=g.units;lia
 obtain⟨r,e,d⟩:=QW (op:=op) g;have Ĵ:(∀x y,aM op x y=KA op x y)->∃r,gE X (en op) r/\qK X (aM op) r:=λz=>⟨r,e,by
  have:aM op=KA op:=funext λx=>funext λy=>z x y
  rw[this];exact d⟩
 cases op
 case In=>exact⟨_,e.or<|GA f,λB c al HF H x y t tx ty Q sm b a h k=>by
  unfold aM at h;split at h
  .exact .inr<|Oj Zi B c al HF H x y t tx _ Q sm b a h k
  .rename_i q;cases q
  .exact .inl<|d B c al HF H x y t tx _ Q sm b a h k⟩
 case NotIn=>exact⟨_,e.or<|AR f,λB c al HF H x y t tx ty Q sm b a h k=>by
  unfold aM at h;split at h
  .rename_i q;cases q
  .exact .inr<|Oj O B c al HF H x y t tx _ Q sm b a h k
  .exact .inl<|d B c al HF H x y t tx _ Q sm b a h k⟩
 all_goals exact Ĵ λx y=>by cases y<;>rfl
def Ry(h:B.K=X.K)(c:bj k X.A)(g:PE X a<|tE B fa)(f:PE X b<|tE B fb)(e:fv op b=Zi):PE X (.Compare a [op] [b] pos)<|tE B<|bH (aM op) fa fb:=by
 obtain⟨r,d,hl⟩:=nQ (op:=op) c;exact aT (ki d g f e)<|jb h hl
def K5(h:B.K=X.K)(c:bj k X.A)(g:PE X a<|tE B fa)(f:PE X b<|tE B fb)(e:fv op b=Zi):PT X (.Compare a [op] [b] pos)<|tT B<|aY<|bH (aM op) fa fb:=by
 obtain⟨r,d,hl⟩:=nQ (op:=op) c;exact Aj (jq d g f e) λσ H Q q=>jb h hl σ H _<|F7 q
def uh{d:List Ky×FC}(h:UA q=U d):q=U (U<|.od d.1 d.2):=by
 unfold UA at h;split at h
 .cases h;rfl
 .cases h
def SR.Rz(x:SR B g H σ s)(h:s.r[i]?=U (U<|.od ks ts)):∃l vs,σ[i]?=U (U<|.ref l)/\g.o l=U (.loc i)/\H l=U (.dK<|(ks.map o_).zip vs)/\ks.length=vs.length/\aD B g.al g.HF ts vs:=by
 obtain⟨v,e,l,vs,rfl,d,c,b,a⟩:=x.lc.at_ i _ h;exact⟨l,vs,e,d,c,b,a⟩
def GC:∀σ H Q,tE B (W0 neg i fa) σ H Q->Eu (UB neg) (tE B fa) (ve i) σ H Q:=by
 rintro σ H Q ⟨g,s,t,s',x,h,k⟩
 obtain⟨⟨tx,n⟩,f,h⟩:=ae h;obtain⟨d,e,h⟩:=ae h;obtain⟨o,c,h⟩:=ae h;cases h;refine⟨g,s,tx,_,x,f,λv j H1 p1 a b=>?_⟩;obtain⟨l,m,w1,w2,w3,w4,w5⟩:=a.Rz<|uh<|aq e;refine⟨_,w1,?_⟩;rw[uf (aq c) b];refine⟨l,_,J,.k w3,?_⟩;rw[ug w4];exact k _ j H1 p1 a J
def v9(a:X.A.units+1<mI)(h:v8 op=U neg):gE X (en op)<|UB neg:=by
 cases op<;>try(cases h;done)
 .cases h;exact GA a
 .cases h;exact AR a
def AS(m:B.K=X.K):∀σ H Q,tE B (AN neg i fa) σ H Q->Eu (vO X.K neg) (tE B fa) (ve i) σ H Q:=by
 rintro σ H Q ⟨g,s,t,s',x,h,k⟩
 obtain⟨⟨tx,q⟩,p,h⟩:=ae h;obtain⟨ts,o,h⟩:=ae h;obtain⟨b,n,h⟩:=ae h;cases h;refine⟨g,s,tx,_,x,p,λv f H1 p1 a j=>?_⟩;obtain⟨l,c,w1,w2,w3,w4⟩:=a.lM<|dF<|aq o;have d:=(a.st.live l _ w2).1;refine⟨_,w1,F4 (HF:=upd f.HF l<|.lst c) (ty:=.lst ts) m (λb u e=>?_) (j.mv fH<|aS d) ⟨l,c,J,ak,w4.mv fH<|aS d⟩ (aq n)<|k _ f H1 p1 a J⟩;by_cases hb:b=l
 .subst hb;rw[ak]at e;cases e;exact w3
 .rw[ai hb]at e;exact a.sub _ _ e
def rP(h:v8 op=U neg):gE X (en op)<|vO X.K neg:=by
 cases op<;>try(cases h;done)
 .cases h;exact F3
 .cases h;exact As
def W2(o:B.K=X.K)(m:bj k X.A)(n:v8 op=U neg)(e:PE X a<|tE B fa)(f:X.N[i]?=U y)(c:kg X.env.scope y)(hd:aX y)(j:fh y) :
  PE X (.Compare a [op] [.Name y l] pos)<|tE B<|rO op neg i fa:=by
 have p:X.A.units+1<mI:=by have:=m.units;lia
 obtain⟨r,u,hl⟩:=nQ (op:=op) m;have d:fv op (.Name y l)=Zi:=by cases op<;>rfl
 refine Gk (ι:=Option Bool) (C:=λ_=>True) (t:=λq=>match q with|some true=>Eu (UB neg) (tE B fa)<|ve i|none=>Eu (vO X.K neg) (tE B fa)<|ve i|some false=>Eu r (tE B fa)<|tE B<|vF i) (λq _=>?_) λσ H Q ⟨g,s,t,s',x,h,b⟩=>?_
 .match q with
  |some true=>exact ki (v9 p n) e (bL f c hd j) d
  |none=>exact ki (rP n) e (bL f c hd j) d
  |some false=>exact ki u e (Ak f c hd j) d
 .unfold rO at h
  split at h
  .exact⟨U O,trivial,GC σ H Q ⟨g,s,t,s',x,h,b⟩⟩
  .split at h
   .exact⟨Y,trivial,AS o σ H Q ⟨g,s,t,s',x,h,b⟩⟩
   .exact⟨U Zi,trivial,jb o hl σ H Q ⟨g,s,t,s',x,h,b⟩⟩
def RA(u:B.K=X.K)(o:bj k X.A)(p:v8 op=U neg)(f:PE X a<|tE B fa)(j:X.N[i]?=U y)(d:kg X.env.scope y)(hd:aX y)(l:fh y) :
  PT X (.Compare a [op] [.Name y n] pos)<|tT B<|aY<|rO op neg i fa:=by
 have v:X.A.units+1<mI:=by have:=o.units;lia
 obtain⟨r,w,hl⟩:=nQ (op:=op) o;have e:fv op (.Name y n)=Zi:=by cases op<;>rfl
 have D:=jq (pos:=pos) w f (Ak (B:=B) j d hd l) e;have C:=jq (pos:=pos) (v9 v p) f (bL j d hd l) e;have z:=jq (pos:=pos) (rP p) f (bL j d hd l) e;intro m b σ H Q I q;obtain⟨g,s,t,s',x,h,c⟩:=F7 q;unfold rO at h;split at h
 .exact C m b σ H Q I<|GC σ H _ ⟨g,s,t,s',x,h,c⟩
 .split at h
  .exact z m b σ H Q I<|AS u σ H _ ⟨g,s,t,s',x,h,c⟩
  .exact D m b σ H Q I<|jb u hl σ H _ ⟨g,s,t,s',x,h,c⟩
def GD(i:X.calm=O)(ā:X.mg "len" = Y)(Ă:X.mg "set" = Y)(j:PE X a<|tE B fa)(n:Gl X "len")(ă:Gl X "set")(f:noStar a=O) :
  PE X (.Call (.Name "len" p) [.Call (.Name "set" p1) [a] [] u] [] pos)<|tE B<|dE pJ fa:=by
 refine aT (Cs i ā Ă j n ă (aB f) J J J) λσ H Q c=>?_;obtain⟨g,s,t,s',x,h,k⟩:=c;obtain⟨⟨tx,q⟩,l,h⟩:=ae h;obtain⟨o,b,h⟩:=ae h;cases h;have b:=aq b;cases tx<;>try(cases b;done)
 obtain⟨z,rfl⟩:=bC b;refine⟨g,s,_,_,x,l,λv m H1 p1 d e=>?_⟩;obtain⟨rfl,r⟩:=e;refine⟨_,J,?_,?_,k _ m H1 p1 d J⟩
 .rw[List.all_toArray];exact z.1
 .rw[cM]
  show _+1<4096
  have:=z.2
  lia
def RC(t:X.N.Nodup)(p:X.N[i]?=U x)(m:Loc X.env.scope x)(r:L9 X x) :
  PS X (.Assign [.Name x b_] (.Dict [] [] dp) pos)<|tS B<|Gz i:=bX (iX t p m Fi J r) λD σ H z=>by
 obtain⟨g,s,o,s',x,h,k⟩:=z;cases h;intro q d;obtain⟨e,l,j⟩:=jU (u:=.dK []) x d;have f:=x.grow e;have p1:=x.lI e;refine k _ ((g.grow g.HF).own q<|.loc i) _ ⟨p1.fr,p1.pre,λb u h n z=>?_,p1.there⟩<|f.č (ks:=[]) (ts:=[]) (vs:=[]) j l ak J J;obtain⟨a,v,c⟩:=p1.rest b u h n z
 have:b≠q:=aJ h d
 exact⟨a,v,by show(if b=q then U (jT.loc i)else g.o b)=Y;rw[cb this];exact c⟩
def RD(L:bj k X.A)(he:PE X e<|tE B fa)(M:PE X b<|tE B fb)(P:X.N[i]?=U y)(G:kg X.env.scope y)(hd:aX y)(fj:fh y)
  (K:fu e (U<|.Subscript (.Name y m) b b_) pos.line X.env=pure Zi) :
  PS X (.Assign [.Subscript (.Name y m) b b_] e pos)<|tS B<|Oi i fb fa:=by
 have I:X.A.units+1<mI:=by have:=L.units;lia
 refine bX (Kg I (bL P G hd fj) M he K) λD σ H p=>?_;obtain⟨g,s,o,s',x,h,k⟩:=p;obtain⟨⟨t,j⟩,W,h⟩:=ae h;obtain⟨⟨tk,s2⟩,V,h⟩:=ae h;obtain⟨d0,T,h⟩:=ae h;obtain⟨d,S,h⟩:=ae h;obtain⟨F,R,h⟩:=ae h;obtain⟨_,Q,h⟩:=ae h;obtain⟨z,_⟩:=bC<|aq Q;cases h;refine⟨g,s,t,j,x,W,λv g1 H1 p1 f w=>?_⟩;obtain⟨l,vs,w1,w2,w3,w4,w5⟩:=f.Rz<|uh<|aq T;refine⟨_,w1,g1,j,tk,s2,f,V,λu Z H2 a c r=>?_⟩;have n:=uh<|aq S;obtain⟨l',dQ,q1,q2,C,q4,q5⟩:=c.Rz n;rw[w1]at q1;cases q1;obtain⟨UC,e1,e2,e3⟩:=Rx (k:=F) q4 q5<|w.mv a.pre a.fr;obtain⟨q,E⟩:=c.Ď n w1 e2 e3;rw[uf (aq R) r];refine⟨l,_,J,.k C ?_,?_⟩
 .rw[DY,cU,ez]
  have:d.1.length<1000000:=z
  lia
 .rw[e1]
  exact k σ Z _ ((p1.trans a).trans E) q
end D
namespace L2
open PySem PySem.Spec PyProof.Rows PySem.Builtin PySem.Builtin.Str
def GF{k2 j i pos}(h:PE X e b) :
  PE X (.JoinedStr [.FormattedValue e 114 Y j,.Constant (.str y) k2 i] pos) λa H Q=>b a H λv H1=>∃z:Str,v=.str z/\(pk z).length+y.length<=de/\∀x:Str,Q (.str x) H1:=by
 intro l s a H Q I q;refine JoinedStr_many<|n0<|wpAny_FormattedValue_repr<|b7 (h l _ a H _ (I.tok _) q) λv p g=>?_;obtain⟨n,H1,m,r,z,k,c,q1⟩:=g;subst k;obtain⟨t,rfl⟩:=r;have f:(ij++pk z).length=(pk z).length:=by rw[n8];exact ow _
 have d:(ij++pk z++y).length=(pk z).length+y.length:=by rw[n8,f]
 refine wpAny_pyReprObj_str ?_ (by lia)
 exact formatField_str (λo tk=>⟨by rw[f];lia,n0<|ni ⟨by rw[d];exact c,joinParts_nil ⟨.str<|ij++pk z++y,H1,m.tok _,⟨_,J⟩,q1 _⟩<|by rw[d];exact c⟩⟩) (by lia)
end L2
namespace D
open PySem L2
def ZJ:T->FK
 |.str l=>gd (l.length<=1000/\l.all (· < 1114112)=O)<|.str []
 |_=>Y
def mn:Int->Dx->Int
 |a,[]=>a
 |a,b::l=>mn (if b<a then b else a) l
end D
namespace D
open PySem L2 PyProof.Rows
def v_:Res α->Res α
 |.ok a=>.ok a
 |_=>.bad
def bO(f:FE):FE:=λs=>v_<|f s
def eV(F:FS):FS:=λs=>v_<|F s
def b8(c:FT):FT:=λs=>v_<|c s
def pK(f:FL):FL:=λs=>v_<|f s
def gW{a:α}(h:v_ x=.ok a):x=.ok a:=by cases x<;>first|exact h|cases h
def iA{x:Res α}(h:v_ x=.exc c fs s):False:=by cases x<;>cases h
def ba{x:Res α}{f:α->Res b}(h:x.bind f=.exc c fs s):x=.exc c fs s\/∃a,x=.ok a/\f a=.exc c fs s:=by
 cases x with
 |ok a=>exact .inr ⟨a,J,h⟩
 |bad=>cases h
 |exc _ _ _=>cases h;exact .inl J
def kQ{o:Option α}(h:cH o=.exc c fs s):False:=by cases o<;>cases h
abbrev XN:=List<|cq×Option Str
def XF(f:Option Str)(fs:FC)(d:Option cq)(H:Hp):Prop:=match f with
 |none=>d=Y/\fs=[]
 |some f=>∃i a,d=U a/\fs=[.int i]/\H a=U (XD a [(f,.int i)])
def XQ(N:XN)(E:XK)(c:Nat)(fs:FC)(H:Hp):Prop:=∃k,N[c]?=U k/\∀d,XF k.2 fs d H->E (.ref k.1) d H
def XR(B:KT)(N:XN)(E:XK)(g:G)(H:Hp)(c:Nat)(fs:FC)(s':S):Prop:=∀b a,dq g H b a->eU B b a s'.m->XQ N E c fs a
def XR.mv(k:XR B N E g H c fs s')(p:dq g H a H1):XR B N E a H1 c fs s':=λb d q=>k b d<|p.trans q
inductive yz(B:KT)(N:XN)(E:XK)(f:FE)(σ:L2.St)(H:Hp)(Q:VK):Prop where
 |ok g s t s' (x:SR B g H σ s) (h:f s=.ok (t,s')) (k:∀v g' H',dq g H g' H'->SR B g' H' σ s'->Rep B g'.al g'.HF t v->Q v H')
 |ex g s c fs s' (x:SR B g H σ s) (h:f s=.exc c fs s') (k:XR B N E g H c fs s')
inductive Ol(B:KT)(N:XN)(E:XK)(f:FL)(σ:L2.St)(H:Hp)(Q:List V->Hp->Prop):Prop where
 |ok g s ts s' (x:SR B g H σ s) (h:f s=.ok (ts,s')) (k:∀vs g' H',dq g H g' H'->SR B g' H' σ s'->aD B g'.al g'.HF ts vs->Q vs H')
 |ex g s c fs s' (x:SR B g H σ s) (h:f s=.exc c fs s') (k:XR B N E g H c fs s')
inductive tX(B:KT)(N:XN)(E:XK)(f:FS)(D:Ends)(σ:L2.St)(H:Hp):Prop where
 |ok g s o s' (x:SR B g H σ s) (h:f s=.ok (o,s')) (k:yx B g H D o s')
 |ex g s c fs s' (x:SR B g H σ s) (h:f s=.exc c fs s') (k:XR B N E g H c fs s')
inductive uO(B:KT)(N:XN)(f:Fn)(vs:List V)(H:Hp)(Q:VK)(E:XK):Prop where
 |ok g ts m t m' (x:eU B g H m) (r:aD B g.al g.HF ts vs) (h:f ts m=.ok (t,m')) (k:∀v g' H',dq g H g' H'->eU B g' H' m'->Rep B g'.al g'.HF t v->Q v H')
 |ex g ts m c fs s' (x:eU B g H m) (r:aD B g.al g.HF ts vs) (h:f ts m=.exc c fs s') (k:XR B N E g H c fs s')
section
variable{P:Pg}{e c o:cC}{fa fo:FE}{N:XN}{rest:Ee}{st:hF}{x y:Str}{f:Fn}
def W3(h:PE X e<|tE B fa):PE X e<|yz B N E<|bO fa:=aT h λσ H Q z=>by
 rcases z with⟨g,s,t,a,x,h,k⟩|⟨g,s,c,fs,a,x,h,k⟩
 .exact⟨g,s,t,a,x,gW h,k⟩
 .exact(iA h).elim
def RH:PA X []<|Ol B N E bD:=rH dm λσ H Q z=>by
 rcases z with⟨g,s,t,a,x,h,k⟩|⟨g,s,c,fs,a,x,h,k⟩
 .cases h
  exact k [] g H .refl x J
 .cases h
def K6(u:PE X e<|yz B N E fa)(r:PA X es<|Ol B N E fl)(q:dn (e::es) X.env=(Zi,fC e X.env)::dn es X.env):PA X (e::es)<|Ol B N E<|bQ fa fl:=rH (bq u r q) λσ H Q z=>by
 rcases z with⟨g,s,t,d,x,h,k⟩|⟨g,s,c,fs,d,x,h,k⟩
 .obtain⟨⟨tx,a⟩,j,h⟩:=ae h
  obtain⟨⟨ty,s2⟩,n,h⟩:=ae h;cases h;exact .ok g s tx a x j λv l H1 i b m=>.ok l a ty s2 b n λw y A f o p=>k (v::w) y A (i.trans f) o ⟨v,w,J,m.mv f.pre f.fr,p⟩
 .rcases ba h with h|⟨⟨tx,a⟩,j,h⟩
  .exact .ex g s c fs d x h k
  .rcases ba h with h|⟨⟨ty,s2⟩,n,h⟩
   .exact .ok g s tx a x j λv l H1 i b m=>.ex l a c fs d b h<|k.mv i
   .cases h
def yC{Q:VK}(x:SR B g H σ s)(r:aD B g.al g.HF ts vs)(h:f ts s.m=.ok (t,m'))(k:∀v g' H',dq g H g' H'->SR B g' H' σ {s with m:=m'}->Rep B g'.al g'.HF t v->Q v H'):uO B N f vs H Q E:=
 .ok g.aj ts s.m t m' x.st.aj r h λv g' H' p y a=>let⟨p2,x2⟩:=x.back p y;k v (G.back g g') H' p2 x2 a
def GG{c:Nat}(x:SR B g H σ s)(r:aD B g.al g.HF ts vs)(h:f ts s.m=.exc c fs s')(a:s2.m=s'.m)(k:XR B N E g H c fs s2):uO B N f vs H Q E:=
 .ex g.aj ts s.m c fs s' x.st.aj r h λb d p y=>let⟨p2,x2⟩:=x.back p y;k (G.back g b) d p2 (by rw[a];exact x2.st)
def call_exc{c:Nat}(h:af f ds fl s=.exc c fs s'):fl s=.exc c fs s'\/∃ts s1 s2,fl s=.ok (ts,s1)/\f (ts++ds) s1.m=.exc c fs s2/\s'={s1 with m:=s2.m}:=by
 rcases ba h with h|⟨⟨ts,s1⟩,a,h⟩
 .exact .inl h
 .dsimp only at h
  cases q:f (ts++ds) s1.m with
  |ok r=>rw[q]at h;cases h
  |bad=>rw[q]at h;cases h
  |exc c fs s2=>rw[q]at h;cases h;exact .inr ⟨ts,s1,s2,a,q,J⟩
structure W4(P:Pg)(Pr:dv)(w:ee)(K:bh)(mg:Str->D1)(base:ek)(N:XN)(k:Nat)(x:Str)(f:Fn):Prop where
 ex:∃(fa:cq)(fd:ef)(ps:Bi),cj Pr w K mg base (rD Pr w) k fa fd ps (uO (gU P K Pr w) N f)/\mg x=U (.ref fa)/\j9 K (.ref fa)=O/\Binds K fd ps []
def K7(G:Passes (rD X.prog X.w) X E)(D:W4 P X.prog X.w X.K X.mg X.base N k x f)(C:bj j X.A)(B:k<=j)(S:PA X (e::es)<|Ol (P.kt X) N E fl)(M:Gl X x)(T:aX x)(m:(e::es).all noStar=O) :
  PE X (.Call (.Name x p) (e::es) [] pos)<|yz (P.kt X) N E<|af f [] fl:=by
 obtain⟨ff,fd,ps,F,I,L,R⟩:=D.ex;rw[ed,bZ]at m;refine aT (zU F (C.mono B) M I L R .nil G S T (aB m.1)<|cT m.2) λσ H Q q=>?_;rcases q with⟨g,s,t,o,x,h,k⟩|⟨g,s,c,fs,o,x,h,k⟩
 .obtain⟨ts,d,m',n,a,rfl⟩:=gi h
  rw[bG]at a;exact .ok g s ts d x n λu V H1 l b i=>yC b (by rw[bG];exact i) a λv W Z z r y=>k v W Z (l.trans z) r y
 .rcases call_exc h with h|⟨ts,d,s2,n,a,rfl⟩
  .exact .ex g s c fs o x h k
  .rw[bG]at a
   exact .ok g s ts d x n λu V H1 l b i=>GG b (by rw[bG];exact i) a J<|k.mv l
structure ĵ(P:Pg)(Pr:dv)(w:ee)(K:bh)(mg:Str->D1)(base:ek)(N:XN)(k:Nat)(c:Nat)(m:Str)(f:Fn):Prop where
 ex:∃(Ca fa:cq)(fd:ef)(ps:Bi)(ns:Bi),ib (gU P K Pr w) c Ca ns/\q_ K Ca/\Meth K Ca m fa/\cj Pr w K mg base (rD Pr w) k fa fd ps (uO (gU P K Pr w) N f)/\Binds K fd ps []/\m∉ns
def rcv(c:Nat)(m:FR):T->Option Unit
 |.own k=>(m[k]?).bind λob=>if ob.c=c then U ()else Y
 |_=>Y
def AU{c:Nat}{u:Unit}(h:rcv c m t=U u):∃k ob,t=.own k/\m[k]?=U ob/\ob.c=c:=by
 cases t<;>try(cases h;done)
 obtain⟨ob,b,a⟩:=a_.mp<|show(m[_]?).bind _=U u from h;split at a
 .rename_i e;exact⟨_,ob,J,b,e⟩
 .cases a
def lP(c:Nat)(g:Fn)(o:FE)(fl:FL):FE:=λs=>(v_<|o s).bind λp=>(cH<|rcv c p.2.m p.1).bind λ_=>af g [] (bQ (cF p.1) fl) p.2
def GH(h:bQ (cF t) fl s=.ok (ts,s')):∃us,fl s=.ok (us,s')/\ts=t::us:=by
 obtain⟨⟨us,b⟩,a,h⟩:=ae<|show(fl s).bind _=_ from h;cases h;exact⟨us,a,J⟩
def K8{c:Nat}(h:bQ (cF t) fl s=.exc c fs s'):fl s=.exc c fs s':=by
 rcases ba (show(fl s).bind _=_ from h)with h|⟨_,_,h⟩
 .exact h
 .cases h
def AV{c:Nat}{S:cq}{G:TA}(M:ib (P.kt X) c S ns)(L:m∉ns)(K:∀σ H Q,Ol (P.kt X) N E fl σ H Q->G σ H Q)(z:yz (P.kt X) N E (lP c f fo fl) σ H Q) :
  vj S m (uO (P.kt X) N f) [] E (tE (P.kt X) fo) G σ H Q:=by
 have R:∀{vs:List V}{a:V}{p:Hp},uO (P.kt X) N f (a::vs) p Q E->uO (P.kt X) N f (a::(vs++[])) p Q E:=λ{vs a p} z=>by rw[bG];exact z
 rcases z with⟨g,s,t,I,x,h,k⟩|⟨g,s,d,fs,I,x,h,k⟩
 .obtain⟨⟨tx,i⟩,D,h⟩:=ae h
  obtain⟨_,C,h⟩:=ae h;obtain⟨ts,s2,m',B,n,rfl⟩:=gi h;obtain⟨j,A,rfl⟩:=GH B;rw[bG]at n;refine⟨g,s,tx,i,x,gW D,λv r H1 q e l=>?_⟩;obtain⟨a,F,vs,rfl,y⟩:=tW e M l<|.inl<|AU<|aq C;exact⟨a,F,_,J,y,jc L,K _ _ _<|.ok r i j s2 e A λo g2 p b u w=>R<|yC (ts:=tx::j) (vs:=.ref a::o) u ⟨_,o,J,l.mv b.pre b.fr,w⟩ n λv g' H' Z T W=>k v g' H' ((q.trans b).trans Z) T W⟩
 .rcases ba h with h|⟨⟨tx,i⟩,D,h⟩
  .exact(iA h).elim
  rcases ba h with h|⟨_,C,h⟩
  .exact(kQ h).elim
  refine⟨g,s,tx,i,x,gW D,λv r H1 q e l=>?_⟩;obtain⟨a,F,vs,rfl,y⟩:=tW e M l<|.inl<|AU<|aq C;refine⟨a,F,_,J,y,jc L,K _ _ _ ?_⟩;rcases call_exc h with h|⟨ts,s2,s3,B,n,rfl⟩
  .exact .ex r i d fs I e (K8 h)<|k.mv q
  .obtain⟨j,A,rfl⟩:=GH B
   rw[bG]at n;exact .ok r i j s2 e A λo g2 p b u w=>R<|GG (ts:=tx::j) (vs:=.ref a::o) u ⟨_,o,J,l.mv b.pre b.fr,w⟩ n J<|k.mv<|q.trans b
def K9{c k j:Nat}(h:Passes (rD X.prog X.w) X E)(D:ĵ P X.prog X.w X.K X.mg X.base N k c m f)(g:bj j X.A)(d:k<=j)(i:PE X o<|tE (P.kt X) fo)(p:PA X (e::es)<|Ol (P.kt X) N E fl)(b:(e::es).all noStar=O)(a:vU X o m ck (e::es) bB) :
  PE X (.Call (.Attribute o m ck) (e::es) [] bB)<|yz (P.kt X) N E<|lP c f fo fl:=by
 obtain⟨pl,a⟩:=a;obtain⟨u,fa,t,ps,ns,r,cl,M,s,n,l⟩:=D.ex;rw[ed,bZ]at b;exact aT (zV (pl:=pl) i cl M s (g.mono d) n .nil h p (aB b.1) (cT b.2) a) λσ H Q z=>AV r l (λ_ _ _ q=>q) z
def GI{c k j:Nat}(e:Passes (rD X.prog X.w) X E)(D:ĵ P X.prog X.w X.K X.mg X.base N k c m f)(d:bj j X.A)(b:k<=j)(i:PE X o<|tE (P.kt X) fo)(a:vU X o m ck [] bB) :
  PE X (.Call (.Attribute o m ck) [] [] bB)<|yz (P.kt X) N E<|lP c f fo bD:=by
 obtain⟨pl,a⟩:=a;obtain⟨v,fa,u,ps,ns,p,cl,M,r,n,l⟩:=D.ex;refine aT (vm (pl:=pl) i cl M r (d.mono b) n .nil e a) λσ H Q z=>AV p l (λσ H Q q=>?_) z;rcases q with⟨g,s,ts,t,x,h,q⟩|⟨_,_,_,_,_,_,h,_⟩
 .cases h
  exact q [] g H .refl x J
 .cases h
def RI{k j c n:Nat}(D:ĩ P X.prog X.w X.K X.mg X.base k c n x)(G:bj j X.A)(B:k+1<=j)(T:PA X (e::es)<|Ol (P.kt X) N E fl)(R:Gl X x)(W:aX x)(b:(e::es).all noStar=O) :
  PE X (.Call (.Name x p) (e::es) [] pos)<|yz (P.kt X) N E<|dh c n fl:=by
 obtain⟨C,f,fd,ps,ns,V,I,L,M,F,S⟩:=D.ex;rw[ed,bZ]at b;refine aT (nI M F (G.mono B) R L S .nil mC T W (aB b.1)<|cT b.2) λσ H Q u=>?_;rcases u with⟨g,s,t,l,x,h,k⟩|⟨g,s,d,fs,l,x,h,k⟩
 .obtain⟨⟨ts,v⟩,o,h⟩:=ae h
  dsimp only at h;split at h
  .rename_i hl
   cases h;refine .ok g s ts _ x o λi Z H1 y a m x dx nx nd z=>?_;have r:i.length=ns.length:=by rw[<- m.len,hl,I]
   refine⟨x,dx,i++[],J,by rw[bG,r],ak,J,?_⟩
   rw[bG,sU];obtain⟨q,rp⟩:=tY (c:=c) (ts:=ts) a V (B0 r) m nx nd z;exact k _ (Z.grow _) _ (y.trans<|a.lI q) (a.grow q) rp
  .cases h
 .rcases ba h with h|⟨⟨ts,v⟩,o,h⟩
  .exact .ex g s d fs l x h k
  .dsimp only at h
   split at h<;>cases h
def Ķ(h:PS X st<|tS B F):PS X st<|tX B N E<|eV F:=bX h λD σ H z=>by
 rcases z with⟨g,s,o,a,x,h,k⟩|⟨g,s,c,fs,a,x,h,k⟩
 .exact⟨g,s,o,a,x,gW h,k⟩
 .exact(iA h).elim
def W5:gY X []<|tX B N E az:=pj nG λD σ H z=>by
 rcases z with⟨g,s,o,a,x,h,k⟩|⟨g,s,c,fs,a,x,h,k⟩
 .cases h
  exact k σ g H .refl x
 .cases h
def RJ(n:PS X st<|tX B N E F)(m:gY X rest<|tX B N E u):gY X (st::rest)<|tX B N E<|ah F u:=pj (g9 n m) λD σ H z=>by
 rcases z with⟨g,s,o,b,x,h,k⟩|⟨g,s,c,fs,b,x,h,k⟩
 .obtain⟨⟨d,a⟩,l,h⟩:=ae h
  refine .ok g s d a x l ?_;cases d with
  |nx=>exact λe j H1 i f=>.ok j a o b f h<|k.mv i
  |rt t=>cases h;exact k
  |bk=>cases h;exact k
  |ct=>cases h;exact k
 .rcases ba h with h|⟨⟨d,a⟩,l,h⟩
  .exact .ex g s c fs b x h k
  .cases d with
   |nx=>exact .ok g s .nx a x l λe j H1 i f=>.ex j a c fs b f h<|k.mv i
   |rt t=>cases h
   |bk=>cases h
   |ct=>cases h
def ķ{a b:Ee}(n:PT X c<|tT B ft)(q:gY X a<|tX B N E F)(p:gY X b<|tX B N E u):PS X (.If c a b pos)<|tX B N E<|aO (b8 ft) F u:=bX (Ek n q p) λD σ H z=>by
 rcases z with⟨g,s,o,i,x,h,k⟩|⟨g,s,c,fs,i,x,h,k⟩
 .obtain⟨⟨d,e⟩,m,h⟩:=ae h
  refine⟨g,s,d,e,x,gW m,λl H1 j f=>?_⟩;cases d with
  |true=>exact ng<|.ok l e o i f h<|k.mv j
  |false=>exact oR<|.ok l e o i f h<|k.mv j
 .rcases ba h with h|⟨⟨d,e⟩,m,h⟩
  .exact(iA h).elim
  refine⟨g,s,d,e,x,gW m,λl H1 j f=>?_⟩;cases d with
  |true=>exact ng<|.ex l e c fs i f h<|k.mv j
  |false=>exact oR<|.ex l e c fs i f h<|k.mv j
def W6(r:X.N.Nodup)(p:X.N[i]?=U x)(m:Loc X.env.scope x)(he:PE X e<|yz B N E fa)(n:fu e (U<|.Name x b) pos.line X.env=pure Zi)(q:L9 X x) :
  PS X (.Assign [.Name x b] e pos)<|tX B N E<|aA i fa:=bX (iX r p m he n q) λD σ H z=>by
 rcases z with⟨g,s,o,a,x,h,k⟩|⟨g,s,c,fs,a,x,h,k⟩
 .obtain⟨⟨t,f⟩,w,h⟩:=ae h
  cases h;exact .ok g s t f x w λv u H1 l d j=>k _ u H1 l<|d.set j
 .rcases ba h with h|⟨_,_,h⟩
  .exact .ex g s c fs a x h k
  .cases h
def W7(he:PE X e<|yz B N E fa):PS X (.Return (U e) pos)<|tX B N E<|ao fa:=bX (Ej he) λD σ H z=>by
 rcases z with⟨g,s,o,a,x,h,k⟩|⟨g,s,c,fs,a,x,h,k⟩
 .obtain⟨⟨t,d⟩,l,h⟩:=ae h
  cases h;exact .ok g s t d x l λv j H1 i b f=>k v j H1 i b.st f
 .rcases ba h with h|⟨_,_,h⟩
  .exact .ex g s c fs a x h k
  .cases h
def RK(he:PE X e<|yz B N E fa)(i:fu e Y pos.line X.env=pure Zi):PS X (.Expr e pos)<|tX B N E<|bW fa:=bX (nH he i) λD σ H z=>by
 rcases z with⟨g,s,o,a,x,h,k⟩|⟨g,s,c,fs,a,x,h,k⟩
 .obtain⟨⟨t,d⟩,l,h⟩:=ae h
  cases h;exact .ok g s t d x l λv j H1 f b m=>k σ j H1 f b
 .rcases ba h with h|⟨_,_,h⟩
  .exact .ex g s c fs a x h k
  .cases h
def W8{A:Pos}(he:PE X e<|yz B N E fa)(L:X.N[i]?=U y)(K:kg X.env.scope y)(hd:aX y)(P:fh y)(b:noStar e=O)(I:(ck.endLine == bB.line)=O) :
  PS X (.Expr (.Call (.Attribute (.Name y A) "append" ck) [e] [] bB) pos)<|tX B N E<|gf i fa:=by
 refine bX (nH (ES ud tH tG lC (bL L K hd P) (bq he dm<|aB b) (jx J) (nz (by rw[ed,b];rfl)<|by decide) I (aB b) J) J) λD σ H p=>?_
 rcases p with⟨g,s,o,m,x,h,k⟩|⟨g,s,c,fs,m,x,h,k⟩
 .obtain⟨u,d,h⟩:=ae h
  obtain⟨⟨t,j⟩,S,h⟩:=ae h;obtain⟨ts,R,h⟩:=ae h;obtain⟨T,Q,h⟩:=ae h;obtain⟨z,rfl⟩:=bC<|aq Q;cases h;obtain⟨l0,Į,q1,q2,a,q4⟩:=x.lM<|dF<|aq d;refine⟨_,q1,.inl ⟨J,_,dW.of a⟩,.ok g s t j x S λv M H1 G f w=>?_⟩;have n:=dF<|aq R;obtain⟨l,r,w1,w2,w3,w4⟩:=f.lM n;rw[q1]at w1;cases w1;obtain⟨q,C⟩:=f.chg n q1<|w4.app<|.one w;exact⟨l0,r,v,J,J,w3,by rw[<- w4.len,ez];exact eS z<|by decide,k σ M _ (G.trans C) q⟩
 .rcases ba h with h|⟨u,d,h⟩
  .exact(kQ h).elim
  obtain⟨l0,Į,q1,q2,a,q4⟩:=x.lM<|dF<|aq d;refine⟨_,q1,.inl ⟨J,_,dW.of a⟩,?_⟩;rcases ba h with h|⟨⟨t,j⟩,_,h⟩
  .exact .ex g s c fs m x h k
  .rcases ba h with h|⟨_,_,h⟩
   .exact(kQ h).elim
   .rcases ba h with h|⟨_,_,h⟩
    .exact(kQ h).elim
    .cases h
end
def RX(B:KT)(N:XN)(E:XK)(g:G)(H:Hp)(D:Ends):Res (Out×S)->Prop
 |.ok p=>yx B g H D p.1 p.2
 |.exc c fs a=>XR B N E g H c fs a
 |.bad=>False
section
variable{P:Pg}{x:Str}{f:Fn}
def tX.of(x:SR B g H σ s)(h:F s=R)(k:RX B N E g H D R):tX B N E F D σ H:=by
 cases R with
 |ok q=>exact .ok g s q.1 q.2 x h k
 |exc c fs a=>exact .ex g s c fs a x h k
 |bad=>exact k.elim
def tX.to(z:tX B N E F D σ H):∃g s,SR B g H σ s/\RX B N E g H D (F s):=by
 rcases z with⟨g,s,o,a,x,h,k⟩|⟨g,s,c,fs,a,x,h,k⟩
 .exact⟨g,s,x,by rw[h];exact k⟩
 .exact⟨g,s,x,by rw[h];exact k⟩
def K_(n:Nat)(hc:PT X c<|tT B ft)(hb:gY X body<|tX B N E F)(Z:me (mX X) X.A X.env X.xe):PS X (.While c body [] pos)<|tX B N E<|jS n (b8 ft) F:=by
 refine bX (vg Z hc hb) λD σ H z=>?_;obtain⟨g,s,x,z⟩:=z.to;obtain⟨R,Q⟩:∃R,bu (b8 ft) F n s=R:=⟨_,J⟩;rw[show jS n (b8 ft) F s=R from Q]at z;refine⟨λm h L=>∃C s2,dq g H C L/\SR B C L h s2/\bu (b8 ft) F m s2=R,⟨n,g,s,.refl,x,Q⟩,?_⟩
 rintro m h L ⟨C,s2,V,S,e⟩
 cases m with
 |zero=>subst e;exact z.elim
 |succ m=>
  replace e:((b8 ft s2).bind λp=>if p.1 then(F p.2).bind λq=>(match q.1 with
   |.nx=>bu (b8 ft) F m q.2
   |.ct=>bu (b8 ft) F m q.2
   |.bk=>.ok (.nx,q.2)
   |.rt t=>.ok (.rt t,q.2))else .ok (.nx,p.2))=R:=e
  cases I:ft s2 with
  |bad=>rw[b8,I]at e;subst e;exact z.elim
  |exc _ _ _=>rw[b8,I]at e;subst e;exact z.elim
  |ok q=>
  obtain⟨d,s3⟩:=q;rw[b8,I]at e;refine⟨C,s2,d,s3,S,I,λg3 H3 T P=>?_⟩;have l:=V.trans T;cases d with
  |false=>
   have e:Res.ok (Out.nx,s3)=R:=e;subst e;exact oR<|z h g3 H3 l P
  |true=>
   replace e:((F s3).bind λq=>(match q.1 with
   |.nx=>bu (b8 ft) F m q.2
   |.ct=>bu (b8 ft) F m q.2
   |.bk=>.ok (.nx,q.2)
   |.rt t=>.ok (.rt t,q.2)))=R:=e
   refine ng ⟨λo M=>∃G s5,dq g H G M/\SR B G M o s5/\bu (b8 ft) F m s5=R,by rintro o M ⟨G,s5,a,b,c⟩;exact⟨m,ou m,G,s5,a,b,c⟩,?_⟩
   refine tX.of P J ?_;cases K:F s3 with
   |bad=>rw[K]at e;subst e;exact z.elim
   |exc c1 fs1 u=>rw[K]at e;subst e;exact XR.mv z l
   |ok q=>
    obtain⟨W,u⟩:=q;rw[K]at e;cases W with
    |nx=>exact λf k y j i=>⟨k,u,l.trans j,i,e⟩
    |ct=>exact λf k y j i=>⟨k,u,l.trans j,i,e⟩
    |bk=>
     have e:Res.ok (Out.nx,u)=R:=e;subst e;exact λf k y j i=>z f k y (l.trans j) i
    |rt t=>
     have e:Res.ok (Out.rt t,u)=R:=e;subst e;exact λv k y j i r=>z v k y (l.trans j) i r
def W9{f:FG}(hc:X.calm=O)(hi:PI X tg iter<|tI B fl)(hg:PG X tg gt)(Dr:qM B gt f S')(hb:gY X body<|tX B N E F)(hp:me (mX X) X.A X.env X.xe)
  (hs:∀x,e6 iter X.env x=pure x):PS X (.For tg iter body [] pos)<|tX B N E<|gT (pK fl) f F:=by
 refine bX (Et hp hc hi hg hb hs) λD σ H zz=>?_;obtain⟨g,s,x,z⟩:=zz.to;cases V:fl s with
 |bad=>unfold gT pK at z;rw[V]at z;exact z.elim
 |exc _ _ _=>unfold gT pK at z;rw[V]at z;exact z.elim
 |ok q=>
 obtain⟨xs,Z⟩:=q;obtain⟨R,hR⟩:∃R,aZ f F xs Z=R:=⟨_,J⟩;rw[show gT (pK fl) f F s=R by unfold gT pK;rw[V];exact hR]at z
 refine⟨g,s,xs,Z,x,V,λKt g1 H1 S x1 W=>?_⟩;refine⟨λi m h u=>m=xs.length-i/\i<=xs.length/\∃o s2,dq g1 H1 o u/\SR B o u h s2/\aZ f F (xs.drop i) s2=R,
  ⟨xs.length,by simp,iU _,g1,Z,.refl,x1,by rw[BW];exact hR⟩,?_⟩
 rintro i m h u ⟨rfl,ZC,o,s2,L,G,d⟩
 have Ro:=L.fr.trans G.sub;by_cases eT:i<xs.length
 .have hx:xs[i]?=U xs[i]:=fQ eT
  rw[uW eT]at d
  replace d:((cH<|f xs[i] s2.r).bind λr=>(F ⟨r,s2.m⟩).bind λp=>match p.1 with
   |.nx=>aZ f F (xs.drop<|i+1) p.2
   |.ct=>aZ f F (xs.drop<|i+1) p.2
   |.bk=>.ok (.nx,p.2)
   |.rt t=>.ok (.rt t,p.2))=R:=d
  cases q1:f xs[i] s2.r with
  |none=>rw[q1]at d;subst d;exact z.elim
  |some Q=>
  rw[q1]at d
  replace d:((F ⟨Q,s2.m⟩).bind λp=>match p.1 with
   |.nx=>aZ f F (xs.drop<|i+1) p.2
   |.ct=>aZ f F (xs.drop<|i+1) p.2
   |.bk=>.ok (.nx,p.2)
   |.rt t=>.ok (.rt t,p.2))=R:=d
  refine .inr ⟨W.go i u Ro eT,λC H'=>∃T s5,dq g1 H1 T H'/\SR B T H' C s5/\aZ f F (xs.drop<|i+1) s5=R,
   by rintro C H' ⟨T,s5,a,b,c⟩;exact⟨xs.length-(i+1),zM eT<|ou i,J,eT,T,s5,a,b,c⟩,λv H3 y=>?_⟩
  obtain⟨t,ht,y2⟩:=W.yld i u v H3 Ro eT y;rw[hx]at ht;cases ht;obtain⟨Jx,WN,rx⟩:=y2 o.HF L.fr G.sub;have P:=G.grow WN;have K:=L.trans<|G.lI WN;refine Dr.ok o.al Jx H3 h s2.r _ v Q _ P.sub (rx.mv L.pre<|aL.refl _) q1 P.lc.len λσ4 st=>tX.of (g:=o.grow Jx) (s:=⟨Q,s2.m⟩) ⟨P.st,P.lc.sets J st⟩ J ?_;cases e2:F ⟨Q,s2.m⟩with
  |bad=>rw[e2]at d;subst d;exact z.elim
  |exc c1 fs1 I=>rw[e2]at d;subst d;exact XR.mv z<|S.trans K
  |ok q=>
   obtain⟨o3,I⟩:=q;rw[e2]at d;cases o3 with
   |nx=>exact λj n M l k=>⟨n,I,K.trans l,k,d⟩
   |ct=>exact λj n M l k=>⟨n,I,K.trans l,k,d⟩
   |bk=>
    have d:Res.ok (Out.nx,I)=R:=d;subst d;exact λj n M l k=>z j n M ((S.trans K).trans l) k
   |rt t=>
    have d:Res.ok (Out.rt t,I)=R:=d;subst d;exact λv n M l k r=>z v n M ((S.trans K).trans l) k r
 .have e:i=xs.length:=D_ ZC<|zK eT
  subst e;rw[DX]at d;have d:Res.ok (Out.nx,s2)=R:=d;subst d;exact .inl ⟨W.stop _ u Ro J,z h o u (S.trans L) G⟩
def CI:FC->D2
 |[.int i]=>U i
 |_=>Y
def pL(h:CI ts=U i):ts=[.int i]:=by
 unfold CI at h;split at h<;>cases h;rfl
def GJ(d:Nat)(fl:FL):FS:=λs=>(v_<|fl s).bind λp=>(cH<|CI p.1).bind λi=>.exc d [.int i] p.2
def yD(d:Nat)(a:FE):FS:=λs=>(v_<|a s).bind λp=>.exc d [] p.2
structure ZK(K:bh)(P:dv)(w:ee)(mg:Str->D1)(base:ek)(C:cq)(f x:Str):Prop where
 ex:∃fI fd ps,E9 K C fI=O/\BN K (.ref fI)=O/\cj P w K mg base iL 1 fI fd ps (Dm C f)/\ü P w K mg base fI fd ps (Dm C f)/\ps.length=2/\Binds K fd ps []
 kp:j9 K (.ref C)=O
 at_:mg x=U (.ref C)
structure XM0(K:bh)(mg:Str->D1)(C:cq)(x:Str):Prop where
 ex:MO K C Qq "ValueError.__new__" = O
 at_:mg x=U (.ref C)
def GK{C:cq}(F:N[d]?=U (C,U fn))(Z:ye X E)(M:ZK X.K X.prog X.w X.mg X.base C fn x)(u:bj 2 X.A)(y:PA X (e::es)<|tA B fl)(v:Gl X x)(L:aX x)(j:(e::es).all noStar=O) :
  PS X (.Raise (U<|.Call (.Name x np) (e::es) [] bB) Y pos)<|tX B N E<|GJ d fl:=by
 obtain⟨T,S,ps,m1,m2,m3,_,_,m4⟩:=M.ex;rw[ed,bZ]at j;refine bX (Co Z m1 M.kp m2 m3 m4 u M.at_ y v L (aB j.1)<|cT j.2) λD σ H z=>?_;rcases z with⟨g,s,o,p,x,h,k⟩|⟨g,s,c,fs,p,x,h,z⟩
 .obtain⟨_,_,h⟩:=ae h
  obtain⟨_,_,h⟩:=ae h;cases h
 rcases ba h with h|⟨⟨ts,Q⟩,I,h⟩
 .exact(iA h).elim
 rcases ba h with h|⟨i,G,h⟩
 .exact(kQ h).elim
 cases h
 obtain rfl:=pL<|aq G
 refine⟨g,s,_,_,x,gW I,λP R H1 t b f=>?_⟩;obtain⟨n,f,rfl,q1,r⟩:=f;cases(show n=.int i from q1);cases(show f=[]from r);refine⟨_,J,λa hd=>?_⟩;have m:=Gr.jU (o:=XD a [(fn,V.int i)]) b.sub hd;obtain⟨k,l,q⟩:=z _ _ (t.trans<|b.lI m) (b.grow m).st;rw[F]at l;cases l;exact q (U a) ⟨i,a,J,J,ak⟩
def wa{C:cq}(w:N[d]?=U (C,Y))(Z:ye X E)(M:XM0 X.K X.mg C x)(u:PE X e b)(a:∀σ H(Q:Hp->Prop),tE B i σ H (λ_ H1=>Q H1)->b σ H λv H1=>[v].length=1/\Q H1)(r:Gl X x)(A:aX x)(p:noStar e=O) :
  PS X (.Raise (U<|.Call (.Name x np) [e] [] bB) Y pos)<|tX B N E<|yD d i:=by
 refine bX (E_ Z M.ex M.at_ u r A<|aB p) λD σ H z=>?_;rcases z with⟨g,s,o,m,x,h,k⟩|⟨g,s,c,fs,m,x,h,k⟩
 .obtain⟨_,_,h⟩:=ae h
  cases h
 .rcases ba h with h|⟨⟨t,l⟩,y,h⟩
  .exact(iA h).elim
  cases h;refine a σ H _ ⟨g,s,t,l,x,gW y,λv F H1 n j _=>?_⟩;obtain⟨G,f,q⟩:=k F H1 n j.st;rw[w]at f;cases f;exact q Y ⟨J,J⟩
end
section
variable{K:bh}
def AW(h:aH a n F ts m=.exc c fs s'):ts.length=a/\F ⟨ts.map (λt=>U<|.val t)++eQ (n-ts.length) Y,m⟩=.exc c fs s':=by
 unfold aH at h;split at h
 .rename_i hl
  refine⟨hl,?_⟩;rcases ba h with h|⟨⟨o,b⟩,d,h⟩
  .exact h
  .cases o<;>cases h
 .cases h
def La{st:hF}(Fn:vX K x qual st f fd)(R:fW e ps<|aC st)
  (b:∀(a:bp)(A:eh)(outer:List Env)(s:ax)(H:Hp)(E:XK),bj k (A.deeper<|Eb qual (aC st) s.z f a)->ye (iK (rD P w) P w K mg base e qual (aC st) f a A outer s H E) E ->
   gY (iK (rD P w) P w K mg base e qual (aC st) f a A outer s H E) (cu st) (tX B N E F)) :
  cj P w K mg base (rD P w) (k+1) f fd ps<|uO B N<|aH ps.length e.length F:=by
 obtain⟨T,od,W,kV,M,S,an,a,ct,V,rfl,C,L⟩:=Fn.ex;refine NI C L R (λn H Q E h=>?_) λA outer s H n Q E D h=>?_
 .rcases h with⟨g,ts,m,t,z,x,r,h,_⟩|⟨g,ts,m,c,fs,d,x,r,h,_⟩
  .rw[<- r.len];exact(nP h).1
  .rw[<- r.len];exact(AW h).1
 .refine⟨_,b a A outer s H E D ⟨λ_ _ h=>h,J,J,J,J⟩,?_⟩
  rcases h with⟨g,ts,m,t,z,x,r,h,q⟩|⟨g,ts,m,c,fs,d,x,r,h,q⟩
  .obtain⟨_,o,d,I,rfl,G⟩:=nP h
   refine .ok g _ o d ⟨x,lN r⟩ I ?_;rcases G with rfl|⟨rfl,rfl⟩
   .exact λv i j p y u=>q v i j p y u
   .exact λl i j p y=>q _ i j p y.st J
  .exact .ex g _ c fs d ⟨x,lN r⟩ (AW h).2 q
def RL(F:cj P w K mg base (rD P w) k f fd ps<|uO B N fn):cj P w K mg base iL k f fd ps<|qw B fn:=by
 have a:∀{b H Q E},qw B fn b H Q E->uO B N fn b H Q λ_ _ _=>False:=by
  rintro _ _ _ _ ⟨g,ts,m,t,l,x,r,h,q⟩;exact .ok g ts m t l x r h q
 refine⟨λb H Q E h=>F.len b H Q _<|a h,λA outer s H c i b Q E n u o j h=>gs (F.run A outer s H c i b Q _ n u o j<|a h) λr v d=>?_⟩;cases r with
 |ok p=>cases p<;>exact d
 |error e=>
  obtain⟨_,_,_,_,_,_,_,_,_,_,_,_,_,z⟩:=d;exact z.elim
def GL(F:cj P w K mg base (rD P w) k f fd ps<|uO B N fn):cj P w K mg base (rD P w) k f fd ps<|uO B N<|aI fn:=F.imp λT H Q E h=>by
 have go:∀{g:G}{ts:FC}{m:FR},eU B g H m->aD B g.al g.HF ts T->∀R,aI fn ts m=R->R≠.bad->(∀t M,R=.ok (t,M)->∀v I d,dq g H I d->eU B I d M->Rep B I.al I.HF t v->Q v d)->(∀c fs L,R=.exc c fs L->XR B N E g H c fs L)->uO B N fn T H Q E:=λ{g ts m} x r R h C q1 q2=>by
  have S:eU B ⟨g.HF,λ_=>Y,[]⟩ H []:=⟨x.sub,λb p e=>(by cases e),J,λk ob e=>(by simp at e)⟩
  have back:∀{i:G}{d:Hp},dq ⟨g.HF,λ_=>Y,[]⟩ H i d->aL i.HF d->dq g H ⟨i.HF,g.o,g.al⟩ d/\eU B ⟨i.HF,g.o,g.al⟩ d m:=λ{i d} p ys=>by
   have keep:∀b p,g.o b=U p->d b=H b/\i.HF b=Y:=λb q Z=>by
    obtain⟨V,u,D⟩:=x.live b q Z;obtain⟨s,j,_⟩:=p.rest b u D V J;exact⟨s.trans D.symm,j⟩
   refine⟨⟨p.fr,fH,λb u h n z=>?_,p.there⟩,x.mv ys (λb p e=>?_) p.fr J λl p h _=>⟨h,(keep l p h).1⟩⟩
   .obtain⟨s,j,_⟩:=p.rest b u h n J
    exact⟨s,j,z⟩
   .obtain⟨V,u,D⟩:=x.live b p e
    obtain⟨s,j⟩:=keep b p e;exact⟨j,u,s.trans D⟩
  unfold aI at h;by_cases hn:aK ts=O
  .rw[cv hn]at h
   cases e:fn ts []with
   |bad=>rw[e]at h;exact dy h.symm C
   |ok z=>
    rw[e]at h;dsimp only at h;by_cases EA:noOwn z.1=O
    .rw[cv EA]at h
     exact .ok _ ts [] z.1 z.2 S (aD.no hn r) e λv i d p y X=>let⟨a,b⟩:=back p y.sub;q1 _ _ h.symm v _ d a b<|Rep.no EA X
    .rw[cb EA]at h;exact dy h.symm C
   |exc c0 A W=>
    rw[e]at h;dsimp only at h;by_cases EA:aK A=O
    .rw[cv EA]at h
     exact .ex _ ts [] c0 A W S (aD.no hn r) e λi d p y=>let⟨a,b⟩:=back p y.sub;q2 _ _ _ h.symm _ d a b
    .rw[cb EA]at h;exact dy h.symm C
  .rw[cb hn]at h;exact dy h.symm C
 rcases h with⟨g,ts,m,t,M,x,r,h,q⟩|⟨g,ts,m,c,fs,L,x,r,h,q⟩
 .exact go x r _ h (λz=>nomatch z) (λ_ _ z=>by cases z;exact q) λ_ _ _ z=>nomatch z
 .exact go x r _ h (λz=>nomatch z) (λ_ _ z=>nomatch z) λ_ _ _ z=>by cases z;exact q
end
end D
namespace L2
open PySem PySem.W PyProof.Rows PySem.Calls PySem.Builtin PySem.Builtin.ObjectAttr PySem.Builtin.Getset_descriptor
section
variable{K:vT}{C a:cq}{A:eh}
def GN(X:K.In h)(c:pB K (.ref C) name=U (U f))(b:specialIn K f "__get__" = U (U g))(a:takesIn K f=U O) :
  sq M h (J5 (.ref x) (.ref C) name)<|.bind g f:=
 (ll X c).andThen<|(looks_specialIn X b).andThen<|(show sq M h (Kb (U f)<|U g) (U (g,f))from(looks_takesIn (M:=M) X a).andThen .now).andThen<|Looks.tag .now
def GO(X:K.In s.heap)(he:s.heap.get? x=U u)(c:u.cls=.ref C)(a:mroIn K C (.type "object")=U O)
  (h:R (.ok<|.ret<|.ref C) s):hZ (cx prog w) A (.call (.builtin "getset_descriptor.__get__") ⟨[.builtin Mz,.ref x,tp],[]⟩) R s:=by
 obtain⟨b,g,d,t,os⟩:=s;have e:sq (cx prog w) b (sr<|.ref x)<|.ref C:=c▸(og he).andThen .now;have L1:=pz (M:=cx prog w) X a;refine fw KF.slot_gs.plain KF.entry_gs<|KF.slot_gs.check _ _ _ _ _ _ _ _ KF.type_class (KF.args_gs _ _ _) ?_;unfold Builtin.«getset_descriptor.__get__» descrGet;rw[dga_obj];refine ag<|dk ?_;unfold descrGetter descrCheckInstance descrNameAndClass oB;simp only[KF.owner_class]
 repeat lk
 refine⟨kn _<|by decide +kernel,nu KF.entry_class ?_⟩
 unfold Builtin.«object.__class__» shownTypeOf
 repeat lk
 exact h
structure qN(K:vT)(C:cq):Prop where
 ga:pB K (.ref C) "__getattribute__" = U (U<|.builtin Mo)
 gn:pB K (.ref C) "__getattr__" = U Y
 cl:pB K (.ref C) "__class__" = U (U<|.builtin Mz)
 gt:specialIn K (.builtin Mz) "__get__" = U (U<|.builtin "getset_descriptor.__get__")
 tk:takesIn K (.builtin Mz)=U O
 mb:mroIn K C (.type "BaseException")=U O
 mo:mroIn K C (.type "object")=U O
def CJ(Z:qN K C)(X:K.In s.heap)(he:s.heap.get? a=U u)(i:u.cls=.ref C)(e:Q () s) :
  dg M A (ma Mo ⟨[.ref a,b],[]⟩) Q E s:=by
 obtain⟨h,g,d,t,os⟩:=s;have L0:sq M h (sr<|.ref a)<|.ref C:=i▸(og he).andThen .now;have L4:=pz (M:=M) X Z.mb;have f:builtinKind Mo = U .slot:=by decide +kernel
 have c:splitId Mo = U ("BaseException","__getattribute__"):=by decide +kernel
 have j:=F.args_bexc_ga (.ref a) b;simp only[ma,f,c];apply ag;unfold oB;refine ag<|L0.at<|L4.at ?_
 repeat (first|wp_step)
 exact e
def RM(Z:qN K C)(X:K.In s.heap)(he:s.heap.get? a=U u)(b:u.cls=.ref C)(h:Q (U<|.ref C) {s with toks:=s.toks+1}) :
  dg (cx prog w) A (getAttr? (.ref a) "__class__") Q E s:=by
 obtain⟨c,g,d,t,os⟩:=s;have L0:sq (cx prog w) c (sr<|.ref a)<|.ref C:=b▸(og he).andThen .now;have L1:=ll (M:=cx prog w) X Z.ga;have L2:=ll (M:=cx prog w) X Z.gn;have k:=GN (M:=cx prog w) (x:=a) X Z.cl Z.gt Z.tk;have j:=pz (M:=cx prog w) X Z.mb;have e:=F.excAttr_ValueError.ga.bind<|.ref a;have i:builtinKind Mo = U .slot:=by decide +kernel
 have f:splitId Mo = U ("BaseException","__getattribute__"):=by decide +kernel
 have ð:(hH Mo == hH "object.__getattribute__")=Zi:=by decide +kernel
 have ñ:(onTheHeap (Value.ref C)&&hH Mo == hH "object.__getattribute__")=Zi:=by rw[ð];rfl
 unfold getAttr? getAttrBy? getAttrBy;refine ag<|wpAny_mkText<|ag<|z4<|eJ<|ag<|L0.at<|ag<|L1.at ?_;dsimp only;rw[ñ,cb<|by decide]
 unfold getAttrByItsOwn;apply ag;show dg _ _ (sx (.ref C) "__getattr__") _ _ _;refine L2.at ?_;refine ag<|z4<|eJ ?_;show dg _ _ (p0 _ _ _) _ _ _;unfold p0;rw[e];refine ag<|dk ?_;refine f7<|fw F.excAttr_ValueError.ga.plain F.entry_bexc_ga ?_;refine CJ Z X he b ?_;unfold «object.__getattribute__»
 repeat ((fail_if_success (with_reducible show dg _ _ (PySem.call _ _ _) _ _ _));lk)
 refine f7<|GO X he b Z.mo ?_
 repeat lk
 exact h
end
section
variable{K:vT}
def AX(Z:qN K C):∃a,clsIn K C=U a:=by
 have h:=Z.mo;unfold mroIn at h;obtain⟨a,e,_⟩:=a_.mp h;exact⟨a,e⟩
def GP(Z:qN K C)(g:u.cls=.ref C):KitX K (.ref a) (.ref C) λh=>h.get? a=U u where
 ty:=λ_ _ _ e=>g▸(og e).andThen .now
 it:=λ_ _ X _=>by
  obtain⟨d,b⟩:=AX Z;unfold clsIn at b;split at b
  .rename_i l j f m c
   intro t r s o k q;unfold isType loadHead;exact ag<|yB (k _ _<|X _ _ c)<|dk q
  .cases b
 ne:=λh i p au n sl X ı=>by
  obtain⟨d,b⟩:=AX Z;refine Bool.eq_false_iff.mpr λq=>?_;have e:C=i:=Value.ref.inj<|beq_iff_eq.mp q;subst e;unfold clsIn at b;split at b
  .rename_i l j f m c
   have z:=(X _ _ c).symm.trans ı;cases z
  .cases b
 ca:=λX e k=>RM Z X e g k
end
end L2
namespace D
open PySem L2 PySem.W PyProof.Rows
def tEi(i:Nat)(a:cq)(d:Obj)(b:Bool):TE:=λc H Q=>c[i]?=U (U<|.ref a)/\H a=U (EX a d)/\Q (.bl b) H
def Om(i:Nat)(a:cq)(c:Obj)(bs:Fh):TA:=λb H Q=>b[i]?=U (U<|.ref a)/\H a=U (EX a c)/\Q (bs.map V.bl) H
def Ĺ(K:vT)(mg:Str->D1)(C:cq)(y:Str)(b:Bool):Prop:=aX y/\((∃D,mg y=U (.ref D)/\kitOne K (.ref C) (.ref D)=U b)\/∃T,mg y=Y/\hX y=U (.type T)/\y ≠ "__name__" /\ kitOne K (.ref C) (.type T)=U b)
section
variable{a C:cq}{i j:Nat}
def GQ(Z:qN X.K C)(h:R.cls=.ref C):fS X (.builtin "isinstance") λvs H Q=>∃c u b,vs=[.ref a,c]/\(∀d,RelV c d->d=u)/\H a=U (EX a R)/\kitOne X.K (.ref C) u=U b/\Q (.bl b) H:=by
 rintro l s j H vs k Q I r ⟨c,u,b,rfl,g,i,Ĳ,q⟩
 cases r with
 |cons f r=>
  cases r with
  |cons e r=>
   cases r;cases(show _=Value.ref a from f);cases g _ e;exact kia_one (GP Z h) I.iw (EX.at_<|I.bA a _ i) Ĳ (λz=>nomatch z) λtk=>⟨.bl b,H,I.tok tk,J,q⟩
def RN(Z:qN X.K C)(k:R.cls=.ref C)(F:Ĺ X.K X.mg C y b)(r:X.mg "isinstance" = Y)(l:X.N[i]?=U n)(h:kg X.env.scope n)(hd:aX n)(m:fh n)(j:Gl X "isinstance")(q:Gl X y) :
  PE X (.Call (.Name "isinstance" p) [.Name n pn,.Name y B] [] pos)<|tEi i a R b:=by
 obtain⟨o,⟨D,g,f⟩|⟨T,g,f,u,t⟩⟩:=F
 .exact aT (f9 (GQ Z k) j r u_ (bq (bL l h hd m) (bq (nF (v:=.ref D) q g J o) dm J) J) (he:=J) (hpl:=J)) λs H Q ⟨e,d,c⟩=>⟨.ref a,e,_,.ref D,b,J,λ_ z=>z,d,f,c⟩
 .exact aT (f9 (GQ Z k) j r u_ (bq (bL l h hd m) (bq (zR q g f (v:=.ty T) J u o) dm J) J) (he:=J) (hpl:=J)) λs H Q ⟨e,d,c⟩=>⟨.ref a,e,_,.type T,b,J,λ_ z=>z,d,t,c⟩
def RO:PA X []<|Om i a R []:=rH dm λ_ _ _ h=>h.2.2
def Lb(h:PE X e<|tEi i a R b)(g:PA X u<|Om i a R bs)(f:dn (e::u) X.env=(Zi,fC e X.env)::dn u X.env):PA X (e::u)<|Om i a R<|b::bs:=
 rH (bq h g f) λ_ _ _ ⟨d,c,j⟩=>⟨d,c,d,c,j⟩
def W_(Z:nk X.K C)(nf:cO X.K C f)(y:R.cls=.ref C)(l:R.data=.fields g)(t:R.dict=U d)(hl:fs.lookup f=U v)(z:X.N[i]?=U n)(m:kg X.env.scope n)(hd:aX n)(E:fh n) :
  PE X (.Attribute (.Name n pn) f pos) λb H Q=>b[i]?=U (U<|.ref a)/\H a=U (EX a R)/\H d=U (XD d fs)/\Q v H:=by
 intro G s b H Q I ⟨D,B,A,q⟩;refine zT J<|b7 (bL z m hd E G s b H (λx H1=>x=.ref a/\H1=H) I ⟨.ref a,D,J,J⟩) λu h e=>?_;obtain⟨x,H1,I1,j,ex,F⟩:=e;subst ex F
 obtain rfl:u=Value.ref a:=j
 obtain⟨⟨k,ns,_,r⟩,_⟩:=(show bV X.prog X.w H1 h.heap d (XD d fs)from I1.bA d _ A);obtain⟨u,p,c⟩:=iV.some_of (v:=v) (o:=k f) (by rw[<- hl];exact r f)
 exact ï I1.iw Z nf (EX.at_<|I1.bA a _ B) y l t ns p (qZ c) ⟨v,H1,I1.tok _,c,q⟩
end
def RQ{a d C:cq}{f:Obj}{v:V}
  (Z:nk X.K C) (nf:cO X.K C fn) (hc:f.cls=.ref C) (hw:f.data=.fields ws) (hn:f.dict=U d) (hz:b1.length+b2.length+b3.length<=1000) (GR:Up (.bl O) (tm ((b1++b2++b3).map V.bl) Y<|U 3)=O)
  (h1:PA X ò<|Om i a f b1) (h2:PA X ĺ<|Om i a f b2) (h3:PA X Vr<|Om i a f b3)
  (F:X.N.Nodup) (hN:X.N[i]?=U n) (hv:kg X.env.scope n) (hd:aX n) (fj:fh n)
  (p:X.N[j]?=U x) (L:Loc X.env.scope x) (I:kg X.env.scope x) (dx:aX x) (M:fh x) (fx:L9 X x)
  (hm:X.N[m]?=U y) (ly:Loc X.env.scope y) (fy:X.fn y=O\/X.env.scope.names.lookup y=U .local) :
  gY X [.Assign [.Name x p1] (.List ò q1) r1,.Assign [.Name x p2] (.BinOp (.Name x p3) .Add (.List ĺ q2) q3) r2,.Assign [.Name x p4] (.BinOp (.Name x p5) .Add (.List Vr q4) q5) r3,
   .If (.Compare (.Constant (.bool O) z1 s1) [.In] [.Subscript (.Name x s2) (.Slice Y (U<|.Constant (.int 3) z2 s3) Y s4) s5] s6) [.Assign [.Name y t1] (.Attribute (.Name n t2) fn t3) t4] [] t5]
   λE e H=>e[i]?=U (U<|.ref a)/\H a=U (EX a f)/\H d=U (XD d [(fn,v)])/\j<e.length/\j≠i/\∀l H1,(∀HF,aL HF H->Gr HF H HF H1)->H l=Y->H1 l=U (.lst<|(b1++b2++b3).map V.bl)->E.nx ((e.set j<|U<|.ref l).set m<|U v) H1:=by
 have lk:iT fn [(fn,v)]=U v:=by simp only[iT,nL]
 refine pj (g9 (iX F p L (oO h1) J fx)<|g9 (iX F p L (mw yc (bL p I dx M)<|oO h2) J fx)<|g9 (iX F p L (mw yc (bL p I dx M)<|oO h3) J fx)
 <|jo<|Ek (jq rq ND (vq zZ (bL p I dx M) zW<|zX Ef) J) (jo<|iX F hm ly (W_ (a:=a) Z nf hc hw hn lk hN hv hd fj) J fy) nG) ?_
 intro E e H zz;obtain⟨R,c,g,P,Xa,k⟩:=zz;have hz':1000<=de:=by decide
 have Q:∀v,(e.set j v)[i]?=U (U<|.ref a):=λv=>by rw[iu Xa];exact R
 have G:∀u w:Option V,(e.set j u).set j w=e.set j w:=λu w=>D0 ..;have na:∀{H':Hp}{l:cq}{b:cq}{o:HO},H' b=U o->H' l=Y->b≠l:=λh n z=>by rw[z,n]at h;cases h
 refine⟨R,c,by rw[cU];lia,λl1 D=>?_⟩
 have a1:=na c D;have d1:=na g D;refine⟨.ref l1,gy P,Q _,by rw[ai a1];exact c,by rw[cU];lia,λl2 s=>?_⟩
 have Ļ:l1≠l2:=na ak s;have a2:a≠l2:=na (by rw[ai a1];exact c) s
 have d2:d≠l2:=na (by rw[ai d1];exact g) s
 refine⟨l1,l2,_,_,J,J,by rw[ai Ļ];exact ak,ak,by rw[cU,cU];lia,λl3 B=>?_⟩
 have a3:a≠l3:=na (by rw[ai a2,ai a1];exact c) B
 have d3:d≠l3:=na (by rw[ai d2,ai d1];exact g) B
 refine⟨.ref l3,by rw[G];exact gy P,by rw[G];exact Q _,by rw[ai a3,ai a2,ai a1];exact c,by rw[cU];lia,λl4 r=>?_⟩
 have ļ:l3≠l4:=na ak r;have a4:a≠l4:=na (by rw[ai a3,ai a2,ai a1];exact c) r
 have d4:d≠l4:=na (by rw[ai d3,ai d2,ai d1];exact g) r
 refine⟨l3,l4,_,_,J,J,by rw[ai ļ];exact ak,ak,by rw[cA,cU,cU,cU];exact eY hz<|by decide,λl5 A=>?_⟩
 have a5:a≠l5:=na (by rw[ai a4,ai a3,ai a2,ai a1];exact c) A
 have d5:d≠l5:=na (by rw[ai d4,ai d3,ai d2,ai d1];exact g) A
 dsimp only[vf];rw[G,G];have e5:b1.map V.bl++b2.map V.bl++b3.map V.bl=(b1++b2++b3).map V.bl:=by rw[mV,mV]
 rw[e5];refine⟨.ref l5,gy P,3,J,l5,_,J,dW.of ak,λl6 t=>?_⟩;have a6:a≠l6:=na (by rw[ai a5,ai a4,ai a3,ai a2,ai a1];exact c) t
 have d6:d≠l6:=na (by rw[ai d5,ai d4,ai d3,ai d2,ai d1];exact g) t
 have Ľ:l5≠l6:=na ak t;refine⟨l6,_,J,.inl<|dW.of ak,J,?_,O,by rw[GR];rfl,ng ⟨Q _,?_,?_,?_⟩⟩
 .rw[bz];intro q hq;obtain⟨b,_,rfl⟩:=lr.mp<|uX<|zG hq;rfl
 .rw[ai a6,ai a5,ai a4,ai a3,ai a2,ai a1];exact c
 .rw[ai d6,ai d5,ai d4,ai d3,ai d2,ai d1];exact g
 .refine k l5 _ (λHF sm=>?_) ?_ (by rw[ai Ľ];exact ak)
  .have g1:=Gr.jU (o:=.lst<|b1.map V.bl) sm D
   have g2:=g1.trans<|Gr.jU (o:=.lst<|b2.map V.bl) g1.sub s;have W:=g2.trans<|Gr.jU (o:=.lst<|b1.map V.bl++b2.map V.bl) g2.sub B;have T:=W.trans<|Gr.jU (o:=.lst<|b3.map V.bl) W.sub r;have S:=T.trans<|Gr.jU (o:=.lst<|(b1++b2++b3).map V.bl) T.sub A;exact S.trans<|Gr.jU S.sub t
  .exact((aS D).trans<|(aS s).trans<|(aS B).trans<|aS r).free A
end D
namespace D
open PySem L2 PyProof.Rows
section
variable{P:Pg}
def ľ(P:Pg)(X:Cx)(N:XN)(aa:dH)(σ:L2.St)(g:G)(H:Hp)(c:Nat)(fs:FC)(s':S)(Ex:Kp):Prop:=∃k,N[c]?=U k/\∀a t d c2 f sa H1 e h b,Inv X aa σ f sa->b.os=sa.os->kz b.gens->Lies X.prog X.w X.stack f sa H1 h b.heap->jO h X.stack a (.ref k.1) (.ref t) (d,c2) b.heap->(d=Y->c2=.none)->dq g H e H1->SR (P.kt X) e H1 σ s'->XF k.2 fs d H1->Ex (.ref a) b
def Xb{Q:Kp}
  (Z:cj X.prog X.w X.K X.mg X.base (rD X.prog X.w) k R fd ps<|uO (P.kt X) N f) (hr:bj k X.A) (hb:Binds X.K fd ps []) (I:Inv X aa σ H s) (x:SR (P.kt X) g H σ ss) (n:Vals vs us) (r:aD (P.kt X) g.al g.HF ts vs)
  (D:(∃t m',f ts ss.m=.ok (t,m')/\∀u v S g' H',Inv X aa σ H' S->RelV v u->dq g H g' H'->SR (P.kt X) g' H' σ {ss with m:=m'}->Rep (P.kt X) g'.al g'.HF t v->Q u S)\/(∃c fs j,f ts ss.m=.exc c fs j/\ľ P X N aa σ g H c fs {ss with m:=j.m} Ex)) :
  Md X (call (.ref R) us) Q Ex s:=by
 have run:∀(o:VK)(p:XK),uO (P.kt X) N f vs H o p->hZ (mX X) X.A (.call (.ref R) ⟨us,[]⟩) (CR (rD X.prog X.w) X.stack X.prog X.w H s o p) s:=λo p sp=>by
  have hl:us.length=ps.length:=by rw[<- n.length];exact Z.len _ _ _ _ sp
  have T:=hb s us I.iw (by rw[bG];exact hl)
  rw[bG]at T;exact Z.run X.A X.stack s H ⟨us,[]⟩ us vs o p hr I.EE T n sp
 rcases D with⟨t,m',M,q⟩|⟨c,fs,j,M,F,hk,q⟩
 .refine f7<|gs (run (λv i=>∃h,dq g H h i/\SR (P.kt X) h i σ {ss with m:=m'}/\Rep (P.kt X) h.al h.HF t v) (λ_ _ _=>False)<|yC x r M λv g' H' l B n=>⟨g',l,B,n⟩) λr j b=>?_
  cases r with
  |error e=>
   obtain⟨_,_,_,_,_,_,_,_,_,_,_,_,_,z⟩:=b;exact z.elim
  |ok fo=>
   cases fo with
   |ret u=>
    obtain⟨v,i,W,ru,h,l,B,r2⟩:=I.after b;exact q u v j h i W ru l B r2
   |next=>exact eI b
   |brk=>exact eI b
   |cont=>exact eI b
 .refine f7<|gs (run (λ_ _=>False) (λCv d i=>∃h,Cv=.ref F.1/\XF F.2 fs d i/\dq g H h i/\SR (P.kt X) h i σ {ss with m:=j.m})<|.ex g.aj ts ss.m c fs j x.st.aj r M λg' H' l y2=>⟨F,hk,λd hd=>let⟨E,y⟩:=x.back l y2;⟨_,J,hd,E,y⟩⟩) λr s2 b=>?_
  cases r with
  |error e=>
   obtain⟨a,t,C,d,c2,i,Bh,rfl,ho,kR,L,Fl,G,h,eC,hd,E,y⟩:=b;cases eC;exact q a t d c2 H s i h Bh s2 I ho kR L Fl G E y hd
  |ok fo=>
   cases fo with
   |ret u=>
    obtain⟨v,i,W,_,z⟩:=I.after b;exact z.elim
   |next=>exact eI b
   |brk=>exact eI b
   |cont=>exact eI b
def wb{Q:Kp}(D:W4 P X.prog X.w X.K X.mg X.base N k x f)(hr:bj j X.A)(lL:k<=j)(ha:PA X.qD (e::es)<|tA (P.kt X) fl)(hg:Gl X x)(gB:aX x)(S:(e::es).all noStar=O)(I:Inv X aa σ H s)(Z:SR (P.kt X) g H σ ss)
  (M:(∃t s',af f [] (pK fl) ss=.ok (t,s')/\∀u v i g' H',Inv X aa σ H' i->RelV v u->dq g H g' H'->SR (P.kt X) g' H' σ s'->Rep (P.kt X) g'.al g'.HF t v->Q u i)\/(∃c fs s',af f [] (pK fl) ss=.exc c fs s'/\ľ P X N aa σ g H c fs s' Ex)) :
  Md X (fC (.Call (.Name x p) (e::es) [] bB) X.env) Q Ex s:=by
 obtain⟨fa,fd,ps,FF,hm,T,hb⟩:=D.ex;rw[ed,bZ]at S;obtain⟨ts,b,r,l⟩:∃ts b,fl ss=.ok (ts,b)/\((∃t o,f ts b.m=.ok (t,o)/\∀u v i g' H',Inv X aa σ H' i->RelV v u->dq g H g' H'->SR (P.kt X) g' H' σ {b with m:=o}->Rep (P.kt X) g'.al g'.HF t v->Q u i)\/(∃c fs s',f ts b.m=.exc c fs s'/\ľ P X N aa σ g H c fs {b with m:=s'.m} Ex)):=by
  rcases M with⟨t,s',h,q⟩|⟨c,fs,s',h,q⟩
  .obtain⟨ts,b,o,r,l,rfl⟩:=gi h
   rw[bG]at l;exact⟨ts,b,gW r,.inl ⟨t,o,l,q⟩⟩
  .rcases call_exc h with h|⟨ts,b,s2,r,l,rfl⟩
   .exact(iA h).elim
   .rw[bG]at l
    exact⟨ts,b,gW r,.inr ⟨c,fs,s2,l,q⟩⟩
 refine ew<|fE I hg hm ?_ gB;refine zj (h₀:=X.base) I.ok.mod.kin T (eD (ha bB aa s σ H (λF C=>∃n,dq g H n C/\SR (P.kt X) n C σ b/\aD (P.kt X) n.al n.HF ts F) (I.mZ _) ⟨g,ss,ts,b,Z,r,λF n C y E R=>⟨n,y,E,R⟩⟩) (λus s3 W=>?_) λ_ _ z=>z.elim) (aB S.1)<|cT S.2;obtain⟨F,C,B,G,n,y,E,R⟩:=W;have B:=B.gR;refine⟨B.iw,Xb FF (hr.mono lL) hb B E G R ?_⟩;rcases l with⟨t,o,V,q⟩|⟨c,fs,s',V,kk,T,q⟩
 .exact .inl ⟨t,o,V,λu v i g' H' I' ru p' x' r'=>q u v i g' H' I' ru (y.trans p') x' r'⟩
 .exact .inr ⟨c,fs,s',V,kk,T,λa t d c2 Ha sa H1 g1 Bh i Ia ho kR L Fl hc p1 x1 hd=>q a t d c2 Ha sa H1 g1 Bh i Ia ho kR L Fl hc (y.trans p1) x1 hd⟩
def CK(d1 d2:Nat)(F:FE)(fo:FE):FS:=λs=>match F s with
 |.ok p=>.ok (.rt p.1,p.2)
 |.exc c _ a=>if c=d1 then GJ d2 (bQ fo bD) a else .bad
 |.bad=>.bad
def RT{zp cp2 kp G:Pos}(ZM:N[d1]?=U (C1,Y))(hN2:N[d2]?=U (C2,U fn))(Z:ye X E)(hp:∀a,qs (mX X) (X.A.mark<|U<|.ref a) X.A X.env X.xe)
  (D:W4 P X.prog X.w X.K X.mg X.base N k x f) (hr:bj j X.A) (lL:k<=j) (R:bj 2 X.A) (ha:PA X.qD (e::es)<|tA (P.kt X) fl) (hg:Gl X x) (gB:aX x) (hs:(e::es).all noStar=O)
  (hm:X.mg y=U (.ref CB)) (Ŀ:BQ X.K (.ref C1) (.ref CB)=U O) (ŀ:Gl X y) (Oo:aX y)
  (M:ZK X.K X.prog X.w X.mg X.base C2 fn z) (S:Gl X z) (T:aX z) (ho:∀a,PE (xy X a X.xe) o<|tE (P.kt X) fo) (B:noStar o=O) :
  PS X (.Try [.Return (U<|.Call (.Name x p) (e::es) [] bB) RG] [.ExceptHandler (U<|.Name y np) Y [.Raise (U<|.Call (.Name z zp) [o] [] cp2) (U<|.Constant .none k0 kp) G] Ld] [] [] jz)<|tX (P.kt X) N E<|CK d1 d2 (af f []<|pK fl) fo:=by
 intro aa s σ H Dn I z0;obtain⟨g,ss,xr,b⟩:=z0.to;clear z0;unfold CK at b;refine wpAny_Try_except<|lx<|wpAny_Return_some<|wb D hr lL ha hg gB hs I xr ?_;cases q:af f [] (pK fl) ss with
 |bad=>rw[q]at b;exact b.elim
 |ok pq=>
  rw[q]at b;exact .inl ⟨pq.1,pq.2,J,λu v sh g' H' I' ru p' x' r'=>⟨v,σ,H',I',ru,b v g' H' p' x'.st r'⟩⟩
 |exc c fs F=>
  rw[q]at b;dsimp only at b;split at b
  case isFalse=>exact b.elim
  rename_i ec;subst ec;refine .inr ⟨c,fs,F,J,_,ZM,λa t d c2 Ha sa H1 g1 Bh sh Ia xM kR L Fl hc p1 n hd=>?_⟩;obtain⟨rfl,rfl⟩:=(show d=Y/\fs=[]from hd);cases hc J;refine Fb Ia Z.st Z.fr xM kR L Fl hm Ŀ (λh5 L5 F5=>Qw Ia xM kR (hp a) L5 F5 λQ ws s6 hco Ł h2 new I6=>?_) ŀ Oo;obtain⟨fI,fd,ps,m1,m2,_,m3,m5,m4⟩:=M.ex;refine eD (jo (Cq I.ok Z m1 M.kp m2 m3 m5 m4 R M.at_ (nM (ho a) tN<|aB B) S T (aB B) J) aa s6 σ _ Dn I6 ?_) (λfl s8 q=>?_) λ_ _ z=>z
  .have g0:=Gr.jU (o:=EX a Q) n.sub new
   have x2:=n.grow g0;have p2:=p1.trans<|n.lI g0;unfold GJ at b;cases q2:bQ fo bD F with
   |bad=>rw[q2]at b;exact b.elim
   |exc _ _ _=>rw[q2]at b;exact b.elim
   |ok w=>
    obtain⟨ts,s2⟩:=w;rw[q2]at b;cases q3:CI ts with
    |none=>replace b:RX (P.kt X) N E g H Dn<|(cH<|CI ts).bind λi=>.exc d2 [.int i] s2:=b;rw[q3]at b;exact b.elim
    |some r=>
     obtain rfl:=pL q3
     refine⟨_,F,_,s2,x2,q2,λvs g3 H3 p3 C r3=>?_⟩;obtain⟨v1,r1,rfl,q4,q5⟩:=r3;cases(show v1=.int r from q4);cases(show r1=[]from q5);have hH3:H3 a=U (EX a Q):=by
      have n1:g1.HF a=Y:=n.sub.free new;have n2:g1.o a=Y:=by
       cases qq:g1.o a with
       |none=>rfl
       |some w=>obtain⟨_,u,y⟩:=n.st.live a w qq;rw[new]at y;cases y
      exact(p3.rest a _ ak n1 n2).1
     refine⟨_,Q,ws,J,hH3,Ł,h2,λdd W=>?_⟩;have gr:=Gr.jU (o:=XD dd [(fn,V.int r)]) C.sub W;obtain⟨kk,hk,q⟩:=b _ _ ((p2.trans p3).trans<|C.lI gr) (C.grow gr).st;rw[hN2]at hk;cases hk;exact q (U dd) ⟨r,dd,J,J,ak⟩
  .cases fl with
   |next=>obtain⟨h,m,l,q⟩:=q;exact⟨h,m,Inv.Cp I.ok l,q⟩
   |brk=>obtain⟨h,m,l,q⟩:=q;exact⟨h,m,Inv.Cp I.ok l,q⟩
   |cont=>obtain⟨h,m,l,q⟩:=q;exact⟨h,m,Inv.Cp I.ok l,q⟩
   |ret u=>obtain⟨v,h,m,l,r,q⟩:=q;exact⟨v,h,m,Inv.Cp I.ok l,r,q⟩
end
def RU(i j m:Nat)(kb:List Fh)(c:Nat)(fs:FC):FS:=λs=>(cH<|kb[c]?).bind λbs=>(cH<|CI fs).bind λr=>match s.r[i]? with
 |some none=>.ok (.nx,jE (jE s j<|.val<|.lst<|bs.map .bl) m<|.val<|.int r)
 |_=>.bad
def wc(F:FE)(A:Nat->FC->FS):FS:=λs=>match F s with
 |.ok p=>.ok (.nx,p.2)
 |.exc c fs a=>A c fs a
 |.bad=>.bad
def SR.slot(x:SR B g H a s)(b:s.r[i]?=U Y)(w:Option V):SR B g H (a.set i w) s:=
 ⟨x.st,by rw[iJ];exact x.lc.len,λm c h=>by
  have:i≠m:=λz=>by rw[z,h]at b;cases b
  rw[iu this];exact x.lc.at_ m c h⟩
theorem AY:∀bs:Fh,aD B al HF (bs.map T.bl)<|bs.map V.bl
 |[]=>J
 |b::bs=>⟨_,_,J,J,AY bs⟩
def tSu(i j m:Nat)(a d:cq)(c:Obj)(fn:Str)(v:V)(bs:Fh):TS:=λE b H=>b[i]?=U (U<|.ref a)/\H a=U (EX a c)/\H d=U (XD d [(fn,v)])/\j<b.length/\j≠i/\∀l H1,(∀HF,aL HF H->Gr HF H HF H1)->H l=Y->H1 l=U (.lst<|bs.map V.bl)->E.nx ((b.set j<|U<|.ref l).set m<|U v) H1
section
variable{P:Pg}{X:Cx}{N:XN}{k jj i j m:Nat}{y n x:Str}{f:Fn}{fl:FL}{e:cC}{es:Bz}{st:hF}{mE:Ee}
def RV{CB:cq}(hxe:X.xe=λ_ _=>False)(D:W4 P X.prog X.w X.K X.mg X.base N k x f)(hr:bj jj X.A)(lL:k<=jj)(ha:PA X.qD (e::es)<|tA (P.kt X) fl)(hg:Gl X x)(gB:aX x)(hs:(e::es).all noStar=O)
  (hm:X.mg y=U (.ref CB)) (ŀ:Gl X y) (Oo:aX y)
  (hN:X.N.Nodup) (hi:X.N[i]?=U n) (hj:j<X.N.length) (Xa:j≠i) (Jz:m≠i) (hk:X.env.scope.names.lookup n=U .local)
  (Ń:∀(c:Nat)bs,kb[c]?=U bs->∃C fn,N[c]?=U (C,U fn)/\BQ X.K (.ref C) (.ref CB)=U O/\∀a d E T v,E.cls=.ref C->E.data=.fields T->E.dict=U d->gY (xy X a λ_ _=>False) (st::mE) (tSu i j m a d E fn v bs))
  (Js:X.stack=X.env::X.outer) (xx:X.env.frame=U X.env.locals) :
  PS X (.Try [.Expr (.Call (.Name x p) (e::es) [] bB) ł] [.ExceptHandler (U<|.Name y np) (U n) (st::mE) Ld] [] [] jz)<|tS (P.kt X)<|wc (af f []<|pK fl)<|RU i j m kb:=by
 rintro aa s B H Dn I ⟨g,ss,o,s',xr,h,kk⟩
 rw[hxe];unfold wc at h;refine wpAny_Try_except<|lx<|wpAny_Expr_any (wb D hr lL ha hg gB hs I xr ?_) I.quiet J;cases q:af f [] (pK fl) ss with
 |bad=>rw[q]at h;cases h
 |ok pq=>
  rw[q]at h;cases h;exact .inl ⟨pq.1,pq.2,J,λu v sh g' H' I' ru p' x' r'=>iH<|iH ⟨B,H',I',kk B g' H' p' x'⟩⟩
 |exc c fs s2=>
  rw[q]at h;obtain⟨bs,h1,h⟩:=ae h;obtain⟨F,h2,h⟩:=ae h;have h1:=aq h1
  obtain rfl:=pL<|aq h2
  have Z:s2.r[i]?=U Y/\o=.nx/\s'=jE (jE s2 j<|.val<|.lst<|bs.map .bl) m (.val<|.int F):=by
   split at h
   .rename_i q
    cases h;exact⟨q,J,J⟩
   .cases h
  obtain⟨Q,rfl,rfl⟩:=Z;obtain⟨C,fn,hNc,Ŀ,Ń⟩:=Ń c bs h1;refine .inr ⟨c,_,s2,J,_,hNc,λa t dd c2 Ha sa H1 S Bh sh Ia ho kR L Fl _ p1 M hd=>?_⟩;obtain⟨r1,d,rfl,er,hd⟩:=hd;cases er;refine Fb Ia Js xx ho kR L Fl hm Ŀ (λh5 L5 F5=>Kc Ia ho kR hN hi hk L5 F5 λE T s6 hco Ł fj new I6=>?_) ŀ Oo;have Rq:j<B.length:=by rw[I.len];exact hj
  have da:d≠a:=λz=>by rw[z,new]at hd;cases hd
  refine eD (Ń a d E T (.int F) hco Ł fj aa s6 (B.set i<|U<|.ref a) (upd H1 a<|EX a E) {nx:=λG H8=>∀s9,Inv X aa (G.set i Y) H8 s9->SP X aa Dn .next s9,rt:=λ_ _=>False} I6 ⟨gy<|by rw[I.len];exact(dj.mp hi).1,ak,by rw[ai da];exact hd,by rw[iJ];exact Rq,Xa,λl H2 gr W hl s9 I9=>?_⟩) (λf s8 q=>?_) λ_ _ z=>z
  .refine⟨_,H2,I9,?_⟩
   have ń:∀{b},upd H1 a (EX a E) b=Y->H1 b=Y:=λ{b} z=>by
    by_cases q:b=a
    .rw[q];exact new
    .rw[ai q]at z;exact z
   have g0:=Gr.jU (o:=EX a E) M.sub new;have g2:=g0.trans<|gr S.HF g0.sub;have x2:=M.grow g2;have no:S.o l=Y:=by
    cases q:S.o l with
    |none=>rfl
    |some p=>obtain⟨_,u,y⟩:=M.st.live l p q;rw[ń W]at y;cases y
   have R:S.HF l=Y:=M.sub.free<|ń W;have x3:=x2.yk (l:=l) R no hl;have p3:=(p1.trans<|M.lI g2).yk (l:=l) (u:=.lst<|bs.map V.bl) (p1.there l<|ń W) R;have x4:=(x3.set (i:=j) (t:=.lst<|bs.map .bl) (v:=.ref l) ⟨l,_,J,ak,AY bs⟩).set (i:=m) (t:=.int F) (v:=.int F) J;have x5:=x4.slot (i:=i) (by show((s2.r.set j _).set m _)[i]?=_;rw[iu Jz,iu Xa];exact Q) Y
   have e1:(((B.set i<|U<|.ref a).set j<|U<|.ref l).set m<|U<|.int F).set i Y=((B.set j<|U<|.ref l).set m<|U<|.int F).set i Y:=by
    have c:(B.set i<|U<|V.ref a).set j (U<|V.ref l)=(B.set j<|U<|V.ref l).set i (U<|V.ref a):=DS _ _<|et Xa;have c2:((B.set j<|U<|V.ref l).set i<|U<|V.ref a).set m (U<|V.int F)=((B.set j<|U<|V.ref l).set m<|U<|V.int F).set i (U<|V.ref a):=DS _ _<|et Jz;rw[c,c2,D0]
   rw[e1];exact kk _ _ H2 p3 x5
  .cases f with
   |next=>
    obtain⟨G,H8,I8,q⟩:=q;exact⟨G,H8,I8,q⟩
   |brk=>obtain⟨_,_,_,q⟩:=q;exact q.elim
   |cont=>obtain⟨_,_,_,q⟩:=q;exact q.elim
   |ret u=>obtain⟨_,_,_,_,_,q⟩:=q;exact q.elim
end
end D
namespace D
open PySem L2
def gH:cC->Option Const
 |.Constant c _ _=>U c
 |_=>Y
def kT(e:cC):Option Str:=match gH e with
 |U<|.str x=>U x
 |_=>Y
def isSlice:cC->Bool
 |.Slice _ _ _ _=>O
 |_=>Zi
def ic{q}(h:gH e=U q):∃k p,e=.Constant q k p:=by
 cases e<;>first|(cases h;done)|(cases h;exact⟨_,_,J⟩)
def str_inv(h:kT e=U x):∃b p,e=.Constant (.str x) b p:=by
 unfold kT at h;cases a:gH e with
 |none=>rw[a]at h;cases h
 |some c=>
  rw[a]at h;cases c<;>try(cases h;done)
  cases h;exact ic a
def setB(n:Nat)(s:S)(k:Nat)(c:C):S:={s with m:=s.m.set k ⟨n,[c]⟩}
section
variable{g g1:G}
def AZ(h:Ct n m t=U z):t=.own z.1/\m[z.1]?=U ⟨n,[.ol z.2]⟩:=by
 unfold Ct at h;split at h
 .split at h
  .rename_i k d ts e
   split at h
   .rename_i q;subst q;cases h;exact⟨J,e⟩
   .cases h
  .cases h
 .cases h
def SR.Xd(x:SR B g H σ s)(b:B.cn[n]?=Y){c:C}(a:s.m[k]?=U ⟨n,[c]⟩)(d:g.al[k]?=U l):ċ B g H k ⟨n,[c]⟩ l/\bK B g H (.ob k) c (.ref l):=by
 rcases x.st.at_ k _ a with⟨e,C,i,ns,h,Z⟩|⟨e,Z⟩
 .obtain⟨m,q,_⟩:=Z.cl
  rw[b]at q;cases q
 .have:=Z.al.symm.trans d
  cases this;exact⟨Z,Z.f c J⟩
def SR.GS{c:C}(x:SR B g H σ s)(t:B.cn[n]?=Y)(q:B.fn[n]?=Y)(p:g.HF l=Y)(j:g.o l=Y){u:HO}(hl:H l=U u)(r:bK B (g.e_ l) H (.ob g.al.length) c<|.ref l):SR B (g.e_ l) H σ {s with m:=s.m++[⟨n,[c]⟩]}:=by
 have f:∀b a,g.o b=U a->(g.e_ l).o b=U a:=λb a h=>by
  show(if b=l then U (jT.ob g.al.length)else g.o b)=_
  rw[cb λz=>by rw[z,j]at h;cases h];exact h
 have pre:g.al <+: (g.e_ l).al:=zF _ _;refine⟨⟨x.sub,λb a e=>?_,?_,λk ob e=>?_⟩,x.lc.len,λi A e=>?_⟩
 .have e:(if b=l then U (jT.ob g.al.length)else g.o b)=U a:=e
  by_cases hb:b=l
  .subst hb;exact⟨p,_,hl⟩
  .rw[cb hb]at e;exact x.st.live b a e
 .show(s.m++[_]).length=(g.al++[l]).length
  rw[cA,cA,x.st.len];rfl
 .have e:(s.m++[(⟨n,[c]⟩:Ob)])[k]?=U ob:=e
  by_cases hk:k<s.m.length
  .rw[jJ hk]at e
   exact(x.st.at_ k ob e).mv (aL.refl _) pre λb a h _=>⟨f b a h,J⟩
  .rw[gz<|by lia]at e
   have į:k-s.m.length=0:=by
    have:=(dj.mp e).1
    simp at this;exact this
   rw[į]at e;cases e;have D:k=g.al.length:=by have:=x.st.len;lia
   subst D;refine .inr ⟨l,?_,t,q,λd z=>by cases z;exact r⟩
   show(g.al++[l])[g.al.length]?=U l;rw[gz<|eA _,sP];rfl
 .obtain⟨v,y,w⟩:=x.lc.at_ i A e
  exact⟨v,y,bK.mv (g:=g) (g':=g.e_ l) (aL.refl _) pre (λb h=>⟨f b _ h,J⟩) w⟩
def Le:(g.e_ l).o l=U (.ob g.al.length):=by
 show(if l=l then U (jT.ob g.al.length)else g.o l)=_
 rw[cv J]
def dq.GS(q:dq g H g1 H1)(h0:H l=Y):dq g H (g1.e_ l) H1:=⟨q.fr,q.pre.trans<|zF _ _,λb u h n z=>by
 obtain⟨d,c,a⟩:=q.rest b u h n z;refine⟨d,c,?_⟩;show(if b=l then U (jT.ob g1.al.length)else g1.o b)=Y
 rw[cb<|aJ h h0];exact a,q.there⟩
def GU(x:SR B g H σ s):Rep B (g.e_ l).al (g.e_ l).HF (.own s.m.length)<|.ref l:=⟨l,J,by
 show(g.al++[l])[s.m.length]?=U l;rw[x.st.len,gz<|eA _,sP];rfl⟩
def RW(o:B.cn[n]?=Y)(m:B.fn[n]?=Y)(he:PE X e<|tO B fl):PE X e<|tE B<|vI n fl:=aT he λσ H Q z=>by
 obtain⟨g,s,t,q,x,h,k⟩:=z;obtain⟨⟨ts,d⟩,p,h⟩:=ae h;cases h;exact⟨g,s,ts,d,x,p,λl b g1 H1 f a h0 j i hl r=>k _ (g1.e_ l) H1 (f.GS h0) (a.GS (c:=.ol ts) o m j i hl ⟨l,b,J,Le,hl,r.mv (zF _ _)<|aL.refl _⟩)<|GU a⟩
def SR.Xe{c c':C}{u:HO}(x:SR B g H σ s)(Z:ċ B g H k ⟨n,[c]⟩ l)(E:s.m[k]?=U ⟨n,[c]⟩)(y:g.o l=U (.ob k))(r:bK B g (upd H l u) (.ob k) c'<|.ref l) :
  dq g H g (upd H l u)/\SR B g (upd H l u) σ (setB n s k c'):=by
 have ne:∀b q,g.o b=U q->q≠.ob k->upd H l u b=H b:=λb q a t=>ai λz=>t (by rw[z,y]at a;cases a;rfl)
 refine⟨nK y,⟨⟨λb w e=>?_,λb q e=>?_,by show(s.m.set k _).length=_;rw[iJ];exact x.st.len,λp D e=>?_⟩,x.lc.len,λi c e=>?_⟩⟩
 .have:b≠l:=λz=>by rw[z,(x.st.live l _ y).1]at e;cases e
  rw[ai this];exact x.sub _ _ e
 .obtain⟨f,w,A⟩:=x.st.live b q e
  by_cases a:b=l
  .exact⟨f,_,by rw[a,ak]⟩
  .exact⟨f,w,by rw[ai a];exact A⟩
 .have e:(s.m.set k ⟨n,[c']⟩)[p]?=U D:=e
  by_cases Gv:k=p
  .subst Gv
   rw[gy (dj.mp E).1]at e;cases e;exact .inr ⟨l,Z.al,Z.nc,Z.nf,λd z=>by cases z;exact r⟩
  .rw[iu Gv]at e
   refine(x.st.at_ p D e).mv (aL.refl _) fH λb q h t=>⟨h,ne b q h ?_⟩;rcases t with rfl|⟨j,rfl⟩
   .exact λz=>Gv (by cases z;rfl)
   .exact λz=>by cases z
 .obtain⟨v,f,A⟩:=x.lc.at_ i c e
  exact⟨v,f,bK.mv (g:=g) (g':=g) (aL.refl _) fH (λb a=>⟨a,ne b _ a λz=>by cases z⟩) A⟩
def Xf(F:B.cn[n]?=Y)(I:PE X a<|tE B fa)(G:PE X b<|tE B fb)(D:jt b):PE X (.Subscript a b pos)<|tE B<|ny n fa fb:=by
 refine aT (EL tw I G D) λσ H Q p=>?_;obtain⟨g,s,t,s',x,h,k⟩:=p;obtain⟨⟨tx,i⟩,N,h⟩:=ae h;obtain⟨⟨ty,s2⟩,M,h⟩:=ae h;obtain⟨z,L,h⟩:=ae h;obtain⟨j,c,h⟩:=ae h;obtain⟨t',K,h⟩:=ae h;cases h;obtain⟨o,E⟩:=AZ<|aq L;dsimp only at o;subst o;refine⟨g,s,_,i,x,N,λv g1 H1 C r A=>⟨g1,i,ty,s2,r,M,λw P V m d y=>?_⟩⟩;obtain⟨l,rfl,T⟩:=A;obtain⟨Z,l',u,q,Zo,S,R⟩:=d.Xd F E<|jw m.pre T;cases q;have c:=aq c;cases ty<;>try(cases c;done)
 cases c;obtain⟨f,e,W⟩:=nO R<|aq K;exact⟨l,u,_,f,J,y,dW.of S,e,k f P V (C.trans m) d W⟩
def Xg(b ty a:TE):TS:=λD σ H=>a σ H λv H1=>b σ H1 λx e=>ty σ e λy d=>NK x y v d λc=>D.nx σ c
def Lf{d ty c:TE}(p:PE X o d)(q:PE X b ty)(m:PE X e c)(n:fu e (U<|.Subscript o b b_) pos.line X.env=pure Zi):PS X (.Assign [.Subscript o b b_] e pos)<|Xg d ty c:=by
 intro a s σ H D I h;exact Gu (b7 (m a s σ H _ I h) λr f ⟨v,H1,A,j,q1⟩=>b7 (p a f σ H1 _ A q1) λu s2 ⟨x,E,z,i,q2⟩=>b7 (q a s2 σ E _ z q2) λl s3 ⟨y,C,w,g,k⟩=>b7 (set_list a s3 σ C x y v u l r _ w i g j k) λ_ F ⟨B,t,q4⟩=>⟨σ,B,t,q4⟩) n
def RY(R:B.cn[n]?=Y)(he:PE X e<|tE B fc)(T:PE X a<|tE B fa)(S:PE X b<|tE B fb)(Q:fu e (U<|.Subscript a b b_) pos.line X.env=pure Zi):PS X (.Assign [.Subscript a b b_] e pos)<|tS B<|o9 n fa fb fc:=by
 refine bX (Lf T S he Q) λD σ H A=>?_;obtain⟨g,s,oo,s',x,h,k⟩:=A;obtain⟨⟨t,m⟩,h1,h⟩:=ae h;obtain⟨⟨tx,s2⟩,h2,h⟩:=ae h;obtain⟨⟨ty,s3⟩,h3,h⟩:=ae h;obtain⟨z,W,h⟩:=ae h;obtain⟨j,d,h⟩:=ae h;obtain⟨_,V,h⟩:=ae h;obtain⟨p,_⟩:=bC<|aq V;cases h;obtain⟨q,o⟩:=AZ<|aq W;dsimp only at q;subst q;refine⟨g,s,t,m,x,h1,λv g1 H1 P G M=>⟨g1,m,_,s2,G,h2,λw g2 H2 f F L=>⟨g2,s2,ty,s3,F,h3,λu g3 H3 c i K=>?_⟩⟩⟩;obtain⟨l,rfl,NL⟩:=L;obtain⟨Z,l',I,C,y,Zh,r⟩:=i.Xd R o<|jw c.pre NL;cases C;have d:=aq d;cases ty<;>try(cases d;done)
 cases d;cases K;obtain⟨N,E⟩:=i.Xe (u:=.lst _) (c':=.ol _) Z o y ⟨l,_,J,y,ak,r.set ((M.mv f.pre f.fr).mv c.pre c.fr) j.toNat⟩;refine⟨l,I,j,j.toNat,J,J,Zh,?_,k σ g3 _ (((P.trans f).trans c).trans N) E⟩;unfold Ju;rw[cv p.1,cv<|by have:=r.len;have:=p.2;lia]
end
end D
namespace L2
open PySem PyProof PyProof.Rows
def GV:x9 X "str.isalpha" λx vs H Q=>∃z:Str,x=.str z/\vs=[]/\Q (.bl<|Aq z) H:=by
 intro e s c H x vs v d Q I a b h;obtain⟨z,rfl,rfl,q⟩:=h;obtain⟨t,rfl⟩:=a;cases b;exact SC.isalpha ⟨.bl _,H,I,J,q⟩
end L2
namespace D
open PySem PyProof PyProof.Rows L2
def ZN:T->FK
 |.str l=>U<|.bl<|Aq ⟨l.toArray⟩
 |_=>Y
def CL(i:Nat)(a:FE):FE:=λs=>(cH<|lH s.r[i]?).bind λ_=>(a s).bind λp=>(cH<|lH p.2.r[i]?).bind λts=>(cH<|ZD (.lst ts) p.1).bind λt=>.ok (t,p.2)
def Lg(j:PE X a<|tE B R)(i:c5 a=O)(hl:(u.endLine == z.line)=O):PE X (.Call (.Attribute a "isalpha" u) [] [] z)<|tE B<|dE ZN R:=by
 refine aT (Qf u7 PySem.F.slot_str_isalpha PySem.F.type_str_isalpha GV j (jx i) hl) λn H Q c=>?_;obtain⟨g,s,t,q,x,h,k⟩:=c;obtain⟨⟨tx,p⟩,l,h⟩:=ae h;obtain⟨o,b,h⟩:=ae h;cases h;have b:=aq b;cases tx<;>try(cases b;done)
 cases b;refine⟨g,s,_,_,x,l,λv m H1 f d e=>?_⟩;obtain⟨rfl,r⟩:=e;exact⟨J,_,J,J,k _ m H1 f d J⟩
def Oq(q:B.K=X.K):∀c H Q,tE B (CL i F) c H Q->Eu (QV X Zi) (ve i) (tE B F) c H Q:=by
 rintro c H Q ⟨g,s,t,z,x,h,k⟩
 obtain⟨A,h0,h⟩:=ae h;obtain⟨⟨ty,m⟩,y,h⟩:=ae h;obtain⟨ts,w,h⟩:=ae h;obtain⟨b,r,h⟩:=ae h;cases h;obtain⟨l0,Į,w0,_⟩:=x.lM<|dF<|aq h0;refine⟨_,w0,⟨g,s,ty,m,x,y,λv d H1 o a n=>?_⟩⟩;obtain⟨l,f,w1,w2,w3,w4⟩:=a.lM<|dF<|aq w;rw[w0]at w1;cases w1;have j:=(a.st.live l0 _ w2).1;obtain⟨p,rfl⟩:=bC<|aq r;refine⟨B,d.al,upd d.HF l0<|.lst f,.lst ts,ty,q,λb u e=>?_,⟨l0,f,J,ak,w4.mv fH<|aS j⟩,n.mv fH<|aS j,p,k _ d H1 o a J⟩;by_cases hb:b=l0
 .subst hb;rw[ak]at e;cases e;exact w3
 .rw[ai hb]at e;exact a.sub _ _ e
def Xi{a:Pos}(h:B.K=X.K)(d:bj k X.A)(f:PE X b<|tE B F)(g:X.N[i]?=U y)(c:kg X.env.scope y)(hd:aX y)(j:fh y)(e:fv .Eq b=Zi):PE X (.Compare (.Name y a) [.Eq] [b] pos)<|tE B<|CL i F:=aT (ki (ym<|by have:=d.units;lia) (bL g c hd j) f e)<|Oq h
def RZ(j:B.K=X.K)(e:bj k X.A)(g:PE X b<|tE B F)(h:X.N[i]?=U y)(d:kg X.env.scope y)(hd:aX y)(l:fh y)(f:fv .Eq b=Zi):PT X (.Compare (.Name y c) [.Eq] [b] pos)<|tT B<|aY<|CL i F:=Aj (jq (ym<|by have:=e.units;lia) (bL h d hd l) g f) λa H Q q=>Oq j a H _<|F7 q
def GW(i j:Nat)(fl:FL):FS:=λs=>(fl s).bind λp=>(cH<|rG [i,j] p.1 p.2.r).bind λr=>.ok (.nx,{p.2 with r:=r})
def Xj{kt k2 d}(I:X.calm=O)(L:X.N.Nodup)(G:X.N[i]?=U x)(F:X.N[j]?=U y)(Î:i≠j)
  (C:X.env.scope.names.lookup x=U .local) (A:X.env.scope.names.lookup y=U .local) (K:PA X [a,b]<|tA B fl)
  (E:iM [.Tuple [.Name x l,.Name y f] kt pt] (.Tuple [a,b] k2 d) X.env=pure (U [x,y])) :
  PS X (.Assign [.Tuple [.Name x l,.Name y f] kt pt] (.Tuple [a,b] k2 d) pos)<|tS B<|GW i j fl:=bX (PN I L G F Î C A K E) λD R H m=>by
 obtain⟨g,s,o,T,z,h,k⟩:=m;obtain⟨⟨ts,n⟩,P,h⟩:=ae h;obtain⟨V,c,h⟩:=ae h;cases h;refine⟨g,s,ts,n,z,P,λS M H1 r e p=>?_⟩;have c:=aq c;cases ts with
 |nil=>cases c
 |cons t ts=>cases ts with
  |nil=>cases c
  |cons u ts=>cases ts with
   |cons _ _=>cases c
   |nil=>
    cases c;obtain⟨v,_,rfl,q1,w,Q,rfl,q2,q⟩:=p;cases(show Q=[]from q);exact⟨v,w,J,k _ M H1 r ⟨e.st,e.lc.sets J<|.cons e.lc.len q1<|.one (by rw[iJ,iJ];exact e.lc.len) q2⟩⟩
end D
namespace D
open PySem L2
def GX:FC->FK
 |[.int i,.int j]=>U<|.int<|if j > i then j else i
 |_=>Y
def Xk:LN X GX λxs H Q=>∃i j,xs=[.int i,.int j]/\Q (.int<|if j > i then j else i) H:=λB e al HF H xs t ts Q sm r h k=>by
 match ts,h with
 |[.int i,.int j],h=>
  cases h;obtain⟨v,d,rfl,b,r⟩:=r;obtain⟨w,c,rfl,a,r⟩:=r;cases r;cases b;cases a;exact⟨i,j,J,k _ HF H (.refl sm) J⟩
def Ot(i:Nat)(b a:FE):FS:=λs=>match Rw i s with
 |true=>eg i b a s
 |false=>Oi i b a s
def Xl(K:PE X b<|tE B fb)(he:PE X e<|tE B fa)(L:X.N[i]?=U y)(G:kg X.env.scope y)(hd:aX y)(Z:fh y)(I:fu e (U<|.Subscript (.Name y n) b f) pos.line X.env=pure Zi)(N9:isSlice b=Zi) :
  PS X (.Assign [.Subscript (.Name y n) b f] e pos)<|tS B<|eg i fb fa:=by
 refine bX (En he (PM (bL L G hd Z) K set_list λv=>?_) I J J) λD σ H z=>?_
 .cases b<;>first|rfl|(cases N9)
 obtain⟨g,s,oo,s',x,h,k⟩:=z;obtain⟨⟨t,m⟩,T,h⟩:=ae h;obtain⟨Xh,S,h⟩:=ae h;obtain⟨⟨tk,s2⟩,R,h⟩:=ae h;obtain⟨ts,Q,h⟩:=ae h;obtain⟨j,P,h⟩:=ae h;obtain⟨us,M,h⟩:=ae h;obtain⟨⟨q,z2⟩,rfl⟩:=bC<|aq M;cases h;have ej:tk=.int j:=Ax<|aq P;subst ej;refine⟨g,s,t,m,x,T,λv W H1 F d A=>?_⟩;obtain⟨l,vs,w1,w2,w3,w4⟩:=d.lM<|dF<|aq S;refine⟨_,w1,W,m,_,s2,d,R,λu V H2 a c w=>?_⟩;have o:=dF<|aq Q;obtain⟨l',p,q1,q2,C,q4⟩:=c.lM o;rw[w1]at q1;cases q1;cases w;obtain⟨r,E⟩:=c.chg o w1<|q4.set (A.mv a.pre a.fr) j.toNat;have hl:ts.length=p.length:=q4.len;refine⟨l,p,j,j.toNat,J,J,C,?_,k σ V _ ((F.trans a).trans E) r⟩;unfold Ju;rw[cv q,cv<|by lia]
def Ņ{d a:Pos}(r:bj k X.A)(n:PE X b<|tE B fb)(he:PE X e<|tE B fa)(o:X.N[i]?=U y)(j:kg X.env.scope y)(hd:aX y)(p:fh y)(l:fu e (U<|.Subscript (.Name y d) b a) pos.line X.env=pure Zi)(t:isSlice b=Zi) :
  PS X (.Assign [.Subscript (.Name y d) b a] e pos)<|tS B<|Ot i fb fa:=λq c σ H D I z=>by
 obtain⟨g,s,f,s',x,h,k⟩:=z;unfold Ot at h;cases m:Rw i s with
 |true=>
  rw[m]at h;exact Xl n he o j hd p l t q c σ H D I ⟨g,s,f,s',x,h,k⟩
 |false=>
  rw[m]at h;exact RD r he n o j hd p l q c σ H D I ⟨g,s,f,s',x,h,k⟩
end D
namespace D
open PySem
structure Lc where
 N:Bi
 sc:gV
 mu:Bi
inductive Ck where
 |fz (c n:Nat)|z0 (c:Nat)|cp (c:Nat)|nw (c i:Nat)
structure Gm where
 P:Pg
 cs:List<|Str×T
 fs:List<|Str×FC×Nat
 cl:List<|Str×Ck
 ms:List<|Str×List (Nat×Nat)
 bl:Bi
 xc:List<|Str×Option Str×Nat:=[]
 xs:List<|Str×Nat:=[]
 xt:List<|Str×Nat×Nat:=[]
 ys:Bi:=[]
 kb:List Fh:=[]
 xm:Str := ""
 bx:Bi:=[]
def Gm.bc(M:Gm):Nat:=M.P.cn.length+M.P.fn.length
def ir(N:Bi)(x:Str):Option Nat:=N.idxOf? x
def kU(x:Str):Bool:=x == ("__debug__" : Str) ||x == ("__classdict__" : Str)
def iB(L:Lc)(x:Str):Bool:=match L.sc.names.lookup x with
 |some .local=>!kU x
 |some .cell=>!kU x
 |_=>Zi
def um(L:Lc)(x:Str):Bool:=decide (L.sc.names.lookup x=U .globalImplicit)&&!kU x
def Xm:cC->Option Bz
 |.Tuple a _ _=>U a
 |_=>Y
structure Rc where
 E:Lc->cC->FE
 T:Lc->cC->FT
 I:Lc->cC->cC->FL
 O:Lc->cC->FL
def d9:List FE->FL
 |[]=>bD
 |a::r=>bQ a<|d9 r
def GY:List FE->FE
 |[]=>bU
 |[a]=>a
 |a::r=>oZ a<|GY r
def R0:List FT->FT
 |[]=>qJ
 |[a]=>a
 |a::r=>Ae a<|R0 r
def R1:List FE->FE
 |[]=>bU
 |[a]=>a
 |a::r=>Ċ a<|R1 r
def GZ:List FT->FT
 |[]=>qJ
 |[a]=>a
 |a::r=>fY a<|GZ r
def G0(sc outer:gV):gV:={sc with names:=sc.names.map λ(n,k)=>if(k == NameKind.free&&outer.kind == .function&&outer.names.lookup n == U .cell)then(n,NameKind.cell)else(n,k)}
def locals(sc:gV):Bi:=sc.names.filterMap λp=>if p.2=.local then U p.1 else Y
def frees(sc:gV):Bi:=sc.names.filterMap λp=>if p.2=.free then U p.1 else Y
def idxs(N:Bi):Bi->Option B1
 |[]=>U []
 |x::xs=>(ir N x).bind λi=>(idxs N xs).map (i::·)
def R3(L:Lc)(sc:gV):Bool:=decide (sc.kind=.function)&&sc.names.all (λp=>decide (p.2≠.cell)&&(decide (p.2=.local)->decide (sc.names.lookup p.1=U .local))&&(decide (p.2=.free)->(decide (sc.names.lookup p.1=U .free)&&decide (L.sc.names.lookup p.1=U .cell))))&&decide (L.sc.kind=.function)
def Ou(N:Bi)(ok:Str->Bool):cC->Option (FG×B1)
 |.Name x _=>if ok x then(ir N x).map λi=>(setG i,[i])else Y
 |.Tuple a _ _=>(namesOf a).bind λxs=>if xs.all ok then(idxs N xs).map λis=>(cP is,is)else Y
 |_=>Y
def isSet:cC->Bool
 |.Set _ _ _=>O
 |_=>Zi
def Ov(r:Rc)(L:Lc):Bz->FT
 |[]=>dX
 |[c]=>r.T L c
 |_=>qJ
def G1(L:Lc)(sc:gV):Lc:=⟨locals sc++frees sc,G0 sc L.sc,[]⟩
def jZ(r:Rc)(L:Lc)(elt:cC)(q:Comprehension)(sc:gV):FL:=if q.is_async=0/\(R3 L sc&&decide ((locals sc++frees sc).Nodup)&&!isSet q.iter&&decide (q.ifs.length<=1))=O then(match idxs L.N (frees sc),Ou (locals sc) (λx=>decide<|sc.names.lookup x=U .local) q.target with
  |some a,some (g,_)=>bP (r.I L q.target q.iter) (locals sc).length a g (Ov r (G1 L sc) q.ifs)<|r.E (G1 L sc) elt
  |_,_=>kE)else kE
def pM(r:Rc)(L:Lc):cC->FL
 |.ListComp a b sc _=>(match b with
  |[g]=>jZ r L a g sc
  |_=>kE)
 |_=>kE
def R4(r:Rc)(L:Lc):Option cC->FO
 |none=>nJ
 |some e=>jv<|r.E L e
def wd(M:Gm)(L:Lc):Bi->Option B1
 |[]=>U []
 |y::ys=>if um L y&&((ir M.P.cn y).bind λd=>M.P.fn[d]?).isSome then(ir M.P.cn y).bind λd=>(wd M L ys).map (d::·)else Y
def blt(M:Gm)(L:Lc)(x:Str):Bool:=M.bl.contains x&&um L x
def isF(M:Gm)(r:Rc)(L:Lc)(a:cC):cC->FE
 |.Name y _=>(match vR.lookup y with
  |some ty=>if M.bl.contains y&&um L y then dE (Wt ty) (r.E L a)else bU
  |none=>(match wd M L [y]with
   |some ds=>dE (iO M.P.sub ds)<|r.E L a
   |none=>bU))
 |.Tuple b _ _=>if b.length<=100 then(match(namesOf b).bind (wd M L)with
  |some ds=>dE (iO M.P.sub ds)<|r.E L a
  |none=>bU)else bU
 |_=>bU
def bg(l:List<|Nat×Nat)(aj:Nat->Fn)(c:Nat):Option Fn:=(l.lookup c).map aj
def G2(L:Lc):cC->Option Nat
 |.Name y _=>if iB L y then ir L.N y else Y
 |_=>Y
def isNil:cC->Bool
 |.List a _=>a.isEmpty
 |_=>Zi
def ņ(L:Lc)(a:cC)(op:lp)(b:cC):Option Nat:=if op=.Eq/\isNil b=O/\((asName a).any L.mu.contains)=O then G2 L a else Y
def we(M:Gm)(r:Rc)(L:Lc)(a:cC)(op:lp)(b:cC):FE:=match ņ L a op b with
 |some i=>CL i<|r.E L b
 |none=>match v8 op,G2 L b with
 |some neg,some i=>rO op neg i<|r.E L a
 |_,_=>bH (aM op) (r.E L a)<|r.E L b
def Xn:List<|Str×(FC->FK):=("abs",Cy)::("max",GX)::yt
def setArg(M:Gm)(L:Lc)(f:Str)(a:Bz):Option cC:=(kO a ([]:B1)).bind λe=>(nm1 e).bind λq=>if f=("len" : Str)/\q.1=("set" : Str)/\blt M L ("set" : Str)=O/\noStar q.2=O then U q.2 else Y
def R5(L:Lc)(f:Str)(a:Bz):Option Nat:=(kO a ([]:B1)).bind λe=>if f=("len" : Str)/\((asName e).any L.mu.contains)=O then G2 L e else Y
def yE(M:Gm)(aj:Nat->Fn)(r:Rc)(L:Lc)(f:Str)(b:Bz):FE:=
 if b.all noStar then(match M.fs.lookup f with
  |some (ds,i)=>if um L f then af (aj i) ds (d9<|b.map<|r.E L)else bU
  |none=>(match M.cl.lookup f with
   |U<|.fz c n=>if um L f&&!b.isEmpty then dh c n (d9<|b.map<|r.E L)else bU
   |U<|.z0 c=>if um L f&&b.isEmpty then dh c 0 bD else bU
   |U<|.cp c=>(match b with
    |[a]=>if um L f then dE (QM c) (r.E L a)else bU
    |_=>bU)
   |U<|.nw c i=>if um L f&&!b.isEmpty then yh c (aj i) (d9<|b.map<|r.E L)else bU
   |none=>if blt M L f then(match f == ("isinstance" : Str),b with
     |true,[a,q]=>isF M r L a q
     |_,_=>(match setArg M L f b with
        |some a=>dE pJ<|r.E L a
        |none=>(match R5 L f b with
        |some i=>jF i
        |none=>(match Xn.lookup f,b with
         |some g,_::_=>aG g<|d9<|b.map<|r.E L
         |_,_=>bU))))else bU))else bU
def G3:Const->FE
 |.int i=>cF<|.int i
 |.bool b=>cF<|.bl b
 |.none=>cF .non
 |.str s=>if s.length<=1000000 then cF (.str s.cps.toList)else bU
 |_=>bU
def G4(M:Gm)(L:Lc)(x:Str):FE:=match ir L.N x with
 |some i=>if iB L x then vF i else bU
 |none=>(match M.cs.lookup x with
  |some t=>if um L x then cF t else bU
  |none=>bU)
def unE(a:FE):UnaryOp->FE
 |.USub=>dE kD a
 |.Not=>Fu a
 |_=>bU
def boE(l:List FE):BoolOp->FE
 |.And=>GY l
 |.Or=>R1 l
def Ň(M:Gm)(r:Rc)(L:Lc)(a:cC):List lp->Bz->FE
 |[op],[b]=>if fv op b then bU else we M r L a op b
 |_,_=>bU
def pkA(L:Lc)(o:cC):Option Nat:=if((asName o).any L.mu.contains)=O then G2 L o else Y
def ZO(M:Gm)(r:Rc)(L:Lc)(o i:cC):FE:=match pkA L o with
 |some k=>Fv k<|r.E L i
 |none=>if((asName o).any M.bx.contains)=O then ny M.bc (r.E L o) (r.E L i)else bH jC (r.E L o) (r.E L i)
def A0:cC->Option cC
 |.FormattedValue e a sp _=>if a=-1/\sp.isNone=O then U e else Y
 |_=>Y
def joE(r:Rc)(L:Lc):Bz->FE
 |[e,q,f]=>(match kT e,A0 q,kT f with
  |some x,some a,some y=>if x.length<=1000/\y.length<=1000 then dE (v5 x.cps.toList y.cps.toList) (r.E L a)else bU
  |_,_,_=>bU)
 |_=>bU
def R6(M:Gm)(r:Rc)(L:Lc)(o:cC):cC->FE
 |.Slice lo a st _=>(match st with
  |none=>jQ (r.E L o) (R4 r L lo)<|R4 r L a
  |some _=>bU)
 |i=>ZO M r L o i
def ň(M:Gm)(r:Rc)(L:Lc)(o:cC)(f:Str):FE:=if c5 o then(match ir M.P.an f with
  |some j=>aV M.P.tab j<|r.E L o
  |none=>bU)else bU
def R7(M:Gm)(aj:Nat->Fn)(r:Rc)(L:Lc)(o:cC)(m:Str)(b:Pos)(a:Bz)(cp:Pos):FE:=if c5 o&&a.all noStar&&decide (a.length<29)&&b.endLine == cp.line then(match M.ms.lookup m with
   |some l=>bJ (bg l aj) (r.E L o)<|d9<|a.map<|r.E L
   |none=>(match yq.lookup m,a with
    |some g,_::_=>mK g (r.E L o)<|d9<|a.map<|r.E L
    |_,[]=>if m=("isalpha" : Str)then dE ZN (r.E L o)else bU
    |_,_=>bU))else bU
def Ŋ(M:Gm)(aj:Nat->Fn)(r:Rc)(L:Lc)(a:Bz)(cp:Pos):cC->FE
 |.Name f _=>yE M aj r L f a
 |.Attribute o m b=>R7 M aj r L o m b a cp
 |_=>bU
def Ow(M:Gm)(aj:Nat->Fn)(r:Rc)(L:Lc):cC->FE
 |.Constant c _ _=>G3 c
 |.Name x _=>G4 M L x
 |.BinOp a e b _=>bH (cz e) (r.E L a)<|r.E L b
 |.UnaryOp e a _=>unE (r.E L a) e
 |.BoolOp e d _=>boE (d.map<|r.E L) e
 |.Compare a h bs _=>Ň M r L a h bs
 |.IfExp c a b _=>rF (r.T L c) (r.E L a)<|r.E L b
 |.Tuple d _ _=>if d.all noStar then aG aE (d9<|d.map<|r.E L)else bU
 |.List d _=>if d.all noStar then aG eB (d9<|d.map<|r.E L)else bU
 |.Subscript o i _=>R6 M r L o i
 |.Attribute o f _=>ň M r L o f
 |.ListComp j m sc p=>dR<|pM r L<|.ListComp j m sc p
 |.JoinedStr k _=>joE r L k
 |.Call f g l cp=>(match l with
  |[]=>Ŋ M aj r L g cp f
  |_::_=>bU)
 |_=>bU
def boT(l:List FT):BoolOp->FT
 |.And=>GZ l
 |.Or=>R0 l
def ŋ(M:Gm)(r:Rc)(L:Lc)(a:cC):List lp->Bz->FT
 |[op],[b]=>if fv op b then qJ else aY (we M r L a op b)
 |_,_=>qJ
def stepT(M:Gm)(r:Rc)(L:Lc)(e:cC):FT:=match e with
 |.BoolOp c d _=>boT (d.map<|r.T L) c
 |.UnaryOp c a _=>(match c with
  |.Not=>fm<|r.T L a
  |_=>tB<|r.E L e)
 |.Compare a b bs _=>ŋ M r L a b bs
 |.IfExp _ _ _ _=>qJ
 |_=>tB<|r.E L e
def A1(e:cC):Option Bz:=(jY e).bind λq=>if q.1=("range" : Str)/\q.2.2.isEmpty=O then U q.2.1 else Y
def wg(e:cC):Option<|cC×Int:=(jY e).bind λq=>if q.1=("enumerate" : Str)then(match q.2.1 with
 |[a]=>(match q.2.2 with
  |[]=>U (a,0)
  |[w]=>(match gH w.value with
   |U<|.int n=>if w.arg=U ("start" : Str)/\n=1 then U (a,n)else Y
   |_=>Y)
  |_=>Y)
 |_=>Y)else Y
def R8:cC->Bool
 |.Tuple _ _ _=>O
 |_=>Zi
def Lh:cC->Bool
 |.Name _ _=>O
 |_=>Zi
def stepI(M:Gm)(r:Rc)(L:Lc)(tg e:cC):FL:=match A1 e with
 |some b=>if blt M L ("range" : Str)&&b.all noStar then(match b with
   |[a]=>xA nt<|d9 [r.E L a]
   |_=>kE)else kE
 |none=>(match wg e with
  |some (a,n)=>if blt M L ("enumerate" : Str)&&R8 tg&&noStar a then mH n (r.E L a)else kE
  |none=>if Lh tg then mG (r.E L e)else KO (r.E L e))
def Ox(r:Rc)(L:Lc):cC->FL
 |.List b _=>if b.all noStar then iN (d9<|b.map<|r.E L)else kE
 |.ListComp a c sc p=>pM r L<|.ListComp a c sc p
 |_=>kE
def comp(M:Gm)(aj:Nat->Fn):Nat->Rc
 |0=>⟨λ_ _=>bU,λ_ _=>qJ,λ_ _ _=>kE,λ_ _=>kE⟩
 |n+1=>⟨Ow M aj<|comp M aj n,stepT M<|comp M aj n,stepI M<|comp M aj n,Ox<|comp M aj n⟩
def A2(L:Lc)(t:Str)(tp:Pos):cC->Bool
 |.ListComp _ _ sc p=>(if L.sc.kind.isAnnotationScope then vD else L.sc.kind) == .function&&L.sc.names.lookup t == U .local&&tp.line == p.line&&!(sc.names.any λ(n,k)=>n == t&&(k == .local ||k == .cell))
 |_=>Zi
def wj:cC->Bool
 |.ListComp _ _ _ _=>O
 |.SetComp _ _ _ _=>O
 |.DictComp _ _ _ _ _=>O
 |_=>Zi
def uo(nm:Str)(mu:Bi)(e:cC):Option<|Str×cC:=(at1 e).bind λw=>(asName w.1).bind λy=>if w.2.1=nm/\mu.contains y=O then U (y,w.2.2)else Y
def G5:cC->Bool
 |.Dict [] [] _=>O
 |_=>Zi
def G6(M:Gm)(aj:Nat->Fn)(n:Nat)(L:Lc)(x:Str)(e:cC):FS:=match ir L.N x with
 |some i=>if iB L x then(if L.mu.contains x then(if G5 e then Gz i else iz i ((comp M aj n).O L e))else aA i ((comp M aj n).E L e))else dJ
 |none=>dJ
def Oz:cC->Bool
 |.Tuple a _ _=>a.all<|z6 8
 |_=>O
abbrev many:Nat:=1000000
def Xo(L:Lc)(x y:Str)(d c:Pos)(a b:cC):Bool:=((if L.sc.kind.isAnnotationScope then vD else L.sc.kind) == .function)&&decide (L.sc.names.lookup x=U .local)&&decide (L.sc.names.lookup y=U .local)&&(c.line == d.line)&&decide (x≠y)&&!([a,b].all<|z6 8)&&!([a,b].all<|constantsAlone 8)&&[a,b].all noStar
def R9:cC->Option (Str×Pos)
 |.Name x p=>U (x,p)
 |_=>Y
def Xp(L:Lc)(d:Bz)(e:cC):Option<|Nat×Nat×cC×cC:=(Xm e).bind λc=>match d,c with
 |[t,u],[a,b]=>(R9 t).bind λx=>(R9 u).bind λy=>if Xo L x.1 y.1 x.2 y.2 a b then(ir L.N x.1).bind λi=>(ir L.N y.1).map λj=>(i,j,a,b)else Y
 |_,_=>Y
def tupS(M:Gm)(aj:Nat->Fn)(n:Nat)(L:Lc)(c:Bz)(e:cC):FS:=match Xp L c e with
 |some (i,j,a,b)=>GW i j<|d9 [(comp M aj n).E L a,(comp M aj n).E L b]
 |none=>if wj e || !Oz e || !c.all noStar then dJ else(match Ou L.N (iB L) (.Tuple c 0 ⟨0,0,0,0⟩)with
  |some (g,_)=>yi g<|(comp M aj n).E L e
  |none=>dJ)
def R_(M:Gm)(aj:Nat->Fn)(n:Nat)(L:Lc)(o:cC)(f:Str)(e:cC):FS:=match ir M.P.an f with
  |some j=>kF M.P.tab j ((comp M aj n).E L o)<|(comp M aj n).E L e
  |none=>dJ
def Sa(M:Gm)(aj:Nat->Fn)(n:Nat)(L:Lc)(o b e:cC):FS:=if wj e ||isSlice b then dJ else if((asName o).any M.bx.contains)=O then o9 M.bc ((comp M aj n).E L o) ((comp M aj n).E L b) ((comp M aj n).E L e)else match(asName o).bind λy=>if iB L y then ir L.N y else Y with
  |some i=>Ot i ((comp M aj n).E L b)<|(comp M aj n).E L e
  |none=>dJ
def asS(M:Gm)(aj:Nat->Fn)(n:Nat)(L:Lc)(e:cC):cC->FS
 |.Name x _=>G6 M aj n L x e
 |.Tuple a _ _=>tupS M aj n L a e
 |.Attribute o f _=>R_ M aj n L o f e
 |.Subscript o b _=>Sa M aj n L o b e
 |_=>dJ
def Sb(M:Gm)(aj:Nat->Fn)(n:Nat)(L:Lc)(t:cC)(op:qv)(e:cC):FS:=match(asName t).bind λx=>(ir L.N x).map λi=>(x,i)with
  |some (x,i)=>if op=.Add/\iB L x=O then Fx AL i ((comp M aj n).E L e)else dJ
  |none=>dJ
def Ō(M:Gm)(aj:Nat->Fn)(n:Nat)(L:Lc)(e:cC):FS:=match uo "append" L.mu e with
  |some (y,a)=>(match ir L.N y with
   |some i=>if iB L y then gf i ((comp M aj n).E L a)else dJ
   |none=>dJ)
  |none=>if wj e then dJ else bW ((comp M aj n).E L e)
def retS(M:Gm)(aj:Nat->Fn)(n:Nat)(L:Lc):Option cC->FS
 |some e=>if L.mu.contains ("return" : Str)then ao (vI M.bc<|(comp M aj n).O L e)else ao ((comp M aj n).E L e)
 |none=>ao<|cF .non
def Sd(M:Gm)(aj:Nat->Fn)(n:Nat)(L:Lc)(b:FS)(tg it:cC):FS:=if isSet it then dJ else(match Ou L.N (iB L) tg with
  |some (g,_)=>gT ((comp M aj n).I L tg it) g b
  |none=>dJ)
def Li:hF->Option cC
 |.Expr e _=>U e
 |_=>Y
def rQ:hF->Option (Str×cC)
 |.Assign ts e _=>(match ts with
  |[t]=>(asName t).map λx=>(x,e)
  |_=>Y)
 |_=>Y
def Xr:hF->Option (cC×Ee×Ee)
 |.If c a b _=>U (c,a,b)
 |_=>Y
def xmA(M:Gm)(e:cC):Option<|Nat×Nat×cC×Bz:=(tZ e).bind λq=>(jX q.1).bind λw=>(M.xt.lookup w.2.1).bind λa=>if q.2.2.1.isEmpty=O/\c5 w.1=O/\q.2.1.all noStar=O/\q.2.1.length<29/\(w.2.2.endLine == q.2.2.2.line)=O then U (a.1,a.2,w.1,q.2.1)else Y
def Xs(L:Lc)(e:cC):Option<|Str×Bz:=(jY e).bind λq=>if q.2.2.isEmpty=O/\q.2.1.isEmpty=Zi/\um L q.1=O/\q.2.1.all noStar=O then U (q.1,q.2.1)else Y
def ZP(M:Gm)(L:Lc)(e:cC):Option<|Nat×Bz:=(Xs L e).bind λq=>(M.xs.lookup q.1).map λi=>(i,q.2)
def fzA(M:Gm)(L:Lc)(e:cC):Option<|Nat×Nat×Bz:=(Xs L e).bind λq=>match M.cl.lookup q.1 with
 |U<|.fz c n=>U (c,n,q.2)
 |_=>Y
def xE(M:Gm)(aj:Nat->Fn)(r:Rc)(L:Lc):Nat->cC->Option FE
 |0,_=>Y
 |d+1,e=>match xmA M e with
  |some (c,i,o,b)=>U<|lP c (aj i) (r.E L o)<|d9<|b.map λa=>bO<|r.E L a
  |none=>match ZP M L e with
   |some (i,b)=>U<|af (aj i) []<|d9<|b.map λa=>bO<|r.E L a
   |none=>match fzA M L e with
    |some (c,n,b)=>if b.any (λa=>(xE M aj r L d a).isSome)then U (dh c n<|d9<|b.map λa=>(xE M aj r L d a).getD<|bO<|r.E L a)else Y
    |none=>Y
def isA(nm:Str)(e:cC):Option Str:=(jY e).bind λq=>match q.2.1 with
 |[a,b]=>if q.1=("isinstance" : Str)/\q.2.2.isEmpty=O/\asName a=U nm then asName b else Y
 |_=>Y
def uq(nm:Str):Bz->Option Bi
 |[]=>U []
 |e::es=>(isA nm e).bind λy=>(uq nm es).map (y::·)
def G7:cC->Option Bz
 |.List a _=>U a
 |_=>Y
def ō(x:Str):cC->Option Bz
 |.BinOp a c b _=>if c=.Add/\asName a=U x then G7 b else Y
 |_=>Y
def Se(o:Option cC):Bool:=match o.bind gH with
 |U<|.int n=>decide<|n=3
 |_=>Zi
def Lj(e:cC):Bool:=match gH e with
 |U<|.bool b=>b
 |_=>Zi
def Sf(o:Option cC):Bool:=match o.bind gH with
 |some .none=>O
 |_=>Zi
def G8:cC->Option cC
 |.Subscript o i _=>(match i with
  |.Slice lo a st _=>if lo.isNone=O/\st.isNone=O/\Se a=O then U o else Y
  |_=>Y)
 |_=>Y
def inA(x:Str):cC->Bool
 |.Compare a c bs _=>(match kO bs ([]:B1)with
  |some b=>decide (c=[.In])&&Lj a&&decide ((G8 b).bind asName=U x)
  |none=>Zi)
 |_=>Zi
def Sg(nm f:Str)(e:cC):Bool:=match jX e with
 |some q=>decide (asName q.1=U nm)&&decide (q.2.1=f)
 |none=>Zi
def suA(M:Gm)(nm f:Str):Ee->Option (Str×Str)
 |[s1,s2,s3,s4]=>(rQ s1).bind λq1=>(rQ s2).bind λq2=>(rQ s3).bind λa=>(Xr s4).bind λt=>(kO t.2.1 t.2.2).bind λs5=>(rQ s5).bind λp=>
   (G7 q1.2).bind λl1=>(ō q1.1 q2.2).bind λl2=>(ō q1.1 a.2).bind λl3=>(uq nm l1).bind λd=>(uq nm l2).bind λc=>(uq nm l3).bind λb=>
   if(q2.1=q1.1/\a.1=q1.1)/\inA q1.1 t.1=O/\Sg nm f p.2=O/\d++c++b=M.ys then U (q1.1,p.1)else Y
 |_=>Y
def Sh(M:Gm)(aj:Nat->Fn)(n:Nat)(L:Lc):Ee->List Dq->Option FS
 |[s],[.ExceptHandler ty a su _]=>(Li s).bind λe=>(ZP M L e).bind λq=>(ty.bind asName).bind λy=>a.bind λa=>(suA M a ("row" : Str) su).bind λx=>(ir L.N a).bind λi=>(ir L.N x.1).bind λj=>(ir L.N x.2).bind λm=>
   if(um L y=O/\y=M.xm/\um L ("isinstance" : Str)=O/\M.ys.all (um L)=O/\M.bl.contains ("isinstance" : Str)=O)/\(iB L x.1=O/\iB L x.2=O/\iB L a=O)/\L.sc.names.lookup a=U .local/\j≠i/\m≠i then U (wc (af (aj q.1) []<|pK<|d9<|q.2.map<|(comp M aj n).E L)<|RU i j m M.kb)else Y
 |_,_=>Y
def Xu(M:Gm)(aj:Nat->Fn)(n:Nat)(g:Lc->Ee->FS)(L:Lc):hF->FS
 |.Assign ts e _=>(match ts with
  |[t]=>asS M aj n L e t
  |_=>dJ)
 |.AugAssign t j e _=>Sb M aj n L t j e
 |.Expr e _=>Ō M aj n L e
 |.Return o _=>retS M aj n L o
 |.If c a b _=>aO ((comp M aj n).T L c) (g L a)<|g L b
 |.For i it d f _=>(match f with
  |[]=>Sd M aj n L (g L d) i it
  |_::_=>dJ)
 |.While c d f _=>(match f with
  |[]=>jS many ((comp M aj n).T L c)<|g L d
  |_::_=>dJ)
 |.Try d h f k _=>(match h,f,k with
  |_::_,[],[]=>(match Sh M aj n L d h with
   |some F=>F
   |none=>dJ)
  |_,_,_=>dJ)
 |.Pass _=>az
 |_=>dJ
def j0(M:Gm)(aj:Nat->Fn)(n:Nat):Nat->Lc->Ee->FS
 |0,_,_=>dJ
 |_+1,_,[]=>az
 |k+1,L,[st]=>Xu M aj n (j0 M aj n k) L st
 |k+1,L,st::rest=>ah (Xu M aj n (j0 M aj n k) L st)<|j0 M aj n k L rest
def Si:hF->Option (cC×Option cC)
 |.Raise e c _=>e.map λe=>(e,c)
 |_=>Y
def ZQ(M:Gm)(x:Str):Option<|Nat×Option Str:=((M.xc.map (·.1)).idxOf? x).bind λc=>(M.xc[c]?).map λq=>(c,q.2.1)
def Xv:cC->Option cC
 |.FormattedValue e a sp _=>if a=114/\sp.isNone=O then U e else Y
 |_=>Y
def shA:cC->Option cC
 |.JoinedStr l _=>(match l with
  |[a,b]=>(Xv a).bind λe=>(kT b).bind λy=>if y.length<=1000 then U e else Y
  |_=>Y)
 |_=>Y
def rsF(M:Gm)(aj:Nat->Fn)(n:Nat)(L:Lc)(e:cC):Option FS:=(Xs L e).bind λq=>(ZQ M q.1).bind λc=>match c.2 with
 |some _=>U<|GJ c.1<|d9<|q.2.map<|(comp M aj n).E L
 |none=>(kO q.2 ([]:B1)).map λa=>match shA a with
  |some b=>yD c.1<|dE ZJ<|(comp M aj n).E L b
  |none=>yD c.1<|(comp M aj n).E L a
def G9:hF->Option cC
 |.Return o _=>o
 |_=>Y
def OA(M:Gm)(aj:Nat->Fn)(n:Nat)(L:Lc):hF->Option FS
 |.Try b d c f _=>(match d with
  |[.ExceptHandler ty nm su _]=>(kO b<|c.map λ_=>0).bind λs=>(kO su<|f.map λ_=>0).bind λt=>(G9 s).bind λe=>(ZP M L e).bind λq=>(ty.bind asName).bind λy=>(Si t).bind λz=>(Xs L z.1).bind λw=>(kO w.2 ([]:B1)).bind λa=>(jX a).bind λat_=>(asName at_.1).bind λv=>
   (ZQ M y).bind λc1=>(ZQ M w.1).bind λc2=>(ir L.N v).bind λi=>(ir M.P.an at_.2.1).bind λj=>
   if(nm.isNone=O/\Sf z.2=O/\um L y=O)/\iB L v=O/\c1.2.isNone=O/\c2.2.isSome=O then U (CK c1.1 c2.1 (af (aj q.1) []<|pK<|d9<|q.2.map<|(comp M aj n).E L)<|aV M.P.tab j<|vF i)else Y
  |_=>Y)
 |_=>Y
def xD:Nat:=4
def ZR(M:Gm)(aj:Nat->Fn)(n:Nat)(f:Lc->Ee->FS)(L:Lc)(st:hF):FS:=match(Si st).bind λz=>if z.2.isNone then rsF M aj n L z.1 else Y with
 |some F=>F
 |none=>match(Li st).bind (xE M aj (comp M aj n) L xD)with
 |some fe=>bW fe
 |none=>match(G9 st).bind (xE M aj (comp M aj n) L xD)with
 |some fe=>ao fe
 |none=>match(rQ st).bind λq=>(xE M aj (comp M aj n) L xD q.2).bind λfe=>(ir L.N q.1).bind λi=>if iB L q.1=O/\L.mu.contains q.1=Zi then U (i,fe)else Y with
 |some (i,fe)=>aA i fe
 |none=>match(Li st).bind λe=>(uo "append" L.mu e).bind λq=>(xE M aj (comp M aj n) L xD q.2).bind λfe=>(ir L.N q.1).bind λi=>if iB L q.1=O then U (i,fe)else Y with
 |some (i,fe)=>gf i fe
 |none=>match OA M aj n L st with
 |some F=>F
 |none=>(match st with
   |.If c a b _=>aO (b8<|(comp M aj n).T L c) (f L a)<|f L b
   |.For j it d h _=>(match h with
    |[]=>if isSet it then dJ else(match Ou L.N (iB L) j with
     |some (g,_)=>gT (pK<|(comp M aj n).I L j it) g<|f L d
     |none=>dJ)
    |_::_=>dJ)
   |.While c d h _=>(match h with
    |[]=>jS many (b8<|(comp M aj n).T L c)<|f L d
    |_::_=>dJ)
   |st=>eV<|Xu M aj n (j0 M aj n 200) L st)
def wm(M:Gm)(aj:Nat->Fn)(n:Nat):Nat->Lc->Ee->FS
 |0,_,_=>dJ
 |_+1,_,[]=>az
 |k+1,L,[st]=>ZR M aj n (wm M aj n k) L st
 |k+1,L,st::rest=>ah (ZR M aj n (wm M aj n k) L st)<|wm M aj n k L rest
end D
namespace D
open PySem L2
def G_(K:bh)(mg:Str->D1)(C:cq):Bi->Fh->Prop
 |[],[]=>True
 |y::ys,b::bs=>Ĺ K mg C y b/\G_ K mg C ys bs
 |_,_=>False
theorem G_.split{C:cq}:∀{xs ys:Bi}{bs:Fh},G_ K mg C (xs++ys) bs->∃b1 b2,bs=b1++b2/\G_ K mg C xs b1/\G_ K mg C ys b2
 |[],ys,bs,h=>⟨[],bs,J,trivial,h⟩
 |x::xs,ys,b::bs,h=>by
  obtain⟨b1,b2,e,c,a⟩:=G_.split<|show G_ K mg C (xs++ys) bs from h.2;exact⟨b::b1,b2,by rw[e];rfl,⟨h.1,c⟩,a⟩
structure XsF(M:Gm)(Pr:dv)(w:ee)(K:bh)(mg:Str->D1)(base:ek)(N:XN):Prop where
 one:∀(c:Nat)x f i,M.xc[c]?=U (x,U f,i)->∃C,N[c]?=U (C,U f)/\ZK K Pr w mg base C f x
 non:∀(c:Nat)x i,M.xc[c]?=U (x,Y,i)->∃C,N[c]?=U (C,Y)/\XM0 K mg C x/\BQ K (.ref C) (.ref C)=U O
 kd:∃CB,mg M.xm=U (.ref CB)/\∀(c:Nat)bs,M.kb[c]?=U bs->∃C,N[c]?=U (C,U ("row" : Str))/\nk K C/\qN K C/\cO K C "row" /\ BQ K (.ref C) (.ref CB)=U O/\G_ K mg C M.ys bs/\bs.length<=1000/\Up (.bl O) (tm (bs.map V.bl) Y<|U 3)=O
structure yF(M:Gm)(N:XN)(Pr:dv)(w:ee)(K:bh)(mg:Str->D1)(base:ek)(aj:Nat->Fn)(k:Nat):Prop where
 pg:tQ K mg M.P
 cst:∀x t,M.cs.lookup x=U t->AM K mg x t
 fns:∀x ds i,M.fs.lookup x=U (ds,i)->Ĩ M.P Pr w K mg base k x ds (aj i)
 fz:∀x c n,M.cl.lookup x=U (.fz c n)->ĩ M.P Pr w K mg base k c n x
 z0:∀x c,M.cl.lookup x=U (.z0 c)->Wz M.P Pr w K mg c x
 cp:∀x c,M.cl.lookup x=U (.cp c)->DnP M.P Pr w K mg base k c x
 nw:∀x c i,M.cl.lookup x=U (.nw c i)->DnN M.P Pr w K mg base k c x (aj i)
 mts:∀m l c i,M.ms.lookup m=U l->l.lookup c=U i->ZG M.P Pr w K mg base k c m (aj i)
 bl:∀x,x∈M.bl->mg x=Y
 xf:XsF M Pr w K mg base N
 xs:∀x i,M.xs.lookup x=U i->W4 M.P Pr w K mg base N k x (aj i)
 xt:∀m c i,M.xt.lookup m=U (c,i)->ĵ M.P Pr w K mg base N k c m (aj i)
structure CxOk(M:Gm)(N:XN)(aj:Nat->Fn)(k:Nat)(L:Lc)(X:Cx):Prop where
 gm:yF M N X.prog X.w X.K X.mg X.base aj k
 N:X.N=L.N
 sc:X.env.scope=L.sc
 calm:X.calm=O
 room:∃j,k+1<=j/\bj j X.A
variable{X:Cx}{a b c e o:cC}{M:Gm}{L:Lc}{i k:Nat}{aj:Nat->Fn}{K:bh}{r:Rc}{x y:Str}{N:XN}
def gj{N:Bi}(h:ir N x=U i):N[i]?=U x:=by
 unfold ir at h;rw[M5,M6]at h;obtain⟨a,b,_⟩:=h;rw[fQ a,eq_of_beq b]
def Lk(h:kU x=Zi):aX x/\fh x:=by
 unfold kU at h;exact uS.mp h
def fD(C:CxOk M N aj k L X)(h:iB L x=O):Loc X.env.scope x/\kg X.env.scope x/\aX x/\fh x:=by
 rw[C.sc];unfold iB at h;split at h
 .rename_i e
  obtain⟨b,a⟩:=Lk (by simpa using h)
  exact⟨.inl e,.inl e,b,a⟩
 .rename_i e
  obtain⟨b,a⟩:=Lk (by simpa using h)
  exact⟨.inr e,.inr<|.inl e,b,a⟩
 .cases h
def eF(C:CxOk M N aj k L X)(h:um L x=O):Gl X x/\aX x:=by
 unfold um at h;rw[bZ]at h;obtain⟨b,a⟩:=h;refine⟨?_,(Lk<|by simpa using a).1⟩
 show X.env.scope.names.lookup x=_;rw[C.sc];exact bt b
def CM(M:Gm)(X:Cx)(r:Rc)(L:Lc):Prop:=∀e,PE X e<|tE (M.P.kt X)<|r.E L e
def Ŏ(M:Gm)(X:Cx)(r:Rc)(L:Lc):Prop:=∀e,PT X e<|tT (M.P.kt X)<|r.T L e
def OkI(M:Gm)(X:Cx)(r:Rc)(L:Lc):Prop:=∀a e,PI X a e<|tI (M.P.kt X)<|r.I L a e
def OkO(M:Gm)(X:Cx)(r:Rc)(L:Lc):Prop:=∀e,PE X e<|tO (M.P.kt X)<|r.O L e
def yG(M:Gm)(N:XN)(aj:Nat->Fn)(k:Nat)(r:Rc):Prop:=∀L X,CxOk M N aj k L X->CM M X r L/\Ŏ M X r L/\OkI M X r L/\OkO M X r L
theorem fF(a:CM M X r L):∀es:Bz,es.all noStar=O->PA X es (tA (M.P.kt X)<|d9<|es.map<|r.E L)
 |[],_=>tN
 |e::es,h=>by
  rw[ed,bZ]at h;exact nM (a e) (fF a es h.2)<|aB h.1
theorem wo(c:CM M X r L):∀es:Bz,PE X (.BoolOp .And es pos)<|tE (M.P.kt X)<|GY<|es.map<|r.E L
 |[]=>aU
 |[a]=>FI<|c a
 |a::b::es=>QQ (c a)<|wo c<|b::es
theorem A3(c:CM M X r L):∀es:Bz,PE X (.BoolOp .Or es pos)<|tE (M.P.kt X)<|R1<|es.map<|r.E L
 |[]=>aU
 |[a]=>FI<|c a
 |a::b::es=>V4 (c a)<|A3 c<|b::es
def Xw:PW X e<|tT (M.P.kt X) qJ:=λ_ _ _ _ _ _ _ a=>by obtain⟨_,_,_,_,_,h,_⟩:=a;cases h
theorem wt(c:Ŏ M X r L):∀es:Bz,PW X (.BoolOp .And es pos)<|tT (M.P.kt X)<|GZ<|es.map<|r.T L
 |[]=>Xw
 |[a]=>QP<|c a
 |a::b::es=>V2 (c a)<|wt c<|b::es
theorem A4(c:Ŏ M X r L):∀es:Bz,PW X (.BoolOp .Or es pos)<|tT (M.P.kt X)<|R0<|es.map<|r.T L
 |[]=>Xw
 |[a]=>V1<|c a
 |a::b::es=>đ (c a)<|A4 c<|b::es
def cY{α:Type}{l:List<|Str×α}{a:α}(h:l.lookup x=U a):(x,a)∈l:=by
 induction l with
 |nil=>simp at h
 |cons p l c=>
  obtain⟨q,b⟩:=p;rw[jK]at h;split at h
  .rename_i e
   cases h;rw[eq_of_beq e];exact eX ..
  .exact bw _<|c h
theorem yH(C:CxOk M N aj k L X):∀{ys:Bi}{ds:B1},wd M L ys=U ds->ys.length=ds.length/\∀(i d:Nat)(y:Str),ds[i]?=U d->ys[i]?=U y->M.P.cn[d]?=U y/\(M.P.fn[d]?).isSome=O/\Gl X y/\aX y
 |[],ds,h=>by
  cases h;exact⟨J,λi d y h=>by simp at h⟩
 |y::ys,ds,h=>by
  unfold wd at h;split at h
  .rename_i q
   rw[bZ]at q;obtain⟨d,c,l⟩:=a_.mp h;obtain⟨p,j,rfl⟩:=d_.mp l;obtain⟨g,f⟩:=yH C j;obtain⟨n,m⟩:=eF C q.1;refine⟨by simp[g],λi o e b a=>?_⟩
   cases i with
   |zero=>
    simp at b a;subst b a;refine⟨gj c,?_,n,m⟩;have q2:=q.2;rw[c]at q2;exact q2
   |succ i=>exact f i o e (by simpa using b) (by simpa using a)
  .cases h
def kW(C:CxOk M N aj k L X)(h:blt M L x=O):Gl X x/\X.mg x=Y/\aX x:=by
 unfold blt at h;rw[bZ]at h;obtain⟨b,a⟩:=eF C h.2;exact⟨b,C.gm.bl x<|uY.mp h.1,a⟩
def Xx(C:CxOk M N aj k L X)(h:CM M X r L)(j:blt M L ("isinstance" : Str)=O)(e:noStar a=O):PE X (.Call (.Name "isinstance" p) [a,q] [] pos)<|tE (M.P.kt X)<|isF M r L a q:=by
 obtain⟨g,f,_⟩:=kW C j;cases q with
 |Name y w=>
  show PE X _<|tE (M.P.kt X)<|match vR.lookup y with|some ty=>_|none=>_
  split
  .rename_i ty t
   split
   .rename_i q
    rw[bZ]at q;obtain⟨l,x⟩:=eF C q.2;exact Q7 J (cY t) f (C.gm.bl _<|uY.mp q.1) (h a) g l e
   .exact aU
  .split
   .rename_i ds c
    obtain⟨i,b⟩:=yH C c
    match ds,i,b with
    |[d],_,b=>
     obtain⟨s,o,n,m⟩:=b 0 d y J J;exact Wv C.gm.pg s f (h a) g n e m o
   .exact aU
 |Tuple es u v=>
  show PE X _<|tE (M.P.kt X)<|if es.length<=100 then _ else bU
  split
  .rename_i hl
   split
   .rename_i ds c
    revert c;refine Nw λys h0=>λc=>?_;obtain⟨i,b⟩:=yH C c;exact WX C.gm.pg h0 i b hl f (h a) g e
   .exact aU
  .exact aU
 |_=>exact aU
def Hb{c:Bz}(h:setArg M L f c=U a):f=("len" : Str)/\blt M L ("set" : Str)=O/\noStar a=O/\∃d i,c=[.Call (.Name "set" d) [a] [] i]:=by
 revert h;refine Nw λe h0=>NA λg b k=>λh=>?_;obtain⟨⟨q1,q2,j,q4⟩,h⟩:=gv.mp h;cases h;obtain⟨d,i,l⟩:=KY k;exact⟨q1,j,q4,d,i,by rw[(du h0).1,l,q2]⟩
def ie(C:CxOk M N aj k L X)(h:G2 L b=U i):∃y a,b=.Name y a/\X.N[i]?=U y/\kg X.env.scope y/\aX y/\fh y:=by
 cases b<;>try(cases h;done)
 replace h:(if _ then _ else Y)=U i:=h
 split at h
 .rename_i q
  obtain⟨l1,l2,l3,l4⟩:=fD C q;exact⟨_,_,J,by rw[C.N];exact gj h,l2,l3,l4⟩
 .cases h
def Ll(C:CxOk M N aj k L X)(c:CM M X r L)(h:fv op b=Zi):PE X (.Compare a [op] [b] pos)<|tE (M.P.kt X)<|we M r L a op b:=by
 obtain⟨j,m,d⟩:=C.room;unfold we;split
 .rename_i i f
  obtain⟨q,e⟩:=gv.mp f
  obtain rfl:=q.1
  obtain⟨y,l,rfl,l1,l2,l3,l4⟩:=ie C e;exact Xi J d (c b) l1 l2 l3 l4 h
 split
 .rename_i neg i f e
  obtain⟨y,l,rfl,q1,q2,g,q4⟩:=ie C e;exact W2 J d f (c a) q1 q2 g q4
 .exact Ry J d (c a) (c b) h
def Hc(C:CxOk M N aj k L X)(c:CM M X r L)(h:fv op b=Zi):PT X (.Compare a [op] [b] pos)<|tT (M.P.kt X)<|aY<|we M r L a op b:=by
 obtain⟨j,m,d⟩:=C.room;unfold we;split
 .rename_i i f
  obtain⟨q,e⟩:=gv.mp f
  obtain rfl:=q.1
  obtain⟨y,l,rfl,l1,l2,l3,l4⟩:=ie C e;exact RZ J d (c b) l1 l2 l3 l4 h
 split
 .rename_i neg i f e
  obtain⟨y,l,rfl,q1,q2,g,q4⟩:=ie C e;exact RA J d f (c a) q1 q2 g q4
 .exact K5 J d (c a) (c b) h
def Lm(a:X.calm=O):∀p∈Xn,ĥ X p.1 p.2:=by
 intro p h;rcases bF.mp h with rfl|h
 .exact⟨⟨_,Wl,.inl ⟨_,PyProof.Rows.boot_abs,Ey⟩⟩,by decide,by decide⟩
 rcases bF.mp h with rfl|h
 .exact⟨⟨_,Xk,.inl ⟨_,PyProof.Rows.boot_max,Cd a⟩⟩,by decide,by decide⟩
 .exact Q5 a p h
def Hf(C:CxOk M N aj k L X)(t:CM M X r L)(f:Str)(b:Bz):PE X (.Call (.Name f p) b [] pos)<|tE (M.P.kt X)<|yE M aj r L f b:=by
 obtain⟨j,s,o⟩:=C.room;unfold yE;split
 case isFalse=>exact aU
 rename_i l;have u:=fF t b l;split
 .rename_i ds i v
  split
  case isFalse=>exact aU
  rename_i q;obtain⟨g,d⟩:=eF C q;cases b with
  |nil=>exact KL (C.gm.fns f ds i v) o (eY (fJ ..) s) g d
  |cons a b=>exact s_call (C.gm.fns f ds i v) o (eY (fJ ..) s) u g d l
 .split
  .rename_i c n m
   split
   case isFalse=>exact aU
   rename_i q;rw[bZ]at q;obtain⟨g,d⟩:=eF C q.1;cases b with
   |nil=>cases q.2
   |cons a b=>exact Wx (C.gm.fz f c n m) o s u g d l
  .rename_i c m
   split
   case isFalse=>exact aU
   rename_i q;rw[bZ]at q;obtain⟨g,d⟩:=eF C q.1;cases b with
   |nil=>exact Q_ (C.gm.z0 f c m) g d
   |cons a b=>cases q.2
  .rename_i c m
   split
   .rename_i a
    split
    case isFalse=>exact aU
    rename_i q;obtain⟨g,d⟩:=eF C q;exact Rt (C.gm.cp f c m) o s (t a) g d (by simpa using l)
   .exact aU
  .rename_i c i m
   split
   case isFalse=>exact aU
   rename_i q;rw[bZ]at q;obtain⟨g,d⟩:=eF C q.1;cases b with
   |nil=>cases q.2
   |cons a b=>exact Rr (C.gm.nw f c i m) o s u g d l
  .split
   case isFalse=>exact aU
   rename_i w;obtain⟨g,d,I⟩:=kW C w;split
   .rename_i a q e
    have e:=eq_of_beq e;subst e;rw[ed,bZ]at l;exact Xx C t w l.1
   .split
    .rename_i a A
     obtain⟨rfl,E,D,G,H,rfl⟩:=Hb A;obtain⟨k1,k2,k3⟩:=kW C E;exact GD C.calm d k2 (t a) g k1 D
    .split
     .rename_i i x
      obtain⟨e,h0,h⟩:=a_.mp x;obtain⟨q,B⟩:=gv.mp h
      obtain rfl:=q.1
      obtain⟨y,F,rfl,l1,l2,l3,l4⟩:=ie C B;rw[(du h0).1];exact K2 J l1 l2 l3 l4 g d
     .split
      .rename_i z _ _ _
       exact Ws (Lm C.calm (f,_)<|cY z) J g d u l
      .exact aU
theorem pN(C:CxOk M N aj k L X)(b:∀x∈frees sc,sc.names.lookup x=U .free/\L.sc.names.lookup x=U .cell):∀{xs:Bi}{js:B1},idxs L.N xs=U js->(∀x∈xs,x∈frees sc)->f_ X sc js xs
 |[],js,h,_=>by cases h;exact .nil
 |x::xs,js,h,a=>by
  obtain⟨i,g,f⟩:=a_.mp<|show(ir L.N x).bind _=U js from h;obtain⟨c,e,rfl⟩:=d_.mp f;obtain⟨l,j⟩:=b x<|a x<|eX ..;refine .cons (by rw[C.N];exact gj g) l ?_<|pN C b e λy d=>a y<|bw _ d
  show X.env.scope.names.lookup x=_;rw[C.sc];exact j
def CO(h:x∈frees sc):(x,NameKind.free)∈sc.names:=by
 unfold frees at h;obtain⟨q,c,a⟩:=DM.mp h;obtain⟨n,b⟩:=q;split at a
 .rename_i e;cases a;have e:b=.free:=e;subst e;exact c
 .cases a
def Hg(C:CxOk M N aj k L X)(sc:gV):HY sc X.env=G0 sc L.sc:=by
 unfold HY G0 va;rw[C.sc]
theorem yI{d:Bi}{ok:Str->Bool}(f:X.N.Nodup)(h:∀x i,ok x=O->ir d x=U i->X.N[i]?=U x/\Loc X.env.scope x/\(L9 X x)):∀{es:Bz}{xs:Bi}{is:B1},namesOf es=U xs->xs.all ok=O->idxs d xs=U is ->
  UX X es (pG is)/\(iq es X.env).length=is.length/\(iq es X.env).findIdx? (·.1)=Y
 |[],xs,is,a,_,b=>by
  cases a;cases b;exact⟨JO,J,J⟩
 |e::es,xs,is,a,c,b=>by
  cases e<;>try(cases a;done)
  rename_i x t;obtain⟨s,o,rfl⟩:=d_.mp<|show(namesOf es).map (x::·)=U xs from a
  rw[ed,bZ]at c;obtain⟨i,n,m⟩:=a_.mp<|show(ir d x).bind _=U is from b;obtain⟨ŏ,l,rfl⟩:=d_.mp m;obtain⟨r,q,p⟩:=h x i c.1 n;obtain⟨k,j,g⟩:=yI f h o c.2 l;refine⟨El (sX f r q p) k J,?_,?_⟩
  .show((Zi,_)::iq es X.env).length=_
   rw[eu,j];rfl
  .show List.findIdx? (·.1) ((Zi,_)::iq es X.env)=Y
   rw[List.findIdx?_cons];simp only[g];rfl
def Hh(m:B.K=X.K){e:Bi}{ok:Str->Bool}(l:X.calm=O)(d:X.N.Nodup)(h:∀x i,ok x=O->ir e x=U i->X.N[i]?=U x/\Loc X.env.scope x/\(L9 X x))
  (a:Ou e ok tg=U (g,is)):∃gt,PG X tg gt/\qM B gt g is:=by
 cases tg<;>try(cases a;done)
 .rename_i x v
  replace a:(if ok x=O then _ else Y)=U (g,is):=a
  split at a
  .rename_i q
   obtain⟨i,c,b⟩:=d_.mp a;cases b;obtain⟨s,r,p⟩:=h x i q c;exact⟨_,sX d s r p,AA i⟩
  .cases a
 .rename_i es t u
  replace a:(namesOf es).bind _=U (g,is):=a
  obtain⟨xs,c,b⟩:=a_.mp a;split at b
  .rename_i q
   obtain⟨ŏ,o,n⟩:=d_.mp b;cases n;obtain⟨k,j,f⟩:=yI d h c q o;refine⟨_,Em l k j f,?_⟩;rw[<- m];exact Gp _ J
  .cases b
def Sj{b:Bi}(a:Ou b ok tg=U (g,is)):∀i∈is,i<b.length:=by
 have lt:∀{x i},ir b x=U i->i<b.length:=λh=>(dj.mp<|gj h).1;cases tg<;>try(cases a;done)
 .rename_i x t
  replace a:(if ok x=O then _ else Y)=U (g,is):=a
  split at a
  .obtain⟨i,f,c⟩:=d_.mp a
   cases c;intro j e;rw[gA.mp e];exact lt f
  .cases a
 .rename_i es r s
  replace a:(namesOf es).bind _=U (g,is):=a
  obtain⟨xs,f,c⟩:=a_.mp a;split at c
  .obtain⟨ŏ,q,p⟩:=d_.mp c
   cases p
   have:∀(xs:Bi)(is:B1),idxs b xs=U is->∀i∈is,i<b.length:=by
    intro xs
    induction xs with
    |nil=>intro is h;cases h;intro i l;cases l
    |cons x xs k=>
     intro is h;obtain⟨i,o,n⟩:=a_.mp<|show(ir b x).bind _=U is from h;obtain⟨d,m,rfl⟩:=d_.mp n;intro j e;rcases bF.mp e with z|z
     .rw[z];exact lt o
     .exact k d m j z
   exact this xs _ q
  .cases c
def ur(h:isSet it=Zi):∀x,e6 it X.env x=pure x:=λx=>by
 unfold e6;cases it<;>first|rfl|(cases h)
structure Sk(M:Gm)(X:Cx)(r:Rc)(L:Lc)(elt tg iter:cC)(ifs:Bz)(sc:gV)(js:B1)(g:FG)(is:B1):Prop where
 sco:gF X sc
 fr:f_ X sc js<|frees sc
 nd:(locals sc++frees sc).Nodup
 it:PI X tg iter<|tI (M.P.kt X)<|r.I L tg iter
 ex:∃gt,(∀cl C fp s H,PG (X.block (locals sc++frees sc) sc cl C fp s H) tg gt)/\qM (M.P.kt X) gt g is
 ts:∀cl C fp s H,Jv (X.block (locals sc++frees sc) sc cl C fp s H) ifs<|tT (M.P.kt X)<|Ov r (G1 L sc) ifs
 el:∀cl C fp s H,PE (X.block (locals sc++frees sc) sc cl C fp s H) elt<|tE (M.P.kt X)<|r.E (G1 L sc) elt
 lt:∀i∈is,i<(locals sc).length
 st:∀x,e6 iter X.env x=pure x
def uu(R:yG M N aj k r)(C:CxOk M N aj k L X){elt tg d:cC}{j:Bz}(h:(R3 L sc&&decide ((locals sc++frees sc).Nodup)&&!isSet d&&decide (j.length<=1))=O)(D:idxs L.N (frees sc)=U js)
  (f:Ou (locals sc) (λx=>decide<|sc.names.lookup x=U .local) tg=U (g,is)):Sk M X r L elt tg d j sc js g is:=by
 obtain⟨hE,hT,F,hO⟩:=R L X C;simp only[bZ,c7,xF]at h;obtain⟨⟨⟨l,v⟩,S⟩,Q⟩:=h;unfold R3 at l;simp only[bZ,c7,bz]at l;obtain⟨⟨k1,k2⟩,k3⟩:=l;have A:∀x∈frees sc,sc.names.lookup x=U .free/\L.sc.names.lookup x=U .cell:=λx t=>by
  have:=(k2 _<|CO t).2 J
  exact this
 have bs:gF X sc:=⟨k1,λq n=>(k2 q n).1.1,λq n e=>(k2 q n).1.2 e,λq n e=>by
  show X.env.scope.names.lookup q.1=_;rw[C.sc];exact((k2 q n).2 e).2⟩
 have p:∀cl b a s H,CxOk M N aj k (G1 L sc)<|X.block (locals sc++frees sc) sc cl b a s H:=λcl b a s H=>⟨C.gm,J,Hg C sc,C.calm,C.room⟩;refine⟨bs,pN C A D λ_ h=>h,v,F tg d,?_,λcl b a s H=>?_,λcl b a s H=>(R _ _<|p cl b a s H).1 elt,Sj f,ur S⟩
 .-- the target's names are the block's own
  have m:∀cl b a s H,∀x i,decide (sc.names.lookup x=U .local)=O->ir (locals sc) x=U i->(X.block (locals sc++frees sc) sc cl b a s H).N[i]?=U x/\Loc (X.block (locals sc++frees sc) sc cl b a s H).env.scope x/\((X.block (locals sc++frees sc) sc cl b a s H).fn x=O\/(X.block (locals sc++frees sc) sc cl b a s H).env.scope.names.lookup x=U .local):=λcl b a s H x i t E=>by
   have hl:(HY sc X.env).names.lookup x=U .local:=lookup_relabel_local<|bt t;have l:=gj E;refine⟨?_,.inl hl,.inr hl⟩;show(locals sc++frees sc)[i]?=U x;rw[jJ (dj.mp l).1];exact l
  cases tg<;>try(cases f;done)
  .rename_i x px
   replace f:(if _ then _ else Y)=U (g,is):=f
   split at f
   .rename_i q
    obtain⟨i,u,o⟩:=d_.mp f;cases o;exact⟨_,λcl b a s H=>by
     obtain⟨W,V,T⟩:=m cl b a s H x i q u;exact sX v W V T,AA i⟩
   .cases f
  .rename_i es Z tp
   replace f:(namesOf es).bind _=U (g,is):=f
   obtain⟨xs,u,o⟩:=a_.mp f;split at o
   .rename_i q
    obtain⟨ŏ,I,G⟩:=d_.mp o;cases G;refine⟨PL X.K is.length<|pG is,λcl b a s H=>?_,Gp (B:=M.P.kt X) is J⟩;obtain⟨z,y,w⟩:=yI (X:=X.block (locals sc++frees sc) sc cl b a s H) v (m cl b a s H) u q I;exact Em (X:=X.block (locals sc++frees sc) sc cl b a s H) C.calm z y w
   .cases o
 .match j,Q with
  |[],_=>exact WC
  |[c],_=>exact WD<|(R _ _<|p cl b a s H).2.1 c
def kX(R:yG M N aj k r)(C:CxOk M N aj k L X)(e:cC):PE X e<|tO (M.P.kt X)<|pM r L e:=by
 cases e<;>first|exact ja|skip
 rename_i elt f sc p
 match f with
 |[]=>exact ja
 |_::_::_=>exact ja
 |[⟨tg,iter,ifs,ay⟩]=>
  show PE X _<|tO (M.P.kt X)<|jZ r L elt ⟨tg,iter,ifs,ay⟩ sc;unfold jZ;split
  case isFalse=>exact ja
  rename_i h;obtain⟨rfl,h⟩:=h;split
  .rename_i i g is b a
   have K:=uu R C (elt:=elt) h b a;obtain⟨gt,d,c⟩:=K.ex;exact Ri (locals sc) C.calm K.sco K.fr K.it d c K.ts K.el K.lt K.st
  .exact ja
def Hi(a:CM M X r L):∀e:Option cC,PO X e<|tP (M.P.kt X)<|R4 r L e
 |none=>Wh
 |some e=>Wi<|a e
def Ln(h:isSlice e=Zi):jt e:=λo i=>by
 unfold subscripted;cases e<;>first|rfl|(cases h)
def A5(C:CxOk M N aj k L X)(h:M.ms.lookup m=U l):∀c f,bg l aj c=U f->ZG M.P X.prog X.w X.K X.mg X.base k c m f:=λc f a=>by
 obtain⟨i,b,rfl⟩:=d_.mp a;exact C.gm.mts m l c i h b
def Hj{a:Nat}(c:Const):PE X (.Constant c a pos)<|tE (M.P.kt X)<|G3 c:=by
 cases c with
 |int i=>exact kH Ef λ_ _=>J
 |bool b=>exact kH ND λ_ _=>J
 |none=>exact kH Px λ_ _=>J
 |str s=>
  show PE X _<|tE _<|if s.length<=1000000 then cF (.str s.cps.toList)else bU
  split
  .rename_i h
   obtain⟨⟨l⟩⟩:=s;exact kH Py λ_ _=>⟨J,by rw[<- eo l];exact h⟩
  .exact aU
 |_=>exact aU
def Lo(C:CxOk M N aj k L X)(x:Str):PE X (.Name x pos)<|tE (M.P.kt X)<|G4 M L x:=by
 unfold G4;split
 .rename_i i b
  split
  .rename_i q
   obtain⟨l1,l2,l3,l4⟩:=fD C q;exact Ak (by rw[C.N];exact gj b) l2 l3 l4
  .exact aU
 .split
  .rename_i t a
   split
   .rename_i q
    obtain⟨d,c⟩:=eF C q;exact WZ (C.gm.cst _ _ a) J d c
   .exact aU
  .exact aU
def Hk:(M.P.kt X).cn[M.bc]?=Y:=by
 show M.P.cn[M.bc]?=Y;exact DU (by unfold Gm.bc;lia)
def Xy:(M.P.kt X).fn[M.bc]?=Y:=by
 show M.P.fn[M.bc]?=Y;exact DU (by unfold Gm.bc;lia)
def Xz(C:CxOk M N aj k L X)(a:CM M X r L){i:cC}(h:jt i):PE X (.Subscript o i pos)<|tE (M.P.kt X)<|ZO M r L o i:=by
 unfold ZO;split
 .rename_i k c
  obtain⟨_,b⟩:=gv.mp c;obtain⟨y,d,rfl,l1,l2,l3,l4⟩:=ie C b;exact Rv l1 l2 l3 l4 (a i) h
 .split
  .exact Xf Hk (a _) (a _) h
  .exact ĝ J (a _) (a _) h
def Lp(h:A0 q=U a):∃p,q=.FormattedValue a (-1) Y p:=by
 cases q<;>try(cases h;done)
 rename_i e b sp p;obtain⟨⟨rfl,z⟩,q⟩:=gv.mp<|show(if _ then U e else Y)=U a from h
 cases q;cases sp with
 |none=>exact⟨p,J⟩
 |some _=>cases z
def XA(b:CM M X r L)(es:Bz):PE X (.JoinedStr es pos)<|tE (M.P.kt X)<|joE r L es:=by
 match es with
 |[]=>exact aU
 |[_]=>exact aU
 |[_,_]=>exact aU
 |_::_::_::_::_=>exact aU
 |[e,q,f]=>
  show PE X _<|tE (M.P.kt X)<|match kT e,A0 q,kT f with|some x,some a,some y=>_|_,_,_=>bU
  cases g:kT e with
  |none=>exact aU
  |some x=>
  cases d:A0 q with
  |none=>exact aU
  |some a=>
  cases c:kT f with
  |none=>exact aU
  |some y=>
  obtain⟨k1,k,rfl⟩:=str_inv g;obtain⟨j,rfl⟩:=Lp d;obtain⟨k3,i,rfl⟩:=str_inv c;show PE X _<|tE (M.P.kt X)<|if _ then _ else bU
  split
  .rename_i h
   exact Ru J (b _) h.1 h.2
  .exact aU
def Sl(C:CxOk M N aj k L X)(c:CM M X r L)(o:cC)(m:Str)(t:Pos)(b:Bz)(cp:Pos):PE X (.Call (.Attribute o m t) b [] cp)<|tE (M.P.kt X)<|R7 M aj r L o m t b cp:=by
 obtain⟨j,q,p⟩:=C.room;unfold R7;split
 case isFalse=>exact aU
 rename_i h;simp only[bZ,c7]at h;obtain⟨⟨⟨n,d⟩,i⟩,f⟩:=h;have s:=fF c b d;split
 .rename_i l hl
  cases b with
  |nil=>exact KN (A5 C hl) p (eY (fJ ..) q) (c o)<|AJ n d (eS i<|by decide) f
  |cons a b=>exact Q8 (A5 C hl) p (eY (fJ ..) q) (c o) s d<|AJ n d (eS i<|by decide) f
 .split
  .rename_i g a v u
   exact Wj (Q3 (m,g)<|cY u) J (c o) s n d (by rw[eu]at i;exact B3 (fJ ..) i) f
  .split
   .rename_i e
    subst e;exact Lg (c o) n f
   .exact aU
  .exact aU
def Hl(R:yG M N aj k r)(C:CxOk M N aj k L X)(e:cC):PE X e<|tE (M.P.kt X)<|Ow M aj r L e:=by
 obtain⟨d,v,E,D⟩:=R L X C;cases e with
 |Constant c _ _=>exact Hj c
 |Name x _=>exact Lo C x
 |BinOp a g b _=>exact Wc J _ (d _)<|d _
 |UnaryOp g a _=>cases g with
  |USub=>exact Wd J<|d _
  |Not=>exact QR<|d _
  |_=>exact aU
 |BoolOp g es _=>cases g with
  |And=>exact wo d _
  |Or=>exact A3 d _
 |Compare a n bs _=>
  match n,bs with
  |[g],[b]=>
   show PE X _<|tE (M.P.kt X)<|if fv g b then bU else we M r L a g b
   split
   .exact aU
   .rename_i h
    exact Ll C d (by simpa using h)
  |[],_=>exact aU
  |_::_::_,_=>exact aU
  |[_],[]=>exact aU
  |[_],_::_::_=>exact aU
 |IfExp c a b _=>exact V5 (v _) (d _)<|d _
 |Tuple es _ _=>
  show PE X _<|tE (M.P.kt X)<|if es.all noStar then _ else bU
  split
  .rename_i h;exact VZ<|fF d _ h
  .exact aU
 |List es _=>
  show PE X _<|tE (M.P.kt X)<|if es.all noStar then _ else bU
  split
  .rename_i h;exact V0<|fF d _ h
  .exact aU
 |Subscript o i _=>
  show PE X _<|tE (M.P.kt X)<|R6 M r L o i;cases q:isSlice i with
  |false=>
   rw[show R6 M r L o i=ZO M r L o i by cases i<;>first|rfl|cases q]
   exact Xz C d<|Ln q
  |true=>
   cases i<;>try(cases q;done)
   rename_i lo B st _;cases st with
   |none=>exact Ġ J (d _) (Hi d _)<|Hi d _
   |some _=>exact aU
 |Attribute o f _=>
  show PE X _<|tE (M.P.kt X)<|if c5 o then _ else bU
  split
  .rename_i h
   split
   .rename_i j u
    exact Oa C.gm.pg (gj u) (d _) h
   .exact aU
  .exact aU
 |ListComp y F sc p=>exact FH<|kX R C _
 |JoinedStr s _=>exact XA d s
 |Call f l t cp=>
  cases t with
  |cons w A=>exact aU
  |nil=>cases f with
   |Name f _=>exact Hf C d _ _
   |Attribute o m z=>exact Sl C d o m z l cp
   |_=>exact aU
 |_=>exact aU
def Hm(R:yG M N aj k r)(C:CxOk M N aj k L X)(e:cC):PT X e<|tT (M.P.kt X)<|stepT M r L e:=by
 obtain⟨g,f,l,j⟩:=R L X C;cases e with
 |BoolOp c es _=>cases c with
  |And=>exact(wt f _).pt
  |Or=>exact(A4 f _).pt
 |UnaryOp c a _=>cases c with
  |Not=>exact V3<|f _
  |_=>exact N4 (g _) J λi=>J
 |Compare a d bs _=>
  match d,bs with
  |[c],[b]=>
   show PT X _<|tT (M.P.kt X)<|if fv c b then qJ else aY (we M r L a c b)
   split
   .exact jV
   .rename_i h
    exact Hc C g (by simpa using h)
  |[],_=>exact jV
  |_::_::_,_=>exact jV
  |[_],[]=>exact jV
  |[_],_::_::_=>exact jV
 |IfExp _ _ _ _=>exact jV
 |_=>exact N4 (g _) J λi=>J
def Lq{a:Bz}(h:A1 e=U a):∃p pos,e=.Call (.Name "range" p) a [] pos:=by
 obtain⟨⟨f,as,c⟩,d,b⟩:=a_.mp h;clear h;obtain⟨p,pos,rfl⟩:=fq d;have h:=b;clear b;split at h
 .rename_i q
  obtain⟨rfl,q⟩:=q;cases h;rw[show c=[]from sI.mp q];exact⟨_,_,J⟩
 .cases h
def Hn(h:wg e=U (a,n)):∃p pos,(n=0/\e=.Call (.Name "enumerate" p) [a] [] pos)\/(n=1/\∃k1 d kp,e=.Call (.Name "enumerate" p) [a] [⟨U<|hJ "start",.Constant (.int 1) k1 d,kp⟩] pos):=by
 obtain⟨⟨f,as,i⟩,j,g⟩:=a_.mp h;clear h;obtain⟨p,pos,rfl⟩:=fq j;have h:=g;clear g;split at h
 case isFalse=>cases h
 rename_i q
 replace q:f=("enumerate" : Str):=q
 subst q
 match as,i,h with
 |[a'],[],h=>cases h;exact⟨_,_,.inl ⟨J,J⟩⟩
 |[a'],[⟨an,v,kp⟩],h=>
  dsimp only at h;cases b:gH v with
  |none=>rw[b]at h;cases h
  |some c=>
   rw[b]at h;cases c<;>try(cases h;done)
   obtain⟨k1,d,rfl⟩:=ic b;dsimp only at h;split at h
   .rename_i q;obtain⟨rfl,rfl⟩:=q;cases h;exact⟨_,_,.inr ⟨J,_,_,_,J⟩⟩
   .cases h
def Ho(R:yG M N aj k r)(C:CxOk M N aj k L X)(tg e:cC):PI X tg e<|tI (M.P.kt X)<|stepI M r L tg e:=by
 obtain⟨b,t,v,u⟩:=R L X C;unfold stepI;split
 .rename_i i l
  obtain⟨p,pos,rfl⟩:=Lq l;split
  case isFalse=>exact AB
  rename_i h;rw[bZ]at h;obtain⟨d,c,_⟩:=kW C h.1;have j:=h.2;split
  .exact Gq d c (b _) (by simpa using j)
  .exact AB
 .split
  .rename_i a n q
   split
   case isFalse=>exact AB
   rename_i h;simp only[bZ]at h;obtain⟨⟨o,m⟩,g⟩:=h;obtain⟨d,c,_⟩:=kW C o;cases tg<;>try(cases m;done)
   obtain⟨p,pos,f|f⟩:=Hn q
   .obtain⟨rfl,rfl⟩:=f
    exact WS J d c (b a) g
   .obtain⟨rfl,k1,s,kp,rfl⟩:=f
    exact WU J d c (b a) g
  .split
   .rename_i h
    cases tg<;>try(cases h;done)
    exact WA J<|b e
   .exact Od J<|b e
def Hq(R:yG M N aj k r)(C:CxOk M N aj k L X)(e:cC):PE X e<|tO (M.P.kt X)<|Ox r L e:=by
 obtain⟨a,c,f,d⟩:=R L X C;cases e with
 |List es _=>
  show PE X _<|tO (M.P.kt X)<|if es.all noStar then _ else kE
  split
  .rename_i h;exact QO<|fF a _ h
  .exact ja
 |ListComp b g sc p=>exact kX R C _
 |_=>exact ja
theorem cL:∀n,yG M N aj k<|comp M aj n
 |0=>λL X C=>⟨λ_=>aU,λ_=>jV,λ_ _=>AB,λ_=>ja⟩
 |n+1=>λL X C=>⟨Hl (cL n) C,Hm (cL n) C,Ho (cL n) C,Hq (cL n) C⟩
structure CP(M:Gm)(N:XN)(aj:Nat->Fn)(k:Nat)(L:Lc)(X:Cx):Prop extends CxOk M N aj k L X where
 fn:∀x,X.fn x=O
 nd:X.N.Nodup
 xe:X.xe=λ_ _=>False
 stk:X.stack=X.env::X.outer
 frm:X.env.frame=U X.env.locals
def jd(h:wj e=Zi):fu e t l X.env=pure Zi:=by
 cases e<;>first|rfl|(cases h)
def Sn(C:CxOk M N aj k L X)(h:wj e=O->∃elt a sc p,e=.ListComp elt a sc p):fu e (U<|.Name x tp) l X.env=pure (A2 L x tp e):=by
 cases e<;>first|rfl|skip
 .unfold fu A2 Env.blockKind va
  rw[C.sc];rfl
 .obtain⟨_,_,_,_,z⟩:=h J;cases z
 .obtain⟨_,_,_,_,z⟩:=h J;cases z
def passes(C:CP M N aj k L X):me (mX X) X.A X.env X.xe:=by rw[C.xe];exact PassesOwn.never
def Lr(h:G5 e=O):∃dp,e=.Dict [] [] dp:=by
 cases e<;>try(cases h;done)
 rename_i b a dp
 match b,a,h with
 |[],[],_=>exact⟨_,J⟩
def So(h:wj e=O):G5 e=Zi:=by
 cases e<;>first|rfl|(cases h)
def gk{F:FS}(h:∀s,F s=.bad):PS X st<|tS B F:=λ_ _ _ _ _ _ z=>by
 obtain⟨g,s,o,a,_,e,_⟩:=z;rw[h]at e;cases e
def Ls(C:CP M N aj k L X)(n:Nat)(e:cC):PS X (.Assign [.Name x F] e pos)<|tS (M.P.kt X)<|G6 M aj n L x e:=by
 obtain⟨A,B,D,z⟩:=cL (M:=M) (N:=N) (aj:=aj) (k:=k) n L X C.toCxOk;unfold G6;split
 case h_2=>exact dc
 rename_i i y;split
 case isFalse=>exact dc
 rename_i q;obtain⟨l1,l2,l3,l4⟩:=fD C.toCxOk q;have p:X.N[i]?=U x:=by rw[C.N];exact gj y
 have o:L9 X x:=.inl<|C.fn x;by_cases hlc:wj e=Zi
 .split
  .split
   .rename_i hd
    obtain⟨dp,rfl⟩:=Lr hd;exact RC C.nd p l1 o
   .exact Of C.nd p l1 (z e) (jd hlc) o
  .exact Oe C.nd p l1 (A e) (jd hlc) o
 .rw[So<|by simpa using hlc,cb gx]
  cases n with
  |zero=>split<;>exact gk λ_=>J
  |succ n=>
   cases e with
   |ListComp elt j sc cp=>
    have R:=cL (M:=M) (N:=N) (aj:=aj) (k:=k) n;have m:=Sn (X:=X) (x:=x) (tp:=F) (l:=pos.line) (e:=.ListComp elt j sc cp) C.toCxOk λ_=>⟨_,_,_,_,J⟩;split
    .show PS X (.Assign [.Name x F] (.ListComp elt j sc cp) pos)<|tS (M.P.kt X)<|iz i<|pM (comp M aj n) L<|.ListComp elt j sc cp
     cases r:A2 L x F (.ListComp elt j sc cp)with
     |false=>
      rw[r]at m;exact Of C.nd p l1 (kX R C.toCxOk _) m o
     |true=>
      rw[r]at m
      match j with
      |[]=>exact gk λ_=>J
      |_::_::_=>exact gk λ_=>J
      |[⟨tg,iter,ifs,ay⟩]=>
       rw[show pM (comp M aj n) L (.ListComp elt [⟨tg,iter,ifs,ay⟩] sc cp)=jZ (comp M aj n) L elt ⟨tg,iter,ifs,ay⟩ sc from J];unfold jZ;split
       case isFalse=>exact gk λ_=>J
       rename_i h;obtain⟨rfl,h⟩:=h;split
       .rename_i w g is t s
        have K:=uu R C.toCxOk (elt:=elt) h t s;obtain⟨gt,v,u⟩:=K.ex;exact(Gs (locals sc) C.calm C.nd p l1 K.sco K.fr K.it v u K.ts K.el K.lt K.st o m).1
       .exact gk λ_=>J
    show PS X (.Assign [.Name x F] (.ListComp elt j sc cp) pos)<|tS (M.P.kt X)<|aA i<|dR<|pM (comp M aj n) L<|.ListComp elt j sc cp;cases r:A2 L x F (.ListComp elt j sc cp)with
    |false=>
     rw[r]at m;exact Oe C.nd p l1 (FH<|kX R C.toCxOk _) m o
    |true=>
     rw[r]at m
     match j with
     |[]=>exact gk λ_=>J
     |_::_::_=>exact gk λ_=>J
     |[⟨tg,iter,ifs,ay⟩]=>
      rw[show pM (comp M aj n) L (.ListComp elt [⟨tg,iter,ifs,ay⟩] sc cp)=jZ (comp M aj n) L elt ⟨tg,iter,ifs,ay⟩ sc from J];unfold jZ;split
      case isFalse=>exact gk λ_=>J
      rename_i h;obtain⟨rfl,h⟩:=h;split
      .rename_i w g is t s
       have K:=uu R C.toCxOk (elt:=elt) h t s;obtain⟨gt,v,u⟩:=K.ex;exact(Gs (locals sc) C.calm C.nd p l1 K.sco K.fr K.it v u K.ts K.el K.lt K.st o m).2
      .exact gk λ_=>J
   |SetComp a b c d=>split<;>exact gk λ_=>J
   |DictComp a b c d f=>split<;>exact gk λ_=>J
   |_=>exact dy J hlc
def A6(h:uo nm mu e=U (y,a)):noStar a=O/\∃d c cp,e=.Call (.Attribute (.Name y d) nm c) [a] [] cp/\(c.endLine == cp.line)=O:=by
 revert h;refine NB λo m b g=>Nw λz f=>λh=>?_;obtain⟨⟨q1,_⟩,h⟩:=gv.mp h;cases h;obtain⟨z,c,cp,k,j⟩:=KZ g;obtain⟨d,i⟩:=bI f;exact⟨z,_,_,_,by rw[k,<- q1,<- i],j⟩
def uv{a:Nat}(h:Oz e=O):iM [.Tuple es a tp] e X.env=pure Y:=by
 cases e<;>first|rfl|skip
 rename_i b _ _;unfold iM;dsimp only;rw[show b.all (z6 8)=O from h];split
 .rfl
 split
 .rfl
 split
 .rfl
 rfl
def Ő(C:CP M N aj k L X):∀x i,iB L x=O->ir L.N x=U i->X.N[i]?=U x/\Loc X.env.scope x/\(L9 X x):=λx i b a=>⟨by rw[C.N];exact gj a,(fD C.toCxOk b).1,.inl<|C.fn x⟩
def NM(L:Lc)(X:Cx)(es:Bz)(e a b:cC)(i j:Nat):Prop:=∃x y f d k2 c,es=[.Name x f,.Name y d]/\e=.Tuple [a,b] k2 c/\ir L.N x=U i/\ir L.N y=U j/\x≠y/\X.env.scope.names.lookup x=U .local/\X.env.scope.names.lookup y=U .local/\[a,b].all noStar=O/\∀kt pt,iM [.Tuple [.Name x f,.Name y d] kt pt] (.Tuple [a,b] k2 c) X.env=pure (U [x,y])
def Lu(C:CxOk M N aj k L X){i j:Nat}(h:Xp L es e=U (i,j,a,b)):NM L X es e a b i j:=by
 obtain⟨l,h0,o⟩:=a_.mp h;clear h;have h:=o;clear o;obtain⟨k2,c,rfl⟩:∃k2 c,e=.Tuple l k2 c:=by cases e<;>first|(cases h0;done)|(cases h0;exact⟨_,_,J⟩)
 match es,l,h with
 |[t,u],[a',b'],h=>
  revert h;refine NA λx f w=>NA λy d v=>λh=>?_;have n:∀{t:cC}{q},R9 t=U q->t=.Name q.1 q.2:=λ{t q} h=>by cases t<;>first|(cases h;done)|(cases h;rfl)
  rw[n w,n v];split at h
  .rename_i q
   revert h;refine Nw λE s=>λh=>?_;obtain⟨D,r,h⟩:=d_.mp h;cases h;unfold Xo at q;simp only[bZ,c7,xF]at q;obtain⟨⟨⟨⟨⟨⟨⟨q1,q2⟩,m⟩,q4⟩,q5⟩,q6⟩,q7⟩,q8⟩:=q;unfold NM;refine⟨x,y,f,d,k2,c,J,J,s,r,q5,by rw[C.sc];exact q2,by rw[C.sc];exact m,q8,λkt pt=>?_⟩
   have bk:(X.env.blockKind != .function)=Zi:=by
    unfold Env.blockKind;rw[C.sc];exact(by simpa using q1)
   have g:=eq_of_beq q4;unfold iM;dsimp only;rw[bk,q6,q7];rw[cb<|by simp,cb<|by
    simp only[ed,List.all_nil,DL,bZ]at q8;simp only[lq,List.any_nil,MQ,BR,uS];exact⟨by cases a<;>first | rfl | (cases q8.1),by cases b<;>first | rfl | (cases q8.2)⟩]
   have B:X.env.kindOf x=U F6:=by unfold va;rw[C.sc,q2]
   have A:X.env.kindOf y=U F6:=by unfold va;rw[C.sc,m]
   have z:∀(x:Str)(p:Pos),(JE x p).pos=p:=λ_ _=>J;simp[B,A,z,g,zt,List.filterMap_nil,List.eraseDups_cons,et q5]
  .cases h
def Lv(C:CP M N aj k L X)(n:Nat)(es:Bz){c:Nat}(e:cC):PS X (.Assign [.Tuple es c tp] e pos)<|tS (M.P.kt X)<|tupS M aj n L es e:=by
 obtain⟨l,w,D,A⟩:=cL (M:=M) (N:=N) (aj:=aj) (k:=k) n L X C.toCxOk;unfold tupS;split
 .rename_i i j a b h
  obtain⟨x,y,u,t,k2,v,rfl,rfl,f,d,m,s,r,q,p⟩:=Lu C.toCxOk h;have l1:X.N[i]?=U x:=by rw[C.N];exact gj f
  have l2:X.N[j]?=U y:=by rw[C.N];exact gj d
  exact Xj C.calm C.nd l1 l2 (λz=>m<|by rw[z,l2]at l1;exact(j8.inj l1).symm) s r (fF l [a,b] q)<|p _ _
 split
 .exact dc
 .rename_i h
  simp only[oq,tc,BR,Bool.not_eq_eq_eq_not,MT,MU]at h;obtain⟨⟨f,d⟩,m⟩:=h;split
  .rename_i g is o
   obtain⟨gt,q1,q2⟩:=Hh (B:=M.P.kt X) (tg:=.Tuple es c tp) J C.calm C.nd (Ő C) o;exact WK (l e) q1 q2 (show fu e (U<|.Tuple es c tp) pos.line X.env=pure Zi from jd f) (uv<|by simpa using d) J
  .exact dc
def Hr{a:Pos}:fu e (U<|.Attribute o f a) l X.env=pure Zi:=by
 cases e<;>rfl
def Lw(C:CP M N aj k L X)(n:Nat)(o:cC)(f:Str){c:Pos}(e:cC):PS X (.Assign [.Attribute o f c] e pos)<|tS (M.P.kt X)<|R_ M aj n L o f e:=by
 obtain⟨a,d,h,g⟩:=cL (M:=M) (N:=N) (aj:=aj) (k:=k) n L X C.toCxOk;unfold R_;split
 .rename_i j b
  exact WO C.gm.pg (gj b) (a o) (a e) Hr
 .exact dc
def Lx(C:CP M N aj k L X)(n:Nat)(o b:cC)(e:cC):PS X (.Assign [.Subscript o b sp] e pos)<|tS (M.P.kt X)<|Sa M aj n L o b e:=by
 obtain⟨a,p,s,r⟩:=cL (M:=M) (N:=N) (aj:=aj) (k:=k) n L X C.toCxOk;obtain⟨j,m,d⟩:=C.room;unfold Sa;split
 .exact dc
 rename_i h;rw[oq,tc,BR,BR]at h;split
 .exact RY Hk (a e) (a o) (a b)<|jd h.1
 split
 .rename_i i f
  obtain⟨y,g,c⟩:=a_.mp f;obtain⟨l,rfl⟩:=bI g;split at c
  .rename_i q
   obtain⟨l1,l2,l3,l4⟩:=fD C.toCxOk q;exact Ņ d (a b) (a e) (by rw[C.N];exact gj c) l2 l3 l4 (jd h.1) h.2
  .cases c
 .exact dc
def Ly(C:CP M N aj k L X)(n:Nat)(t:cC)(op:qv)(e:cC):PS X (.AugAssign t op e pos)<|tS (M.P.kt X)<|Sb M aj n L t op e:=by
 obtain⟨c,l,o,m⟩:=cL (M:=M) (N:=N) (aj:=aj) (k:=k) n L X C.toCxOk;unfold Sb;split
 case h_2=>exact dc
 rename_i x i b;obtain⟨g,f,a⟩:=a_.mp b;obtain⟨j,a,d⟩:=d_.mp a;cases d;obtain⟨h,rfl⟩:=bI f;split
 .rename_i q
  obtain⟨rfl,q⟩:=q;obtain⟨l1,l2,l3,l4⟩:=fD C.toCxOk q;exact WY C.nd (by rw[C.N];exact gj a) l1 (c _)<|.inl<|C.fn _
 .exact dc
def Sq(C:CP M N aj k L X)(n:Nat)(e:cC):PS X (.Expr e pos)<|tS (M.P.kt X)<|Ō M aj n L e:=by
 obtain⟨b,l,o,m⟩:=cL (M:=M) (N:=N) (aj:=aj) (k:=k) n L X C.toCxOk;unfold Ō;split
 .rename_i y a d
  obtain⟨g,j,p,cp,rfl,f⟩:=A6 d;split
  .rename_i i c
   split
   .rename_i q
    obtain⟨l1,l2,l3,l4⟩:=fD C.toCxOk q;exact WL (b a) (by rw[C.N];exact gj c) l2 l3 l4 g f
   .exact dc
  .exact dc
 .split
  .exact dc
  .rename_i h
   exact Rn (b e)<|jd<|by simpa using h
def yJ(h:Li st=U e):∃p,st=.Expr e p:=by
 cases st<;>first|(cases h;done)|(cases h;exact⟨_,J⟩)
def kY{q}(h:rQ st=U q):∃p a,st=.Assign [.Name q.1 p] q.2 a:=by
 cases st<;>try(cases h;done)
 rename_i ts e p
 match ts,h with
 |[t],h=>
  obtain⟨x,b,rfl⟩:=d_.mp<|show(asName t).map _=U q from h;obtain⟨p,rfl⟩:=bI b;exact⟨_,_,J⟩
def Ss{q}(h:Xr st=U q):∃p,st=.If q.1 q.2.1 q.2.2 p:=by
 cases st<;>first|(cases h;done)|(cases h;exact⟨_,J⟩)
def nR(h:Xs L e=U q):∃a es p cp,q.2=a::es/\e=.Call (.Name q.1 p) (a::es) [] cp/\um L q.1=O/\(a::es).all noStar=O:=by
 revert h;refine NB λf l i j=>λh=>?_;obtain⟨⟨g,d,c,b⟩,h⟩:=gv.mp h;cases h;obtain⟨p,cp,rfl⟩:=fq j;cases(sI.mp g:i=[]);cases l with
 |nil=>cases d
 |cons a r=>exact⟨a,r,p,cp,J,J,c,b⟩
def yK(h:ZP M L e=U q):∃x a es p cp,M.xs.lookup x=U q.1/\q.2=a::es/\e=.Call (.Name x p) (a::es) [] cp/\um L x=O/\(a::es).all noStar=O:=by
 revert h;refine Nw λw j=>λh=>?_;obtain⟨i,g,rfl⟩:=d_.mp h;obtain⟨a,es,p,cp,f,d,c,b⟩:=nR j;exact⟨w.1,a,es,p,cp,g,f,d,c,b⟩
def Su(h:xmA M e=U z):∃m a cp,e=.Call (.Attribute z.2.2.1 m a) z.2.2.2 [] cp/\M.xt.lookup m=U (z.1,z.2.1)/\c5 z.2.2.1=O/\z.2.2.2.all noStar=O/\z.2.2.2.length<29/\(a.endLine == cp.line)=O:=by
 obtain⟨⟨g,as,c,cp⟩,i,h⟩:=a_.mp h;revert h;refine Nw λw f=>Nw λj d=>λh=>?_;obtain⟨⟨q1,q2,b,q4,q5⟩,h⟩:=gv.mp h;cases h;cases(sI.mp q1:c=[]);exact⟨w.2.1,w.2.2,cp,by rw[lO i,kN f],d,q2,b,q4,q5⟩
def Sv(h:fzA M L e=U q):∃x a es p cp,M.cl.lookup x=U (.fz q.1 q.2.1)/\q.2.2=a::es/\e=.Call (.Name x p) (a::es) [] cp/\um L x=O/\(a::es).all noStar=O:=by
 revert h;refine Nw λw j=>λh=>?_;split at h
 .rename_i c n i
  cases h;obtain⟨a,es,p,cp,g,f,d,b⟩:=nR j;exact⟨w.1,a,es,p,cp,i,g,f,d,b⟩
 .cases h
theorem kZ{g:cC->FE}(h:∀e,PE X e<|yz (M.P.kt X) N E<|g e):∀es:Bz,es.all noStar=O->PA X es (Ol (M.P.kt X) N E<|d9<|es.map g)
 |[],_=>RH
 |e::es,a=>by
  rw[ed,bZ]at a;exact K6 (h e) (kZ h es a.2)<|aB a.1
theorem OB(C:CxOk M N aj k L X)(t:Passes (rD X.prog X.w) X E)(u:CM M X r L):∀(d:Nat)(e:cC){fe:FE},xE M aj r L d e=U fe->PE X e (yz (M.P.kt X) N E fe)
 |0,_,_,h=>by cases h
 |d+1,e,fe,h=>by
  obtain⟨I,B,s⟩:=C.room;have v:=eY (fJ k 1) B;have ok:∀e,PE X e<|yz (M.P.kt X) N E<|bO<|r.E L e:=λe=>W3<|u e;rw[xE]at h;split at h
  .rename_i c i o b l
   cases h;obtain⟨m,K,cp,rfl,H,j,g,G,F⟩:=Su l;dsimp only at j g G ⊢;have D:=C.gm.xt m c i H;cases b with
   |nil=>exact GI t D s v (u o)<|AJ j J (by decide) F
   |cons a b=>exact K9 t D s v (u o) (kZ ok _ g) g<|AJ j g (eS G<|by decide) F
  split at h
  .rename_i i b l
   cases h;obtain⟨x,a,es,p,cp,y,rfl,rfl,j,g⟩:=yK l;obtain⟨A,z⟩:=eF C j;exact K7 t (C.gm.xs x i y) s v (kZ ok _ g) A z g
  split at h
  .rename_i c n b l
   split at h
   .cases h
    obtain⟨x,a,es,p,cp,y,rfl,rfl,j,g⟩:=Sv l;obtain⟨A,z⟩:=eF C j;refine RI (C.gm.fz x c n y) s B (kZ (λe=>?_) _ g) A z g;cases q:xE M aj r L d e with
    |none=>exact ok e
    |some f=>exact OB C t u d e q
   .cases h
  .cases h
def Lz(h:isA nm e=U y):∃p pn d cp,e=.Call (.Name "isinstance" p) [.Name nm pn,.Name y d] [] cp:=by
 obtain⟨⟨f,l,k⟩,n,c⟩:=a_.mp h;clear h;obtain⟨p,cp,rfl⟩:=fq n;dsimp only at c;split at c
 .rename_i a b
  obtain⟨⟨j,i,g⟩,m⟩:=gv.mp c;cases(j:f=_);cases(sI.mp i:k=[]);obtain⟨pn,q⟩:=bI g;obtain⟨d,o⟩:=bI m;exact⟨_,_,_,_,by rw[q,o]⟩
 .cases c
theorem A7{C:cq}{d:Obj}{a:cq}(Z:qN X.K C)(j:d.cls=.ref C)(m:X.mg "isinstance" = Y)(g:Gl X "isinstance")(k:X.N[i]?=U nm)(f:kg X.env.scope nm)(hd:aX nm)(l:fh nm) :
  ∀{es:Bz}{ys:Bi}{bs:Fh},uq nm es=U ys->G_ X.K X.mg C ys bs->(∀y∈ys,Gl X y)->PA X es (Om i a d bs)
 |[],ys,bs,h,c,_=>by
  cases h;cases bs with
  |nil=>exact RO
  |cons _ _=>cases c
 |e::es,ys,bs,h,c,Ut=>by
  revert h;refine Nw λy r=>λh=>?_;obtain⟨n,q,rfl⟩:=d_.mp h;cases bs with
  |nil=>cases c
  |cons b bs=>
   obtain⟨p,pn,s,cp,rfl⟩:=Lz r;exact Lb (RN Z j c.1 m k f hd l g<|Ut y<|eX ..) (A7 Z j m g k f hd l q c.2 λz o=>Ut z<|bw _ o) J
def lst_inv(h:G7 e=U es):∃p,e=.List es p:=by
 cases e<;>first|(cases h;done)|(cases h;exact⟨_,J⟩)
def Hs(h:ō x e=U es):∃p q r,e=.BinOp (.Name x p) .Add (.List es q) r:=by
 cases e<;>try(cases h;done)
 obtain⟨⟨b,a⟩,c⟩:=gv.mp h;obtain⟨p,f⟩:=bI a;obtain⟨q,d⟩:=lst_inv c;exact⟨_,_,_,by rw[f,d,b]⟩
def Sw(q:Se h=O):∃k p,h=U (.Constant (.int 3) k p):=by
 unfold Se at q;split at q
 .rename_i n a
  obtain⟨e,rfl,b⟩:=a_.mp a;obtain⟨k,p,rfl⟩:=ic b;rw[bt q];exact⟨_,_,J⟩
 .cases q
def Sx(q:Lj e=O):∃k p,e=.Constant (.bool O) k p:=by
 unfold Lj at q;split at q
 .rename_i b a
  obtain⟨k,p,rfl⟩:=ic a;subst q;exact⟨_,_,J⟩
 .cases q
def Sy(q:Sf h=O):∃k p,h=U (.Constant .none k p):=by
 unfold Sf at q;split at q
 .rename_i a
  obtain⟨e,rfl,b⟩:=a_.mp a;obtain⟨k,p,rfl⟩:=ic b;exact⟨_,_,J⟩
 .cases q
def LA(h:G8 e=U o):∃a s3 d s5,e=.Subscript o (.Slice Y (U<|.Constant (.int 3) a s3) Y d) s5:=by
 cases e<;>try(cases h;done)
 rename_i f i s5;cases i<;>try(cases h;done)
 obtain⟨⟨c,a,b⟩,h⟩:=gv.mp h;cases h;obtain⟨k,p,rfl⟩:=Sw b;cases(uQ.mp c);cases(uQ.mp a);exact⟨_,_,_,_,J⟩
def LB(h:inA x e=O):∃f s1 s2 d s3 g s5 s6,e=.Compare (.Constant (.bool O) f s1) [.In] [.Subscript (.Name x s2) (.Slice Y (U<|.Constant (.int 3) d s3) Y g) s5] s6:=by
 cases e<;>try(cases h;done)
 rename_i a c bs s6
 replace h:(match kO bs ([]:B1)with|some b=>decide (c=[.In])&&Lj a&&decide ((G8 b).bind asName=U x)|none=>Zi)=O:=h
 split at h
 .rename_i b i
  rw[bZ,bZ,c7,c7]at h;obtain⟨⟨n,m⟩,l⟩:=h;obtain⟨f,s1,rfl⟩:=Sx m;obtain⟨o,k,j⟩:=a_.mp l;obtain⟨d,s3,g,s5,rfl⟩:=LA k;obtain⟨s2,rfl⟩:=bI j;rw[(du i).1,n];exact⟨_,_,_,_,_,_,_,_,J⟩
 .cases h
def Ht(h:Sg nm f e=O):∃p q,e=.Attribute (.Name nm p) f q:=by
 unfold Sg at h;split at h
 .rename_i q a
  rw[bZ,c7,c7]at h;obtain⟨p,b⟩:=bI h.1;exact⟨p,q.2.2,by rw[kN a,b,h.2]⟩
 .cases h
def NC(M:Gm)(nm f:Str)(su:Ee)(q:Str×Str):Prop:=∃l1 l2 l3 d b a x w v u t q1 q2 s q4 q5 r p o s1 s2 s3 e s5 s6 t1 t2 t3 t4 t5 n m,(uq nm l1=U d/\uq nm l2=U b/\uq nm l3=U a/\d++b++a=M.ys) /\
  su=[.Assign [.Name q.1 x] (.List l1 q1) r,.Assign [.Name q.1 w] (.BinOp (.Name q.1 v) .Add (.List l2 q2) s) p,.Assign [.Name q.1 u] (.BinOp (.Name q.1 t) .Add (.List l3 q4) q5) o,
   .If (.Compare (.Constant (.bool O) n s1) [.In] [.Subscript (.Name q.1 s2) (.Slice Y (U<|.Constant (.int 3) m s3) Y e) s5] s6) [.Assign [.Name q.2 t1] (.Attribute (.Name nm t2) f t3) t4] [] t5]
def Sz(h:suA M nm f su=U q):NC M nm f su q:=by
 rcases su with _|⟨s1,_|⟨s2,_|⟨s3,_|⟨e,_|⟨_,_⟩⟩⟩⟩⟩<;>try(cases h;done)
 revert h;refine NA λI N D=>NA λH L C=>NA λG K B=>NB λc t1 t2 A=>Nw λs5 z=>NA λF e5 y=>Nw λl1 j=>Nw λl2 i=>Nw λl3 g=>Nw λd k1=>Nw λb k2=>Nw λa k3=>λh=>?_;obtain⟨⟨⟨w1,w2⟩,w3,w4,w5⟩,h⟩:=gv.mp h;cases h;dsimp only at w1 w2 w3 w4 j i g;subst w1 w2;obtain⟨_,_,rfl⟩:=kY D;obtain⟨_,_,rfl⟩:=kY C;obtain⟨_,_,rfl⟩:=kY B;obtain⟨_,rfl⟩:=Ss A;obtain⟨_,_,E⟩:=kY y;obtain⟨l,k⟩:=du z;dsimp only at l k ⊢;obtain⟨_,rfl⟩:=lst_inv j;obtain⟨_,_,_,rfl⟩:=Hs i;obtain⟨_,_,_,rfl⟩:=Hs g;obtain⟨_,_,_,_,_,_,_,_,rfl⟩:=LB w3;obtain⟨_,_,rfl⟩:=Ht w4;rw[l,k,E];unfold NC;exact⟨_,_,_,_,_,_,_,_,_,_,_,_,_,_,_,_,_,_,_,_,_,_,_,_,_,_,_,_,_,_,_,_,⟨k1,k2,k3,w5⟩,J⟩
def LC(C:CP M N aj k L X)(n:Nat){b:Ee}{F:FS}(h:Sh M aj n L b E=U F):PS X (.Try b E [] [] pos)<|tS (M.P.kt X) F:=by
 match b,E,h with
 |[s],[.ExceptHandler ty nm su hp],h=>
  revert h;refine Nw λe h1=>NA λq1 q2 h2=>Nw λy Q=>λh=>?_;revert Q;refine Nw λty' JZ=>λQ=>?_;revert h;refine Nw λo G=>NA λx y2 h4=>Nw λi z2=>Nw λj T=>Nw λm S=>λh=>?_;obtain⟨⟨⟨w1,w2,w3,w4,w5⟩,⟨w6,w7,w8⟩,w9,v1,v2⟩,h⟩:=gv.mp h;cases h;subst JZ G w2;dsimp only at T S w6 w7;obtain⟨yp,rfl⟩:=bI Q;obtain⟨ep,rfl⟩:=yJ h1;obtain⟨f,a,es,p,cp,k1,k2,rfl,k4,k5⟩:=yK h2;cases k2;obtain⟨l1,l2,l3,y1,y2',y3,p1,p2,p3,p4,p5,r1,r2,r3,r4,r5,t1,t2,t3,s1,s2,s3,s4,s5,s6,u1,u2,u3,u4,u5,b1,b2,⟨i1,i2,i3,t⟩,rfl⟩:=Sz h4;obtain⟨CB,m1,m2⟩:=C.gm.xf.kd;obtain⟨g1,g2⟩:=eF C.toCxOk k4;obtain⟨g3,g4⟩:=eF C.toCxOk w1;obtain⟨g5,_⟩:=eF C.toCxOk w3;obtain⟨D,B,A,z⟩:=fD C.toCxOk w6;obtain⟨w,ly2,ly3,ly4⟩:=fD C.toCxOk w7;obtain⟨n1,Z,W,V⟩:=fD C.toCxOk w8;obtain⟨jr,hj,hr⟩:=C.room;have I:X.N[i]?=U o:=by rw[C.N];exact gj z2
  have q:X.N[j]?=U x:=by rw[C.N];exact gj T
  have H:X.N[m]?=U y2:=by rw[C.N];exact gj S
  have R:∀y∈M.ys,Gl X y:=λy l=>(eF C.toCxOk<|bz.mp w4 y l).1;have CN:CxOk M N aj k L X.qD:=⟨C.gm,C.N,C.sc,C.calm,C.room⟩;have hA:=fF (X:=X.qD) (cL (M:=M) (N:=N) (aj:=aj) (k:=k) n L X.qD CN).1 (a::es) k5;refine RV C.xe (C.gm.xs f q1 k1) hr (eY (fJ ..) hj) hA g1 g2 k5 m1 g3 g4 C.nd I (dj.mp q).1 v1 v2 (by rw[C.sc];exact w9) (λc bs hb=>?_) C.stk C.frm
  obtain⟨r,e1,e2,e3,e4,e5,u,e7,e8⟩:=m2 c bs hb;refine⟨r,_,e1,e5,λa d oe ws v c1 c2 c3=>?_⟩;rw[<- t]at u;obtain⟨b12,b3,rfl,u,x3⟩:=u.split;obtain⟨b1,b2,rfl,x1,x2⟩:=u.split;have mi:X.mg "isinstance" = Y:=C.gm.bl _<|uY.mp w5;have g:∀{es:Bz}{ys:Bi}{bs:Fh},uq o es=U ys->G_ X.K X.mg r ys bs->(∀y∈ys,y∈M.ys)->PA (xy X a λ_ _=>False) es (Om i a oe bs):=λq1 q2 q3=>A7 (X:=xy X a λ_ _=>False) e3 c1 mi g5 I Z W V q1 q2 λy l=>R y<|q3 y l;exact RQ (X:=xy X a λ_ _=>False) e2 e4 c1 c2 c3 (by simpa[Nm]using e7) e8 (g i1 x1 λy l=>by rw[<- t];simp[l]) (g i2 x2 λy l=>by rw[<- t];simp[l]) (g i3 x3 λy l=>by rw[<- t];simp[l])
   C.nd I Z W V q D B A z (.inl<|C.fn _) H w<|.inl<|C.fn _
def yL(C:CP M N aj k L X)(n:Nat){l:Lc->Ee->FS}(j:∀r,gY X r<|tS (M.P.kt X)<|l L r)(st:hF):PS X st<|tS (M.P.kt X)<|Xu M aj n l L st:=by
 obtain⟨z,q,w,v⟩:=cL (M:=M) (N:=N) (aj:=aj) (k:=k) n L X C.toCxOk;cases st with
 |Assign ts e pos=>
  match ts with
  |[]=>exact dc
  |_::_::_=>exact dc
  |[t]=>cases t with
   |Name x _=>exact Ls C n _
   |Tuple es _ _=>exact Lv C n es e
   |Attribute o f _=>exact Lw C n o f e
   |Subscript o b _=>exact Lx C n o b e
   |_=>exact dc
 |AugAssign t s e pos=>exact Ly C n t s e
 |Expr e pos=>exact Sq C n e
 |Return o pos=>cases o with
  |none=>exact Rm
  |some e=>
   show PS X _<|tS (M.P.kt X)<|if _ then _ else _
   split
   .exact Og<|RW Hk Xy<|v e
   .exact Og<|z _
 |If c a b pos=>exact ĭ (q _) (j _)<|j _
 |For p it d i pos=>cases i with
  |cons _ _=>exact dc
  |nil=>
   show PS X _<|tS (M.P.kt X)<|Sd M aj n L (l L d) p it;unfold Sd;split
   .exact dc
   .rename_i h
    split
    .rename_i g is u
     obtain⟨gt,q1,q2⟩:=Hh (B:=M.P.kt X) J C.calm C.nd (Ő C) u;exact WM C.calm (w p it) q1 q2 (j d) (passes C)<|ur<|by simpa using h
    .exact dc
 |While c d i pos=>cases i with
  |cons _ _=>exact dc
  |nil=>exact KP _ (q _) (j _)<|passes C
 |Try d m i A pos=>
  match m,i,A with
  |[],_,_=>exact dc
  |_::_,_::_,_=>exact dc
  |_::_,[],_::_=>exact dc
  |h::m,[],[]=>
   show PS X _<|tS (M.P.kt X)<|match Sh M aj n L d (h::m)with|some F=>F|none=>dJ
   split
   .rename_i F y
    exact LC C n y
   .exact dc
 |Pass _=>exact Rk
 |_=>exact dc
theorem ig(n:Nat):∀(m:Nat)(L:Lc)(X:Cx),CP M N aj k L X->∀a,gY X a<|tS (M.P.kt X)<|j0 M aj n m L a
 |0,_,_,_,_=>WH
 |m+1,L,X,C,[]=>WI
 |m+1,L,X,C,[st]=>WJ<|yL C n (ig n m L X C) st
 |m+1,L,X,C,st::s2::rest=>Rj (yL C n (ig n m L X C) st)<|ig n m L X C<|s2::rest
def Hu(h:Si st=U z):∃p,st=.Raise (U z.1) z.2 p:=by
 cases st<;>try(cases h;done)
 obtain⟨e,a,rfl⟩:=d_.mp h;subst a;exact⟨_,J⟩
def A8(h:G9 st=U e):∃p,st=.Return (U e) p:=by
 cases st<;>try(cases h;done)
 rename_i o p;cases(show o=U e from h);exact⟨_,J⟩
def uw(h:ZQ M x=U q):∃i,M.xc[q.1]?=U (x,q.2,i):=by
 revert h;refine Nw λc d=>λh=>?_;obtain⟨⟨e,f,i⟩,b,rfl⟩:=d_.mp h;have a:=gj<|show ir (M.xc.map (·.1)) x=U c from d
 rw[f6,b]at a;cases a;exact⟨i,b⟩
def SA(h:Xv e=U a):∃d,e=.FormattedValue a 114 Y d:=by
 cases e<;>try(cases h;done)
 obtain⟨⟨c,b⟩,h⟩:=gv.mp h;cases h;subst c;cases(uQ.mp b);exact⟨_,J⟩
def SD(h:shA e=U a):∃y c k2 b p,e=.JoinedStr [.FormattedValue a 114 Y c,.Constant (.str y) k2 b] p/\y.length<=1000:=by
 cases e<;>try(cases h;done)
 rename_i l p;rcases l with _|⟨u,_|⟨v,_|⟨_,_⟩⟩⟩<;>try(cases h;done)
 revert h;refine Nw λe f=>Nw λy d=>λh=>?_;obtain⟨z,h⟩:=gv.mp h;cases h;obtain⟨c,rfl⟩:=SA f;obtain⟨k2,b,rfl⟩:=str_inv d;exact⟨_,_,_,_,_,J,z⟩
def LD(h:ZJ t=U u):∃l,t=.str l/\u=.str []/\l.length<=1000/\l.all (· < 1114112)=O:=by
 cases t<;>try(cases h;done)
 obtain⟨z,rfl⟩:=bC h;exact⟨_,J,J,z.1,z.2⟩
def SE(C:CxOk M N aj k L X)(hk:1<=k)(Z:ye X E)(n:Nat){F:FS}(h:rsF M aj n L e=U F):PS X (.Raise (U e) Y pos)<|tX (M.P.kt X) N E F:=by
 obtain⟨B,hT,hI,hO⟩:=cL (M:=M) (N:=N) (aj:=aj) (k:=k) n L X C;obtain⟨jr,hj,T⟩:=C.room;revert h;refine NA λx l h1=>NA λc fo h2=>λh=>?_;obtain⟨a,es,p,cp,k1,k2,k3,m⟩:=nR h1;obtain⟨i,D⟩:=uw h2;dsimp only at k1 k2 k3 D h;subst k1 k2;obtain⟨j,G⟩:=eF C k3;cases fo with
 |some f=>
  cases h;obtain⟨Ca,r,o⟩:=C.gm.xf.one c x f i D;exact GK r Z o (T.mono<|by lia) (fF B _ m) j G m
 |none=>
  obtain⟨Ca,r,o,_⟩:=C.gm.xf.non c x i D;obtain⟨b,h4,rfl⟩:=d_.mp<|show(kO (a::es) ([]:B1)).map _=U F from h;obtain⟨W,_⟩:=du h4;cases W;rw[ed,bZ]at m;split
  .rename_i d hd
   obtain⟨y,p2,k2,p3,pp,rfl,S⟩:=SD hd;refine wa r Z o (GF<|B d) (λK H Q z=>?_) j G J;obtain⟨g,s,t,I,x,h,q⟩:=z;obtain⟨⟨tx,R⟩,q1,h⟩:=ae h;obtain⟨t',q2,h⟩:=ae h;cases h;obtain⟨l,rfl,rfl,q3,q4⟩:=LD<|aq q2;refine⟨g,s,_,R,x,q1,λv j H1 A u w=>?_⟩;obtain⟨rfl,_⟩:=w;refine⟨_,J,?_,λx=>⟨J,q (SV []) j H1 A u ⟨J,iU _⟩⟩⟩;have hl:(pk ⟨l.toArray⟩).length<=10*(⟨l.toArray⟩:Str).length+2:=StrLaws.reprText_len ⟨l.toArray⟩ λc V=>by
    have:=bz.mp q4 c (by simpa using V)
    exact eS (bt this) (by decide)
   have e:(⟨l.toArray⟩:Str).length=l.length:=eo l;rw[ez];exact eY (Nat.add_le_add hl S) (by rw[e];omega)
  .refine wa r Z o (B _) (λK H Q z=>?_) j G m.1
   obtain⟨g,s,t,I,x,h,q⟩:=z;exact⟨g,s,t,I,x,h,λv j H1 A u w=>⟨J,q v j H1 A u w⟩⟩
def Hv(C:CxOk M N aj k L X)(hk:1<=k)(Z:ye X E)(hp:∀a,qs (mX X) (X.A.mark<|U<|.ref a) X.A X.env X.xe)(n:Nat){F:FS}(h:OA M aj n L st=U F):PS X st<|tX (M.P.kt X) N E F:=by
 obtain⟨jr,hj,m⟩:=C.room;cases st<;>try(cases h;done)
 rename_i z hs oe fb tp;rcases hs with _|⟨⟨ty,nm,su,hp'⟩,_|⟨_,_⟩⟩<;>try(cases h;done)
 revert h;refine Nw λs h1=>Nw λt h2=>Nw λe h3=>NA λq1 q2 h4=>Nw λy b=>λh=>?_;revert b;refine Nw λV JZ=>λb=>?_;revert h;refine NA λz1 z2 h6=>NA λw1 w2 h7=>Nw λa h8=>Nw λat_ h9=>Nw λv k1=>NA λc1 f1 k2=>NA λc2 f2 k3=>Nw λi k4=>Nw λj k5=>λh=>?_;obtain⟨⟨⟨T,l,S⟩,R,g,d⟩,h⟩:=gv.mp h;cases h;subst JZ;obtain⟨b1,b2⟩:=du h1;obtain⟨b3,b4⟩:=du h2;have b2:oe=[]:=DW.mp b2;have b4:fb=[]:=DW.mp b4;subst b1 b2 b3 b4;cases(uQ.mp T);obtain⟨rp,rfl⟩:=A8 h3;obtain⟨f,a',es,p,cp,d1,d2,rfl,d4,d5⟩:=yK h4;cases d2;obtain⟨yp,rfl⟩:=bI b;obtain⟨W,rfl⟩:=Hu h6;obtain⟨a2,ĺ,zp,cp2,x,u,r,e4⟩:=nR h7;dsimp only at x u r l g d k3;subst x u;obtain⟨e5,_⟩:=du h8;cases e5;obtain⟨k0,kp,o⟩:=Sy l;dsimp only at o ⊢;subst o;obtain⟨vp,e7⟩:=bI k1;have c:=kN h9;rw[e7]at c;obtain⟨i1,Q⟩:=uw k2;obtain⟨i2,K⟩:=uw k3;cases f1 with
 |some _=>cases g
 |none=>
 cases f2 with
 |none=>cases d
 |some fn=>
 obtain⟨C1,I,H,G⟩:=C.gm.xf.non c1 y i1 Q;obtain⟨C2,D,B⟩:=C.gm.xf.one c2 w1 fn i2 K;obtain⟨g1,g2⟩:=eF C d4;obtain⟨g3,g4⟩:=eF C S;obtain⟨g5,g6⟩:=eF C r;obtain⟨l1,l2,l3,l4⟩:=fD C R;have CN:CxOk M N aj k L X.qD:=⟨C.gm,C.N,C.sc,C.calm,C.room⟩;have hA:=fF (X:=X.qD) (cL (M:=M) (N:=N) (aj:=aj) (k:=k) n L X.qD CN).1 (a'::es) d5;refine RT I D Z hp (C.gm.xs f q1 d1) m (eY (fJ ..) hj) (m.mono<|by lia) hA g1 g2 d5 H.at_ G g3 g4 B g5 g6 (λq=>?_) (by rw[c];rfl)
 rw[c];exact Oa (X:=xy X q X.xe) C.gm.pg (gj k5) (Ak (X:=xy X q X.xe) (by show X.N[i]?=_;rw[C.N];exact gj k4) l2 l3 l4) J
def ux:PS X st<|tX (M.P.kt X) N E dJ:=λ_ _ _ _ _ _ z=>by
 rcases z with⟨_,_,_,_,_,h,_⟩|⟨_,_,_,_,_,_,h,_⟩<;>cases h
def Hw(n:Nat)(Q:1<=k)(C:CxOk M N aj k L X)(CS:CP M N aj k L X.qD)(Z:ye X E)(K:me (mX X) X.A X.env X.xe)(SG:∀a,qs (mX X) (X.A.mark<|U<|.ref a) X.A X.env X.xe){t:Lc->Ee->FS}(o:∀S,gY X S<|tX (M.P.kt X) N E<|t L S)(st:hF) :
  PS X st<|tX (M.P.kt X) N E<|ZR M aj n t L st:=by
 obtain⟨hE,R,hI,hO⟩:=cL (M:=M) (N:=N) (aj:=aj) (k:=k) n L X C;have m:∀{e fe},xE M aj (comp M aj n) L xD e=U fe->PE X e (yz (M.P.kt X) N E fe):=λ{e fe} q=>OB C (Vz Z) hE xD e q;have l:∀{e fe},xE M aj (comp M aj n) L xD e=U fe->wj e=Zi:=λ{e fe} q=>by
  cases e<;>first|rfl|(cases q)
 have plain:PS X st<|tX (M.P.kt X) N E<|eV<|Xu M aj n (j0 M aj n 200) L st:=Ķ λaa s T H D I h=>eD (yL CS n (ig n 200 L X.qD CS) st aa s T H D (I.mZ _) h) (λ_ _ q=>q.gR) λ_ _ z=>z.elim;unfold ZR;split
 .rename_i F h
  obtain⟨⟨e,ca⟩,f,d⟩:=a_.mp h;obtain⟨p,rfl⟩:=Hu f;obtain⟨q,d⟩:=gv.mp d;cases(uQ.mp q:ca=Y);exact SE C Q Z n d
 split
 .rename_i fe h
  obtain⟨e,f,d⟩:=a_.mp h;obtain⟨p,rfl⟩:=yJ f;exact RK (m d)<|jd<|l d
 split
 .rename_i fe h
  obtain⟨e,f,d⟩:=a_.mp h;obtain⟨p,rfl⟩:=A8 f;exact W7<|m d
 split
 .rename_i i fe h
  revert h;refine NA λx e f=>Nw λG d=>Nw λV v=>λh=>?_;obtain⟨⟨q1,q2⟩,h⟩:=gv.mp h;cases h;obtain⟨p,p',rfl⟩:=kY f;obtain⟨l1,l2,l3,l4⟩:=fD C q1;exact W6 CS.nd (by rw[C.N];exact gj v) l1 (m d) (jd<|l d)<|.inl<|CS.fn x
 split
 .rename_i i fe h
  revert h;refine Nw λe f=>NA λy a d=>Nw λG v=>Nw λV h4=>λh=>?_;obtain⟨q1,h⟩:=gv.mp h;cases h;obtain⟨p,rfl⟩:=yJ f;obtain⟨h5,py,ap,cp,rfl,h6⟩:=A6 d;obtain⟨l1,l2,l3,l4⟩:=fD C q1;exact W8 (m v) (by rw[C.N];exact gj h4) l2 l3 l4 h5 h6
 split
 .rename_i F h
  exact Hv C Q Z SG n h
 .cases st with
  |If c a b pos=>exact ķ (R _) (o _)<|o _
  |For r it j u pos=>cases u with
   |cons _ _=>exact ux
   |nil=>
    show PS X _<|tX (M.P.kt X) N E<|if isSet it then dJ else match Ou L.N (iB L) r with|some (g,_)=>gT (pK<|(comp M aj n).I L r it) g<|t L j|none=>dJ
    split
    .exact ux
    .rename_i h
     split
     .rename_i g is W
      obtain⟨gt,q1,q2⟩:=Hh (X:=X) (B:=M.P.kt X) J C.calm CS.nd (λx i f d=>Ő CS x i f d) W;exact W9 C.calm (hI r it) q1 q2 (o j) K<|ur<|by simpa using h
     .exact ux
  |While c j u pos=>cases u with
   |nil=>exact K_ many (R _) (o _) K
   |cons _ _=>exact ux
  |_=>exact plain
theorem k6(n:Nat)(c:1<=k)(C:CxOk M N aj k L X)(e:CP M N aj k L X.qD)(Z:ye X E)(b:me (mX X) X.A X.env X.xe)(d:∀a,qs (mX X) (X.A.mark<|U<|.ref a) X.A X.env X.xe):∀m f,gY X f<|tX (M.P.kt X) N E<|wm M aj n m L f
 |0,_=>λ_ _ _ _ _ _ z=>by rcases z with⟨_,_,_,_,_,h,_⟩|⟨_,_,_,_,_,_,h,_⟩<;>cases h
 |m+1,[]=>W5
 |m+1,[st]=>jo<|Hw n c C e Z b d (k6 n c C e Z b d m) st
 |m+1,st::s2::rest=>RJ (Hw n c C e Z b d (k6 n c C e Z b d m) st)<|k6 n c C e Z b d m<|s2::rest
abbrev LG:=List<|Str×Nat
structure Fe where
 cls:Option Str
 x:Str
 qual:Str
 st:hF
 N:Bi
 ps:Bi
 mu:Bi
 sl:Bool
 ds:FC
def noFn:Fn:=λ_ _=>.bad
def SH(b:Bool)(f:Fn):Fn:=if b then aI f else f
def XC(e:Fe):Bool:=e.mu.contains ("raise" : Str)
def wu(M:Gm)(aj:Nat->Fn)(e:Fe):FS:=match XC e with
 |false=>j0 M aj 60 200 ⟨e.N,aC e.st,e.mu⟩<|cu e.st
 |true=>wm M aj 60 200 ⟨e.N,aC e.st,e.mu⟩<|cu e.st
def wx(M:Gm)(aj:Nat->Fn)(e:Fe):Fn:=SH e.sl<|aH e.ps.length e.N.length<|wu M aj e
def ik(M:Gm)(Ft:List Fe):Nat->Nat->Fn
 |0,_=>noFn
 |n+1,i=>match Ft[i]? with
  |some e=>wx M (ik M Ft n) e
  |none=>noFn
def rR(K:bh)(x:Str):Option cq:=match om K eP x with
 |U<|U<|.ref a=>U a
 |_=>Y
def fZ{a:cq}(h:rR K x=U a):om K eP x=U (U<|.ref a):=by
 unfold rR at h;split at h
 .rename_i e;cases h;exact e
 .cases h
def ő(K:bh)(C:cq)(m:Str):Option cq:=match fG K (.ref C) m with
 |U<|U<|.ref a=>U a
 |_=>Y
def ZS(K:bh)(C:cq)(ns:Bi):Bool:=Dy K C ij&&Dz K C&&DE K C&&decide (fG K (.ref C) "__setattr__" = U (U<|.builtin "object.__setattr__")) &&
 decide (fG K (.ref C) "__class__" = U (U<|.builtin Mz))&&decide (BO K C (.type "object")=U O)&&ns.all (λf=>decide<|fG K (.ref C) f=U Y)&&decide ns.Nodup&&decide (ns.length<=100)
def subB(K:bh)(cn:Bi)(C:cq)(l:B1):Bool:=(gQ cn.length).all λd=>match cn[d]? with
 |none=>O
 |some n=>(match rR K n with
  |some D=>decide<|oh K (.ref C) (.ref D)=U (decide<|d∈l)
  |none=>Zi)
def XE(K:bh)(P:Pg):Bool:=(gQ P.cn.length).all λc=>match P.cn[c]? with
 |none=>O
 |some n=>(match rR K n,P.fn[c]?,P.sub[c]? with
  |some C,some ns,some l=>ZS K C ns&&subB K P.cn C l
  |_,_,_=>Zi)
def gtB(K:bh):Bool:=decide (zg K (.builtin Mz) "__get__" = U (U<|.builtin "getset_descriptor.__get__"))&&decide (zh K (.builtin Mz)=U O)
def JA(K:bh)(mg:Str->D1):Prop:=∀x o,om K eP x=U o->mg x=o
def SI(X:K.In h)(G:h.Ns eP mg):JA K mg:=λx o e=>by
 cases o with
 |none=>exact PySem.W.mg_none_of X G e
 |some v=>exact PySem.W.mg_of X G e
def rT(h:XE K P=O){c:Nat}(a:P.cn[c]?=U n):∃C ns l,rR K n=U C/\P.fn[c]?=U ns/\P.sub[c]?=U l/\ZS K C ns=O/\subB K P.cn C l=O:=by
 unfold XE at h
 have:=bz.mp h c<|uT.mpr (dj.mp a).1
 rw[a]at this;dsimp only at this;split at this
 .rename_i C ns l e d b
  rw[bZ]at this;exact⟨C,ns,l,e,d,b,this.1,this.2⟩
 .cases this
def pO(g:JA K mg){C:cq}(c:rR K n=U C)(h:ZS K C ns=O):Ux K mg n ns C:=by
 unfold ZS at h;simp only[bZ,c7]at h;obtain⟨⟨⟨⟨⟨⟨⟨⟨p,o⟩,m⟩,l⟩,k⟩,j⟩,i⟩,e⟩,d⟩:=h;have a:=fZ c;exact⟨a,g _ _ a,e,d,⟨p,o,m,l⟩,λf b=>show fG K (.ref C) f=U Y from bt<|bz.mp i f b,k,j⟩
def XG(g:JA K mg)(h:XE K P=O)(a:gtB K=O):tQ K mg P:=by
 refine⟨λc n ns i b=>?_,λc d n s C D l i b q p o=>?_,?_⟩
 .obtain⟨C,r,l,f,k,_,m,_⟩:=rT h i
  rw[b]at k;cases k;exact⟨C,pO g f m⟩
 .obtain⟨v,r,t,f,_,hl,_,j⟩:=rT h i
  rw[o]at hl;cases hl;have e:=(g _ _<|fZ f).symm.trans q;cases e;unfold subB at j
  have:=bz.mp j d<|uT.mpr (dj.mp b).1
  rw[b]at this;dsimp only at this;split at this
  .rename_i u hd
   have e:=(g _ _<|fZ hd).symm.trans p;cases e;exact bt this
  .cases this
 .unfold gtB at a
  rw[bZ]at a;exact⟨bt a.1,bt a.2⟩
def LH(K:bh)(e:Fe):Option cq:=match e.cls with
 |none=>rR K e.x
 |some c=>(rR K c).bind λC=>ő K C e.x
def UE(K:bh)(e:Fe):Option ef:=(LH K e).bind λf=>match K.lookup f with
 |some ⟨_,_,.func a,_⟩=>U a
 |_=>Y
def LJ(e:Fe)(fd:ef):ef:=BP e.x e.qual (kr e.st) (cu e.st) (aC e.st) fd.defaults fd.kwdefaults fd.doc fd.pyModule fd.annotations fd.code fd.closureTuple
def scB(e:Fe):Bool:=decide ((aC e.st).kind=.function)&&!(aC e.st).isCoroutine&&!(aC e.st).isGenerator&&decide e.N.Nodup&&decide (e.N.take e.ps.length=e.ps)&&e.ps.all (λx=>decide ((aC e.st).names.lookup x=U .local) ||decide ((aC e.st).names.lookup x=U .cell))&&(aC e.st).names.all (λy=>decide<|y.2≠.free)
def A9:T->bp->Bool
 |.int i,.int j _=>decide<|i=j
 |.str l,.str s _=>decide (s.cps.toList=l)&&decide (l.length<=1000000)
 |.bl b,.bool c=>b == c
 |.non,.none=>O
 |_,_=>Zi
def eZ:T->V
 |.int i=>.int i
 |.str l=>SV l
 |.bl b=>.bl b
 |_=>.non
def A_(h:A9 t u=O):RelV (eZ t) u/\∀(B:KT)al H,Rep B al H t<|eZ t:=by
 unfold A9 at h;split at h
 .have h:=bt h
  subst h;exact⟨⟨_,J⟩,λ_ _ _=>J⟩
 .rename_i l s tk
  rw[bZ]at h;have a:=bt h.1;subst a;exact⟨⟨tk,J⟩,λ_ _ _=>⟨J,bt h.2⟩⟩
 .have h:=eq_of_beq h
  subst h;exact⟨J,λ_ _ _=>J⟩
 .exact⟨J,λ_ _ _=>J⟩
 .cases h
def j1:FC->B2->Bool
 |[],[]=>O
 |t::ts,u::us=>A9 t u&&j1 ts us
 |_,_=>Zi
theorem pP:∀{ts:FC}{us:B2},j1 ts us=O->Vals (ts.map eZ) us/\∀(B:KT)al H,aD B al H ts<|ts.map eZ
 |[],[],_=>⟨.nil,λ_ _ _=>J⟩
 |t::ts,u::us,h=>by
  rw[j1,bZ]at h;obtain⟨a,b⟩:=A_ h.1;obtain⟨c,d⟩:=pP h.2;exact⟨.cons a c,λB al H=>⟨_,_,J,b B al H,d B al H⟩⟩
 |[],_::_,h=>by cases h
 |_::_,[],h=>by cases h
def Œ(K:bh)(ds:FC)(b:bp):Bool:=match ds with
 |[]=>(match b with
  |.none=>O
  |_=>Zi)
 |_::_=>(match b with
  |.ref a=>(match K.lookup a with
   |some ⟨_,_,.seq au _,_⟩=>j1 ds au.toList
   |_=>Zi)
  |_=>Zi)
def ZT(K:bh)(e:Fe):Bool:=match LH K e,UE K e with
 |some f,some a=>j9 K (.ref f)&&BN K (.ref f)&&DI K a.code e.qual&&scB e&&Œ K e.ds a.defaults
 |_,_=>Zi
def Bn(e:Fe):Prop:=match e.ds with
 |[]=>∀(kV c f:bp)(an:Option cq)(g ct:bp)(b:B2),b.length=e.ps.length->bindArgs (BP e.x e.qual (kr e.st) (cu e.st) (aC e.st) .none kV c f an g ct) ⟨b,[]⟩=pure (e.ps.zip b)
 |ds=>∀(kV c f:bp)(an:Option cq)(g ct:bp)(s:ax)(a:cq)(o:Obj)(d:B2)(n:Nat)(b:B2),s.heap.get? a=U o->o.data=.seq d.toArray n->d.length=ds.length->(b++d).length=e.ps.length ->
  xp s (BP e.x e.qual (kr e.st) (cu e.st) (aC e.st) (.ref a) kV c f an g ct) ⟨b,[]⟩ (e.ps.zip<|b++d)
structure pQ(K:bh)(e:Fe)(f:cq)(fd:ef):Prop where
 at_:LH K e=U f
 fn:vX K e.x e.qual e.st f fd
 sc:fW e.N e.ps<|aC e.st
 isf:BN K (.ref f)=O
 bs:e.ds=[]->∀us:B2,us.length=e.ps.length->bindArgs fd ⟨us,[]⟩=pure (e.ps.zip us)
 bd:∃(g_:B2)(dV:List V),Binds K fd e.ps g_/\Vals dV g_/\∀(B:KT)al H,aD B al H e.ds dV
def pQ.bn{e:Fe}(F:pQ K e f fd)(h:e.ds=[]):Binds K fd e.ps []:=.all<|F.bs h
theorem rV:∀{ts:FC}{us:B2},j1 ts us=O->us.length=ts.length
 |[],[],_=>J
 |t::ts,u::us,h=>by
  rw[j1,bZ]at h;simp[rV h.2]
 |[],_::_,h=>by cases h
 |_::_,[],h=>by cases h
def XH{e:Fe}(h:ZT K e=O)(q:UE K e=(UE K e).map (LJ e))(b:Bn e):∃f fd,pQ K e f fd:=by
 unfold ZT at h;split at h
 case h_2=>cases h
 rename_i f fd o i;simp only[bZ]at h;obtain⟨⟨⟨⟨I,G⟩,E⟩,n⟩,c⟩:=h;rw[i]at q;injection q with q
 have l:∃j od k,K.lookup f=U ⟨j,od,.func fd,k⟩:=by
  unfold UE at i;rw[o]at i;dsimp only[MG]at i;split at i
  .rename_i j od T k e
   cases i;exact⟨j,od,k,e⟩
  .cases i
 obtain⟨j,od,k,l⟩:=l;have F:vX K e.x e.qual e.st f fd:=⟨⟨j,od,fd.defaults,fd.kwdefaults,fd.doc,fd.pyModule,fd.annotations,fd.code,fd.closureTuple,k,q,l,E⟩,I⟩;have bs:e.ds=[]->∀g:B2,g.length=e.ps.length->bindArgs fd ⟨g,[]⟩=pure (e.ps.zip g):=λh g hl=>by
  unfold Bn at b;rw[h]at b c;unfold Œ at c;dsimp only at b c;split at c
  .rename_i hd
   rw[q];unfold LJ;rw[hd];exact b _ _ _ _ _ _ g hl
  .cases c
 have bd:∃(p:B2)(r:List V),Binds K fd e.ps p/\Vals r p/\∀(B:KT)al H,aD B al H e.ds r:=by
  cases t:e.ds with
  |nil=>exact⟨[],[],.all<|bs t,.nil,λ_ _ _=>J⟩
  |cons d ds=>
   unfold Bn at b;rw[t]at b c;unfold Œ at c;dsimp only at b c;split at c
   case h_2=>cases c
   rename_i a hd;split at c
   case h_2=>cases c
   rename_i z w au A X m;obtain⟨v,u⟩:=pP c;refine⟨au.toList,_,λs g W hl=>?_,v,λB al H=>u B al H⟩;rw[q];unfold LJ;rw[hd];exact b _ _ _ _ _ _ s a _ au.toList A g (W _ _ m) J (rV c) hl
 refine⟨f,fd,o,F,?_,G,bs,bd⟩;unfold scB at n;simp only[bZ,c7]at n;obtain⟨⟨⟨⟨⟨⟨S,R⟩,Q⟩,P⟩,N⟩,M⟩,L⟩:=n;refine⟨S,by simpa using R,by simpa using Q,P,N,λx D=>?_,λy C=>bt<|bz.mp L y C⟩
 have:=bz.mp M x D
 rw[oq]at this;exact this.imp bt bt
section
variable{Ft:List Fe}{It:LG}
def œ(e:Fe):Bool:=e.N.all λx=>(decide ((aC e.st).names.lookup x=U .local) ||decide ((aC e.st).names.lookup x=U .cell))&&!kU x
def OC{e:Fe}(h:œ e=O):∀(i:Nat)(x:Str),e.N[i]?=U x->kg (aC e.st) x/\aX x/\fh x:=λi x a=>by
 have:=bz.mp h x<|gZ a
 rw[bZ,oq]at this;refine⟨this.1.elim (λh=>.inl<|bt h) λh=>.inr<|.inl<|bt h,Lk<|by simpa using this.2⟩
def mkB(K:bh)(C f:cq):Bool:=DA K C&&decide (fG K (.ref C) "__init__" = U (U<|.ref f))&&j9 K (.ref C)
def Hx(K:bh)(M:Gm)(Ft:List Fe)(It:LG)(c:Nat)(x:Str)(t:Bi->Fe->Bool):Bool:=match M.P.cn[c]?,M.P.fn[c]?,(It.lookup x).bind λi=>Ft[i]? with
 |some n,some ns,some e=>decide (n=x)&&(match rR K x,LH K e with
  |some C,some f=>mkB K C f&&e.ds.isEmpty&&t ns e
  |_,_=>Zi)
 |_,_,_=>Zi
def fzB(n:Nat)(ns:Bi)(e:Fe):Bool:=œ e&&pH e.N 1 (cu e.st) ns&&decide (e.ps.length=ns.length+1)&&decide (ns.length=n)
def cpB(K:bh)(ns:Bi)(e:Fe):Bool:=œ e&&decide (e.ps.length=2)&&decide (om K eP "list" = U Y)&&decide ((aC e.st).names.lookup ("list" : Str)=U .globalImplicit)&&(match cu e.st with
 |[WV]=>(match ue WV with
  |some (a,n,q)=>decide (ns=[n])&&decide (e.N[0]?=U a)&&decide (e.N[1]?=U q)
  |none=>Zi)
 |_=>Zi)
def ZU(K:bh)(M:Gm)(Ft:List Fe)(It:LG)(x:Str):Ck->Bool
 |.fz c n=>Hx K M Ft It c x<|fzB n
 |.z0 c=>(match M.P.cn[c]?,rR K x with
  |some n,some C=>decide (n=x)&&DA K C&&decide (fG K (.ref C) "__init__" = U (U<|.builtin "object.__init__"))&&j9 K (.ref C)
  |_,_=>Zi)
 |.cp c=>Hx K M Ft It c x<|cpB K
 |.nw c i=>decide (It.lookup x=U i)&&Hx K M Ft It c x λ_ _=>O
def Ŕ:FC->FC->Bool
 |[],[]=>O
 |[.int i],[.int j]=>decide<|i=j
 |_,_=>Zi
def Ba{a b:FC}(h:Ŕ a b=O):a=b:=by
 unfold Ŕ at h;split at h
 .rfl
 .rw[bt h]
 .cases h
def XI(K:bh)(Ft:List Fe)(p:Str×FC×Nat):Bool:=match Ft[p.2.2]? with
 |some e=>decide (e.cls=Y)&&decide (e.x=p.1)&&Ŕ p.2.1 e.ds
 |none=>Zi
def XJ(K:bh)(M:Gm)(Ft:List Fe)(m:Str)(p:Nat×Nat):Bool:=match M.P.cn[p.1]?,M.P.fn[p.1]?,Ft[p.2]? with
 |some n,some ns,some e=>(match rR K n,LH K e with
  |some C,some f=>decide (fG K (.ref C) m=U (U<|.ref f))&&e.ds.isEmpty&&!ns.contains m
  |_,_=>Zi)
 |_,_,_=>Zi
def ŕ(K:bh)(C:cq):Bool:=decide (fG K (.ref C) "__getattribute__" = U (U<|.builtin Mo))&&decide (fG K (.ref C) "__getattr__" = U Y)&&decide (fG K (.ref C) "__class__" = U (U<|.builtin Mz))&&decide (BO K C (.type "BaseException")=U O)&&decide (BO K C (.type "object")=U O) &&
 decide (fG K (.ref C) "__setattr__" = U (U<|.builtin "object.__setattr__"))&&Dz K C&&(PySem.W.clsIn K C).any (λa=>z9 a.mro)&&j9 K (.ref C)
def noB(K:bh)(C:cq)(f:Str):Bool:=decide<|fG K (.ref C) f=U Y
def xmB(K:bh)(C:cq)(y:Str):Bool:=match rR K y with
 |some D=>decide<|BQ K (.ref C) (.ref D)=U O
 |none=>Zi
def SJ(s f p:Str)(st:hF):Bool:=match AF st with
 |some (a,b,e)=>decide (a=s)&&decide (b=f)&&decide (asName e=U p)
 |none=>Zi
def un{α:Type}:List α->Option (α×List α)
 |[]=>Y
 |a::r=>U (a,r)
def xS{l:List α}{p}(h:un l=U p):l=p.1::p.2:=by
 cases l<;>cases h;rfl
def l2{α:Type}(l:List α):Option<|α×α:=(un l).bind λp=>(un p.2).bind λq=>if q.2.isEmpty=O then U (p.1,q.1)else Y
def SK{l:List α}{p}(h:l2 l=U p):l=[p.1,p.2]:=by
 revert h;refine Nw λa d=>Nw λb c=>λh=>?_;obtain⟨z,h⟩:=gv.mp h;cases h;rw[xS d,xS c,sI.mp z]
def mkV(f:Str)(e:Fe):Bool:=(kO (cu e.st) ([]:B1)).any λb=>(l2 e.ps).any λs=>decide (e.N=[s.1,s.2])&&SJ s.1 f s.2 b&&!kU s.1&&!kU s.2&&e.ds.isEmpty
def XM(K:bh)(Ft:List Fe)(C:cq)(f:Str)(i:Nat):Bool:=match Ft[i]? with
 |some e=>(match LH K e with
  |some a=>E9 K C a&&mkV f e
  |none=>Zi)
 |none=>Zi
def SM(K:bh)(Ft:List Fe)(q:Str×Option Str×Nat):Bool:=match rR K q.1 with
 |some C=>(match q.2.1 with
  |some f=>ŕ K C&&noB K C f&&XM K Ft C f q.2.2
  |none=>MO K C Qq "ValueError.__new__" && decide (BQ K (.ref C) (.ref C)=U O))
 |none=>Zi
def CQ(K:bh)(M:Gm):XN:=M.xc.map λq=>((rR K q.1).getD 0,q.2.1)
def Ŗ(K:bh)(C:cq)(y:Str):Option Bool:=if kU y then Y else match om K eP y with
 |U<|U<|.ref D=>oh K (.ref C)<|.ref D
 |some none=>if y=("ValueError" : Str)then oh K (.ref C) (.type "ValueError")else Y
 |_=>Y
def SN(K:bh)(C:cq):Bi->Option Fh
 |[]=>U []
 |y::ys=>(Ŗ K C y).bind λb=>(SN K C ys).map (b::·)
def ŗ(K:bh)(M:Gm)(c:Nat)(bs:Fh):Bool:=match M.xc[c]? with
 |some q=>decide (q.2.1=U ("row" : Str))&&(match rR K q.1 with
  |some C=>decide (SN K C M.ys=U bs)&&xmB K C M.xm&&decide (bs.length<=1000)&&Up (.bl O) (tm (bs.map V.bl) Y<|U 3)
  |none=>Zi)
 |none=>Zi
def kbB(K:bh)(M:Gm):Bool:=(gQ M.kb.length).all λc=>match M.kb[c]? with
 |some bs=>ŗ K M c bs
 |none=>Zi
def LK(Ft:List Fe)(i:Nat):Bool:=match Ft[i]? with
 |some e=>XC e
 |none=>Zi
def XO(K:bh)(M:Gm)(Ft:List Fe):Bool:=M.xc.all (SM K Ft)&&kbB K M&&(rR K M.xm).isSome&&M.xs.all (λp=>XI K Ft (p.1,[],p.2)&&LK Ft p.2)&&M.xt.all λp=>XJ K M Ft p.1 p.2&&LK Ft p.2.2
def XS(K:bh)(M:Gm)(Ft:List Fe)(It:LG):Bool:=XE K M.P&&gtB K&&Ft.all (ZT K)&&M.fs.all (XI K Ft)&&M.cl.all (λp=>ZU K M Ft It p.1 p.2)&&M.ms.all (λp=>p.2.all<|XJ K M Ft p.1)&&M.bl.all (λx=>decide<|om K eP x=U Y)&&XO K M Ft
structure ModOk(K:bh)(M:Gm)(Ft:List Fe)(It:LG):Prop where
 b:XS K M Ft It=O
 q:Ft.map (UE K)=Ft.map λe=>(UE K e).map<|LJ e
 bn:∀e∈Ft,Bn e
theorem Hy{α c:Type}{f g:α->c}:∀{l:List α},l.map f=l.map g->∀a∈l,f a=g a
 |[],_,a,h=>by simp at h
 |b::l,e,a,h=>by
  rw[fV,fV]at e;injection e with e1 e2
  rcases bF.mp h with rfl|h
  .exact e1
  .exact Hy e2 a h
def ModOk.split(n:ModOk K M Ft It):XE K M.P=O/\gtB K=O/\(∀e∈Ft,ZT K e=O)/\(∀p∈M.fs,XI K Ft p=O)/\(∀p∈M.cl,ZU K M Ft It p.1 p.2=O)/\(∀p∈M.ms,∀q∈p.2,XJ K M Ft p.1 q=O)/\(∀x∈M.bl,om K eP x=U Y)/\XO K M Ft=O:=by
 have h:=n.b;unfold XS at h;simp only[bZ]at h;obtain⟨⟨⟨⟨⟨⟨⟨m,l⟩,k⟩,j⟩,i⟩,g⟩,f⟩,d⟩:=h;exact⟨m,l,bz.mp k,bz.mp j,bz.mp i,λp c=>bz.mp<|bz.mp g p c,λx a=>bt<|bz.mp f x a,d⟩
def ModOk.fe(a:ModOk K M Ft It){e:Fe}(h:e∈Ft):∃f fd,pQ K e f fd:=XH (a.split.2.2.1 e h) (Hy a.q e h)<|a.bn e h
def LL:cj P w K mg base iL k f fd ps<|qw B noFn:=
 ⟨by rintro a H Q E ⟨_,_,_,_,_,_,_,h,_⟩;exact(by cases h),by rintro _ _ _ _ _ _ _ _ _ _ _ _ _ ⟨_,_,_,_,_,_,_,h,_⟩;exact(by cases h)⟩
def yM(g:JA K mg)(y:ModOk K M Ft It){c:Nat}(h:Hx K M Ft It c x t=O):∃C ns e i f fd,M.P.cn[c]?=U x/\M.P.fn[c]?=U ns/\It.lookup x=U i/\Ft[i]?=U e/\pQ K e f fd/\Mk K C f/\Ux K mg x ns C/\t ns e=O/\e.ds=[]:=by
 unfold Hx at h;split at h
 case h_2=>cases h
 rename_i n ns e k j r;obtain⟨i,q,d⟩:=a_.mp r;rw[bZ]at h;obtain⟨a,h⟩:=h;have a:=bt a;subst a;split at h
 case h_2=>cases h
 rename_i C f b p;rw[bZ]at h;obtain⟨u,fd,F⟩:=y.fe<|gZ d
 have:=F.at_.symm.trans p
 cases this;obtain⟨w,v,l,o,m,_,s,_⟩:=rT y.split.1 k;rw[b]at o;cases o;rw[j]at m;cases m;unfold mkB at h;simp only[bZ,c7]at h;exact⟨C,ns,e,i,_,fd,k,j,q,d,F,⟨h.1.1.1.1,h.1.1.1.2,F.isf,h.1.1.2⟩,pO g b s,h.2,sI.mp h.1.2⟩
def CT{α:Type}{l:List<|Nat×α}{x:Nat}{a:α}(h:l.lookup x=U a):(x,a)∈l:=by
 induction l with
 |nil=>simp at h
 |cons p l c=>
  obtain⟨q,b⟩:=p;rw[jK]at h;split at h
  .rename_i e
   cases h;rw[eq_of_beq e];exact eX ..
  .exact bw _<|c h
def Ux.CU{c:Nat}{C:cq}(F:Ux K mg x ns C)(b:P.cn[c]?=U x)(a:P.fn[c]?=U ns):ib (gU P K Pr w) c C ns:=⟨x,b,a,F.nd,F.at_⟩
def Hz{a b c:Str}(h:SJ a b c st=O):∃j i f g,st=.Assign [.Attribute (.Name a j) b i] (.Name c f) g:=by
 unfold SJ at h;split at h
 .rename_i x y e d
  simp only[bZ,c7]at h;obtain⟨⟨rfl,rfl⟩,k⟩:=h;obtain⟨f,rfl⟩:=bI k;obtain⟨_,_,_,d⟩:=t_ d;exact⟨_,_,_,_,d⟩
 .cases h
def HA{C:cq}{e:Fe}(F:pQ K e f fd)(Z:nk K C)(o:cO K C xf)(h:mkV xf e=O):cj Pr w K mg base iL 1 f fd e.ps (Dm C xf)/\ü Pr w K mg base f fd e.ps (Dm C xf)/\e.ps.length=2/\e.ds=[]:=by
 obtain⟨a,g,h⟩:=DG h;obtain⟨⟨s,p⟩,d,h⟩:=DG h;have g:=(du g).1;have d:=SK d;dsimp only at d h;simp only[bZ,c7,xF]at h;obtain⟨⟨⟨⟨W,T⟩,B⟩,y⟩,S⟩:=h;obtain⟨_,_,_,_,v⟩:=Hz T;have sc:=F.sc;rw[W,d]at sc;rw[d];have i:∀x∈[s,p],kg (aC e.st) x:=λx R=>(sc.par x R).elim .inl λz=>.inr<|.inl z;have go:∀{b:List V}{H:Hp}{Q:VK}{E:XK},Dm C xf b H Q E->b.length=2/\∃c,L2.start [s,p] b=c.map U/\Dm C xf c H (λ_ m=>Q .non m) λ_ _ _=>False:=λ{b H Q E} q=>by
  obtain⟨a,u,M,L,rfl,z⟩:=q;exact⟨J,[.ref a,u],J,a,u,M,L,J,z⟩
 refine⟨F.fn.ok (N:=[s,p]) sc (λb H Q E I=>(go I).1) λl A outer j H b Q E hr h=>?_,λA outer j H G us b Q hd e0 k r hl h=>?_,J,sI.mp S⟩
 .rw[g,v]
  obtain⟨_,c,q1,q2⟩:=go h;exact⟨_,E7 (X:=(iK iL Pr w K mg base [s,p] e.qual (aC e.st) f l A outer j H E).qD) Z o J (i s<|by simp) (i p<|by simp) (Lk B)<|Lk y,c,q1,q2⟩
 .obtain⟨oc,od,dV,kV,doc,pm,an,l,ct,oQ,rfl,P,fj⟩:=F.fn.ex
  obtain⟨_,c,q1,q2⟩:=go h;refine Kd P fj sc hd e0 k r hl (t:=λD n H=>∃b,n=b.map U/\Dm C xf b H (λ_ m=>D.nx n m) λ_ _ _=>False) ?_ ⟨c,q1,q2⟩;rw[g,v];exact E7 (X:={iK iL Pr w K mg base [s,p] e.qual (aC e.st) f l A outer j H (λ_ _ _=>False)with calm:=Zi,xe:=λ_ _=>False}) Z o J (i s<|by simp) (i p<|by simp) (Lk B)<|Lk y
def XU(g:JA K mg){C:cq}{b:Bool}(h:Ŗ K C y=U b):Ĺ K mg C y b:=by
 unfold Ŗ at h;split at h
 .cases h
 rename_i hd;refine⟨(Lk<|by simpa using hd).1,?_⟩
 split at h
 .rename_i D a
  exact .inl ⟨D,g _ _ a,h⟩
 .rename_i a
  split at h
  .rename_i e
   subst e;exact .inr ⟨"ValueError",g _ _ a,PyProof.Rows.Boot.«ValueError»,by decide,h⟩
  .cases h
 .cases h
theorem HB(g:JA K mg){C:cq}:∀{ys:Bi}{bs:Fh},SN K C ys=U bs->G_ K mg C ys bs
 |[],bs,h=>by cases h;trivial
 |y::ys,bs,h=>by
  revert h;refine Nw λb c=>λh=>?_;obtain⟨d,a,rfl⟩:=d_.mp h;exact⟨XU g c,HB g a⟩
def XW{C:cq}(gt:gtB K=O)(h:ŕ K C=O):nk K C/\qN K C/\j9 K (.ref C)=O:=by
 unfold ŕ at h;simp only[bZ,c7]at h;obtain⟨⟨⟨⟨⟨⟨⟨⟨a1,a2⟩,a3⟩,a6⟩,a7⟩,a8⟩,a9⟩,b⟩,a⟩:=h;unfold gtB at gt;simp only[bZ,c7]at gt;exact⟨⟨a1,a2,a8,a9,b⟩,⟨a1,a2,a3,gt.1,gt.2,a6,a7⟩,a⟩
def HC{c:Nat}{C:cq}(h:M.xc[c]?=U (x,f,i))(a:rR K x=U C):(CQ K M)[c]?=U (C,f):=by
 unfold CQ;rw[f6,h];show U ((rR K x).getD 0,f)=_;rw[a];rfl
def SO(g:JA K mg)(G:ModOk K M Ft It):XsF M Pr w K mg base<|CQ K M:=by
 obtain⟨_,gt,_,_,_,_,_,h⟩:=G.split;unfold XO at h;simp only[bZ,bz]at h;obtain⟨⟨⟨⟨o,n⟩,m⟩,B⟩,A⟩:=h;have one:∀{x f i},(x,U f,i)∈M.xc->∃C,rR K x=U C/\nk K C/\qN K C/\cO K C f/\ZK K Pr w mg base C f x:=λ{x f i} r=>by
  have q:=o _ r;unfold SM at q;split at q
  case h_2=>cases q
  rename_i C a;dsimp only at q a;rw[bZ,bZ]at q;obtain⟨⟨q1,q2⟩,b⟩:=q;obtain⟨es,j,kp⟩:=XW gt q1;have na:cO K C f:=by unfold cO;unfold noB at q2;exact decide_eq_true_eq.mp q2
  unfold XM at b;split at b
  case h_2=>cases b
  rename_i e t;split at b
  case h_2=>cases b
  rename_i y s;rw[bZ]at b;obtain⟨D,v,F⟩:=G.fe<|gZ t;cases F.at_.symm.trans s;obtain⟨m1,m2,m3,m4⟩:=HA (Pr:=Pr) (w:=w) (mg:=mg) (base:=base) F es na b.2;exact⟨C,a,es,j,na,⟨y,v,e.ps,b.1,F.isf,m1,m2,m3,F.bn m4⟩,kp,g _ _<|fZ a⟩
 refine⟨λc x f i h=>?_,λc x i h=>?_,?_⟩
 .obtain⟨C,a,_,_,_,q⟩:=one<|gZ h
  exact⟨C,HC h a,q⟩
 .have q:=o _<|gZ h
  unfold SM at q;split at q
  case h_2=>cases q
  rename_i C a;dsimp only at q a;rw[bZ]at q;exact⟨C,HC h a,⟨q.1,g _ _<|fZ a⟩,bt q.2⟩
 .cases d:rR K M.xm with
  |none=>rw[d]at m;cases m
  |some z=>
  refine⟨z,g _ _<|fZ d,λc bs l=>?_⟩;unfold kbB at n;have q:=bz.mp n c<|uT.mpr (dj.mp l).1;rw[l]at q
  replace q:ŗ K M c bs=O:=q
  unfold ŗ at q;split at q
  case h_2=>cases q
  rename_i w k;obtain⟨x,u,i⟩:=w;rw[bZ]at q;have e:u=U ("row" : Str):=bt q.1;subst e;have q:=q.2;split at q
  case h_2=>cases q
  rename_i C a;dsimp only at a;simp only[bZ,c7]at q;obtain⟨⟨⟨q1,q2⟩,b⟩,q4⟩:=q;obtain⟨E,p,es,j,na,_⟩:=one<|gZ k;rw[a]at p;cases p;unfold xmB at q2;rw[d]at q2;exact⟨C,HC k a,es,j,na,bt q2,HB g q1,b,q4⟩
def wy{e:Fe}(F:pQ K e f fd)(G:yF M N Pr w K mg base aj k)(d:1<=k)(c:XC e=O):cj Pr w K mg base (rD Pr w) (k+2) f fd e.ps<|uO (gU M.P K Pr w) N<|wx M aj e:=by
 have a:cj Pr w K mg base (rD Pr w) (k+2) f fd e.ps<|uO (gU M.P K Pr w) N<|aH e.ps.length e.N.length<|wu M aj e:=by
  unfold wu;rw[c];refine La F.fn F.sc λg A outer s H E b Z=>?_;exact k6 60 d ⟨G,J,J,J,k+1,eA _,b⟩ ⟨⟨G,J,J,J,k+1,eA _,b⟩,λ_=>J,F.sc.nd,J,J,J⟩ Z PassesOwn.leaving (λ_=>PassesOwnAt.leaving) 200<|cu e.st
 unfold wx SH;split
 .exact GL a
 .exact a
def LO{e:Fe}(F:pQ K e f fd)(G:yF M N Pr w K mg base aj k)(d:1<=k):cj Pr w K mg base iL (k+2) f fd e.ps<|qw (gU M.P K Pr w)<|wx M aj e:=by
 cases b:XC e with
 |true=>exact RL<|wy F G d b
 |false=>
 have a:cj Pr w K mg base iL (k+2) f fd e.ps<|qw (gU M.P K Pr w)<|aH e.ps.length e.N.length<|wu M aj e:=by
  refine Rp F.fn F.sc λg A outer s H E c=>?_;unfold wu;rw[b];exact ig 60 200 ⟨e.N,aC e.st,e.mu⟩ (iK iL Pr w K mg base e.N e.qual (aC e.st) f g A outer s H E).qD ⟨⟨G,J,J,J,k+1,eA _,c⟩,λ_=>J,F.sc.nd,J,J,J⟩<|cu e.st
 unfold wx SH;split
 .exact KQ a
 .exact a
def Bb{e:Fe}(F:pQ K e f fd)(he:Ft[i]?=U e)(h:∀m,n=m+1->yF M N Pr w K mg base (ik M Ft m) (2*m+1)):cj Pr w K mg base iL (2*n+1) f fd e.ps<|qw (gU M.P K Pr w)<|ik M Ft n i:=by
 cases n with
 |zero=>exact LL
 |succ m=>
  have:=LO F (h m J)<|zL ..
  unfold ik;rw[he];exact this
def wz{e:Fe}(F:pQ K e f fd)(he:Ft[i]?=U e)(a:XC e=O)(h:∀m,n=m+1->yF M N Pr w K mg base (ik M Ft m) (2*m+1)):cj Pr w K mg base (rD Pr w) (2*n+1) f fd e.ps<|uO (gU M.P K Pr w) N<|ik M Ft n i:=by
 cases n with
 |zero=>exact⟨λb H Q E z=>(by rcases z with⟨_,_,_,_,_,_,_,h,_⟩|⟨_,_,_,_,_,_,_,_,h,_⟩<;>cases h),λ_ _ _ _ _ _ _ _ _ _ _ _ _ z=>(by rcases z with⟨_,_,_,_,_,_,_,h,_⟩|⟨_,_,_,_,_,_,_,_,h,_⟩<;>cases h)⟩
 |succ m=>
  have:=wy F (h m J) (zL ..) a
  unfold ik;rw[he];exact this
def SQ(g:JA K mg)(Kt:ModOk K M Ft It)(hc:∀x t,M.cs.lookup x=U t->AM K mg x t):∀n,yF M (CQ K M) Pr w K mg base (ik M Ft n)<|2*n+1:=by
 intro n
 induction n using Nat.strongRecOn with
 |ind n I=>
 have call:∀{i:Nat}{e:Fe}{f:cq}{a:ef},pQ K e f a->Ft[i]?=U e->cj Pr w K mg base iL (2*n+1) f a e.ps (qw (gU M.P K Pr w)<|ik M Ft n i):=λF j=>Bb F j λm N=>I m (by lia)
 obtain⟨y,Z,o3,X,v,W,V,s⟩:=Kt.split;have pg:=XG g y Z;refine⟨pg,hc,λx ds i h=>?_,λx c k h=>?_,λx c h=>?_,λx c h=>?_,λx c i h=>?_,λm l c i D B=>?_,λx h=>g x Y<|V x h,SO g Kt,λx i h=>?_,λm c i h=>?_⟩
 .have q:=X _<|cY h
  unfold XI at q;dsimp only at q;split at q
  case h_2=>cases q
  rename_i e j;rw[bZ,bZ]at q;obtain⟨⟨q2,b⟩,q1⟩:=q;have q2:=bt q2;have b:=bt b;subst b;obtain⟨f,a,F⟩:=Kt.fe<|gZ j;have p:=F.at_;unfold LH at p;rw[q2]at p;obtain⟨g_,dV,b1,b2,b3⟩:=F.bd;exact⟨f,a,e.ps,g_,dV,call F j,g _ _<|fZ p,F.fn.kp,b1,b2,λal H=>Ba q1▸b3 _ al H⟩
 .obtain⟨C,ns,e,i,f,a,c1,c2,E,L,F,m,cl,q,q9⟩:=yM g Kt<|v _<|cY h
  unfold fzB at q;simp only[bZ,c7]at q;obtain⟨⟨⟨q1,q2⟩,b⟩,q4⟩:=q;exact⟨C,f,a,e.ps,ns,cl.CU c1 c2,q4,cl.gl,m,K0 F.fn F.sc (OC q1) q2 b cl.cl cl.na cl.nd cl.nz,F.bn q9⟩
 .have q:=v _<|cY h
  unfold ZU at q;dsimp only at q;split at q
  case h_2=>cases q
  rename_i A C D B;simp only[bZ,c7]at q;obtain⟨⟨⟨q1,q2⟩,b⟩,q4⟩:=q;subst q1;obtain⟨Q,ns,l,o,r,_,u,_⟩:=rT y D;rw[B]at o;cases o;have cl:=pO g B u;exact⟨C,ns,cl.CU D r,cl.gl,q2,b,q4⟩
 .obtain⟨C,ns,e,i,f,a,c1,c2,E,L,F,m,cl,q,q9⟩:=yM g Kt<|v _<|cY h
  unfold cpB at q;simp only[bZ,c7]at q;obtain⟨⟨⟨⟨q1,q2⟩,b⟩,q4⟩,q5⟩:=q;split at q5
  case h_2=>cases q5
  rename_i WV hb;split at q5
  case h_2=>cases q5
  rename_i s0 A q' hi;simp only[bZ,c7]at q5;obtain⟨⟨T,S⟩,R⟩:=q5;subst T;exact⟨C,f,a,e.ps,A,cl.CU c1 c2,cl.gl,m,Gy F.fn F.sc hb hi S R (OC q1) (g _ _ b) q4 q2 cl.cl<|cl.na _<|eX ..,F.bn q9⟩
 .have q:=v _<|cY h
  unfold ZU at q;dsimp only at q;rw[bZ]at q;obtain⟨G,q⟩:=q;have G:=bt G;obtain⟨C,ns,e,i',f,a,c1,c2,E,L,F,m,cl,_,q9⟩:=yM g Kt q;rw[G]at E;cases E;exact⟨C,f,a,e.ps,ns,cl.CU c1 c2,cl.gl,m,call F L,F.bn q9⟩
 .have q:=W _ (cY D) (c,i)<|CT B
  unfold XJ at q;dsimp only at q;split at q
  case h_2=>cases q
  rename_i A ns e d1 d2 d3;split at q
  case h_2=>cases q
  rename_i C f d4 d5;rw[bZ,bZ]at q;obtain⟨⟨q1,q9⟩,q2⟩:=q;obtain⟨Q,Fy,l',o,r,_,u,_⟩:=rT y d1;rw[d4]at o;cases o;rw[d2]at r;cases r;have cl:=pO g d4 u;obtain⟨f',a,F⟩:=Kt.fe<|gZ d3
  have:=F.at_.symm.trans d5
  cases this;exact⟨C,_,a,e.ps,ns,cl.CU d1 d2,cl.cl,⟨bt q1,F.isf,F.fn.kp⟩,call F d3,F.bn<|sI.mp q9,λz=>by rw[uY.mpr z]at q2;cases q2⟩
 .unfold XO at s
  simp only[bZ,bz]at s;obtain⟨q,d⟩:=s.1.2 _<|cY h;unfold XI at q;dsimp only at q;split at q
  case h_2=>cases q
  rename_i e j;rw[bZ,bZ]at q;obtain⟨⟨q2,b⟩,q1⟩:=q;have q2:=bt q2;have b:=bt b;subst b;obtain⟨f,a,F⟩:=Kt.fe<|gZ j;have p:=F.at_;unfold LH at p;rw[q2]at p;unfold LK at d;dsimp only at d;rw[j]at d;exact⟨f,a,e.ps,wz F j d λm N=>I m<|by lia,g _ _<|fZ p,F.fn.kp,F.bn (Ba q1).symm⟩
 .unfold XO at s
  simp only[bZ,bz]at s;obtain⟨q,d⟩:=s.2 _<|cY h;unfold LK at d;dsimp only at d;unfold XJ at q;dsimp only at q;split at q
  case h_2=>cases q
  rename_i A ns e d1 d2 d3;split at q
  case h_2=>cases q
  rename_i C f d4 d5;rw[bZ,bZ]at q;obtain⟨⟨q1,q9⟩,q2⟩:=q;obtain⟨Q,Fy,l',o,r,_,u,_⟩:=rT y d1;rw[d4]at o;cases o;rw[d2]at r;cases r;have cl:=pO g d4 u;obtain⟨f',a,F⟩:=Kt.fe<|gZ d3
  have:=F.at_.symm.trans d5
  cases this;rw[d3]at d;exact⟨C,_,a,e.ps,ns,cl.CU d1 d2,cl.cl,⟨bt q1,F.isf,F.fn.kp⟩,wz F d3 d λm N=>I m<|by lia,F.bn<|sI.mp q9,λz=>by rw[uY.mpr z]at q2;cases q2⟩
end
section
variable{Ft:List Fe}{It:LG}
def SS(K:bh)(p:Str×T):Bool:=match om K eP p.1 with
 |U<|U u=>(match p.2,u with
  |.tup ts,.ref a=>(match K.lookup a with
   |some ⟨.type c,_,.seq au _,_⟩=>decide (c = "tuple")&&decide (au.size<=de)&&j1 ts au.toList
   |_=>Zi)
  |t,u=>A9 t u)
 |_=>Zi
def SW(g:JA K mg)(h:SS K (x,t)=O):AM K mg x t:=by
 unfold SS at h;dsimp only at h;split at h
 case h_2=>cases h
 rename_i u f;have e:=g _ _ f;split at h
 .rename_i ts a
  split at h
  .rename_i c od au n sl hl
   simp only[bZ,c7]at h;obtain⟨⟨l,k⟩,j⟩:=h;subst l;obtain⟨d,b⟩:=pP j;exact⟨_,.ref a,e,J,λB al H i=>⟨a,ts.map eZ,J,.inr ⟨_,au,n,i▸hl,J,J,k,d⟩,b B al H⟩⟩
  .cases h
 .obtain⟨d,b⟩:=A_ h
  exact⟨u,eZ t,e,d,λB al H _=>b B al H⟩
structure HD(K:bh)(M:Gm)(Ft:List Fe)(It:LG):Prop extends ModOk K M Ft It where
 cs:M.cs.all (SS K)=O
def LP(g:JA K mg)(a:HD K M Ft It)(n:Nat):yF M (CQ K M) Pr w K mg base (ik M Ft n)<|2*n+1:=SQ g a.toModOk (λx t h=>SW g<|bz.mp a.cs _<|cY h) n
def LQ{f:Fn}{k:Nat}(ns:Dx)(h:∃m',f [.scr ns] []=.ok (.bl O,m')){a:cq}(d:Qj H)(c:dW B.K H a<|ns.map V.int):qw B f [.ref a] H (λv _=>v=.bl O) λ_ _ _=>False:=by
 obtain⟨m',h⟩:=h;refine⟨⟨H,λ_=>Y,[]⟩,[.scr ns],[],_,m',⟨λ_ _ e=>e,λb p e=>(by cases e),J,λk ob e=>(by simp at e)⟩,⟨_,_,J,⟨a,J,c⟩,J⟩,h,λv g i _ _ r=>r⟩
end
def XX{l:PySem.W.OpenLaw}{YP:ee->ek->Prop}{d:DefRec}{K:mq->bh}{It:LG}{e:Fe}
  (Z:l.most=U m) (y:m<=de) (C:d.params.defaults=[]) (V:bj (2*n+1) tq) (hY:∀(w:ee)(h:ek),YP w h->(K w.params).In h)
  (he:Ft[i]?=U e) (A:e.ps=[("_law_script" : Str)]) (R:e.x=d.name) (Dl:e.cls=Y) (Az:e.ds=[]) (Kt:∀P,HD (K P) M Ft It) (hT:∀ns:Dx,ns.length<=m->(∀i∈ns,i.natAbs.log2<1048577)->∃m',ik M Ft n i [.scr ns] []=.ok (.bl O,m')) :
  PySem.W.WalkO q loose XP YP l.row.toRowW d [] λf vs=>PySem.call f vs:=by
 intro w s₀ c mg mb G Kx fa o pm cd doc dV kV ho hd fj E B hg L vals as J1 Ř S à ř
 obtain rfl:dV=.none:=MP.none E C
 obtain rfl:kV=.none:=MP.noKw E
 obtain⟨a,vs,ns,rfl,rfl,Ś,j,I⟩:=Att.Ce Z J1 à;have t:∀i∈ns,i.natAbs.log2<1048577:=λi hi=>by
  have h1:=PySem.W.layableW_item (PySem.W.layableW_arg Ř _<|gA.mpr J) (.int i)<|lr.mpr ⟨i,hi,J⟩;have p:=PyData.bits_of_layable<|PyProof.Rows.Da.lay0_int<|PySem.W.layable_int h1;unfold iv at p;split at p
  .rename_i z
   rw[show i=0 from bt z];decide
  .exact eS p (by decide)
 refine PySem.W.enter_call<|gs (?_:hZ (cx l.prog w) tq (.call (.ref fa) ⟨[.ref a],[]⟩) (λr v=>r=.ok (.ret<|.bool O)/\OldK c.heap v.heap/\v.os=c.os/\PyProof.Rows.AllBare v.gens) c) λr v X=>?_
 .have Q:=hY w _ Kx
  have g:=SI Q G.T.g;obtain⟨f,fd,F⟩:=(Kt w.params).fe<|gZ he;have D:=F.at_;unfold LH at D;rw[Dl]at D;have ea:=(g _ _<|fZ D).symm.trans<|R▸B;cases ea;refine EU (k:=2*n+1) (fd:=fd) (x:=("_law_script" : Str)) (CX:=iL) (sp:=qw (gU M.P (K w.params) l.prog w)<|ik M Ft n i) Q G.T.g G.T.b G.T.builtins G.T.nolimit hg Ś j (eY I y) V (λbase KB GB=>?_) (λs u=>?_) (λH hO hS=>LQ (k:=0) ns (hT ns I t) hO hS) λ_ _ _ z=>z
  .have:=Bb (N:=CQ (K w.params) M) (Pr:=l.prog) (w:=w) (base:=base) (mg:=mg) F he (n:=n) λm y=>LP g (Kt w.params) m
   rw[A]at this;exact this
  .have:=F.bs Az [u] (by rw[A];rfl)
   rw[A]at this;exact .of_eq this
 .obtain⟨rfl,p,h3,h4⟩:=X
  exact⟨.inl ⟨.bool O,.bool O,[],J,λ_=>J,.bool O,Att.Cf l _,λ_=>⟨List.Pairwise.nil,λ_ y=>(nomatch y)⟩⟩,p,h3,h4⟩
end D
namespace D
def qy(a:α)(f:α->Res b):Res.bind (.ok a) f=f a:=J
def qO{f:α->Res b}(h:f a=r):Res.bind (.ok a) f=r:=h
def JB(a:α):cH (U a)=.ok a:=J
section
variable{a b:FS}{s s':S}{t:T}{d n:Nat}{ts:FC}{m m':FR}
def seq1(h:a s=.ok (.nx,s'))(k:b s'=r):ah a b s=r:=by unfold ah;rw[h];exact k
def CV(h:a s=.ok (.rt t,s')):ah a b s=.ok (.rt t,s'):=by unfold ah;rw[h];rfl
def Dt(h:c s=.ok (O,s'))(k:a s'=r):aO c a b s=r:=by unfold aO;rw[h];exact k
def qP(h:c s=.ok (Zi,s'))(k:b s'=r):aO c a b s=r:=by unfold aO;rw[h];exact k
def nA(h:e s=.ok (t,s')):ao e s=.ok (.rt t,s'):=by unfold ao;rw[h];rfl
def gC(h:ts.length=d)(k:b ⟨ts.map (λt=>U<|.val t)++eQ (n-ts.length) Y,m⟩=.ok (.rt t,s'))(a:s'.m=m'):aH d n b ts m=.ok (t,m'):=by
 unfold aH;rw[cv h,k,<- a];rfl
def XY(h:ts.length=d)(k:b ⟨ts.map (λt=>U<|.val t)++eQ (n-ts.length) Y,m⟩=.ok (.nx,s'))(a:s'.m=m'):aH d n b ts m=.ok (.non,m'):=by
 unfold aH;rw[cv h,k,<- a];rfl
def fL(h:aK ts=O)(k:g ts []=.ok (t,m'))(a:noOwn t=O):aI g ts m=.ok (t,m):=by
 unfold aI;rw[cv h,k];exact cv a
def je(h:fl s=.ok (ts,s'))(k:g (ts++ds) s'.m=.ok (t,m')):af g ds fl s=.ok (t,⟨s'.r,m'⟩):=by
 unfold af;rw[h];show(match g (ts++ds) s'.m with|.ok q=>_|.bad=>_|.exc c fs s'=>_)=_;rw[k]
end
def XZ(h:o s=.ok (.own k,s1))(a:s1.m[k]?=U ob)(b:g ob.c=U f)(e:fl s1=.ok (ts,s2))(d:f (.own k::ts) s2.m=.ok (t,m')) :
  bJ g o fl s=.ok (t,⟨s2.r,m'⟩):=by
 unfold bJ;rw[h];show Res.bind (cH<|(s1.m[k]?).bind λob=>g ob.c) _=_;rw[a];show Res.bind (cH<|g ob.c) _=_;rw[b];refine Eq.trans (qy f _) ?_;exact je (ts:=.own k::ts) (s':=s2) (by rw[e];rfl) (by rw[bG];exact d)
def iR[Decidable p]{x:α}(h:p):gd p x=U x:=cv h
def ev:(∀t s,cF t s=.ok (t,s))/\(∀g a s,dE g a s=(a s).bind λp=>(cH<|g p.1).bind λt=>.ok (t,p.2))/\(∀g a b s,bH g a b s=(a s).bind λp=>(b p.2).bind λq=>(cH<|g p.1 q.1).bind λt=>.ok (t,q.2)) /\
  (∀s,bD s=.ok ([],s))/\(∀a r s,bQ a r s=(a s).bind λp=>(r p.2).bind λq=>.ok (p.1::q.1,q.2))/\(∀g a s,aG g a s=(a s).bind λp=>(cH<|g p.1).bind λt=>.ok (t,p.2)) /\
  (∀a s,tB a s=(a s).bind λp=>(cH<|Kh p.1).bind λb=>.ok (b,p.2))/\(∀a s,aY a s=(a s).bind λp=>(cH<|QJ p.1).bind λb=>.ok (b,p.2))/\(∀a s,fm a s=(a s).bind λp=>.ok (!p.1,p.2)) /\
  (∀s,nJ s=.ok (Y,s))/\(∀a s,jv a s=(a s).bind λp=>(cH<|QK p.1).bind λi=>.ok (U i,p.2))/\(∀a lo d s,jQ a lo d s=(a s).bind λp=>(lo p.2).bind λq=>(d q.2).bind λz=>(cH<|QH q.1 z.1 p.1).bind λt=>.ok (t,z.2)) /\
  (∀i a s,aA i a s=(a s).bind λp=>.ok (.nx,jE p.2 i<|.val p.1))/\(∀a s,bW a s=(a s).bind λp=>.ok (.nx,p.2))/\(∀s,az s=.ok (.nx,s)) /\
  (∀r m i c,jE ⟨r,m⟩ i c=⟨r.set i<|U c,m⟩)/\(∀f o fl s,mK f o fl s=(o s).bind λp=>(cH<|KD p.1).bind λl=>(fl p.2).bind λq=>(cH<|f l q.1).bind λt=>.ok (t,q.2)) /\
  (∀t,Kh (.bl t)=U t)/\(∀t,QJ (.bl t)=U t)/\(∀i,QK (.int i)=U i)/\(∀l,KD (.str l)=U l):=
 ⟨λ_ _=>J,λ_ _ _=>J,λ_ _ _ _=>J,λ_=>J,λ_ _ _=>J,λ_ _ _=>J,λ_ _=>J,λ_ _=>J,λ_ _=>J,λ_=>J,λ_ _=>J,λ_ _ _ _=>J,λ_ _ _=>J,λ_ _=>J,λ_=>J,λ_ _ _ _=>J,λ_ _ _ _=>J,λ_=>J,λ_=>J,λ_=>J,λ_=>J⟩
def SX:(∀r m t,vF 0 ⟨U (.val t)::r,m⟩=.ok (t,⟨U (.val t)::r,m⟩))/\(∀a r m t,vF 1 ⟨a::U (.val t)::r,m⟩=.ok (t,⟨a::U (.val t)::r,m⟩))/\(∀a b r m t,vF 2 ⟨a::b::U (.val t)::r,m⟩=.ok (t,⟨a::b::U (.val t)::r,m⟩))/\(∀a b d r m t,vF 3 ⟨a::b::d::U (.val t)::r,m⟩=.ok (t,⟨a::b::d::U (.val t)::r,m⟩))/\(∀a b d e r m t,vF 4 ⟨a::b::d::e::U (.val t)::r,m⟩=.ok (t,⟨a::b::d::e::U (.val t)::r,m⟩))/\(∀a b d e f r m t,vF 5 ⟨a::b::d::e::f::U (.val t)::r,m⟩=.ok (t,⟨a::b::d::e::f::U (.val t)::r,m⟩))/\(∀a b d e f g r m t,vF 6 ⟨a::b::d::e::f::g::U (.val t)::r,m⟩=.ok (t,⟨a::b::d::e::f::g::U (.val t)::r,m⟩))/\(∀a b d e f g h r m t,vF 7 ⟨a::b::d::e::f::g::h::U (.val t)::r,m⟩=.ok (t,⟨a::b::d::e::f::g::h::U (.val t)::r,m⟩))/\(∀y r c,uV (α:=Option C) (y::r) 0 c=c::r)/\(∀a y r c,uV (α:=Option C) (a::y::r) 1 c=a::c::r)/\(∀a b y r c,uV (α:=Option C) (a::b::y::r) 2 c=a::b::c::r)/\(∀a b d y r c,uV (α:=Option C) (a::b::d::y::r) 3 c=a::b::d::c::r)/\(∀a b d e y r c,uV (α:=Option C) (a::b::d::e::y::r) 4 c=a::b::d::e::c::r)/\(∀a b d e f y r c,uV (α:=Option C) (a::b::d::e::f::y::r) 5 c=a::b::d::e::f::c::r)/\(∀a b d e f g y r c,uV (α:=Option C) (a::b::d::e::f::g::y::r) 6 c=a::b::d::e::f::g::c::r)/\(∀a b d e f g h y r c,uV (α:=Option C) (a::b::d::e::f::g::h::y::r) 7 c=a::b::d::e::f::g::h::c::r):=
 ⟨λ_ _ _=>J,λ_ _ _ _=>J,λ_ _ _ _ _=>J,λ_ _ _ _ _ _=>J,λ_ _ _ _ _ _ _=>J,λ_ _ _ _ _ _ _ _=>J,λ_ _ _ _ _ _ _ _ _=>J,λ_ _ _ _ _ _ _ _ _ _=>J,λ_ _ _=>J,λ_ _ _ _=>J,λ_ _ _ _ _=>J,λ_ _ _ _ _ _=>J,λ_ _ _ _ _ _ _=>J,λ_ _ _ _ _ _ _ _=>J,λ_ _ _ _ _ _ _ _ _=>J,λ_ _ _ _ _ _ _ _ _ _=>J⟩
end D
namespace D
open PySem L2 PyProof.Rows
def wA(l:B1):(⟨l.toArray⟩:Str).length=l.length:=by show l.toArray.size=_;simp
open PySem.StrLaws in
theorem wB(s sub:Str)(hi:Nat):∀(l:B1)(a fr:Nat),(forIn l ((#[a]:Array Nat),fr)<|occBody s sub hi 1).run.fst=#[a]
 |[],_,_=>J
 |b::l,a,fr=>by
  rw[zw];unfold occBody;rw[cb<|by simp]
  exact wB s sub hi l a fr
open PySem.StrLaws Builtin.Str in
theorem occ_first(s sub:Str)(hi:Nat):∀(n lo fr:Nat),fr<=lo ->
  ((forIn (D3 lo n) ((#[]:Array Nat),fr)<|occBody s sub hi 1).run.fst=#[]/\∀i,lo<=i->i<lo+n->¬ (i+sub.length<=hi/\subAt s sub i=O)) \/
  ∃i,(forIn (D3 lo n) ((#[]:Array Nat),fr)<|occBody s sub hi 1).run.fst=#[i]/\lo<=i/\i<lo+n/\(i+sub.length<=hi/\subAt s sub i=O)/\∀j,lo<=j->j<i->¬ (j+sub.length<=hi/\subAt s sub j=O)
 |0,lo,fr,_=>.inl ⟨J,λi a b=>by lia⟩
 |n+1,lo,fr,h=>by
  rw[M9,zw];by_cases hc:lo+sub.length<=hi/\subAt s sub lo=O
  .right
   refine⟨lo,?_,eA _,by lia,hc,λj a b=>by lia⟩
   unfold occBody;rw[cv ⟨⟨⟨by simp,h⟩,hc.1⟩,hc.2⟩]
   exact wB s sub hi _ lo _
  .have e:∀k,(occBody s sub hi 1 lo ((#[]:Array Nat),fr) >>= k:Id<|Array Nat×Nat)=k (f5 ((#[]:Array Nat),fr)):=λk=>by
    unfold occBody;rw[cb λz=>hc ⟨z.1.2,z.2⟩];rfl
   rw[e];rcases occ_first s sub hi n (lo+1) fr (eY h<|fJ ..)with⟨a,b⟩|⟨i,a,b,c,d,g⟩
   .refine .inl ⟨a,λi h1 h2=>?_⟩
    by_cases z:i=lo
    .subst z;exact hc
    .exact b i (by lia) (by lia)
   .refine .inr ⟨i,a,eY (fJ ..) b,by lia,d,λj h1 h2=>?_⟩
    by_cases z:j=lo
    .subst z;exact hc
    .exact g j (by lia) h2
def uy(c:Nat)(r:B1)(i:Nat):(i+(⟨[c].toArray⟩:Str).length<=r.length/\Builtin.Str.subAt ⟨r.toArray⟩ ⟨[c].toArray⟩ i=O) ↔ r[i]?=U c:=by
 rw[kA,wA,beq_iff_eq];show(i + [c].length<=r.length/\(r.drop i).take [c].length=[c]) ↔ _;constructor
 .rintro⟨d,b⟩
  have:=ey (λq=>q[0]?) b
  simpa using this
 .intro h
  have a:=(dj.mp h).1;refine⟨a,?_⟩;rw[uW a]
  have:=(dj.mp h).2
  simp[this]
def Bc(c:Nat)(D S R:B1)(h:c∉S):dA ⟨(D++(S++c::R)).toArray⟩ ⟨[c].toArray⟩ D.length (D++(S++c::R)).length 1=[D.length+S.length]:=by
 have e:(D++(S++c::R))[D.length+S.length]?=U c:=by
  rw[gz<|fJ ..,gz<|by lia]
  simp
 have OD:∀j,D.length<=j->j<D.length+S.length->¬ (D++(S++c::R))[j]?=U c:=λj k l z=>by
  rw[gz k,jJ<|by lia]at z
  exact h<|gZ z
 rw[Iy];rcases occ_first ⟨(D++(S++c::R)).toArray⟩ ⟨[c].toArray⟩ (D++(S++c::R)).length ((D++(S++c::R)).length+1-D.length) D.length D.length (eA _)with⟨a,b⟩|⟨i,a,b,m,d,g⟩
 .exact dy ((uy c _ _).mpr e)<|b _ (fJ ..)<|by simp;lia
 .rw[a]
  have f:=(uy c _ _).mp d
  have:i=D.length+S.length:=by
   rcases Nat.lt_trichotomy i (D.length+S.length)with z|z|z
   .exact dy f<|OD i b z
   .exact z
   .exact dy ((uy c _ _).mpr e)<|g _ (fJ ..) z
  rw[this]
def HE(c:Nat)(D S R:B1)(h:c∉S):jG (D++(S++c::R)) [.str [c],.int (D.length:Nat)]=U (.int ((D.length+S.length:Nat):Int)):=by
 show U (T.int<|n4 _ _ _)=_;unfold n4;have ś:n7 (⟨(D++(S++c::R)).toArray⟩:Str).length ((D.length:Nat):Int)=D.length:=by
  unfold n7;rw[cb<|by lia]
  lia
 rw[ś,wA,Bc c D S R h]
def CW(c:Nat)(S R:B1)(h:c∉S):jG (S++c::R) [.str [c]]=U (.int ((S.length:Nat):Int)):=by
 have:=Bc c [] S R h
 rw[BX]at this;show U (T.int<|oP _ _)=_;unfold oP;rw[wA];have e:dA ⟨(S++c::R).toArray⟩ ⟨[c].toArray⟩ 0 (S++c::R).length 1=[0+S.length]:=this;rw[e,ow]
def nS(n d k:Nat):gu n d (U (k:Int))=min k n:=by
 unfold gu;dsimp only;rw[cb<|by lia];rfl
def HG(n d:Nat):gu n d Y=d:=J
def pR(w r:List α):bf (w++r) (U (w.length:Int)) Y=r:=by
 unfold bf;rw[nS,HG,cA,u9<|fJ ..,M_];simp
def HH(w r:List α):bf (w++r) Y (U (w.length:Int))=w:=by
 unfold bf;rw[nS,HG,cA,u9<|fJ ..];simp
def LR(a b c:List α):bf (a++(b++c)) (U (a.length:Int)) (U ((a.length+b.length:Nat):Int))=b:=by
 unfold bf;rw[nS,nS,cA,cA,u9<|by lia,u9<|fJ ..,M_]
 have:a.length+b.length-a.length=b.length:=by lia
 rw[this,List.take_left]
def pre_app(w r:B1):pre w (w++r)=O:=by unfold pre;simp
def uz(h:c≠d):pre (c::w) (d::r)=Zi:=by
 unfold pre;rw[eu,eu,Na]
 have:(d::D4 w.length r == c::w)=Zi:=by
  rw[beq_eq_false_iff_ne];intro z;injection z with z _
  exact h z.symm
 rw[this,zo]
def HJ(c:Nat)(w r:B1):pre (c::w) (c::r)=pre w r:=by
 unfold pre;rw[eu,eu,Na]
 have:(c::D4 w.length r == c::w)=(D4 w.length r == w):=by
  rw[zm];simp
 rw[this]
 congr 1
 apply decide_eq_decide.mpr
 lia
end D
namespace D
abbrev sv(t:T):Option C:=U<|.val t
abbrev Ki(i:Int):=sv<|.int i
abbrev Kj(l:List Nat):=sv<|.str l
abbrev Kk(l:List T):=sv<|.lst l
abbrev Kn(k:Nat):=sv<|.own k
abbrev cI(i:Int):FE:=cF<|.int i
abbrev cS(l:B1):FE:=cF<|.str l
abbrev oA:FE->FE->FE:=bH<|cz .Add
abbrev oM:FE->FE->FE:=bH<|cz .Mod
abbrev oD:FE->FE->FE:=bH<|cz .FloorDiv
abbrev oE:FE->FE->FE:=bH<|aM .Eq
abbrev oI:FE->FE->FE:=bH jC
abbrev k1(a:FE):FL:=bQ a bD
abbrev k2(a b:FE):FL:=bQ a<|k1 b
abbrev k3(a b c:FE):FL:=bQ a<|k2 b c
abbrev zA:FE:=vF 0
abbrev zB:FE:=vF 1
abbrev zC:FE:=vF 2
abbrev zD:FE:=vF 3
abbrev zO:FE:=cI 0
abbrev zI:FE:=cI 1
def W(x:Res α)(Q:α->Prop):Prop:=∃a,x=.ok a/\Q a
section
variable{f:α->Res a}{P:α->Prop}
def W.mono(h:W x Q)(k:∀a,Q a->P a):W x P:=let⟨a,e,q⟩:=h;⟨a,e,k a q⟩
theorem W.bind(h:W x λa=>W (f a) R):W (x.bind f) R:=by
 obtain⟨a,rfl,b,e,q⟩:=h;exact⟨b,e,q⟩
def W.of{a:α}(e:x=.ok a)(h:P a):W x P:=⟨a,e,h⟩
def wO{a:α}(e:o=U a)(h:W (f a) R):W ((cH o).bind f) R:=by rw[e];exact h
end
section
variable{a b:FE}{fl:FL}{g:T->T->FK}{y:FC->FK}{Q:T×S->Prop}{t u:T}{ts:FC}{c:FT}{A B:FS}{d:Out×S->Prop}{QB:Bool×S->Prop}{j:FC×S->Prop}{G:T×FR->Prop}
def wC(h:W (a s) λp=>W (b p.2) λq=>∃v,g p.1 q.1=U v/\Q (v,q.2)):W (bH g a b s) Q:=W.bind<|h.mono λ_ k=>W.bind<|k.mono λ_ ⟨_,e,q⟩=>wO e ⟨_,J,q⟩
def Ŝ(h:W (fl s) λp=>∃v,y p.1=U v/\Q (v,p.2)):W (aG y fl s) Q:=W.bind<|h.mono λ_ ⟨_,e,q⟩=>wO e ⟨_,J,q⟩
def gI(h:W (a s) λp=>W (fl p.2) λq=>j (p.1::q.1,q.2)):W (bQ a fl s) j:=W.bind<|h.mono λ_ k=>W.bind<|k.mono λ_ q=>⟨_,J,q⟩
def cZ{f:Fn}(h:W (fl s) λp=>W (f p.1 p.2.m) λq=>Q (q.1,⟨p.2.r,q.2⟩)):W (af f [] fl s) Q:=W.bind<|h.mono λp k=>by
 obtain⟨q,e,k⟩:=k;refine⟨_,?_,k⟩;rw[bG,e]
def X0(h:W (a s) λp=>∃k,p.1=.bl k/\QB (k,p.2)):W (aY a s) QB:=W.bind<|h.mono λp b=>by obtain⟨k,e,q⟩:=b;rw[e];exact⟨_,J,q⟩
def WB(b:FS)(s:S)(G:T×FR->Prop):Prop:=W (b s) λp=>∃t,p.1=.rt t/\G (t,p.2.m)
def HK(h:W (a s) λp=>G (p.1,p.2.m)):WB (ao a) s G:=W.bind<|h.mono λp q=>⟨_,J,_,J,q⟩
def lQ(e:a s=.ok (t,s'))(h:G (t,s'.m)):WB (ao a) s G:=HK ⟨_,e,h⟩
def lR(h:W (A s) λp=>p.1=.nx/\WB B p.2 G):WB (ah A B) s G:=W.bind<|h.mono λp a=>by
 obtain⟨e,k⟩:=a;obtain⟨o,s'⟩:=p;cases e;exact k
def X5(h:WB A s G):WB (ah A B) s G:=W.bind<|W.mono h λp ⟨t,e,k⟩=>⟨p,by obtain⟨o,s'⟩:=p;cases e;rfl,t,e,k⟩
def lS(h:W (a s) λp=>d (.nx,jE p.2 i<|.val p.1)):W (aA i a s) d:=W.bind<|h.mono λ_ q=>⟨_,J,q⟩
def eW(h:W (a s) λp=>WB B (jE p.2 i<|.val p.1) G):WB (ah (aA i a) B) s G:=lR<|lS<|h.mono λ_ q=>⟨J,q⟩
def JC(e:a s=.ok (t,s'))(h:WB B (jE s' i<|.val t) G):WB (ah (aA i a) B) s G:=eW ⟨_,e,h⟩
def ZV(h:W (c s) λp=>(p.1=O->W (A p.2) d)/\(p.1=Zi->W (B p.2) d)):W (aO c A B s) d:=W.bind<|h.mono λp a=>by
 obtain⟨k1,k2⟩:=a;cases e:p.1 with
 |true=>exact k1 e
 |false=>exact k2 e
def HL(e:c s=.ok (O,s'))(h:W (A s') d):W (aO c A B s) d:=ZV ⟨_,e,⟨λ_=>h,λz=>by cases z⟩⟩
def ŝ(e:c s=.ok (Zi,s'))(h:W (B s') d):W (aO c A B s) d:=ZV ⟨_,e,⟨λz=>(by cases z),λ_=>h⟩⟩
def wD(e:c s=.ok (O,s'))(h:WB A s' G):WB (ah (aO c A B) a') s G:=X5<|HL e h
def jD(e:c s=.ok (Zi,s'))(h:WB B s' G):WB (ah (aO c A az) B) s G:=lR<|ŝ e ⟨_,J,J,h⟩
def Ş(h:W (c s) λp=>(p.1=O->W (A p.2) λq=>q.1=.nx/\WB B q.2 G)/\(p.1=Zi->WB B p.2 G)):WB (ah (aO c A az) B) s G:=lR<|ZV<|h.mono λ_ k=>⟨k.1,λz=>⟨_,J,J,k.2 z⟩⟩
def bBr(h:W (c s) λp=>(p.1=O->WB A p.2 G)/\(p.1=Zi->WB B p.2 G)):WB (ah (aO c A az) B) s G:=by
 obtain⟨p,e,k1,k2⟩:=h;obtain⟨k,s'⟩:=p;cases k with
 |true=>exact wD e<|k1 J
 |false=>exact jD e<|k2 J
def nB{a n:Nat}{m:FR}(h:ts.length=a)(k:WB B ⟨ts.map (λt=>U<|.val t)++eQ (n-ts.length) Y,m⟩ G):W (aH a n B ts m) G:=by
 unfold aH;rw[cv h];exact W.bind<|W.mono k λp ⟨t,e,k⟩=>⟨_,by rw[e],k⟩
def OE{f:Fn}(h:aK ts=O)(k:W (f ts []) λp=>noOwn p.1=O/\G (p.1,m)):W (aI f ts m) G:=by
 obtain⟨p,e,b,a⟩:=k;refine⟨_,?_,a⟩;unfold aI;rw[cv h,e];exact cv b
def yN(h:W (A s) λp=>p.1=.nx/\W (B p.2) d):W (ah A B s) d:=W.bind<|h.mono λp a=>by
 obtain⟨e,k⟩:=a;obtain⟨o,s'⟩:=p;cases e;exact k
def ş{a:FC->Fs}(h:W (fl s) λp=>∃v,a p.1=U v/\j (v,p.2)):W (xA a fl s) j:=W.bind<|h.mono λ_ ⟨_,e,q⟩=>wO e ⟨_,J,q⟩
def HM{b:FG}(h:W (a s) λp=>∃r,b p.1 p.2.r=U r/\d (.nx,⟨r,p.2.m⟩)):W (yi b a s) d:=W.bind<|h.mono λ_ ⟨_,e,q⟩=>wO e ⟨_,J,q⟩
def X6(h:W (fl s) λp=>Q (.lst p.1,p.2)):W (dR fl s) Q:=W.bind<|h.mono λ_ q=>⟨_,J,q⟩
def OF{a:FG}(h:W (fl s) λp=>p.1.length<=1000000/\W (bM a c e (i_ n js<|jR js p.2.r) p.1 p.2.m) λq=>j (q.1,⟨jR js p.2.r,q.2⟩)):W (bP fl n js a c e s) j:=W.bind<|h.mono λp b=>by
 obtain⟨z,k⟩:=b;rw[cv z];exact W.bind<|k.mono λ_ q=>⟨_,J,q⟩
theorem Š{a:FG}{I:FR->Prop}{R:T->Prop}:∀{ts:FC},(∀t∈ts,∀m,I m->∃b1,a t r=U b1/\W (e ⟨b1,m⟩) λp=>R p.1/\I p.2.m)->∀m,I m->W (bM a dX e r ts m) λp=>p.1.length=ts.length/\(∀t∈p.1,R t)/\I p.2
 |[],_,m,h=>⟨_,J,J,λ_ z=>(nomatch z),h⟩
 |t::ts,k,m,h=>by
  obtain⟨b1,o,p,n,c,i⟩:=k t (eX ..) m h;obtain⟨q,j,l,b,g⟩:=Š (λt f=>k t<|bw _ f) p.2.m i;refine⟨(p.1::q.1,q.2),?_,by show q.1.length+1=ts.length+1;rw[l],λu d=>?_,g⟩
  .rw[bM,o]
   apply qO;show Res.bind (e ⟨b1,m⟩) _=_;rw[n];show Res.bind (bM a dX e r ts p.2.m) _=_;rw[j];rfl
  .rcases bF.mp d with z|z
   .rw[z];exact c
   .exact b u z
theorem HN{α:Type}{f:α->T}{P:α->Prop}:∀{us:FC},(∀t∈us,∃x,P x/\t=f x)->∃xs:List α,us=xs.map f/\∀x∈xs,P x
 |[],_=>⟨[],J,λ_ z=>nomatch z⟩
 |u::us,h=>by
  obtain⟨x,d,rfl⟩:=h u<|eX ..;obtain⟨xs,rfl,c⟩:=HN λt b=>h t<|bw _ b;exact⟨x::xs,J,λy a=>by
   rcases bF.mp a with z|z
   .rw[z];exact d
   .exact c y z⟩
end
end D
namespace K25
open List renaming length->Nv
open PySem D L2
variable(n:Nat)
abbrev HP:B1:=[97,98,99,100,101,102,103,104,105,106,107,108,109,110,111,112,113,114,115,116,117,118,119,120,121,122,65,66,67,68,69,70,71,72,73,74,75,76,77,78,79,80,81,82,83,84,85,86,87,88,89,90,48,49,50,51,52,53,54,55,56,57,32,33,34,35,36,38,39,40,41,42,43,44,45,46,47,58,59,60,61,62,63,64,91,92,93,94,95,96,123,124,125,126]
abbrev LS:B1:=[97,98,99,100,101,102,103,104,105,106,107,108,109,110,111,112,113,114,115,116,117,118,119,120,121,122]
abbrev X7:B1:=[97,32,115,101,116,32,104,97,115,32,97,32,115,105,103,110,32,116,119,105,99,101]
abbrev X8:B1:=[97,32,115,105,103,110,32,116,104,97,116,32,109,97,121,32,115,116,97,110,100,32,112,108,97,105,110,32,110,101,101,100,115,32,110,111,32,115,101,116]
abbrev fx(x:Str)(i:Nat):Str×FC×Nat:=(x,[],i)
def M:Gm:={
 P:={cn:=("Program" :: "Line" :: "Cond" :: "Always" :: "RowIs" :: "Last" :: "Like" :: "Soon" :: "FromTo" :: "Not" :: "End" :: "Deed" :: "Mark" :: "Drop" :: "Print" :: "Done" :: "Say" :: "Swap" :: "Join" :: "Pile" :: "Bring" :: "Go" :: "Add" :: "Tell" :: "Scan" :: []),an:=("lines" :: "cond" :: "deed" :: "number" :: "pattern" :: "many" :: "first" :: "second" :: "inner" :: "name" :: "words" :: "every" :: "most" :: "shelf" :: "rest" :: []),tab:=[[0],[1,2],[],[],[3],[],[4],[5,4],[6,7],[8],[],[],[9],[],[],[],[10],[4,10,11],[12],[13,12],[13],[9],[6,7],[],[14,3]],sub:=[[0],[1],[2],[2,3],[2,4],[2,5],[2,6],[2,7],[2,8],[2,9],[2,10],[11],[11,12],[11,13],[11,14],[11,15],[11,16],[11,17],[11,18],[11,19],[11,20],[11,21],[11,22],[11,23],[24]]},
 cs:=[("SIGNS",.str HP),("SMALL_LETTERS",.str LS),("FIGURES",.str [48,49,50,51,52,53,54,55,56,57]),("MOST_ITEMS",.int 8),("MOST_SIGNS",.int 12),("NEVER_PLAIN",.str [94,36,46,91,93,42,43,63,47]),("NEVER_IN_A_SET",.str [93,94,47]),("ONCE",.str [49]),("HOW_MANY",.str [42,43,63]),("COND_BEGINNINGS",.tup [.str [114,111,119,32],.str [108,97,115,116],.str [47],.str [115,111,111,110,32],.str [102,114,111,109,32],.str [110,111,116,32],.str [101,110,100]]),("MOST_ROW",.int 999),("MOST_FIGURES",.int 3),("MOST_SOON",.int 3),("LEAST_JOIN",.int 2),("MOST_SMALL",.int 9),("MOST_LETTERS",.int 8),("MOST_TEXT",.int 40),("MOST_LINES",.int 24)],
 fs:=(fx "made_of" 0::fx "beginning_of" 1::fx "may_stand_plain" 2::fx "pattern" 3::fx "items_of" 4::fx "place_behind_core" 5::fx "many_at" 6::fx "item_of" 7::fx "set_item" 8::fx "is_written_plain" 9::fx "written" 10::fx "written_core" 11::fx "may_be_empty" 12::fx "least_length" 13::fx "may_be_left_out" 14::fx "line_of" 15::fx "line_next" 16::fx "cond_next" 17::fx "plain_cond_next" 18::fx "row_or_pattern_next" 19::fx "deed_next" 20::fx "swap_next" 21::fx "pile_next" 22::fx "add_next" 23::fx "number_next" 24::fx "name_next" 25::fx "words_next" 26::fx "pattern_next" 27::fx "may_stand" 28::fx "may_swap" 29::fx "cut" 30::fx "read" 31::fx "lines_of" 32::fx "marks_of" 33::fx "refuse_go_without_mark" 34::fx "shown" 35::fx "line_text" 36::fx "cond_text" 37::fx "deed_text" 38::fx "pattern_text" 39::fx "quoted" 40::fx "_law_cell_at" 41::fx "_law_refused" 42::fx "_law_sorts" 43::fx "_law_sign" 44::fx "_law_otherwise" 45::fx "_law_name_of" 46::fx "_law_by_marks" 47::fx "_law_box" 48::fx "_law_take" 49::fx "_law_any_signs" 50::fx "_law_any_name" 51::fx "_law_any_words" 52::fx "_law_any_set" 53::fx "_law_any_item" 54::fx "_law_any_pattern" 55::fx "_law_any_end" 56::fx "_law_any_cond" 57::fx "_law_any_swap" 58::fx "_law_any_deed" 59::fx "_law_any_line" 60::fx "_law_any_marks" 61::fx "_law_any_lines" 62::fx "_law_mixed" 63::fx "law" 64::[]),
 cl:=(("Program",.cp 0)::("Line",.fz 1 2)::("Cond",.z0 2)::("Always",.z0 3)::("RowIs",.fz 4 1)::("Last",.z0 5)::("Like",.fz 6 1)::("Soon",.fz 7 2)::("FromTo",.fz 8 2)::("Not",.fz 9 1)::("End",.z0 10)::("Deed",.z0 11)::("Mark",.fz 12 1)::("Drop",.z0 13)::("Print",.z0 14)::("Done",.z0 15)::("Say",.fz 16 1)::("Swap",.fz 17 3)::("Join",.fz 18 1)::("Pile",.fz 19 2)::("Bring",.fz 20 1)::("Go",.fz 21 1)::("Add",.fz 22 2)::("Tell",.z0 23)::("Scan",.nw 24 80)::[]),
 ms:=[("refuse",[(24,81)]),("passes",[(24,82)]),("must_pass",[(24,83)]),("while_made_of",[(24,84)]),("between",[(24,85)])],
 bl:=["isinstance","len","all","any","str","int","list","range","enumerate","set","max","abs"],xc:=[("NoLine",U "row",86),("TwoMarks",U "row",87),("NoMark",U "row",88),("NoPattern",Y,0)],xs:=[("read",31),("lines_of",32),("marks_of",33),("refuse_go_without_mark",34),("line_of",15),("line_next",16),("cond_next",17),("plain_cond_next",18),("row_or_pattern_next",19),("deed_next",20),("swap_next",21),("pile_next",22),("add_next",23),("number_next",24),("name_next",25),("words_next",26),("pattern_next",27),("pattern",3),("items_of",4),("place_behind_core",5),("item_of",7),("set_item",8)],xt:=[("refuse",24,81),("must_pass",24,83),("between",24,85)],ys:=["NoLine","TwoMarks","NoMark","ValueError","NoPattern","NotThat","NotWoven","Finished","Endless"],kb:=[[O,Zi,Zi,O,Zi,Zi,Zi,Zi,Zi],[Zi,O,Zi,O,Zi,Zi,Zi,Zi,Zi],[Zi,Zi,O,O,Zi,Zi,Zi,Zi,Zi]],xm := "BladeError",bx:=["_law_box_here"]}
def Ft:List Fe:=[
 ⟨Y,"made_of","made_of",top 39,["text","signs"],["text","signs"],[],O,[]⟩,
 ⟨Y,"beginning_of","beginning_of",top 40,["text","signs","many"],["text","signs"],[],O,[]⟩,
 ⟨Y,"may_stand_plain","may_stand_plain",top 48,["sign"],["sign"],[],O,[]⟩,
 ⟨Y,"pattern","pattern",top 49,["text","front","body","back","items"],["text"],["raise"],O,[]⟩,
 ⟨Y,"items_of","items_of",top 50,["body","items","place","behind","many"],["body"],["items","raise"],O,[]⟩,
 ⟨Y,"place_behind_core","place_behind_core",top 51,["body","place","bracket"],["body","place"],["raise"],O,[]⟩,
 ⟨Y,"many_at","many_at",top 52,["body","place"],["body","place"],[],O,[]⟩,
 ⟨Y,"item_of","item_of",top 53,["core","many"],["core","many"],["raise"],O,[]⟩,
 ⟨Y,"set_item","set_item",top 54,["inside","many","others","signs"],["inside","many"],["raise"],O,[]⟩,
 ⟨Y,"is_written_plain","is_written_plain",top 55,["signs","others"],["signs","others"],[],O,[]⟩,
 ⟨Y,"written","written",top 56,["one","parts","signs","others","many"],["one"],["parts"],O,[]⟩,
 ⟨Y,"written_core","written_core",top 57,["signs","others"],["signs","others"],[],O,[]⟩,
 ⟨Y,"may_be_empty","may_be_empty",top 58,["one"],["one"],[],O,[]⟩,
 ⟨Y,"least_length","least_length",top 59,["one"],["one"],[],O,[]⟩,
 ⟨Y,"may_be_left_out","may_be_left_out",top 60,["item"],["item"],[],O,[]⟩,
 ⟨Y,"line_of","line_of",top 71,["row","number","scan","line"],["row","number"],["raise"],O,[]⟩,
 ⟨Y,"line_next","line_next",top 72,["scan","cond"],["scan"],["raise"],Zi,[]⟩,
 ⟨Y,"cond_next","cond_next",top 73,["scan"],["scan"],["raise"],Zi,[]⟩,
 ⟨Y,"plain_cond_next","plain_cond_next",top 74,["scan","many","first"],["scan"],["raise"],Zi,[]⟩,
 ⟨Y,"row_or_pattern_next","row_or_pattern_next",top 75,["scan"],["scan"],["raise"],Zi,[]⟩,
 ⟨Y,"deed_next","deed_next",top 76,["scan"],["scan"],["raise"],Zi,[]⟩,
 ⟨Y,"swap_next","swap_next",top 77,["scan","every","one"],["scan","every"],["raise"],Zi,[]⟩,
 ⟨Y,"pile_next","pile_next",top 78,["scan","shelf"],["scan"],["raise"],Zi,[]⟩,
 ⟨Y,"add_next","add_next",top 79,["scan","first"],["scan"],["raise"],Zi,[]⟩,
 ⟨Y,"number_next","number_next",top 80,["scan","least","most","figures","number"],["scan","least","most"],["raise"],Zi,[]⟩,
 ⟨Y,"name_next","name_next",top 81,["scan","name"],["scan"],["raise"],Zi,[]⟩,
 ⟨Y,"words_next","words_next",top 82,["scan","words"],["scan"],["raise"],Zi,[]⟩,
 ⟨Y,"pattern_next","pattern_next",top 83,["scan","text"],["scan"],["raise"],Zi,[]⟩,
 ⟨Y,"may_stand","may_stand",top 84,["cond","deed"],["cond","deed"],[],O,[]⟩,
 ⟨Y,"may_swap","may_swap",top 85,["deed"],["deed"],[],O,[]⟩,
 ⟨Y,"cut","cut",top 87,["text","rows"],["text"],[],O,[]⟩,
 ⟨Y,"read","read",top 90,["text","lines","marks"],["text"],["raise"],O,[]⟩,
 ⟨Y,"lines_of","lines_of",top 91,["rows","lines","number","row"],["rows"],["lines","raise"],O,[]⟩,
 ⟨Y,"marks_of","marks_of",top 92,["lines","marks","number","line"],["lines"],["marks","raise"],O,[]⟩,
 ⟨Y,"refuse_go_without_mark","refuse_go_without_mark",top 93,["lines","marks","number","line"],["lines","marks"],["raise"],O,[]⟩,
 ⟨Y,"shown","shown",top 95,["program"],["program"],[],O,[]⟩,
 ⟨Y,"line_text","line_text",top 96,["line"],["line"],[],O,[]⟩,
 ⟨Y,"cond_text","cond_text",top 97,["cond"],["cond"],[],O,[]⟩,
 ⟨Y,"deed_text","deed_text",top 98,["deed"],["deed"],[],O,[]⟩,
 ⟨Y,"pattern_text","pattern_text",top 99,["one"],["one"],[],O,[]⟩,
 ⟨Y,"quoted","quoted",top 100,["words"],["words"],[],O,[]⟩,
 ⟨Y,"_law_cell_at","_law_cell_at",top 102,["_law_script","_law_k"],["_law_script","_law_k"],[],O,[]⟩,
 ⟨Y,"_law_refused","_law_refused",top 103,["_law_text","_law_sorts_here","_law_row","e"],["_law_text"],[],O,[]⟩,
 ⟨Y,"_law_sorts","_law_sorts",top 104,["_law_way"],["_law_way"],[],O,[]⟩,
 ⟨Y,"_law_sign","_law_sign",top 105,["_law_cell","_law_some"],["_law_cell"],[],O,[]⟩,
 ⟨Y,"_law_otherwise","_law_otherwise",top 106,["_law_row","_law_way","_law_at","_law_sign_here","_law_spot"],["_law_row","_law_way","_law_at","_law_sign_here"],[],O,[]⟩,
 ⟨Y,"_law_name_of","_law_name_of",top 107,["_law_row","_law_word","_law_parts"],["_law_row","_law_word"],[],O,[]⟩,
 ⟨Y,"_law_by_marks","_law_by_marks",top 108,["_law_rows","_law_marks","_law_k","_law_name"],["_law_rows"],["_law_marks"],O,[]⟩,
 ⟨Y,"_law_box","_law_box",top 109,["_law_cell","_law_number"],["_law_cell"],["return"],Zi,[]⟩,
 ⟨Y,"_law_take","_law_take",top 110,["_law_box_here","_law_many","_law_digit"],["_law_box_here","_law_many"],[],Zi,[]⟩,
 ⟨Y,"_law_any_signs","_law_any_signs",top 111,["_law_box_here","_law_some","_law_size"],["_law_box_here","_law_some","_law_size"],[],Zi,[]⟩,
 ⟨Y,"_law_any_name","_law_any_name",top 112,["_law_box_here"],["_law_box_here"],[],Zi,[]⟩,
 ⟨Y,"_law_any_words","_law_any_words",top 113,["_law_box_here","_law_most","_law_some"],["_law_box_here","_law_most"],[],Zi,[]⟩,
 ⟨Y,"_law_any_set","_law_any_set",top 114,["_law_box_here","_law_size","_law_some","_law_signs","_law_k","_law_left"],["_law_box_here","_law_size"],[],Zi,[]⟩,
 ⟨Y,"_law_any_item","_law_any_item",top 115,["_law_box_here","_law_number","_law_many","_law_behind","_law_way","_law_some","_law_sign_here","_law_signs"],["_law_box_here"],[],Zi,[]⟩,
 ⟨Y,"_law_any_pattern","_law_any_pattern",top 116,["_law_box_here","_law_least","_law_front","_law_shut","_law_amid","_law_made","_law_text"],["_law_box_here","_law_least"],[],Zi,[]⟩,
 ⟨Y,"_law_any_end","_law_any_end",top 117,["_law_box_here","_law_one","_law_number"],["_law_box_here"],[],Zi,[]⟩,
 ⟨Y,"_law_any_cond","_law_any_cond",top 118,["_law_box_here","_law_way","_law_negated","_law_head","_law_cond","_law_number","_law_one","_law_first","_law_second"],["_law_box_here"],[],Zi,[]⟩,
 ⟨Y,"_law_any_swap","_law_any_swap",top 119,["_law_box_here","_law_every","_law_one","_law_most","_law_word","_law_words"],["_law_box_here","_law_every"],[],Zi,[]⟩,
 ⟨Y,"_law_any_deed","_law_any_deed",top 120,["_law_box_here","_law_names","_law_way","_law_name","_law_words","_law_number","_law_numbers"],["_law_box_here","_law_names"],[],Zi,[]⟩,
 ⟨Y,"_law_any_line","_law_any_line",top 121,["_law_cell","_law_names","_law_box_here","_law_way","_law_words","_law_name","_law_head","_law_cond","_law_text","_law_deed"],["_law_cell","_law_names"],[],O,[]⟩,
 ⟨Y,"_law_any_marks","_law_any_marks",top 122,["_law_cells","_law_names","_law_cell","_law_box_here"],["_law_cells"],["_law_names"],O,[]⟩,
 ⟨Y,"_law_any_lines","_law_any_lines",top 123,["_law_cells","_law_names","_law_made","_law_marked","_law_cell","_law_is_mark"],["_law_cells"],["_law_made","_law_marked"],O,[]⟩,
 ⟨Y,"_law_mixed","_law_mixed",top 124,["_law_cells","_law_made","_law_k","_law_cell","_law_number"],["_law_cells"],["_law_made"],O,[]⟩,
 ⟨Y,"law","law",top 125,["_law_script","_law_cells","_law_rows","_law_at","_law_way","_law_text","_law_got","_law_again"],["_law_script"],["_law_rows"],O,[]⟩,
 ⟨U "Program","__init__","Program.__init__",inClass (top 11) 0,["self","lines"],["self","lines"],[],Zi,[]⟩,
 ⟨U "Line","__init__","Line.__init__",inClass (top 12) 0,["self","cond","deed"],["self","cond","deed"],[],Zi,[]⟩,
 ⟨U "RowIs","__init__","RowIs.__init__",inClass (top 15) 0,["self","number"],["self","number"],[],Zi,[]⟩,
 ⟨U "Like","__init__","Like.__init__",inClass (top 17) 0,["self","pattern"],["self","pattern"],[],Zi,[]⟩,
 ⟨U "Soon","__init__","Soon.__init__",inClass (top 18) 0,["self","many","pattern"],["self","many","pattern"],[],Zi,[]⟩,
 ⟨U "FromTo","__init__","FromTo.__init__",inClass (top 19) 0,["self","first","second"],["self","first","second"],[],Zi,[]⟩,
 ⟨U "Not","__init__","Not.__init__",inClass (top 20) 0,["self","inner"],["self","inner"],[],Zi,[]⟩,
 ⟨U "Mark","__init__","Mark.__init__",inClass (top 23) 0,["self","name"],["self","name"],[],Zi,[]⟩,
 ⟨U "Say","__init__","Say.__init__",inClass (top 27) 0,["self","words"],["self","words"],[],Zi,[]⟩,
 ⟨U "Swap","__init__","Swap.__init__",inClass (top 28) 0,["self","pattern","words","every"],["self","pattern","words","every"],[],Zi,[]⟩,
 ⟨U "Join","__init__","Join.__init__",inClass (top 29) 0,["self","most"],["self","most"],[],Zi,[]⟩,
 ⟨U "Pile","__init__","Pile.__init__",inClass (top 30) 0,["self","shelf","most"],["self","shelf","most"],[],Zi,[]⟩,
 ⟨U "Bring","__init__","Bring.__init__",inClass (top 31) 0,["self","shelf"],["self","shelf"],[],Zi,[]⟩,
 ⟨U "Go","__init__","Go.__init__",inClass (top 32) 0,["self","name"],["self","name"],[],Zi,[]⟩,
 ⟨U "Add","__init__","Add.__init__",inClass (top 33) 0,["self","first","second"],["self","first","second"],[],Zi,[]⟩,
 ⟨U "Scan","__init__","Scan.__init__",inClass (top 70) 0,["self","row","number"],["self","row","number"],[],Zi,[]⟩,
 ⟨U "Scan","refuse","Scan.refuse",inClass (top 70) 1,["self"],["self"],["raise"],Zi,[]⟩,
 ⟨U "Scan","passes","Scan.passes",inClass (top 70) 2,["self","words"],["self","words"],[],Zi,[]⟩,
 ⟨U "Scan","must_pass","Scan.must_pass",inClass (top 70) 3,["self","words"],["self","words"],["raise"],Zi,[]⟩,
 ⟨U "Scan","while_made_of","Scan.while_made_of",inClass (top 70) 4,["self","signs","taken"],["self","signs"],[],Zi,[]⟩,
 ⟨U "Scan","between","Scan.between",inClass (top 70) 5,["self","sign","place","inside"],["self","sign"],["raise"],Zi,[]⟩,
 ⟨U "NoLine","__init__","NoLine.__init__",inClass (top 6) 0,["self","row"],["self","row"],[],Zi,[]⟩,
 ⟨U "TwoMarks","__init__","TwoMarks.__init__",inClass (top 7) 0,["self","row"],["self","row"],[],Zi,[]⟩,
 ⟨U "NoMark","__init__","NoMark.__init__",inClass (top 8) 0,["self","row"],["self","row"],[],Zi,[]⟩]
def It:LG:=[("Program",65),("Line",66),("RowIs",67),("Like",68),("Soon",69),("FromTo",70),("Not",71),("Mark",72),("Say",73),("Swap",74),("Join",75),("Pile",76),("Bring",77),("Go",78),("Add",79),("Scan",80)]
abbrev cN:=ik M Ft
set_option maxHeartbeats 0
def gp:B1:=[32,33,35,36,38,39,40,41,42,43,44,45,46,47,48,49,50,51,52,53,54,55,56,57,58,59,60,61,62,63,64,65,66,67,68,69,70,71,72,73,74,75,76,77,78,79,80,81,82,83,84,85,86,87,88,89,90,91,92,93,94,95,96,97,98,99,100,101,102,103,104,105,106,107,108,109,110,111,112,113,114,115,116,117,118,119,120,121,122,123,124,125,126]
def eG:B1:=[32,33,34,35,36,38,39,40,41,42,43,44,45,46,48,49,50,51,52,53,54,55,56,57,58,59,60,61,62,63,64,65,66,67,68,69,70,71,72,73,74,75,76,77,78,79,80,81,82,83,84,85,86,87,88,89,90,91,92,95,96,97,98,99,100,101,102,103,104,105,106,107,108,109,110,111,112,113,114,115,116,117,118,119,120,121,122,123,124,125,126]
def pS:B1:=[32,33,34,35,38,39,40,41,44,45,48,49,50,51,52,53,54,55,56,57,58,59,60,61,62,64,65,66,67,68,69,70,71,72,73,74,75,76,77,78,79,80,81,82,83,84,85,86,87,88,89,90,92,95,96,97,98,99,100,101,102,103,104,105,106,107,108,109,110,111,112,113,114,115,116,117,118,119,120,121,122,123,124,125,126]
abbrev TF:=(Nat->Fn)->Fn
abbrev WT(i:Nat)(t:TF):Prop:=∀n,cN (n+1) i=t (cN n)
def t0:TF:=λaj=>aI<|aH 2 2<|ao<|aG KI<|k1<|dR<|bP (mG zA) 2 [1] (setG 1) dX<|rO .In Zi 2 zB
def w0:WT 0 t0:=λ_=>J
def t1:TF:=λaj=>aI<|aH 2 3<|ah (aA 2 zO)
<|ah (jS many (fY (aY<|bH (aM .Lt) zC<|aG cJ<|k1 zA)<|aY<|rO .In Zi 1<|oI zA zC)
 <|Fx AL 2 zI)
<|ao<|jQ zA nJ<|jv zC
def w1:WT 1 t1:=λ_=>J
def t2:TF:=λaj=>aI<|aH 1 1<|ao<|oZ (bH (aM .In) zA<|cS HP)<|bH (aM .NotIn) zA<|cS [94,36,46,91,93,42,43,63,47]
def w2:WT 2 t2:=λ_=>J
def t3:TF:=λaj=>aI<|aH 1 5<|ah (aO (b8<|fm<|tB<|dE (Wt "str") zA)
  (yD 3<|cS [97,32,112,97,116,116,101,114,110,32,105,115,32,97,32,116,101,120,116])
  az)
<|ah (aO (b8<|fm<|tB<|af (aj 0) []<|k2 zA<|cS HP)
  (yD 3<|cS [115,111,109,101,116,104,105,110,103,32,105,110,32,116,104,101,32,112,97,116,116,101,114,110,32,105,115,32,110,111,32,115,105,103,110])
  az)
<|ah (eV<|aA 1<|mK Gi zA<|k1<|cS [94])
<|ah (eV<|aA 2<|rF (tB zB) (jQ zA (jv zI) nJ) zA)
<|ah (eV<|aA 3<|mK Ģ zC<|k1<|cS [36])
<|ah (aA 4<|af (aj 4) []<|k1<|bO<|rF (tB zD) (jQ zC nJ<|jv<|dE kD zI) zC)
<|ah (aO (b8<|aY<|bH (aM .Gt) (aG cJ<|k1<|vF 4)<|cI 8)
  (yD 3<|cS [116,104,101,32,112,97,116,116,101,114,110,32,104,97,115,32,116,111,111,32,109,97,110,121,32,105,116,101,109,115])
  az)
<|eV<|ao<|aG aE<|k3 zB (vF 4) zD
def w3:WT 3 t3:=λ_=>J
abbrev X_(aj:Nat->Fn):FS:=ah (aA 3<|af (aj 5) []<|k2 (bO zA)<|bO zC)
<|ah (eV<|aA 4<|af (aj 6) []<|k2 zA zD)
<|ah (gf 1<|af (aj 7) []<|k2 (bO<|jQ zA (jv zC)<|jv zD)<|bO<|vF 4)
<|eV<|aA 2<|rF (aY<|oE (vF 4)<|cS [49]) zD<|oA zD zI
def t4:TF:=λaj=>aI<|aH 1 5<|ah (eV<|iz 1<|iN bD)
<|ah (eV<|aA 2 zO)
<|ah (jS many (b8<|aY<|bH (aM .Lt) zC<|aG cJ<|k1 zA)
 <|X_ aj)
<|eV<|ao zB
def w4:WT 4 t4:=λ_=>J
def t5:TF:=λaj=>aI<|aH 2 3<|ah (aO (b8<|aY<|bH (aM .NotEq) (oI zA zB)<|cS [91])
  (eV<|ao<|oA zB zI)
  az)
<|ah (eV<|aA 2<|mK jG zA<|k2 (cS [93]) zB)
<|ah (aO (b8<|aY<|oE zC<|dE kD zI)
  (yD 3<|cS [97,32,115,101,116,32,105,115,110,39,116,32,99,108,111,115,101,100])
  az)
<|eV<|ao<|oA zC zI
def w5:WT 5 t5:=λ_=>J
def t6:TF:=λaj=>aI<|aH 2 2<|ah (aO (fY (aY<|bH (aM .Lt) zB<|aG cJ<|k1 zA)<|aY<|bH (aM .In) (oI zA zB)<|cS [42,43,63])
  (ao<|oI zA zB)
  az)
<|ao<|cS [49]
def w6:WT 6 t6:=λ_=>J
def t7:TF:=λaj=>aI<|aH 2 2<|ah (aO (b8<|aY<|oE zA<|cS [46])
  (eV<|ao<|aG aE<|k3 (cS []) (cF<|.bl O) zB)
  az)
<|ah (aO (b8<|tB<|mK Gi zA<|k1<|cS [91])
  (ao<|af (aj 8) []<|k2 (bO<|jQ zA (jv zI)<|jv<|dE kD zI)<|bO zB)
  az)
<|ah (aO (b8<|fm<|tB<|af (aj 2) []<|k1 zA)
  (yD 3<|dE ZJ zA)
  az)
<|eV<|ao<|aG aE<|k3 zA (cF<|.bl Zi) zB
def w7:WT 7 t7:=λ_=>J
def t8:TF:=λaj=>aI<|aH 2 4<|ah (eV<|aA 2<|mK Gi zA<|k1<|cS [94])
<|ah (eV<|aA 3<|rF (tB zC) (jQ zA (jv zI) nJ) zA)
<|ah (aO (b8<|Ae (aY<|oE zD<|cS [])<|aY<|bH (aM .Gt) (aG cJ<|k1 zD)<|cI 12)
  (yD 3<|cS [97,32,115,101,116,32,104,97,115,32,111,110,101,32,116,111,32,116,119,101,108,118,101,32,115,105,103,110,115])
  az)
<|ah (aO (b8<|tB<|aG yr<|k1<|dR<|bP (mG zD) 2 [] (setG 1) dX<|bH (aM .In) zB<|cS [93,94,47])
  (yD 3<|cS [97,32,115,101,116,32,104,97,115,32,97,32,115,105,103,110,32,116,104,97,116,32,110,111,110,101,32,109,97,121,32,104,97,118,101])
  az)
<|ah (aO (b8<|aY<|bH (aM .NotEq) (dE pJ zD)<|aG cJ<|k1 zD)
  (yD 3<|cS X7)
  az)
<|ah (aO (b8<|tB<|af (aj 9) []<|k2 zD zC)
  (yD 3<|cS X8)
  az)
<|eV<|ao<|aG aE<|k3 zD zC zB
def w8:WT 8 t8:=λ_=>J
def t9:TF:=λaj=>aI<|aH 2 2<|ao<|oZ (Fu zB)<|oZ (oE (aG cJ<|k1 zA) zI)<|af (aj 2) []<|k1 zA
def w9:WT 9 t9:=λ_=>J
abbrev Yb(aj:Nat->Fn):FS:=ah (gf 1<|af (aj 11) []<|k2 zC zD)
<|gf 1<|rF (aY<|oE (vF 4)<|cS [49]) (cS [])<|vF 4
def t10:TF:=λaj=>aI<|aH 1 5<|ah (iz 1<|iN<|k1<|rF (tB<|oI zA zO) (cS [94])<|cS [])
<|ah (gT (KO<|oI zA zI) (cP [2,3,4])
 <|Yb aj)
<|ah (gf 1<|rF (tB<|oI zA<|cI 2) (cS [36])<|cS [])
<|ao<|mK joinM (cS [])<|k1 zB
def è:WT 10 t10:=λ_=>J
def t11:TF:=λaj=>aI<|aH 2 2<|ah (aO (aY<|oE zA<|cS [])
  (ao<|cS [46])
  az)
<|ah (aO (tB zB)
  (ao<|dE (v5 [91,94] [93]) zA)
  az)
<|ah (aO (tB<|af (aj 9) []<|k2 zA zB)
  (ao zA)
  az)
<|ao<|dE (v5 [91] [93]) zA
def w11:WT 11 t11:=λ_=>J
def t12:TF:=λaj=>aI<|aH 1 1<|ao<|oE (af (aj 13) []<|k1 zA) zO
def w12:WT 12 t12:=λ_=>J
def t13:TF:=λaj=>aI<|aH 1 1<|ao<|aG cJ<|k1<|dR<|bP (mG<|oI zA zI) 2 [] (setG 1) (fm<|tB<|af (aj 14) []<|k1 zB) zB
def w13:WT 13 t13:=λ_=>J
def t14:TF:=λaj=>aI<|aH 1 1<|ao<|bH (aM .In) (oI zA<|cI 2)<|aG aE<|k2 (cS [42])<|cS [63]
def w14:WT 14 t14:=λ_=>J
def t15:TF:=λaj=>aI<|aH 2 4<|ah (eV<|aA 2<|yh 24 (aj 80)<|k2 zA zB)
<|ah (aA 3<|af (aj 16) []<|k1<|bO zC)
<|ah (aO (b8<|Ae (aY<|bH (aM .NotEq) (aV M.P.tab 14 zC)<|cS [])<|fm<|tB<|af (aj 28) []<|k2 (aV M.P.tab 1 zD)<|aV M.P.tab 2 zD)
  (bW<|lP 24 (aj 81) zC bD)
  az)
<|eV<|ao zD
def w15:WT 15 t15:=λ_=>J
def t16:TF:=λaj=>aH 1 2<|ah (aO (b8<|tB<|bJ (bg [(24,82)] aj) zA<|k1<|cS [109,97,114,107,32])
  (ao<|dh 1 2<|k2 (bO<|dh 3 0 bD)<|dh 12 1<|k1<|af (aj 25) []<|k1<|bO zA)
  az)
<|ah (aO (b8<|fm<|tB<|aG yr<|k1<|dR<|bP (mG<|cF<|.tup [(.str [114,111,119,32]),(.str [108,97,115,116]),(.str [47]),(.str [115,111,111,110,32]),(.str [102,114,111,109,32]),(.str [110,111,116,32]),(.str [101,110,100])]) 2 [0] (setG 1) dX<|mK Gi (aV M.P.tab 14 zC)<|k1 zB)
  (ao<|dh 1 2<|k2 (bO<|dh 3 0 bD)<|af (aj 20) []<|k1<|bO zA)
  az)
<|ah (aA 1<|af (aj 17) []<|k1<|bO zA)
<|ah (bW<|lP 24 (aj 83) zA<|k1<|bO<|cS [58,32])
<|ao<|dh 1 2<|k2 (bO zB)<|af (aj 20) []<|k1<|bO zA
def w16:WT 16 t16:=λ_=>J
def t17:TF:=λaj=>aH 1 1<|ah (aO (b8<|tB<|bJ (bg [(24,82)] aj) zA<|k1<|cS [101,110,100])
  (eV<|ao<|dh 10 0 bD)
  az)
<|ah (aO (b8<|tB<|bJ (bg [(24,82)] aj) zA<|k1<|cS [110,111,116,32])
  (ao<|dh 9 1<|k1<|af (aj 18) []<|k1<|bO zA)
  az)
<|ao<|af (aj 18) []<|k1<|bO zA
def w17:WT 17 t17:=λ_=>J
def t18:TF:=λaj=>aH 1 3<|ah (aO (b8<|tB<|bJ (bg [(24,82)] aj) zA<|k1<|cS [108,97,115,116])
  (eV<|ao<|dh 5 0 bD)
  az)
<|ah (aO (b8<|tB<|bJ (bg [(24,82)] aj) zA<|k1<|cS [115,111,111,110,32])
  (ah (aA 1<|af (aj 24) []<|k3 (bO zA) (bO zI)<|bO<|cI 3)
<|ah (bW<|lP 24 (aj 83) zA<|k1<|bO<|cS [32])
<|ao<|dh 7 2<|k2 (bO zB)<|af (aj 27) []<|k1<|bO zA)
  az)
<|ah (aO (b8<|tB<|bJ (bg [(24,82)] aj) zA<|k1<|cS [102,114,111,109,32])
  (ah (aA 2<|af (aj 19) []<|k1<|bO zA)
<|ah (bW<|lP 24 (aj 83) zA<|k1<|bO<|cS [32,116,111,32])
<|ao<|dh 8 2<|k2 (bO zC)<|af (aj 19) []<|k1<|bO zA)
  az)
<|ao<|af (aj 19) []<|k1<|bO zA
def w18:WT 18 t18:=λ_=>J
def t19:TF:=λaj=>aH 1 1<|ah (aO (b8<|tB<|bJ (bg [(24,82)] aj) zA<|k1<|cS [114,111,119,32])
  (ao<|dh 4 1<|k1<|af (aj 24) []<|k3 (bO zA) (bO zI)<|bO<|cI 999)
  az)
<|ao<|dh 6 1<|k1<|af (aj 27) []<|k1<|bO zA
def w19:WT 19 t19:=λ_=>J
def t20:TF:=λaj=>aH 1 1<|ah (aO (b8<|tB<|bJ (bg [(24,82)] aj) zA<|k1<|cS [100,114,111,112])
  (eV<|ao<|dh 13 0 bD)
  az)
<|ah (aO (b8<|tB<|bJ (bg [(24,82)] aj) zA<|k1<|cS [112,114,105,110,116])
  (eV<|ao<|dh 14 0 bD)
  az)
<|ah (aO (b8<|tB<|bJ (bg [(24,82)] aj) zA<|k1<|cS [100,111,110,101])
  (eV<|ao<|dh 15 0 bD)
  az)
<|ah (aO (b8<|tB<|bJ (bg [(24,82)] aj) zA<|k1<|cS [116,101,108,108])
  (eV<|ao<|dh 23 0 bD)
  az)
<|ah (aO (b8<|tB<|bJ (bg [(24,82)] aj) zA<|k1<|cS [115,97,121,32])
  (ao<|dh 16 1<|k1<|af (aj 26) []<|k1<|bO zA)
  az)
<|ah (aO (b8<|tB<|bJ (bg [(24,82)] aj) zA<|k1<|cS [115,119,97,112,32,101,118,101,114,121,32])
  (ao<|af (aj 21) []<|k2 (bO zA)<|bO<|cF<|.bl O)
  az)
<|ah (aO (b8<|tB<|bJ (bg [(24,82)] aj) zA<|k1<|cS [115,119,97,112,32])
  (ao<|af (aj 21) []<|k2 (bO zA)<|bO<|cF<|.bl Zi)
  az)
<|ah (aO (b8<|tB<|bJ (bg [(24,82)] aj) zA<|k1<|cS [106,111,105,110,32])
  (ao<|dh 18 1<|k1<|af (aj 24) []<|k3 (bO zA) (bO<|cI 2)<|bO<|cI 9)
  az)
<|ah (aO (b8<|tB<|bJ (bg [(24,82)] aj) zA<|k1<|cS [112,105,108,101,32])
  (ao<|af (aj 22) []<|k1<|bO zA)
  az)
<|ah (aO (b8<|tB<|bJ (bg [(24,82)] aj) zA<|k1<|cS [98,114,105,110,103,32])
  (ao<|dh 20 1<|k1<|af (aj 25) []<|k1<|bO zA)
  az)
<|ah (aO (b8<|tB<|bJ (bg [(24,82)] aj) zA<|k1<|cS [103,111,32])
  (ao<|dh 21 1<|k1<|af (aj 25) []<|k1<|bO zA)
  az)
<|ah (bW<|lP 24 (aj 83) zA<|k1<|bO<|cS [97,100,100,32])
<|ao<|af (aj 23) []<|k1<|bO zA
def w20:WT 20 t20:=λ_=>J
def t21:TF:=λaj=>aH 2 3<|ah (aA 2<|af (aj 27) []<|k1<|bO zA)
<|ah (bW<|lP 24 (aj 83) zA<|k1<|bO<|cS [32])
<|ao<|dh 17 3<|k3 (bO zC) (af (aj 26) []<|k1<|bO zA)<|bO zB
def w21:WT 21 t21:=λ_=>J
def t22:TF:=λaj=>aH 1 2<|ah (aA 1<|af (aj 25) []<|k1<|bO zA)
<|ah (aO (b8<|fm<|tB<|bJ (bg [(24,82)] aj) zA<|k1<|cS [32])
  (eV<|ao<|dh 19 2<|k2 zB<|cF .non)
  az)
<|ao<|dh 19 2<|k2 (bO zB)<|af (aj 24) []<|k3 (bO zA) (bO zI)<|bO<|cI 9
def w22:WT 22 t22:=λ_=>J
def t23:TF:=λaj=>aH 1 2<|ah (aA 1<|af (aj 24) []<|k3 (bO zA) (bO zI)<|bO<|cI 9)
<|ah (bW<|lP 24 (aj 83) zA<|k1<|bO<|cS [32])
<|ao<|dh 22 2<|k2 (bO zB)<|af (aj 24) []<|k3 (bO zA) (bO zI)<|bO<|cI 9
def w23:WT 23 t23:=λ_=>J
def t24:TF:=λaj=>aH 3 5<|ah (eV<|aA 3<|bJ (bg [(24,84)] aj) zA<|k1<|cS [48,49,50,51,52,53,54,55,56,57])
<|ah (aO (b8<|Ae (aY<|oE zD<|cS [])<|Ae (tB<|mK Gi zD<|k1<|cS [48])<|aY<|bH (aM .Gt) (aG cJ<|k1 zD)<|cI 3)
  (bW<|lP 24 (aj 81) zA bD)
  az)
<|ah (eV<|aA 4<|aG qL<|k1 zD)
<|ah (aO (b8<|Ae (aY<|bH (aM .Lt) (vF 4) zB)<|aY<|bH (aM .Gt) (vF 4) zC)
  (bW<|lP 24 (aj 81) zA bD)
  az)
<|eV<|ao<|vF 4
def w24:WT 24 t24:=λ_=>J
def t25:TF:=λaj=>aH 1 2<|ah (eV<|aA 1<|bJ (bg [(24,84)] aj) zA<|k1<|cS LS)
<|ah (aO (b8<|Ae (aY<|oE zB<|cS [])<|aY<|bH (aM .Gt) (aG cJ<|k1 zB)<|cI 8)
  (bW<|lP 24 (aj 81) zA bD)
  az)
<|eV<|ao zB
def w25:WT 25 t25:=λ_=>J
def t26:TF:=λaj=>aH 1 2<|ah (aA 1<|lP 24 (aj 85) zA<|k1<|bO<|cS [34])
<|ah (aO (b8<|Ae (aY<|bH (aM .Gt) (aG cJ<|k1 zB)<|cI 40)<|fm<|tB<|af (aj 0) []<|k2 zB<|cS HP)
  (bW<|lP 24 (aj 81) zA bD)
  az)
<|eV<|ao zB
def w26:WT 26 t26:=λ_=>J
def t27:TF:=λaj=>aH 1 2<|ah (aA 1<|lP 24 (aj 85) zA<|k1<|bO<|cS [47])
<|CK 3 0 (af (aj 3) []<|pK<|k1 zB)<|aV M.P.tab 3 zA
def w27:WT 27 t27:=λ_=>J
def t28:TF:=λaj=>aI<|aH 2 2<|ah (aO (tB<|dE (iO M.P.sub [10]) zA)
  (ao<|dE (iO M.P.sub [16,20,23]) zB)
  az)
<|ah (aO (tB<|dE (iO M.P.sub [17]) zB)
  (ao<|af (aj 29) []<|k1 zB)
  az)
<|ao<|Fu<|dE (iO M.P.sub [23]) zB
def š:WT 28 t28:=λ_=>J
def t29:TF:=λaj=>aI<|aH 1 1<|ah (aO (tB<|af (aj 12) []<|k1<|aV M.P.tab 4 zA)
  (ao<|cF<|.bl Zi)
  az)
<|ao<|Ċ (Fu<|aV M.P.tab 11 zA)<|bH (aM .LtE) (aG cJ<|k1<|aV M.P.tab 10 zA)<|af (aj 13) []<|k1<|aV M.P.tab 4 zA
def w29:WT 29 t29:=λ_=>J
def t30:TF:=λaj=>aI<|aH 1 2<|ah (aA 1<|mK splitM zA<|k1<|cS [10])
<|ah (aO (aY<|oE (oI zB<|dE kD zI)<|cS [])
  (ao<|aG aE<|k2 (jQ zB nJ<|jv<|dE kD zI)<|cF<|.bl O)
  az)
<|ao<|aG aE<|k2 zB<|cF<|.bl Zi
def w30:WT 30 t30:=λ_=>J
def t31:TF:=λaj=>aI<|aH 1 3<|ah (aA 1<|af (aj 32) []<|k1<|bO<|oI (af (aj 30) []<|k1 zA) zO)
<|ah (aA 2<|af (aj 33) []<|k1<|bO zB)
<|ah (bW<|af (aj 34) []<|k2 (bO zB)<|bO zC)
<|eV<|ao<|dE (QM 0) zB
def w31:WT 31 t31:=λ_=>J
abbrev LU(aj:Nat->Fn):FS:=ah (aO (b8<|aY<|bH (aM .Gt) zC<|cI 24)
  (GJ 0<|k1 zC)
  az)
<|gf 1<|af (aj 15) []<|k2 (bO zD)<|bO zC
def t32:TF:=λaj=>aI<|aH 1 4<|ah (eV<|iz 1<|iN bD)
<|ah (gT (pK<|mH 1 zA) (cP [2,3])
 <|LU aj)
<|eV<|ao zB
def w32:WT 32 t32:=λ_=>J
abbrev CY:FS:=aO (b8<|tB<|dE (iO M.P.sub [12])<|aV M.P.tab 2 zD)
  (ah (aO (b8<|aY<|rO .In Zi 1<|aV M.P.tab 9<|aV M.P.tab 2 zD)
  (GJ 1<|k1 zC)
  az)
<|eV<|Ot 1 (aV M.P.tab 9<|aV M.P.tab 2 zD)<|cF<|.bl O)
  az
def t33:TF:=λaj=>aI<|aH 1 4<|ah (eV<|Gz 1)
<|ah (gT (pK<|mH 1 zA) (cP [2,3])
  CY)
<|eV<|ao zB
def w33:WT 33 t33:=λ_=>J
abbrev Yc:FS:=aO (b8<|fY (tB<|dE (iO M.P.sub [21])<|aV M.P.tab 2 zD)<|aY<|rO .NotIn O 1<|aV M.P.tab 9<|aV M.P.tab 2 zD)
  (GJ 2<|k1 zC)
  az
def t34:TF:=λaj=>aI<|aH 2 4<|gT (pK<|mH 1 zA) (cP [2,3])
  Yc
def w34:WT 34 t34:=λ_=>J
def t35:TF:=λaj=>aI<|aH 1 1<|ao<|mK joinM (cS [])<|k1<|dR<|bP (mG<|aV M.P.tab 0 zA) 2 [] (setG 1) dX<|oA (af (aj 36) []<|k1 zB)<|cS [10]
def w35:WT 35 t35:=λ_=>J
def t36:TF:=λaj=>aI<|aH 1 1<|ah (aO (tB<|dE (iO M.P.sub [3])<|aV M.P.tab 1 zA)
  (ao<|af (aj 38) []<|k1<|aV M.P.tab 2 zA)
  az)
<|ao<|oA (oA (af (aj 37) []<|k1<|aV M.P.tab 1 zA)<|cS [58,32])<|af (aj 38) []<|k1<|aV M.P.tab 2 zA
def w36:WT 36 t36:=λ_=>J
def t37:TF:=λaj=>aI<|aH 1 1<|ah (aO (tB<|dE (iO M.P.sub [4]) zA)
  (ao<|oA (cS [114,111,119,32])<|aG strN<|k1<|aV M.P.tab 3 zA)
  az)
<|ah (aO (tB<|dE (iO M.P.sub [5]) zA)
  (ao<|cS [108,97,115,116])
  az)
<|ah (aO (tB<|dE (iO M.P.sub [6]) zA)
  (ao<|af (aj 39) []<|k1<|aV M.P.tab 4 zA)
  az)
<|ah (aO (tB<|dE (iO M.P.sub [7]) zA)
  (ao<|oA (oA (oA (cS [115,111,111,110,32])<|aG strN<|k1<|aV M.P.tab 5 zA)<|cS [32])<|af (aj 39) []<|k1<|aV M.P.tab 4 zA)
  az)
<|ah (aO (tB<|dE (iO M.P.sub [8]) zA)
  (ao<|oA (oA (oA (cS [102,114,111,109,32])<|af (aj 37) []<|k1<|aV M.P.tab 6 zA)<|cS [32,116,111,32])<|af (aj 37) []<|k1<|aV M.P.tab 7 zA)
  az)
<|ah (aO (tB<|dE (iO M.P.sub [9]) zA)
  (ao<|oA (cS [110,111,116,32])<|af (aj 37) []<|k1<|aV M.P.tab 8 zA)
  az)
<|ao<|cS [101,110,100]
def UG:WT 37 t37:=λ_=>J
def t38:TF:=λaj=>aI<|aH 1 1<|ah (aO (tB<|dE (iO M.P.sub [12]) zA)
  (ao<|oA (cS [109,97,114,107,32])<|aV M.P.tab 9 zA)
  az)
<|ah (aO (tB<|dE (iO M.P.sub [13]) zA)
  (ao<|cS [100,114,111,112])
  az)
<|ah (aO (tB<|dE (iO M.P.sub [14]) zA)
  (ao<|cS [112,114,105,110,116])
  az)
<|ah (aO (tB<|dE (iO M.P.sub [15]) zA)
  (ao<|cS [100,111,110,101])
  az)
<|ah (aO (tB<|dE (iO M.P.sub [16]) zA)
  (ao<|oA (cS [115,97,121,32])<|af (aj 40) []<|k1<|aV M.P.tab 10 zA)
  az)
<|ah (aO (tB<|dE (iO M.P.sub [17]) zA)
  (ao<|oA (oA (oA (rF (tB<|aV M.P.tab 11 zA) (cS [115,119,97,112,32,101,118,101,114,121,32])<|cS [115,119,97,112,32])<|af (aj 39) []<|k1<|aV M.P.tab 4 zA)<|cS [32])<|af (aj 40) []<|k1<|aV M.P.tab 10 zA)
  az)
<|ah (aO (tB<|dE (iO M.P.sub [18]) zA)
  (ao<|oA (cS [106,111,105,110,32])<|aG strN<|k1<|aV M.P.tab 12 zA)
  az)
<|ah (aO (tB<|dE (iO M.P.sub [19]) zA)
  (ao<|oA (oA (cS [112,105,108,101,32])<|aV M.P.tab 13 zA)<|rF (aY<|bH (aM .Is) (aV M.P.tab 12 zA)<|cF .non) (cS [])<|oA (cS [32])<|aG strN<|k1<|aV M.P.tab 12 zA)
  az)
<|ah (aO (tB<|dE (iO M.P.sub [20]) zA)
  (ao<|oA (cS [98,114,105,110,103,32])<|aV M.P.tab 13 zA)
  az)
<|ah (aO (tB<|dE (iO M.P.sub [21]) zA)
  (ao<|oA (cS [103,111,32])<|aV M.P.tab 9 zA)
  az)
<|ah (aO (tB<|dE (iO M.P.sub [22]) zA)
  (ao<|oA (oA (oA (cS [97,100,100,32])<|aG strN<|k1<|aV M.P.tab 6 zA)<|cS [32])<|aG strN<|k1<|aV M.P.tab 7 zA)
  az)
<|ao<|cS [116,101,108,108]
def w38:WT 38 t38:=λ_=>J
def t39:TF:=λaj=>aI<|aH 1 1<|ao<|oA (oA (cS [47])<|af (aj 10) []<|k1 zA)<|cS [47]
def w39:WT 39 t39:=λ_=>J
def t40:TF:=λaj=>aI<|aH 1 1<|ao<|oA (oA (cS [34]) zA)<|cS [34]
def w40:WT 40 t40:=λ_=>J
def t41:TF:=λaj=>aI<|aH 2 2<|ah (aO (aY<|bH (aM .Lt) zB<|aG cJ<|k1 zA)
  (ao<|oI zA zB)
  az)
<|ao zO
def w41:WT 41 t41:=λ_=>J
def t42:TF:=λaj=>aI<|aH 1 4<|ah (aA 1<|aG eB bD)
<|ah (aA 2 zO)
<|ah (wc (af (aj 31) []<|pK<|k1 zA)<|RU 3 1 2 M.kb)
<|ao<|aG aE<|k2 zB zC
def w42:WT 42 t42:=λ_=>J
def t43:TF:=λaj=>aI<|aH 1 1<|ao<|aG eB<|bQ (oE zA zO)<|bQ (oE zA zI)<|bQ (oE zA<|cI 2)<|bQ (cF<|.bl O)<|bQ (cF<|.bl Zi)<|bQ (cF<|.bl Zi)<|k3 (cF<|.bl Zi) (cF<|.bl Zi)<|cF<|.bl Zi
def Ţ:WT 43 t43:=λ_=>J
def t44:TF:=λaj=>aI<|aH 1 2<|ah (aA 1<|cS gp)
<|ah (aO (aY<|oE (oM zA<|cI 2) zI)
  (ao<|oI (cS [32,58,47,48,34,49,42,91,93,94])<|oM (oD zA<|cI 2)<|cI 10)
  az)
<|ao<|oI zB<|oM (oD zA<|cI 2)<|cI 93
def w44:WT 44 t44:=λ_=>J
def t45:TF:=λaj=>aI<|aH 4 5<|ah (aO (aY<|oE (oM zB<|cI 10) zO)
  (ao<|oI (aG eB<|bQ (oA (cS [32]) zA)<|k3 (oA zA<|cS [32]) (oA (cS [88]) zA)<|cS [])<|oM (oD zB<|cI 10)<|cI 4)
  az)
<|ah (aA 4<|oM zC<|aG GX<|k2 zI<|aG cJ<|k1 zA)
<|ah (aO (aY<|oE (oM zB<|cI 3) zO)
  (ao<|oA (jQ zA nJ<|jv<|vF 4)<|jQ zA (jv<|oA (vF 4) zI) nJ)
  az)
<|ah (aO (aY<|oE (oM zB<|cI 3) zI)
  (ao<|oA (oA (jQ zA nJ<|jv<|vF 4) zD)<|jQ zA (jv<|oA (vF 4) zI) nJ)
  az)
<|ao<|oA (oA (jQ zA nJ<|jv<|vF 4) zD)<|jQ zA (jv<|vF 4) nJ
def ZW:WT 45 t45:=λ_=>J
def t46:TF:=λaj=>aI<|aH 2 3<|ah (aA 2<|mK splitM zA<|k1<|cS [32])
<|ah (aO (fY (aY<|bH (aM .Gt) (aG cJ<|k1 zC) zI)<|fY (aY<|oE (oI zC<|dE kD<|cI 2) zB)<|tB<|dE ZN<|oI zC<|dE kD zI)
  (ao<|oI zC<|dE kD zI)
  az)
<|ao<|cS []
def w46:WT 46 t46:=λ_=>J
abbrev CZ(aj:Nat->Fn):FS:=ah (aA 3<|af (aj 46) []<|k2 (oI zA zC)<|cS [109,97,114,107])
<|ah (aO (fY (aY<|bH (aM .NotEq) zD<|cS [])<|aY<|rO .In Zi 1 zD)
  (ao<|aG aE<|k2 (af (aj 43) []<|k1 zI)<|oA zC zI)
  az)
<|aO (aY<|bH (aM .NotEq) zD<|cS [])
  (gf 1 zD)
  az
abbrev C0(aj:Nat->Fn):FS:=ah (aA 3<|af (aj 46) []<|k2 (oI zA zC)<|cS [103,111])
<|aO (fY (aY<|bH (aM .NotEq) zD<|cS [])<|aY<|rO .NotIn O 1 zD)
  (ao<|aG aE<|k2 (af (aj 43) []<|k1<|cI 2)<|oA zC zI)
  az
def t47:TF:=λaj=>aI<|aH 1 4<|ah (iz 1<|iN bD)
<|ah (gT (xA nt<|k1<|aG cJ<|k1 zA) (setG 2)
 <|CZ aj)
<|ah (gT (xA nt<|k1<|aG cJ<|k1 zA) (setG 2)
 <|C0 aj)
<|ao<|aG aE<|k2 (aG eB bD) zO
def w47:WT 47 t47:=λ_=>J
def t48:TF:=λaj=>aH 1 2<|ah (aA 1<|oM (bH (cz .Mult) (oA (aG Cy<|k1 zA) zI)<|bH (cz .Pow) (cI 48271)<|cI 31)<|oA (bH (cz .Mult) (bH (cz .Pow) (cI 10)<|cI 64)<|bH (cz .Pow) (cI 10)<|cI 64)<|cI 7)
<|ao<|vI M.bc<|iN<|k2 (aG Cy<|k1 zA)<|oA (oM (bH (cz .Mult) zB zB)<|oA (bH (cz .Mult) (bH (cz .Pow) (cI 10)<|cI 64)<|bH (cz .Pow) (cI 10)<|cI 63)<|cI 9) zI
def w48:WT 48 t48:=λ_=>J
def t49:TF:=λaj=>aH 2 3<|ah (aO (aY<|oE (ny 50 zA zO) zO)
  (o9 50 zA zO<|ny 50 zA zI)
  az)
<|ah (aA 2<|oM (ny 50 zA zO) zB)
<|ah (o9 50 zA zO<|oD (ny 50 zA zO) zB)
<|ao zC
def w49:WT 49 t49:=λ_=>J
def t50:TF:=λaj=>aH 3 3<|ao<|mK joinM (cS [])<|k1<|dR<|bP (xA nt<|k1 zC) 2 [0,1] (setG 1) dX<|oI zD<|af (aj 49) []<|k2 zC<|aG cJ<|k1 zD
def w50:WT 50 t50:=λ_=>J
def t51:TF:=λaj=>aH 1 1<|ao<|af (aj 50) []<|k3 zA (cS LS)<|oA zI<|af (aj 49) []<|k2 zA<|cI 8
def w51:WT 51 t51:=λ_=>J
def t52:TF:=λaj=>aH 2 3<|ah (aA 2<|cS gp)
<|ao<|af (aj 50) []<|k3 zA zC<|af (aj 49) []<|k2 zA<|oA zB zI
def w52:WT 52 t52:=λ_=>J
abbrev SY(aj:Nat->Fn):FS:=ah (aA 5<|dR<|bP (mG zC) 2 [3] (setG 1) (aY<|rO .NotIn O 2 zB) zB)
<|aA 3<|oA zD<|oI (vF 5)<|af (aj 49) []<|k2 zA<|aG cJ<|k1<|vF 5
def t53:TF:=λaj=>aH 2 6<|ah (aA 2<|cS eG)
<|ah (aA 3<|cS [])
<|ah (gT (xA nt<|k1 zB) (setG 4)
 <|SY aj)
<|ao zD
def w53:WT 53 t53:=λ_=>J
def t54:TF:=λaj=>aH 1 8<|ah (aA 1<|af (aj 49) []<|k2 zA<|cI 4)
<|ah (aA 2<|oI (cS [49,42,43,63]) zB)
<|ah (aA 3<|oI (aG eB<|bQ (cS [])<|k3 (cS [42]) (cS [43])<|cS [63]) zB)
<|ah (aA 4<|af (aj 49) []<|k2 zA<|cI 4)
<|ah (aO (aY<|oE (vF 4) zI)
  (ao<|aG aE<|k2 (oA (cS [46]) zD)<|aG aE<|k3 (cS []) (cF<|.bl O) zC)
  az)
<|ah (aO (aY<|oE (vF 4)<|cI 2)
  (ah (aA 7<|af (aj 53) []<|k2 zA<|oA zI<|af (aj 49) []<|k2 zA<|cI 12)
<|ao<|aG aE<|k2 (oA (oA (oA (cS [91,94])<|vF 7)<|cS [93]) zD)<|aG aE<|k3 (vF 7) (cF<|.bl O) zC)
  az)
<|ah (aO (aY<|oE (vF 4)<|cI 3)
  (ah (aA 7<|af (aj 53) []<|k2 zA<|oA zI<|af (aj 49) []<|k2 zA<|cI 12)
<|ah (aO (aY<|oE (aG cJ<|k1<|vF 7) zI)
  (aA 7<|oI (cS [36,46,91,42,43,63])<|af (aj 49) []<|k2 zA<|cI 6)
  az)
<|ao<|aG aE<|k2 (oA (oA (oA (cS [91])<|vF 7)<|cS [93]) zD)<|aG aE<|k3 (vF 7) (cF<|.bl Zi) zC)
  az)
<|ah (aA 5<|cS pS)
<|ah (aA 6<|oI (vF 5)<|af (aj 49) []<|k2 zA<|cI 85)
<|ao<|aG aE<|k2 (oA (vF 6) zD)<|aG aE<|k3 (vF 6) (cF<|.bl Zi) zC
def w54:WT 54 t54:=λ_=>J
def t55:TF:=λaj=>aH 2 7<|ah (aA 2<|oE (af (aj 49) []<|k2 zA<|cI 2) zI)
<|ah (aA 3<|oE (af (aj 49) []<|k2 zA<|cI 2) zI)
<|ah (aA 4<|af (aj 49) []<|k2 zA<|cI 16)
<|ah (aA 5<|dR<|bP (xA nt<|k1<|af (aj 49) []<|k2 zA<|cI 9) 2 [0] (setG 1) dX<|af (aj 54) []<|k1 zC)
<|ah (aO (aY<|bH (aM .Lt) (vF 4)<|cI 4)
  (aA 5<|dR<|bP (mG<|oI (aG eB<|bQ (cS [32,116,111,32])<|k3 (cS [58,32,100,114,111,112]) (cS [32,116,111,32,114,111,119,32])<|cS [110,111,116,32])<|vF 4) 2 [] (setG 1) dX<|aG aE<|k2 zB<|aG aE<|k3 zB (cF<|.bl Zi)<|cS [49])
  az)
<|ah (aO (fY (aY<|bH (aM .Gt) zB zO)<|aY<|oE (dR<|bP (mG<|vF 5) 2 [] (setG 1) (aY<|bH (aM .In) (oI (oI zB zI)<|cI 2)<|cS [49,43]) zB)<|aG eB bD)
  (aA 5<|oA (jQ (vF 5) nJ<|jv<|cI 7)<|aG eB<|k1<|aG aE<|k2 (cS [120])<|aG aE<|k3 (cS [120]) (cF<|.bl Zi)<|cS [49])
  az)
<|ah (aA 6<|oA (oA (oI (aG eB<|k2 (cS [])<|cS [94])<|aG qL<|k1 zC)<|mK joinM (cS [])<|k1<|dR<|bP (mG<|vF 5) 2 [] (setG 1) dX<|oI zB zO)<|oI (aG eB<|k2 (cS [])<|cS [36])<|aG qL<|k1 zD)
<|ao<|aG aE<|k2 (vF 6)<|aG aE<|k3 zC (dR<|bP (mG<|vF 5) 2 [] (setG 1) dX<|oI zB zI) zD
def w55:WT 55 t55:=λ_=>J
def t56:TF:=λaj=>aH 1 3<|ah (aO (aY<|oE (af (aj 49) []<|k2 zA<|cI 2) zI)
  (ah (aA 2<|oA zI<|af (aj 49) []<|k2 zA<|cI 999)
<|ao<|aG aE<|k2 (oA (cS [114,111,119,32])<|aG strN<|k1 zC)<|aG aE<|k2 (cS [114,111,119]) zC)
  az)
<|ah (aA 1<|af (aj 55) []<|k2 zA zO)
<|ao<|aG aE<|k2 (oA (oA (cS [47])<|oI zB zO)<|cS [47])<|aG aE<|k2 (cS [108,105,107,101])<|oI zB zI
def w56:WT 56 t56:=λ_=>J
def t57:TF:=λaj=>aH 1 9<|ah (aA 1<|af (aj 49) []<|k2 zA<|cI 5)
<|ah (aO (aY<|oE zB zO)
  (ao<|aG aE<|k2 (cS [])<|aG aE<|k1<|cS [97,108,119,97,121,115])
  az)
<|ah (aA 2<|oE (af (aj 49) []<|k2 zA<|cI 2) zI)
<|ah (yi (cP [3,4])<|aG aE<|k2 (cS [108,97,115,116])<|aG aE<|k1<|cS [108,97,115,116])
<|ah (aO (aY<|oE zB zI)
  (yi (cP [3,4])<|af (aj 56) []<|k1 zA)
  az)
<|ah (aO (aY<|oE zB<|cI 3)
  (ah (aA 5<|oA zI<|af (aj 49) []<|k2 zA<|cI 3)
<|ah (aA 6<|af (aj 55) []<|k2 zA zO)
<|GW 3 4<|k2 (oA (oA (oA (oA (cS [115,111,111,110,32])<|aG strN<|k1<|vF 5)<|cS [32,47])<|oI (vF 6) zO)<|cS [47])<|aG aE<|k3 (cS [115,111,111,110]) (vF 5)<|oI (vF 6) zI)
  az)
<|ah (aO (aY<|oE zB<|cI 4)
  (ah (aA 7<|af (aj 56) []<|k1 zA)
<|ah (aA 8<|af (aj 56) []<|k1 zA)
<|GW 3 4<|k2 (oA (oA (oA (cS [102,114,111,109,32])<|oI (vF 7) zO)<|cS [32,116,111,32])<|oI (vF 8) zO)<|aG aE<|k3 (cS [102,114,111,109]) (oI (vF 7) zI)<|oI (vF 8) zI)
  az)
<|ah (aO (tB zC)
  (ao<|aG aE<|k2 (oA (oA (cS [110,111,116,32]) zD)<|cS [58,32])<|aG aE<|k2 (cS [110,111,116])<|vF 4)
  az)
<|ao<|aG aE<|k2 (oA zD<|cS [58,32])<|vF 4
def w57:WT 57 t57:=λ_=>J
def t58:TF:=λaj=>aH 2 6<|ah (aA 2<|af (aj 55) []<|k2 zA zI)
<|ah (aA 3<|cI 40)
<|ah (aA 4<|cS [115,119,97,112,32,47])
<|ah (aO (tB zB)
  (ah (aA 3<|aG cJ<|k1<|dR<|bP (mG<|oI (oI zC zI) zI) 2 [] (setG 1) (aY<|bH (aM .In) (oI zB<|cI 2)<|cS [49,43]) zB)
<|aA 4<|cS [115,119,97,112,32,101,118,101,114,121,32,47])
  az)
<|ah (aA 5<|af (aj 52) []<|k2 zA zD)
<|ao<|aG aE<|k2 (oA (oA (oA (oA (vF 4)<|oI zC zO)<|cS [47,32,34])<|vF 5)<|cS [34])<|aG aE<|bQ (cS [115,119,97,112])<|k3 (oI zC zI) (vF 5) zB
def w58:WT 58 t58:=λ_=>J
def t59:TF:=λaj=>aH 2 7<|ah (aA 2<|af (aj 49) []<|k2 zA<|cI 12)
<|ah (aO (aY<|bH (aM .Lt) zC<|cI 3)
  (ao<|aG aE<|k2 (oI (aG eB<|k3 (cS [112,114,105,110,116]) (cS [100,114,111,112])<|cS [100,111,110,101]) zC)<|aG aE<|k1<|oI (aG eB<|k3 (cS [112,114,105,110,116]) (cS [100,114,111,112])<|cS [100,111,110,101]) zC)
  az)
<|ah (aO (aY<|oE zC<|cI 3)
  (ah (aA 4<|af (aj 52) []<|k2 zA<|cI 40)
<|ao<|aG aE<|k2 (oA (oA (cS [115,97,121,32,34])<|vF 4)<|cS [34])<|aG aE<|k2 (cS [115,97,121])<|vF 4)
  az)
<|ah (aO (aY<|bH (aM .Lt) zC<|cI 6)
  (ao<|af (aj 58) []<|k2 zA<|oE zC<|cI 5)
  az)
<|ah (aO (aY<|oE zC<|cI 6)
  (ah (aA 5<|oA (cI 2)<|af (aj 49) []<|k2 zA<|cI 8)
<|ao<|aG aE<|k2 (oA (cS [106,111,105,110,32])<|aG strN<|k1<|vF 5)<|aG aE<|k2 (cS [106,111,105,110])<|vF 5)
  az)
<|ah (aO (aY<|oE zC<|cI 7)
  (ah (aA 6<|aG eB<|k2 (oA zI<|af (aj 49) []<|k2 zA<|cI 9)<|oA zI<|af (aj 49) []<|k2 zA<|cI 9)
<|ao<|aG aE<|k2 (oA (oA (oA (cS [97,100,100,32])<|aG strN<|k1<|oI (vF 6) zO)<|cS [32])<|aG strN<|k1<|oI (vF 6) zI)<|aG aE<|k3 (cS [97,100,100]) (oI (vF 6) zO)<|oI (vF 6) zI)
  az)
<|ah (aO (fY (aY<|oE zC<|cI 8)<|aY<|bH (aM .NotEq) zB<|aG eB bD)
  (ah (aA 3<|oI zB<|af (aj 49) []<|k2 zA<|aG cJ<|k1 zB)
<|ao<|aG aE<|k2 (oA (cS [103,111,32]) zD)<|aG aE<|k2 (cS [103,111]) zD)
  az)
<|ah (aA 3<|af (aj 51) []<|k1 zA)
<|ah (aO (aY<|oE zC<|cI 9)
  (ah (aA 5<|oA zI<|af (aj 49) []<|k2 zA<|cI 9)
<|ao<|aG aE<|k2 (oA (oA (oA (cS [112,105,108,101,32]) zD)<|cS [32])<|aG strN<|k1<|vF 5)<|aG aE<|k3 (cS [112,105,108,101]) zD<|vF 5)
  az)
<|ah (aO (aY<|oE zC<|cI 10)
  (ao<|aG aE<|k2 (oA (cS [112,105,108,101,32]) zD)<|aG aE<|k3 (cS [112,105,108,101]) zD<|cF .non)
  az)
<|ao<|aG aE<|k2 (oA (cS [98,114,105,110,103,32]) zD)<|aG aE<|k2 (cS [98,114,105,110,103]) zD
def w59:WT 59 t59:=λ_=>J
def t60:TF:=λaj=>aI<|aH 2 10<|ah (aA 2<|af (aj 48) []<|k1 zA)
<|ah (aO (aY<|oE (af (aj 49) []<|k2 zC<|cI 8) zI)
  (ah (aA 3<|af (aj 49) []<|k2 zC<|cI 3)
<|ah (aA 4<|af (aj 52) []<|k2 zC<|cI 40)
<|ah (aO (aY<|oE zD zO)
  (ao<|aG aE<|k3 (cS [101,110,100,58,32,116,101,108,108]) (aG aE<|k1<|cS [101,110,100])<|aG aE<|k1<|cS [116,101,108,108])
  az)
<|ah (aO (aY<|oE zD zI)
  (ao<|aG aE<|k3 (oA (oA (cS [101,110,100,58,32,115,97,121,32,34])<|vF 4)<|cS [34]) (aG aE<|k1<|cS [101,110,100])<|aG aE<|k2 (cS [115,97,121])<|vF 4)
  az)
<|ah (aA 5<|af (aj 51) []<|k1<|af (aj 48) []<|k1<|oD zA<|cI 24)
<|ao<|aG aE<|k3 (oA (cS [101,110,100,58,32,98,114,105,110,103,32])<|vF 5) (aG aE<|k1<|cS [101,110,100])<|aG aE<|k2 (cS [98,114,105,110,103])<|vF 5)
  az)
<|ah (yi (cP [6,7])<|af (aj 57) []<|k1 zC)
<|ah (yi (cP [8,9])<|af (aj 59) []<|k2 zC zB)
<|ao<|aG aE<|k3 (oA (vF 6)<|vF 8) (vF 7)<|vF 9
def w60:WT 60 t60:=λ_=>J
abbrev S0(aj:Nat->Fn):FS:=ah (aA 3<|af (aj 48) []<|k1 zC)
<|aO (aY<|oE (af (aj 49) []<|k2 zD<|cI 8)<|cI 2)
  (gf 1<|af (aj 51) []<|k1 zD)
  az
def t61:TF:=λaj=>aI<|aH 1 4<|ah (iz 1<|iN bD)
<|ah (gT (mG zA) (setG 2)
 <|S0 aj)
<|ao zB
def w61:WT 61 t61:=λ_=>J
abbrev S2(aj:Nat->Fn):FS:=ah (aA 5<|oE (af (aj 49) []<|k2 (af (aj 48) []<|k1<|vF 4)<|cI 8)<|cI 2)
<|ah (aO (fY (tB<|vF 5)<|aY<|rO .NotIn O 3<|oI zB<|jF 3)
  (gf 2<|aG aE<|k3 (oA (cS [109,97,114,107,32])<|oI zB<|jF 3) (aG aE<|k1<|cS [97,108,119,97,121,115])<|aG aE<|k2 (cS [109,97,114,107])<|oI zB<|jF 3)
 <|gf 2<|af (aj 60) []<|k2 (vF 4) zB)
<|aO (tB<|vF 5)
  (gf 3<|oI zB<|jF 3)
  az
def t62:TF:=λaj=>aI<|aH 1 6<|ah (aA 1<|af (aj 61) []<|k1 zA)
<|ah (iz 2<|iN bD)
<|ah (iz 3<|iN bD)
<|ah (gT (mG zA) (setG 4)
 <|S2 aj)
<|ao zC
def w62:WT 62 t62:=λ_=>J
abbrev Yd:FS:=ah (aA 4<|oM (bH (cz .Mult) (oA zD zI)<|bH (cz .Pow) (cI 48271)<|cI 31)<|oA (bH (cz .Mult) (bH (cz .Pow) (cI 10)<|cI 64)<|bH (cz .Pow) (cI 10)<|cI 64)<|cI 7)
<|gf 1<|oM (oA (bH (cz .Mult) (vF 4)<|vF 4) zC)<|oA (bH (cz .Mult) (bH (cz .Pow) (cI 10)<|cI 64)<|bH (cz .Pow) (cI 10)<|cI 63)<|cI 9
def t63:TF:=λaj=>aI<|aH 1 5<|ah (iz 1<|iN bD)
<|ah (gT (mH 0 zA) (cP [2,3])
  Yd)
<|ao zB
def w63:WT 63 t63:=λ_=>J
def t64:TF:=λaj=>aI<|aH 1 8<|ah (aA 1<|jQ zA (jv<|cI 4)<|jv<|cI 28)
<|ah (aO (aY<|oE (oM (oD (af (aj 41) []<|k2 zA zO)<|cI 24)<|cI 2) zI)
  (aA 1<|af (aj 63) []<|k1 zB)
  az)
<|ah (iz 2<|bP (mG<|af (aj 62) []<|k1 zB) 2 [] (setG 1) dX<|oI zB zO)
<|ah (aO (aY<|CL 2<|aG eB bD)
  (iz 2<|iN<|k1<|cS [112,114,105,110,116])
  az)
<|ah (aA 3<|oM (af (aj 41) []<|k2 zA zO)<|jF 2)
<|ah (aA 4<|af (aj 41) []<|k2 zA zI)
<|ah (Ot 2 zD<|af (aj 45) []<|bQ (Fv 2 zD)<|k3 (vF 4) (af (aj 41) []<|k2 zA<|cI 2)<|af (aj 44) []<|k1<|af (aj 41) []<|k2 zA<|cI 3)
<|ah (aA 5<|mK joinM (cS [])<|k1<|dR<|bP (mG zC) 2 [] (setG 1) dX<|oA zB<|cS [10])
<|ah (aA 6<|af (aj 42) []<|k1<|vF 5)
<|ah (aO (aY<|oE (vF 6)<|aG aE<|k2 (af (aj 43) []<|k1 zO)<|oA zD zI)
  (ao<|cF<|.bl O)
  az)
<|ah (aO (Ae (aY<|oE (oM (vF 4)<|cI 10) zO)<|aY<|bH (aM .NotEq) (vF 6)<|af (aj 47) []<|k1 zC)
  (ao<|cF<|.bl Zi)
  az)
<|ah (aO (aY<|bH (aM .NotEq) (oI (vF 6) zO)<|aG eB bD)
  (ao<|cF<|.bl O)
  az)
<|ah (aA 7<|af (aj 35) []<|k1<|af (aj 31) []<|k1<|vF 5)
<|ao<|oZ (dE (Wt "str")<|vF 7)<|oZ (oE (vF 7)<|vF 5)<|oE (af (aj 35) []<|k1<|af (aj 31) []<|k1<|vF 7)<|vF 5
def w64:WT 64 t64:=λ_=>J
def t80:TF:=λaj=>aH 3 3<|ah (kF M.P.tab 14 zA zB)
<|kF M.P.tab 3 zA zC
def w80:WT 80 t80:=λ_=>J
def t81:TF:=λaj=>aH 1 1<|GJ 0<|k1<|aV M.P.tab 3 zA
def w81:WT 81 t81:=λ_=>J
def t82:TF:=λaj=>aH 2 2<|ah (aO (fm<|tB<|mK Gi (aV M.P.tab 14 zA)<|k1 zB)
  (ao<|cF<|.bl Zi)
  az)
<|ah (kF M.P.tab 14 zA<|jQ (aV M.P.tab 14 zA) (jv<|aG cJ<|k1 zB) nJ)
<|ao<|cF<|.bl O
def w82:WT 82 t82:=λ_=>J
def t83:TF:=λaj=>aH 2 2<|aO (b8<|fm<|tB<|bJ (bg [(24,82)] aj) zA<|k1 zB)
  (bW<|lP 24 (aj 81) zA bD)
  az
def w83:WT 83 t83:=λ_=>J
def t84:TF:=λaj=>aH 2 3<|ah (aA 2<|af (aj 1) []<|k2 (aV M.P.tab 14 zA) zB)
<|ah (kF M.P.tab 14 zA<|jQ (aV M.P.tab 14 zA) (jv<|aG cJ<|k1 zC) nJ)
<|ao zC
def w84:WT 84 t84:=λ_=>J
def t85:TF:=λaj=>aH 2 4<|ah (bW<|lP 24 (aj 83) zA<|k1<|bO zB)
<|ah (eV<|aA 2<|mK jG (aV M.P.tab 14 zA)<|k1 zB)
<|ah (aO (b8<|aY<|oE zC<|dE kD zI)
  (bW<|lP 24 (aj 81) zA bD)
  az)
<|ah (eV<|aA 3<|jQ (aV M.P.tab 14 zA) nJ<|jv zC)
<|ah (eV<|kF M.P.tab 14 zA<|jQ (aV M.P.tab 14 zA) (jv<|oA zC zI) nJ)
<|eV<|ao zD
def w85:WT 85 t85:=λ_=>J
end K25
namespace K25
open List renaming length->Nv
open D
variable(n:Nat)
section
variable{fl:FL}{s s' s1 s2:S}
def pT{l:List α}(h:j<Nv l):atT l (j:Int)=l[j]?:=by
 unfold atT;rw[cv<|by lia,cv<|by lia];rfl
def aQ(h:a s=.ok (t,s1))(b:fl s1=.ok (ts,s2)):bQ a fl s=.ok (t::ts,s2):=by
 unfold bQ;rw[h];show Res.bind (fl s1) _=_;rw[b];rfl
def dM(h:a s=.ok (t,s')):aA i a s=.ok (.nx,jE s' i<|.val t):=by unfold aA;rw[h];rfl
end
def pU(a b:B1):aM .Eq (.str a) (.str b)=U (.bl<|decide<|a=b):=J
def wF(a b:Int):aM .Gt (.int a) (.int b)=U (.bl<|decide<|b<a):=J
def pV(a b:Int):aM .Lt (.int a) (.int b)=U (.bl<|decide<|a<b):=J
theorem iC:∀{ts:FC},(∀t∈ts,∃b1 b2,g t b=U b1/\e ⟨b1,m⟩=.ok (f t,⟨b2,m⟩))->bM g dX e b ts m=.ok (ts.map f,m)
 |[],_=>J
 |t::ts,h=>by
  obtain⟨b1,b2,d,c⟩:=h t<|eX ..;unfold bM;rw[d];show Res.bind (e ⟨b1,m⟩) _=_;rw[c];show Res.bind (bM g dX e b ts m) _=_;rw[iC λt a=>h t<|bw _ a];rfl
def jf{n:Nat}(h:a s=.ok (ts,s1))(z:Nv ts<=1000000)(q:bM g c e (i_ n js<|jR js s1.r) ts s1.m=.ok (us,m')):bP a n js g c e s=.ok (us,⟨jR js s1.r,m'⟩):=by
 unfold bP;rw[h];show(if Nv ts<=1000000 then _ else _)=_
 rw[cv z,q];rfl
def jH{fl:FL}(h:fl s=.ok (ts,s')):dR fl s=.ok (.lst ts,s'):=by unfold dR;rw[h];rfl
def dz{fl:FL}(h:fl s=.ok (ts,s'))(q:g ts=U t):aG g fl s=.ok (t,s'):=by unfold aG;rw[h];show Res.bind (cH<|g ts) _=_;rw[q];rfl
def aP{s s1 s2:S}(h:a s=.ok (t,s1))(c:b s1=.ok (u,s2))(k:g t u=U v):bH g a b s=.ok (v,s2):=by
 unfold bH;rw[h];apply qO;dsimp only;rw[c];apply qO;dsimp only;rw[k];rfl
def dG(h:g t s.r=U r)(a:b ⟨r,s.m⟩=.ok (.nx,s1))(k:aZ g b ts s1=q):aZ g b (t::ts) s=q:=by
 unfold aZ;rw[h];apply qO;rw[a];exact k
def qQ(h:a s=.ok (ts,s1))(k:aZ g b ts s1=q):gT a g b s=q:=by unfold gT;rw[h];exact k
def pW(h0:s.r[i]?=U (U<|.ol Xh))(h:a s=.ok (t,s1))(b:s1.r[i]?=U (U<|.ol ts))(z:Nv ts<1000000):gf i a s=.ok (.nx,jE s1 i<|.ol<|ts++[t]):=by
 unfold gf;rw[h0];refine Eq.trans (qy Xh _) ?_;rw[h];apply qO;dsimp only;rw[b];refine Eq.trans (qy ts _) ?_;rw[iR z];rfl
def W.eq{v:α}(h:W x λa=>a=v):x=.ok v:=by
 obtain⟨a,e,rfl⟩:=h;exact e
def Ye(h:c s=.ok (Zi,s')):fm c s=.ok (O,s'):=by unfold fm;rw[h];rfl
def Yg(h:c s=.ok (O,s')):fm c s=.ok (Zi,s'):=by unfold fm;rw[h];rfl
def ţ{fl:FL}(h:fl s=.ok (ts,s'))(k:g (.own s'.m.length::ts) (s'.m++[⟨c,[]⟩])=.ok (.non,m')):yh c g fl s=.ok (.own s'.m.length,⟨s'.r,m'⟩):=by
 unfold yh;rw[h];apply qO;dsimp only;rw[k]
section
variable{A B E:FS}{G:T×FR->Prop}
def bS(e:a s=.ok (t,s))(h:WB B (jE s i<|.val t) G):WB (ah (aA i a) B) s G:=JC e h
def bN(e:c s=.ok (Zi,s))(h:WB B s G):WB (ah (aO c A az) B) s G:=jD e h
def bY(e:c s=.ok (O,s))(h:WB A s G):WB (ah (aO c A B) E) s G:=wD e h
def bR(e:a s=.ok (t,s))(h:G (t,s.m)):WB (ao a) s G:=lQ e h
def sEq{a n:Nat}(h:aK ts=O)(hl:Nv ts=a)(d:noOwn t=O)(k:WB b ⟨ts.map (λt=>sv t)++eQ (n-Nv ts) Y,[]⟩ λp=>p.1=t):aI (aH a n b) ts m=.ok (t,m):=W.eq<|OE h<|(nB hl k).mono λp c=>⟨by rw[c];exact d,by rw[c]⟩
def cE{fl:FL}(h:fl s=.ok (ts,s))(k:g ts s.m=.ok (t,s.m)):af g [] fl s=.ok (t,s):=je h (by rw[bG];exact k)
def Ť(h:g t b=U b1)(a:e ⟨b1,m⟩=.ok (u,⟨b2,m⟩))(k:bM g dX e b ts m=.ok (us,m)):bM g dX e b (t::ts) m=.ok (u::us,m):=by
 rw[bM,h];apply qO;apply qO;show Res.bind (e ⟨b1,m⟩) _=_;rw[a];apply qO;dsimp only;rw[k];rfl
def qz(h:a s=.ok (.bl b,s)):D.tB a s=.ok (b,s):=by unfold D.tB;rw[h];rfl
def gD(h:a s=.ok (.bl b,s)):D.aY a s=.ok (b,s):=by unfold D.aY;rw[h];rfl
def xC(h:a s=.ok (t,s))(k:g t=U u):dE g a s=.ok (u,s):=by
 unfold dE;rw[h];apply qO;dsimp only;rw[k];rfl
def jg{d:FT}(h:c s=.ok (x,s))(a:d s=.ok (y,s)):fY c d s=.ok (x&&y,s):=by
 unfold fY;rw[h];cases x with
 |true=>exact a
 |false=>rfl
def wG{d:FT}(h:c s=.ok (x,s))(a:d s=.ok (y,s)):Ae c d s=.ok (x ||y,s):=by
 unfold Ae;rw[h];cases x with
 |true=>rfl
 |false=>exact a
def ť{fl:FL}(h:fl s=.ok (ts,s1))(k:g ts=U us):xA g fl s=.ok (us,s1):=by
 unfold xA;rw[h];apply qO;dsimp only;rw[k];rfl
def HQ(d:a s=.ok (t,s))(hl:lo s=.ok (x,s))(c:b s=.ok (y,s))(h:QH x y t=U u):jQ a lo b s=.ok (u,s):=by
 unfold jQ;rw[d];apply qO;dsimp only;rw[hl];apply qO;dsimp only;rw[c];apply qO;dsimp only;rw[h];rfl
def lcE{a:FL}{n:Nat}(h:a s=.ok (ts,s))(z:Nv ts<=1000000)(b:jR js s.r=s.r)(q:bM g c e (i_ n js s.r) ts s.m=.ok (us,s.m)):dR (bP a n js g c e) s=.ok (.lst us,s):=by
 have:=jH<|jf (n:=n) (js:=js) (g:=g) (c:=c) (e:=e) (us:=us) (m':=s.m) h z<|by rw[b];exact q
 rw[b]at this;exact this
def pE(h:a s=.ok (t,s))(c:b s=.ok (u,s))(k:g t u=U v):bH g a b s=.ok (v,s):=aP h c k
def yO{fl:FL}{s s1 s2:S}(h:o s=.ok (.str l,s1))(b:fl s1=.ok (ts,s2))(a:f l ts=U t):mK f o fl s=.ok (t,s2):=by
 unfold mK;rw[h];apply qO;apply qO;dsimp only;rw[b];apply qO;dsimp only;rw[a];rfl
end
def yP(h:c s=.ok (Zi,s1)):fY c d s=.ok (Zi,s1):=by
 unfold fY;rw[h];rfl
def S3{B:FS}(d:c s=.ok (O,s1))(h:W (B s1) λq=>q.1=.nx/\W (bu c B k q.2) b):W (bu c B (k+1) s) b:=by
 obtain⟨⟨o,s2⟩,e,rfl,h⟩:=h;obtain⟨a,f,h⟩:=h;refine⟨a,?_,h⟩;show Res.bind (c s) _=_;rw[d];show Res.bind (B s1) _=_;rw[e];exact f
def Yh(b:c s=.ok (Zi,s1))(h:a (.nx,s1)):W (bu c B (k+1) s) a:=by
 refine⟨_,?_,h⟩;show Res.bind (c s) _=_;rw[b];rfl
abbrev Tx:=B1
def strip:Tx->Tx->Option Tx
 |[],r=>U r
 |_::_,[]=>Y
 |c::w,d::r=>if c=d then strip w r else Y
def sp(S:Tx):Tx->Tx×Tx
 |[]=>([],[])
 |c::r=>if c∈S then(c::(sp S r).1,(sp S r).2)else([],c::r)
def cutAt(c:Nat):Tx->Option (Tx×Tx)
 |[]=>Y
 |d::r=>if d=c then U ([],r)else(cutAt c r).map λp=>(d::p.1,p.2)
def dZ:Tx:=[48,49,50,51,52,53,54,55,56,57]
def eK:Tx:=LS
def dB:Tx:=HP
def ZX:Tx:=[94,36,46,91,93,42,43,63,47]
def mL(c:Nat):Bool:=decide (c∈dB)&&!decide (c∈ZX)
def wH(S l:Tx):Bool:=l.all λc=>decide<|c∈S
def vl(d:Tx):Int:=d.foldl (λ(a:Int) (c:Nat)=>10*a+((c:Int)-48)) 0
def iP(lo a:Int)(r:Tx):Option<|Int×Tx:=let p:=sp dZ r;if(decide (p.1=[]) ||(pre [48] p.1 ||decide ((3:Int)<(Nv p.1:Nat))))=O then Y else if(decide (vl p.1<lo) ||decide (a<vl p.1))=O then Y else U (vl p.1,p.2)
def nameP(r:Tx):Option<|Tx×Tx:=let p:=sp eK r;if(decide (p.1=[]) ||decide ((8:Int)<(Nv p.1:Nat)))=O then Y else U p
def HR(c:Nat)(r:Tx):Option<|Tx×Tx:=(strip [c] r).bind<|cutAt c
def jh(r:Tx):Option<|Tx×Tx:=(HR 34 r).bind λp=>if(decide ((40:Int)<(Nv p.1:Nat)) || !wH dB p.1)=O then Y else U p
structure Itm where
 sg:Tx
 ot:Bool
 mn:Nat
structure il where
 f:Bool
 au:List Itm
 b:Bool
 nz:Nv au<=8
def Itm.val(i:Itm):T:=.tup [.str i.sg,.bl i.ot,.str [i.mn]]
def il.val(p:il):T:=.tup [.bl p.f,.lst<|p.au.map Itm.val,.bl p.b]
def aR:Tx->Nat×Tx
 |[]=>(49,[])
 |c::r=>if c∈[42,43,63]then(c,r)else(49,c::r)
def k8(ins:Tx)(mn:Nat):Option Itm:=
 let ot:=pre [94] ins
 let sg:=if ot then ins.drop 1 else ins
 if(decide (sg=[]) ||decide ((12:Int)<(Nv sg:Nat)))=O then Y else if(sg.any λc=>decide<|c∈[93,94,47])=O then Y else if ¬ sg.Nodup then Y else if(!ot&&(decide (Nv sg=1)&&sg.all mL))=O then Y else U ⟨sg,ot,mn⟩
def pX(c:Nat)(r:Tx):Option<|Itm×Tx:=if c=91 then(cutAt 93 r).bind λp=>(k8 p.1 (aR p.2).1).map λi=>(i,(aR p.2).2)
 else if c=46 then U (⟨[],O,(aR r).1⟩,(aR r).2)else if mL c=O then U (⟨[c],Zi,(aR r).1⟩,(aR r).2)else Y
def eL:Nat->Tx->Option (List Itm)
 |_,[]=>U []
 |0,_::_=>Y
 |n+1,c::r=>(pX c r).bind λp=>(eL n p.2).map λl=>p.1::l
def gJ(w:Tx):Tx:=if pre [94] w then w.drop 1 else w
def uA(w:Tx):Option il:=if(!wH dB w)=O then Y else
 let bd:=gJ w
 let b:=uN [36] bd
 (eL bd.length<|if b then bd.dropLast else bd).bind λau=>if h:Nv au<=8 then U ⟨pre [94] w,au,b,h⟩else Y
def qR(r:Tx):Option<|il×Tx:=(HR 47 r).bind λp=>(uA p.1).map λx=>(x,p.2)
inductive RP where
 |row (v:Int)|like (p:il)
def RP.val:RP->T
 |.row v=>.obj 4 [.int v]
 |.like p=>.obj 6 [p.val]
inductive PC where
 |last|soon (v:Int) (p:il)|ft (x y:RP)|rp (x:RP)
def PC.val:PC->T
 |.last=>.obj 5 []
 |.soon v p=>.obj 7 [.int v,p.val]
 |.ft x y=>.obj 8 [x.val,y.val]
 |.rp x=>x.val
inductive CD where
 |fin|no (x:PC)|pc (x:PC)
def CD.val:CD->T
 |.fin=>.obj 10 []
 |.no x=>.obj 9 [x.val]
 |.pc x=>x.val
def S4(r:Tx):Option<|RP×Tx:=(strip [114,111,119,32] r).elim ((qR r).map λp=>(.like p.1,p.2)) λr=>(iP 1 999 r).map λp=>(.row p.1,p.2)
def HS(r:Tx):Option<|PC×Tx:=(iP 1 3 r).bind λp=>(strip [32] p.2).bind λr=>(qR r).map λq=>(.soon p.1 q.1,q.2)
def HU(r:Tx):Option<|PC×Tx:=(S4 r).bind λp=>(strip [32,116,111,32] p.2).bind λr=>(S4 r).map λq=>(.ft p.1 q.1,q.2)
def S5(r:Tx):Option<|PC×Tx:=(strip [108,97,115,116] r).elim ((strip [115,111,111,110,32] r).elim ((strip [102,114,111,109,32] r).elim ((S4 r).map λp=>(.rp p.1,p.2)) HU) HS) λr=>U (.last,r)
def Yi(r:Tx):Option<|CD×Tx:=(strip [101,110,100] r).elim ((strip [110,111,116,32] r).elim ((S5 r).map λp=>(.pc p.1,p.2)) λr=>(S5 r).map λp=>(.no p.1,p.2)) λr=>U (.fin,r)
inductive DD where
 |drop|print|done|tell|say (l:Tx)|swap (e:Bool) (p:il) (l:Tx)|join (v:Int)|pile (a:Tx) (v:D2)|bring (a:Tx)|go (a:Tx)|add (v w:Int)
def DD.val:DD->T
 |.drop=>.obj 13 []
 |.print=>.obj 14 []
 |.done=>.obj 15 []
 |.tell=>.obj 23 []
 |.say l=>.obj 16 [.str l]
 |.swap e p l=>.obj 17 [p.val,.str l,.bl e]
 |.join v=>.obj 18 [.int v]
 |.pile a none=>.obj 19 [.str a,.non]
 |.pile a<|U v=>.obj 19 [.str a,.int v]
 |.bring a=>.obj 20 [.str a]
 |.go a=>.obj 21 [.str a]
 |.add v w=>.obj 22 [.int v,.int w]
def mO(e:Bool)(r:Tx):Option<|DD×Tx:=(qR r).bind λp=>(strip [32] p.2).bind λr=>(jh r).map λq=>(.swap e p.1 q.1,q.2)
def pY(r:Tx):Option<|DD×Tx:=(nameP r).bind λp=>(strip [32] p.2).elim (U (.pile p.1 Y,p.2)) λr=>(iP 1 9 r).map λq=>(.pile p.1<|U q.1,q.2)
def LV(r:Tx):Option<|DD×Tx:=(iP 1 9 r).bind λp=>(strip [32] p.2).bind λr=>(iP 1 9 r).map λq=>(.add p.1 q.1,q.2)
def Yj(r:Tx):Option<|DD×Tx:=
 (strip [106,111,105,110,32] r).elim ((strip [112,105,108,101,32] r).elim ((strip [98,114,105,110,103,32] r).elim ((strip [103,111,32] r).elim ((strip [97,100,100,32] r).bind LV)
  λr=>(nameP r).map λp=>(.go p.1,p.2)) λr=>(nameP r).map λp=>(.bring p.1,p.2)) pY) λr=>(iP 2 9 r).map λp=>(.join p.1,p.2)
def S6(r:Tx):Option<|DD×Tx:=
 (strip [100,114,111,112] r).elim ((strip [112,114,105,110,116] r).elim ((strip [100,111,110,101] r).elim ((strip [116,101,108,108] r).elim
  ((strip [115,97,121,32] r).elim ((strip [115,119,97,112,32,101,118,101,114,121,32] r).elim ((strip [115,119,97,112,32] r).elim (Yj r)<|mO Zi)<|mO O) λr=>(jh r).map λp=>(.say p.1,p.2))
  λr=>U (.tell,r)) λr=>U (.done,r)) λr=>U (.print,r)) λr=>U (.drop,r)
inductive LN where
 |mark (a:Tx)|bare (x:DD)|full (c:CD) (x:DD)
def LN.cond:LN->T
 |.full c _=>c.val
 |_=>.obj 3 []
def LN.nC:LN->T
 |.mark a=>.obj 12 [.str a]
 |.bare x=>x.val
 |.full _ x=>x.val
def LN.val(x:LN):T:=.obj 1 [x.cond,x.nC]
def HV:List Tx:=[[114,111,119,32],[108,97,115,116],[47],[115,111,111,110,32],[102,114,111,109,32],[110,111,116,32],[101,110,100]]
def yQ(r:Tx):Bool:=HV.any λw=>(strip w r).isSome
def HW(r:Tx):Option<|LN×Tx:=(Yi r).bind λp=>(strip [58,32] p.2).bind λr=>(S6 r).map λq=>(.full p.1 q.1,q.2)
def S7(r:Tx):Option<|LN×Tx:=(strip [109,97,114,107,32] r).elim (if(!yQ r)=O then(S6 r).map λp=>(.bare p.1,p.2)else HW r) λr=>(nameP r).map λp=>(.mark p.1,p.2)
def C3(i:Itm):Bool:=eqT (.str [42]) (.str [i.mn]) ||(eqT (.str [63]) (.str [i.mn]) ||Zi)
def least(p:il):Nat:=(p.au.filter λi=>!C3 i).length
def DD.yR:DD->Bool
 |.tell=>Zi
 |.swap e p l=>!decide (least p=0)&&(!e ||decide (Nv l<=least p))
 |_=>O
def DD.atEnd:DD->Bool
 |.tell=>O
 |.say _=>O
 |.bring _=>O
 |_=>Zi
def LN.ms:LN->Bool
 |.mark _=>O
 |.bare x=>x.yR
 |.full .fin x=>x.atEnd
 |.full _ x=>x.yR
def parse(r:Tx):Option LN:=(S7 r).bind λp=>if(!decide (p.2=[]) || !p.1.ms)=O then Y else U p.1
def SC(rest:Tx)(k:Int):FR:=[⟨24,[.val<|.str rest,.val<|.int k]⟩]
abbrev St(r:Fm)(rest:Tx)(k:Int):S:=⟨Kn 0::r,SC rest k⟩
def Bd(r:Tx):Prop:=Nv r<=100000
def Xc(k:Int)(x:Res α):Prop:=∃s,x=.exc 0 [.int k] s
section
variable(k:Int)(v:α->T)(o:Option<|α×Tx)
def RF(x:Res<|T×FR):Prop:=match o with
 |some p=>x=.ok (v p.1,SC p.2 k)/\Bd p.2
 |none=>Xc k x
def RE(q:Fm)(x:Res<|T×S):Prop:=match o with
 |some p=>x=.ok (v p.1,St q p.2 k)/\Bd p.2
 |none=>Xc k x
def RB(x:Res<|Out×S):Prop:=match o with
 |some p=>(∃q,x=.ok (.rt<|v p.1,⟨q,SC p.2 k⟩))/\Bd p.2
 |none=>Xc k x
end
section
variable{v:α->T}{r S1:Tx}{e a b:FE}{A B:FS}{fl:FL}{F:d->α}
def wI{a:α}(h:x=.ok a):v_ x=.ok a:=by rw[h];rfl
def ZY{b:Bool}(h:e s=.ok (.bl b,s1)):D.tB e s=.ok (b,s1):=by unfold D.tB;rw[h];rfl
def C4(h:c s=.ok (y,s')):fm c s=.ok (!y,s'):=by unfold fm;rw[h];rfl
def df{g:α->Res d}(h:Xc k x):Xc k<|x.bind g:=by
 obtain⟨s,rfl⟩:=h;exact⟨s,J⟩
theorem RB.map(h:RB k (λa=>v<|F a) ob x):RB k v (ob.map λp=>(F p.1,p.2)) x:=by
 cases ob<;>exact h
def gK(h:Nv ts=j)(a:RB k v o<|B ⟨ts.map (λt=>sv t)++eQ (nn-Nv ts) Y,SC r k⟩):RF k v o<|aH j nn B ts<|SC r k:=by
 unfold aH;rw[cv h];cases o with
 |none=>exact df a
 |some p=>
  obtain⟨⟨q,e⟩,z⟩:=a;rw[e];exact⟨J,z⟩
def dS(h:RE k v o q<|e s):RB k v o<|ao e s:=by
 cases o with
 |none=>exact df h
 |some p=>
  obtain⟨a,z⟩:=h;refine⟨⟨Kn 0::q,?_⟩,z⟩;unfold ao;rw[a];rfl
def bo(h:fl s=.ok (ts,St q r k))(b:RF k v o<|f ts<|SC r k):RE k v o q<|af f [] fl s:=by
 unfold af;rw[h];show RE k v o q<|match f (ts++[]) (SC r k)with|.ok q=>_|.bad=>_|.exc c fs s'=>_
 rw[bG];cases o with
 |none=>
  obtain⟨d,a⟩:=b;rw[a];exact⟨_,J⟩
 |some p=>
  obtain⟨a,z⟩:=b;rw[a];exact⟨J,z⟩
def C5(h:fl (St q r k)=.ok (ts,St q r k))(a:RF k v o<|f (.own 0::ts)<|SC r k):RE k v o q<|lP 24 f zA fl<|St q r k:=bo (s:=St q r k) (fl:=bQ (cF<|.own 0) fl) (ts:=.own 0::ts) (by
 show Res.bind (fl<|St q r k) _=_;rw[h];rfl) a
def mP{g:α×Tx->Option (d×Tx)}(h:RE k v o q<|e s)(a:∀p,o=U p->Bd p.2->RB k w (g p) (B<|jE (St q p.2 k) i<|.val<|v p.1)):RB k w (o.bind g)<|ah (aA i e) B s:=by
 cases o with
 |none=>exact df<|df h
 |some p=>
  have b:=a p J h.2;unfold ah aA;rw[h.1];exact b
def yS(h:A s=.ok (.nx,s'))(a:RB k v o<|B s'):RB k v o<|ah (eV A) B s:=by
 unfold ah eV;rw[h];exact a
def Yk(h:A s=.ok (.nx,s'))(a:RB k v o<|B s'):RB k v o<|ah A B s:=by
 unfold ah;rw[h];exact a
def jI(h:e s=.ok (v t',St q r k))(z:Bd r):RB k v (U (t',r))<|eV (ao e) s:=by
 unfold eV ao;rw[h];exact⟨⟨_,J⟩,z⟩
def ji(h:RE k v o q<|e s):RE k (λx=>.obj j [v x]) o q<|dh j 1 (k1 e) s:=by
 cases o with
 |none=>exact df<|df h
 |some p=>
  refine⟨?_,h.2⟩;show Res.bind (Res.bind (e s) _) _=_;rw[h.1];rfl
def j2(b:a s=.ok (u,s))(h:RE k v o q<|e s):RE k (λx=>.obj j [u,v x]) o q<|dh j 2 (k2 (bO a) e) s:=by
 show RE k _ o q<|Res.bind (Res.bind (v_<|a s) _) _;rw[b];show RE k _ o q<|Res.bind (Res.bind (Res.bind (e s) _) _) _;cases o with
 |none=>exact df<|df<|df h
 |some p=>
  refine⟨?_,h.2⟩;rw[h.1];rfl
def S8(f:a s=.ok (u,s))(h:RE k v o q<|e s)(d:∀c,b (St q c k)=.ok (u2,St q c k)):RE k (λx=>.obj j [u,v x,u2]) o q<|dh j 3 (k3 (bO a) e<|bO b) s:=by
 show RE k _ o q<|Res.bind (Res.bind (v_<|a s) _) _;rw[f];show RE k _ o q<|Res.bind (Res.bind (Res.bind (e s) _) _) _;cases o with
 |none=>exact df<|df<|df h
 |some p=>
  refine⟨?_,h.2⟩;rw[h.1];show Res.bind (Res.bind (Res.bind (Res.bind (v_<|b<|St q p.2 k) _) _) _) _=_;rw[d];rfl
def pZ:Xc k<|cN (n+1) 81 [.own 0]<|SC r k:=by
 rw[w81];exact⟨_,J⟩
def rW(a:c (St q r k)=.ok (y,St q r k))(d:y=Zi->RB k v o (B<|St q r k)):RB k v (if y=O then Y else o)<|ah (aO (b8 c) (bW<|lP 24 (cN (nn+1) 81) zA bD) az) B<|St q r k:=by
 cases y with
 |false=>
  unfold ah aO b8;rw[a];exact d J
 |true=>
  unfold ah aO b8;rw[a];have b:Xc k<|bW (lP 24 (cN (nn+1) 81) zA bD)<|St q r k:=df<|C5 (v:=λ_:Unit=>.non) (o:=Y) (q:=q) (ts:=[]) (fl:=bD) J<|pZ nn;exact df b
theorem cX:∀{w r a:Tx},strip w r=U a->r=w++a
 |[],r,a,h=>by cases h;rfl
 |c::w,[],a,h=>by cases h
 |c::w,d::r,a,h=>by
  unfold strip at h;split at h
  .rename_i e
   rw[e,cX h];rfl
  .cases h
theorem j3:∀{w r:Tx},strip w r=Y->pre w r=Zi
 |[],r,h=>by cases h
 |c::w,[],_=>J
 |c::w,d::r,h=>by
  unfold strip at h;split at h
  .rename_i e
   rw[e,HJ];exact j3 h
  .rename_i e;exact uz e
theorem lT:∀(w r:Tx),strip w (w++r)=U r
 |[],_=>J
 |c::w,r=>by
  show(if c=c then _ else _)=_
  rw[cv J];exact lT w r
def jk{w r a:Tx}(h:strip w r=U a)(z:Bd r):Bd a:=by
 rw[cX h]at z;unfold Bd at z ⊢;rw[cA]at z
 lia
def ZZ:aV M.P.tab 14 zA (St q r k)=.ok (.str r,St q r k):=J
def S9(h:e (St q r k)=.ok (.str l,St q r k)):kF M.P.tab 14 zA e (St q r k)=.ok (.nx,St q l k):=by
 unfold kF;rw[h];rfl
def sm{a:Tx}(c:fl (St q r k)=.ok (ts,St q r k))(b:aj i (.own 0::ts) (SC r k)=.ok (t,SC a k)):bJ (bg [(24,i)] aj) zA fl (St q r k)=.ok (t,St q a k):=XZ (ob:=⟨24,[.val<|.str r,.val<|.int k]⟩) (s1:=St q r k) J J J c b
def lU(h:strip S1 r=Y):cN (n+1) 82 [.own 0,.str S1] (SC r k)=.ok (.bl Zi,SC r k):=by
 rw[w82];refine gC J (CV<|Dt (s':=St [Kj S1] r k) ?_ J) J;show fm _ (St [Kj S1] r k)=_;simp only[ev,SX,ZZ,qy,JB,Gi,j3 h,MU]
def j4{a:Tx}(h:strip S1 r=U a):cN (n+1) 82 [.own 0,.str S1] (SC r k)=.ok (.bl O,SC a k):=by
 rw[cX h,w82];refine gC J (seq1 (s':=St [Kj S1] (S1++a) k) (qP (s':=St [Kj S1] (S1++a) k) ?_ J)<|seq1 (S9 (l:=a) ?_) J) J
 .show fm _ (St [Kj S1] (S1++a) k)=_
  simp only[ev,SX,ZZ,qy,JB,Gi,pre_app,MT]
 .simp only[ev,SX,ZZ,qy,JB,cJ,QG,QH,pR]
def Be(z:Bd r):RF k (λ_=>.non) ((strip S1 r).map λr=>((),r))<|cN (n+2) 83 [.own 0,.str S1]<|SC r k:=by
 rw[w83];cases h:strip S1 r with
 |some a=>
  refine⟨XY J (qP (s':=St [Kj S1] a k) ?_ J) J,jk h z⟩;refine wI<|Yg<|ZY ?_;exact sm (ts:=[.str S1]) J<|j4 n h
 |none=>
  show Xc k<|aH 2 2 _ _ _;refine gK (v:=λ_:Unit=>.non) (o:=Y) J ?_;show Xc k<|aO (b8 _) _ _<|St [Kj S1] r k;have b:b8 (fm<|D.tB<|bJ (bg [(24,82)]<|cN<|n+1) zA<|k1 zB) (St [Kj S1] r k)=.ok (O,St [Kj S1] r k):=wI<|Ye<|qz<|sm (ts:=[.str S1]) J<|lU n h;unfold aO;rw[b];show Xc k<|bW (lP 24 (cN (n+1) 81) zA bD)<|St [Kj S1] r k;exact df<|C5 (v:=λ_:Unit=>.non) (o:=Y) (ts:=[]) (fl:=bD) J<|pZ n
def lV{g:Tx->Option (α×Tx)}(z:Bd r)(b:∀a,strip S1 r=U a->Bd a->RB k v (g a) (B<|St q a k)):RB k v ((strip S1 r).bind g)<|ah (bW<|lP 24 (cN (nn+2) 83) zA<|k1<|bO<|cS S1) B<|St q r k:=by
 have h:=C5 (q:=q) (ts:=[.str S1]) (fl:=k1<|bO<|cS S1) J<|Be (k:=k) (S1:=S1) nn z;cases e:strip S1 r with
 |none=>
  rw[e]at h;exact df<|df h
 |some a=>
  rw[e]at h;unfold ah bW;rw[h.1];exact b a e h.2
def c8{g:Tx->Option (α×Tx)}(z:Bd r)(f:∀a,strip S1 r=U a->Bd a->RB k v (g a) (A<|St q a k))(d:RB k v o<|B<|St q r k):RB k v ((strip S1 r).elim o g)<|ah (aO (b8<|D.tB<|bJ (bg [(24,82)]<|cN<|nn+1) zA<|k1<|cS S1) A az) B<|St q r k:=by
 unfold ah aO b8 D.tB;cases e:strip S1 r with
 |none=>
  rw[sm (ts:=[.str S1]) J<|lU nn e];exact d
 |some a=>
  rw[sm (ts:=[.str S1]) J<|j4 nn e];have h:=f a e<|jk e z;show RB k v (g a)<|Res.bind (A<|St q a k) _;cases b:g a with
  |none=>
   rw[b]at h;exact df h
  |some p=>
   rw[b]at h;obtain⟨⟨q2,i⟩,c⟩:=h;rw[i];exact⟨⟨q2,J⟩,c⟩
end
end K25
namespace K25
open List renaming length->Nv
open D PySem L2 PyProof.Rows
variable(n:Nat){m:List _root_.D.Ob}
theorem rY(S:Tx):∀r:Tx,r=(sp S r).1++(sp S r).2/\(∀c∈(sp S r).1,c∈S)/\∀c,(sp S r).2.head?=U c->c∉S
 |[]=>⟨J,(λ_ h=>nomatch h),(λ_ h=>nomatch h)⟩
 |c::r=>by
  unfold sp;split
  .rename_i h
   obtain⟨e,b,a⟩:=rY S r;refine⟨ey (c::·) e,λd hd=>?_,a⟩
   rcases bF.mp hd with z|z
   .rw[z];exact h
   .exact b d z
  .rename_i h
   refine⟨J,(λ_ h=>nomatch h),λd hd=>?_⟩;cases hd;exact h
def LW(c:Nat)(l:B1):aM .In (.str [c]) (.str l)=U (.bl<|decide<|c∈l):=J
def wJ:jC (.str<|P++c::R) (.int P.length)=U (.str [c]):=by
 show(atT (P++c::R) (Nv P:Int)).map _=_;rw[pT<|by simp]
 simp
section
variable{a b signs r:Tx}{m:FR}
theorem HX(g:∀c,b.head?=U c->c∉signs):∀(a P:B1)(f:Nat),(∀c∈a,c∈signs)->Nv a<f->W (bu (fY (D.aY<|bH (aM .Lt) zC<|aG cJ<|k1 zA)<|D.aY<|rO .In Zi 1<|oI zA zC) (Fx AL 2 zI) f ⟨[Kj<|P++(a++b),Kj signs,Ki P.length],m⟩) λq=>q=(.nx,⟨[Kj<|P++(a++b),Kj signs,Ki (P++a).length],m⟩)
 |_,_,0,_,h=>dy h<|Nn _
 |[],P,f+1,_,_=>by
  rw[BX,bG];cases b with
  |nil=>exact Yh (yP<|gD<|aP J J<|by rw[pV,ar<|by simp]) J
  |cons d r=>exact Yh ((jg (x:=O) (y:=Zi) (gD<|aP J J<|by rw[pV,cw<|by simp;lia])<|gD<|aP (a:=oI zA zC) (b:=vF 1) (aP J J wJ) J<|by rw[LW,ar<|g d J])) J
 |c::a,P,f+1,i,h=>by
  have e:=HX g a (P++[c]) f (λd hd=>i d<|bw _ hd)<|Nat.lt_of_succ_lt_succ h;rw[dU,dU,cA (bs:=[c])]at e;exact S3 (jg (x:=O) (y:=O) (gD<|aP J J<|by rw[pV,cw<|by simp;lia])<|gD<|aP (a:=oI zA zC) (b:=vF 1) (aP J J wJ) J<|by rw[LW,cw<|i c<|eX ..])<|W.of J ⟨J,e⟩
def S_(f:∀c∈a,c∈signs)(e:∀c,b.head?=U c->c∉signs)(hl:Nv a<200000):cN (n+1) 1 [.str<|a++b,.str signs] m=.ok (.str a,m):=by
 rw[w1];refine sEq J J J<|bS (t:=.int 0) J<|lR<|(HX e a [] many f<|by show Nv a<1000000;exact eS hl<|by decide).mono λq d=>⟨by rw[d],?_⟩
 rw[d];refine bR (t:=.str a) ?_ J;simp only[ev,SX,qy,JB,QH,BX,HH]
def Bf(z:Bd r):cN (n+2) 84 [.own 0,.str signs] (SC r k)=.ok (.str (sp signs r).1,SC (sp signs r).2 k):=by
 obtain⟨c,e,d⟩:=rY signs r
 generalize (sp signs r).1=a at c e ⊢
 generalize (sp signs r).2=b at c d ⊢
 subst c;have hl:Nv a<200000:=by unfold Bd at z;rw[cA]at z;lia
 rw[w84];refine gC (s':=St [Kj signs,Kj a] b k) J (seq1 (s':=St [Kj signs,Kj a] (a++b) k) ?_<|seq1 (S9 (l:=b) ?_) J) J
 .exact dM (s':=St [Kj signs,Y] (a++b) k)<|je (ts:=[.str<|a++b,.str signs]) (s':=St [Kj signs,Y] (a++b) k) J<|S_ n e d hl
 .simp only[ev,SX,ZZ,qy,JB,cJ,QG,QH,pR]
def OG(S:Tx)(z:Bd r):Bd (sp S r).2/\Bd (sp S r).1:=by
 have h:=ey xH (rY S r).1;rw[cA]at h;unfold Bd at z ⊢;constructor<;>lia
end
def HZ(d:Tx):Bool:=match qL [.str d]with
 |U<|.int i=>decide<|i=vl d
 |_=>Zi
def LX(h:HZ d=O):qL [.str d]=U (.int<|vl d):=by
 unfold HZ at h;split at h
 .rename_i i e;rw[e,bt h]
 .cases h
def LY:dZ.all (λa=>HZ [a])=O:=by decide +kernel
def LZ:dZ.all (λa=>dZ.all λb=>HZ [a,b])=O:=by decide +kernel
def L7:dZ.all (λa=>dZ.all λb=>dZ.all λc=>HZ [a,b,c])=O:=by decide +kernel
def Tc(hd:∀c∈d,c∈dZ)(h0:d≠[])(hl:Nv d<=3):qL [.str d]=U (.int<|vl d):=by
 apply LX
 match d,h0,hl with
 |[a],_,_=>exact bz.mp LY a<|hd a<|by simp
 |[a,b],_,_=>exact bz.mp (bz.mp LZ a<|hd a<|by simp) b<|hd b<|by simp
 |[a,b,c],_,_=>exact bz.mp (bz.mp (bz.mp L7 a<|hd a<|by simp) b<|hd b<|by simp) c<|hd c<|by simp
def lW{lo a:Int}(z:Bd r):RF k .int (iP lo a r)<|cN (n+3) 24 [.own 0,.int lo,.int a]<|SC r k:=by
 rw[w24];obtain⟨e,g⟩:=OG dZ z;have f:=(rY dZ r).2.1;refine gK J<|yS (s':=St [Ki lo,Ki a,Kj (sp dZ r).1,Y] (sp dZ r).2 k) (dM<|sm (ts:=[.str dZ]) J<|Bf n z) ?_;unfold iP;dsimp only
 generalize (sp dZ r).1=d at f g ⊢
 generalize (sp dZ r).2=b at e ⊢
 refine rW ?_ λc=>yS (s':=St [Ki lo,Ki a,Kj d,Ki<|vl d] b k) ?_<|rW ?_ λ_=>jI (t':=vl d) (q:=[Ki lo,Ki a,Kj d,Ki<|vl d]) J e
 .exact wG (gD<|pE J J<|pU ..)<|wG (qz<|yO (l:=d) (ts:=[.str [48]]) J J J)<|gD<|pE (t:=.int (Nv d:Nat)) J J<|wF ..
 .rw[uS,uS]at c
  exact dM (s':=St [Ki lo,Ki a,Kj d,Y] b k)<|dz (s':=St [Ki lo,Ki a,Kj d,Y] b k) (ts:=[.str d]) J<|Tc f (lh c.1)<|by have:=lh c.2.2;lia
 .exact wG (gD<|pE (t:=.int<|vl d) (u:=.int lo) J J<|pV ..)<|gD<|pE (t:=.int<|vl d) (u:=.int a) J J<|wF ..
def nT(z:Bd r):RF k .str (nameP r)<|cN (n+3) 25 [.own 0]<|SC r k:=by
 rw[w25];obtain⟨a,b⟩:=OG eK z;refine gK J<|yS (s':=St [Kj (sp eK r).1] (sp eK r).2 k) (dM<|sm (ts:=[.str eK]) J<|Bf n z) ?_;unfold nameP;dsimp only
 generalize sp eK r=p at a b ⊢
 refine rW ?_ λ_=>jI (t':=p.1) (q:=[Kj p.1]) J a;exact wG (gD<|pE J J<|pU ..)<|gD<|pE (t:=.int (Nv p.1:Nat)) J J<|wF ..
theorem fM:∀{r:Tx}{p:Tx×Tx},cutAt c r=U p->r=p.1++c::p.2/\c∉p.1
 |[],p,h=>by cases h
 |d::r,p,h=>by
  unfold cutAt at h;split at h
  .rename_i e;cases h;rw[e];exact⟨J,λz=>nomatch z⟩
  .rename_i e
   obtain⟨q,f,rfl⟩:=d_.mp h;obtain⟨b,a⟩:=fM f;refine⟨ey (d::·) b,λz=>?_⟩
   rcases bF.mp z with z|z
   .exact e z.symm
   .exact a z
theorem p9:∀{r:Tx},cutAt c r=Y->c∉r
 |[],_,z=>nomatch z
 |d::r,h,z=>by
  unfold cutAt at h;split at h
  .cases h
  .rename_i e
   rcases bF.mp z with z|z
   .exact e z.symm
   .exact p9 (Option.map_eq_none_iff.mp h) z
theorem nU:∀{a b:Tx},c∉a->cutAt c (a++c::b)=U (a,b)
 |[],b,_=>by show(if c=c then _ else _)=_;rw[cv J]
 |d::a,b,h=>by
  show(if d=c then _ else _)=_
  rw[cb λz=>h<|by rw[z];exact eX ..]
  exact ey _<|nU (b:=b) λz=>h<|bw _ z
def occ_none(c:Nat)(D R:Tx)(h:c∉R):dA ⟨(D++R).toArray⟩ ⟨[c].toArray⟩ D.length (D++R).length 1=[]:=by
 rw[Iy];rcases occ_first ⟨(D++R).toArray⟩ ⟨[c].toArray⟩ (D++R).length ((D++R).length+1-Nv D) D.length D.length (eA _)with⟨a,b⟩|⟨i,a,b,f,d,g⟩
 .rw[a]
 .have e:=(uy c _ _).mp d
  rw[gz b]at e;exact dy (gZ e) h
def H0(c:Nat)(R:Tx)(h:c∉R):jG R [.str [c]]=U (.int<|-1):=by
 have:=occ_none c [] R h
 rw[BX]at this;show U (T.int<|oP _ _)=_;unfold oP;rw[wA];have e:dA ⟨R.toArray⟩ ⟨[c].toArray⟩ 0 R.length 1=[]:=this;rw[e]
def L8(c:Nat)(D R:Tx)(h:c∉R):jG (D++R) [.str [c],.int (Nv D:Nat)]=U (.int<|-1):=by
 show U (T.int<|n4 _ _ _)=_;unfold n4;have ś:n7 (⟨(D++R).toArray⟩:oi).length ((Nv D:Nat):Int)=Nv D:=by
  unfold n7;rw[cb<|by lia]
  lia
 rw[ś,wA,occ_none c D R h]
def qS(a b:Int):aM .Eq (.int a) (.int b)=U (.bl<|decide<|a=b):=J
def C6:kD (.int 1)=U (.int<|-1):=J
def H_(z:Bd r):RF k .str (HR c r)<|cN (n+3) 85 [.own 0,.str [c]]<|SC r k:=by
 rw[w85];refine gK J ?_;have h:=C5 (q:=[Kj [c],Y,Y]) (fl:=k1<|bO zB) (ts:=[.str [c]]) J<|Be (k:=k) (S1:=[c]) n z;unfold HR;cases e:strip [c] r with
 |none=>
  rw[e]at h;exact df<|df h
 |some a=>
  rw[e]at h;have hd:bW (lP 24 (cN (n+2) 83) zA<|k1<|bO zB) (St [Kj [c],Y,Y] r k)=.ok (.nx,St [Kj [c],Y,Y] a k):=by unfold bW;rw[h.1];rfl
  refine Yk hd ?_;show RB k .str (cutAt c a) _;cases d:cutAt c a with
  |none=>
   refine yS (s':=St [Kj [c],Ki<|-1,Y] a k) (dM (s':=St [Kj [c],Y,Y] a k)<|yO (s1:=St [Kj [c],Y,Y] a k) (l:=a) (ts:=[.str [c]]) J J<|H0 c a<|p9 d) ?_;exact rW (v:=T.str) (o:=Y) (y:=O) (gD<|pE (t:=.int<|-1) (u:=.int<|-1) J (xC (t:=.int 1) J C6) J) λz=>by cases z
  |some p=>
   obtain⟨g,f⟩:=fM d;obtain⟨l,b⟩:=p;subst g;refine yS (s':=St [Kj [c],Ki l.length,Y] (l++c::b) k) (dM (s':=St [Kj [c],Y,Y] (l++c::b) k)<|yO (s1:=St [Kj [c],Y,Y] (l++c::b) k) (l:=l++c::b) (ts:=[.str [c]]) J J<|CW c l b f) ?_;refine rW (y:=Zi) (o:=U (l,b)) (gD<|pE (t:=.int (Nv l:Nat)) (u:=.int<|-1) J (xC (t:=.int 1) J C6)<|by rw[qS,ar<|by lia]) λ_=>?_
   refine yS (s':=St [Kj [c],Ki l.length,Kj l] (l++c::b) k) (dM<|HQ (x:=Y) (y:=U (Nv l:Int)) J J J<|by show U (T.str _)=_;rw[HH]) ?_
   have i:bf (l++c::b) (U<|(Nv l:Int)+1) Y=b:=by
    have:=pR (l++[c]) b
    rw[dU,cA]at this;exact this
   refine yS (s':=St [Kj [c],Ki l.length,Kj l] b k) (S9<|HQ (x:=U<|(Nv l:Int)+1) (y:=Y) J J J<|by show U (T.str _)=_;rw[i])<|jI (t':=l) (q:=[Kj [c],Ki l.length,Kj l]) J ?_
   have:=h.2
   unfold Bd at this ⊢;rw[cA,eu]at this;show Nv b<=_
   lia
def Td(S:Tx):T->T
 |.str [c]=>.bl<|decide<|c∈S
 |_=>.non
theorem jy{α:Type}(f:α->Bool):∀l:List α,boolsOf (l.map λw=>T.bl<|f w)=U (l.map f)
 |[]=>J
 |w::l=>by
  show(boolsOf<|l.map λw=>T.bl<|f w).map _=_;rw[jy f l];rfl
abbrev Yl(l:Tx):FC:=l.map λc=>T.str [c]
def wK(S l:Tx):(Yl l).map (Td S)=l.map λc=>T.bl<|decide<|c∈S:=by rw[qC];rfl
def p_{l signs:Tx}(hl:Bd l):cN (n+1) 0 [.str l,.str signs] m=.ok (.bl<|wH signs l,m):=by
 rw[w0];refine fL (m':=[]) J (gC (s':=⟨[Kj l,Kj signs],[]⟩) J (nA<|dz (ts:=[.lst<|(Yl l).map<|Td signs]) (aQ (jH<|jf (ts:=Yl l) (s1:=⟨[Kj l,Kj signs],[]⟩) J (by rw[cU];exact eY hl<|by decide)<|iC λt a=>?_) J) ?_) J) J
 .obtain⟨c,b,rfl⟩:=lr.mp a
  exact⟨[Y,Kj [c],Kj signs],[Y,Kj [c],Kj signs],J,J⟩
 .rw[wK]
  simp only[KI,QI,jy,Dw,DO];rfl
def wL(z:Bd r):RF k .str (jh r)<|cN (n+4) 26 [.own 0]<|SC r k:=by
 rw[w26];refine gK J<|mP (v:=T.str) (o:=HR 34 r) (q:=[Y]) (C5 (ts:=[.str [34]]) J<|H_ n z) λp a c=>?_;have b:Bd p.1:=by
  unfold HR at a;obtain⟨h,g,f⟩:=a_.mp a;have e:=ey xH (fM f).1;have d:=jk g z;rw[cA]at e;unfold Bd at d ⊢
  lia
 refine rW (q:=[Kj p.1]) ?_ λ_=>jI (t':=p.1) (q:=[Kj p.1]) J c;exact wG (gD<|pE (t:=.int (Nv p.1:Nat)) J J<|wF ..)<|C4<|qz<|cE (ts:=[.str p.1,.str dB]) J<|p_ (n+2) b
def X3(x:Res α):Prop:=∃s,x=.exc 3 [] s
section
variable(v:α->T)(o:Option α)
def QF(m:FR)(x:Res<|T×FR):Prop:=match o with
 |some a=>x=.ok (v a,m)
 |none=>∃s:S,s.m=m/\x=.exc 3 [] s
def QB(x:Res<|Out×S):Prop:=match o with
 |some a=>∃q,x=.ok (.rt<|v a,⟨q,[]⟩)
 |none=>X3 x
end
section
variable{v:α->T}{o:Option α}{A B:FS}{fl:FL}{u n i:Nat}{m:FR}
def iD{g:α->Res j}(h:X3 x):X3<|x.bind g:=by
 obtain⟨s,rfl⟩:=h;exact⟨s,J⟩
def rZ(h:aK ts=O)(hl:Nv ts=u)(d:∀a,o=U a->noOwn (v a)=O)(c:QB v o<|B ⟨ts.map (λt=>sv t)++eQ (n-Nv ts) Y,[]⟩):QF v o m<|aI (aH u n B) ts m:=by
 unfold aI;rw[cv h];unfold aH;rw[cv hl];cases o with
 |none=>
  obtain⟨e,b⟩:=c;rw[b];exact⟨_,J,J⟩
 |some a=>
  obtain⟨q,b⟩:=c;rw[b];show(if noOwn (v a)=O then _ else _)=_
  rw[cv<|d a J]
def JD(b:c s=.ok (y,s))(he:e s=.ok (t,s'))(d:y=Zi->QB v o (B s)):QB v (if y=O then Y else o)<|ah (aO (b8 c) (yD 3 e) az) B s:=by
 unfold ah aO b8;rw[b];cases y with
 |false=>exact d J
 |true=>
  have a:X3<|yD 3 e s:=by
   unfold yD;rw[he];exact⟨_,J⟩
  exact iD a
def L_(h:A s=.ok (.nx,s'))(a:QB v o<|B s'):QB v o<|ah (eV A) B s:=by
 unfold ah eV;rw[h];exact a
def C7(h:e s=.ok (v a,⟨q,[]⟩)):QB v (U a)<|eV (ao e) s:=by
 unfold eV ao;rw[h];exact⟨_,J⟩
def Ym(a:c s=.ok (Zi,s))(b:QB v o<|B s):QB v o<|ah (aO (b8 c) A az) B s:=by
 unfold ah aO b8;rw[a];exact b
def Te(d:c s=.ok (O,s))(b:QB v o<|A s):QB v o<|ah (aO (b8 c) A az) B s:=by
 unfold ah aO b8;rw[d];show QB v o<|Res.bind (A s) _;cases o with
 |none=>exact iD b
 |some a=>
  obtain⟨q,e⟩:=b;rw[e];exact⟨q,J⟩
def QE(s:S)(x:Res<|T×S):Prop:=match o with
 |some a=>x=.ok (v a,s)
 |none=>x=.exc 3 [] s
def wM(h:fl s=.ok (ts,s))(d:QF v o s.m<|f ts s.m):QE (v:=v) (o:=o) s<|af f [] fl s:=by
 unfold af;rw[h];show QE s<|match f (ts++[]) s.m with|.ok q=>_|.bad=>_|.exc c fs s'=>_
 rw[bG];cases o with
 |none=>
  obtain⟨e,g,b⟩:=d;rw[b];show Res.exc 3 [] (⟨s.r,e.m⟩:S)=_;rw[g]
 |some a=>
  have b:f ts s.m=.ok (v a,s.m):=d;rw[b];rfl
def Ŧ{g:α->Option j}(h:QE (v:=v) (o:=o) s<|e s)(b:∀a,o=U a->QB w (g a) (B<|jE s i<|.val<|v a)):QB w (o.bind g)<|ah (aA i e) B s:=by
 cases o with
 |none=>exact iD<|iD ⟨_,h⟩
 |some a=>
  have c:=b a J;have d:e s=.ok (v a,s):=h;unfold ah aA;rw[d];exact c
def ŧ(h:QE (v:=v) (o:=o) ⟨q,[]⟩<|e ⟨q,[]⟩):QB v o<|ao e ⟨q,[]⟩:=by
 cases o with
 |none=>exact iD ⟨_,h⟩
 |some a=>
  have b:e ⟨q,[]⟩=.ok (v a,⟨q,[]⟩):=h;refine⟨q,?_⟩;unfold ao;rw[b];rfl
end
def Yn(c:Nat)(l:B1):aM .NotIn (.str [c]) (.str l)=U (.bl<|!decide (c∈l)):=J
def wN(h:a s=.ok (.bl x,s1))(c:x=O->b s1=.ok (.bl y,s1)):oZ a b s=.ok (.bl<|x&&y,s1):=by
 unfold oZ;rw[h];refine Eq.trans (qy _ _) ?_;cases x with
 |true=>exact c J
 |false=>rfl
def Ib:cN (n+1) 2 [.str [c]] m=.ok (.bl<|mL c,m):=by
 rw[w2];refine fL (m':=[]) J (gC (s':=⟨[Kj [c]],[]⟩) J (nA<|wN (x:=decide<|c∈dB) (y:=!decide (c∈ZX)) ?_ λ_=>?_) J) J
 .exact aP J J<|LW c dB
 .exact aP J J<|Yn c ZX
def yT(a b:T):aE [a,b]=U (.tup [a,b]):=iR (by show 2<=1000;decide)
def Ic(a b c:T):aE [a,b,c]=U (.tup [a,b,c]):=iR (by show 3<=1000;decide)
abbrev s2(a b:T):S:=⟨[sv a,sv b],[]⟩
def Ie:cN (n+2) 9 [.str sg,.bl ot] m=.ok (.bl<|!ot&&(decide (Nv sg=1)&&sg.all mL),m):=by
 rw[w9];refine fL (m':=[]) J (gC (s':=s2 (.str sg)<|.bl ot) J (nA<|wN (x:=!ot) (y:=decide (Nv sg=1)&&sg.all mL) J λ_=>wN (x:=decide<|sg.length=1) (y:=sg.all mL) ?_ λh=>?_) J) J
 .refine aP (t:=.int (Nv sg:Nat)) J J<|(qS _ _).trans ?_
  congr 2
  apply decide_eq_decide.mpr
  lia
 .obtain⟨c,rfl⟩:=List.length_eq_one_iff.mp<|bt h
  refine(cE (ts:=[.str [c]]) J<|Ib n).trans ?_;simp
theorem qa:∀(l a:B1),(Pf.fK a l).length<=Nv a+Nv l
 |[],a=>eA _
 |c::l,a=>by
  rw[Pf.fK];split
  .have:=qa l a;rw[eu];lia
  .have:=qa l<|c::a;rw[eu]at this ⊢;lia
theorem Bg:∀(l a:B1),(Pf.fK a l).length=Nv a+Nv l ↔ ((∀c∈l,c∉a)/\l.Nodup)
 |[],a=>⟨λ_=>⟨(λ_ h=>nomatch h),Nb⟩,λ_=>J⟩
 |c::l,a=>by
  rw[Pf.fK];split
  .rename_i h
   constructor
   .intro e
    have:=qa l a
    rw[eu]at e
    lia
   .intro e;exact dy h<|e.1 c<|eX ..
  .rename_i h
   have b:=Bg l<|c::a;rw[eu]at b;rw[eu];constructor
   .intro e
    obtain⟨g,i⟩:=b.mp (by lia)
    refine⟨λd hd=>?_,mT.mpr ⟨λz=>g c z<|eX ..,i⟩⟩;rcases bF.mp hd with z|z
    .rw[z];exact h
    .exact λy=>g d z<|bw _ y
   .intro e
    have f:=mT.mp e.2
    have:=b.mpr ⟨λd hd y=>?_,f.2⟩
    .lia
    .rcases bF.mp y with z|z
     .rw[z]at hd;exact f.1 hd
     .exact e.1 d (bw _ hd) z
def Ũ(a b:Int):aM .NotEq (.int a) (.int b)=U (.bl<|!decide (a=b)):=J
def OH(h:c∈dB):c<128:=by
 have:dB.all (λc=>decide<|c<128)=O:=by decide
 exact bt<|bz.mp this c h
def Ma(h:c s=.ok (y,s))(d:y=O->a s=q)(e:y=Zi->b s=q):rF c a b s=q:=by
 unfold rF;rw[h];cases y with
 |true=>exact d J
 |false=>exact e J
def wQ(l:Tx):bf l (U 1) Y=l.drop 1:=by
 unfold bf gu;dsimp only;rw[cb<|by decide]
 cases l with
 |nil=>rfl
 |cons a l=>simp
abbrev s8(ins:Tx)(mn:Nat)(ot:Bool)(sg:Tx):S:=⟨[Kj ins,Kj [mn],sv<|.bl ot,Kj sg],[]⟩
def Tf{mn:Nat}(g:∀c∈ins,c∈dB)(hl:Bd ins):QF Itm.val (k8 ins mn) m<|cN (n+3) 8 [.str ins,.str [mn]] m:=by
 rw[w8];refine rZ J J (λ_ _=>J) ?_;unfold k8;dsimp only;have b:∀c∈(if pre [94] ins=O then ins.drop 1 else ins),c∈dB:=by
  split
  .exact λc d=>g c<|uX d
  .exact g
 have i:Bd<|if pre [94] ins=O then ins.drop 1 else ins:=by
  split
  .unfold Bd at hl ⊢;rw[BU];lia
  .exact hl
 refine L_ (s':=⟨[Kj ins,Kj [mn],sv<|.bl<|pre [94] ins,Y],[]⟩) (dM (s':=⟨[Kj ins,Kj [mn],Y,Y],[]⟩)<|yO (l:=ins) (ts:=[.str [94]]) J J J)<|L_ (s':=s8 ins mn (pre [94] ins)<|if pre [94] ins=O then ins.drop 1 else ins) (dM (s':=⟨[Kj ins,Kj [mn],sv<|.bl<|pre [94] ins,Y],[]⟩)<|Ma (y:=pre [94] ins) J (λh=>?_) λh=>?_) ?_
 .rw[cv h]
  exact HQ (x:=U 1) (y:=Y) J J J (by show U (T.str _)=_;rw[wQ])
 .rw[h];rfl
 generalize (if pre [94] ins=O then ins.drop 1 else ins)=sg at b i ⊢
 generalize pre [94] ins=ot
 refine JD (wG (gD<|pE J J<|pU ..)<|gD<|pE (t:=.int (Nv sg:Nat)) J J<|wF ..) J λh0=>JD (y:=sg.any λc=>decide<|c∈[93,94,47]) (s:=s8 ins mn ot sg) (qz ?_) J λ_=>?_
 .refine dz (ts:=[.lst<|(Yl sg).map<|Td [93,94,47]]) (aQ (jH<|jf (ts:=Yl sg) (s1:=s8 ins mn ot sg) J (by rw[cU];exact eY i<|by decide)<|iC λt j=>?_) J) ?_
  .obtain⟨c,d,rfl⟩:=lr.mp j
   exact⟨[Y,Kj [c]],[Y,Kj [c]],J,J⟩
  .rw[wK]
   simp only[yr,Kl,jy,Dw,DP];rfl
 .have p:pJ (.str sg)=U (.int ((Pf.fK [] sg).length:Nat)):=by
   show gd _ _=_;exact iR ⟨bz.mpr λc d=>cw<|OH<|b c d,by have:=lh (uS.mp h0).2;show Nv sg<=4000;lia⟩
  have k:decide (¬ sg.Nodup)=!decide (((Pf.fK [] sg).length:Int)=(Nv sg:Nat)):=by
   have:=Bg sg []
   rw[xJ,ow]at this;by_cases h:sg.Nodup
   .rw[ar<|by simpa using h,cw (by have:=this.mpr ⟨(λ_ _ z=>nomatch z),h⟩;lia)];rfl
   .rw[cw h,ar λz=>h (this.mp<|by lia).2];rfl
  have f:=JD (s:=s8 ins mn ot sg) (v:=Itm.val) (o:=if(!ot&&(decide (Nv sg=1)&&sg.all mL))=O then Y else U ⟨sg,ot,mn⟩) (y:=!decide (((Pf.fK [] sg).length:Int)=(Nv sg:Nat))) (c:=D.aY<|bH (aM .NotEq) (dE pJ zD)<|aG cJ<|k1 zD) (e:=cS X7) (gD<|pE (t:=.int ((Pf.fK [] sg).length:Nat)) (u:=.int (Nv sg:Nat)) (xC (t:=.str sg) J p) J<|Ũ ..) J λ_=>JD (c:=D.tB<|af (cN (n+2) 9) []<|k2 zD zC) (s:=s8 ins mn ot sg) (e:=cS X8) (qz<|cE (ts:=[.str sg,.bl ot]) J<|Ie n) J λ_=>C7 (a:=(⟨sg,ot,mn⟩:Itm)) (e:=aG aE<|k3 zD zC zB)<|dz (ts:=[.str sg,.bl ot,.str [mn]]) J<|Ic ..
  rw[<- k]at f;simp only[c7]at f;exact f
abbrev s7(c:Tx)(mn:Nat):S:=⟨[Kj c,Kj [mn]],[]⟩
def Z2(c mn:Nat):Option Itm:=if c=46 then U ⟨[],O,mn⟩else if mL c=O then U ⟨[c],Zi,mn⟩else Y
def Ig{c mn:Nat}(f:c∈dB)(g:c≠91):QF Itm.val (Z2 c mn) m<|cN (n+4) 7 [.str [c],.str [mn]] m:=by
 rw[w7];refine rZ J J (λ_ _=>J) ?_;show QB _ _<|ah _ _<|s7 [c] mn;unfold Z2;split
 .rename_i e
  subst e;exact Te J<|C7 (a:=(⟨[],O,mn⟩:Itm))<|dz (ts:=[.str [],.bl O,.str [mn]]) J<|Ic ..
 .rename_i e
  refine Ym (gD<|pE J J<|(pU ..).trans<|by rw[ar λz=>e<|by injection z])<|Ym (qz<|yO (l:=[c]) (ts:=[.str [91]]) J J<|by show U (T.bl _)=_;rw[uz<|et g]) ?_
  have b:=JD (s:=s7 [c] mn) (v:=Itm.val) (o:=U ⟨[c],Zi,mn⟩) (y:=!mL c) (c:=fm<|D.tB<|af (cN (n+3) 2) []<|k1 zA) (e:=dE ZJ zA) (t:=.str []) (C4<|qz<|cE (ts:=[.str [c]]) J<|Ib<|n+2) (xC (t:=.str [c]) J<|iR ⟨by show 1<=1000;decide,by have:=OH f;simp;lia⟩) λ_=>C7 (a:=(⟨[c],Zi,mn⟩:Itm)) (e:=aG aE<|k3 zA (cF<|.bl Zi) zB)<|dz (ts:=[.str [c],.bl Zi,.str [mn]]) J<|Ic ..
  cases d:mL c with
  |true=>rw[d]at b;exact b
  |false=>rw[d]at b;exact b
def Tg(a b:Nat)(l:B1):bf (a::(l++[b])) (U 1) (U<|-1)=l:=by
 have d:gu (a::(l++[b])).length 0 (U 1)=1:=by
  unfold gu;dsimp only;rw[cb<|by decide]
  simp
 have c:gu (a::(l++[b])).length (a::(l++[b])).length (U<|-1)=Nv l+1:=by
  unfold gu;dsimp only;rw[cv<|by decide]
  simp;lia
 unfold bf;rw[d,c];simp
def Ih{mn:Nat}(a:∀c∈ins,c∈dB)(hl:Bd ins):QF Itm.val (k8 ins mn) m<|cN (n+4) 7 [.str<|91::(ins++[93]),.str [mn]] m:=by
 rw[w7];refine rZ J J (λ_ _=>J) ?_;show QB _ _<|ah _ _<|s7 (91::(ins++[93])) mn;refine Ym (gD<|pE J J<|(pU ..).trans<|by rw[ar (λz=>by injection z with z _;cases z)])<|Te (qz<|yO (l:=91::(ins++[93])) (ts:=[.str [91]]) J J<|by show U (T.bl _)=_;rw[show pre [91] (91::(ins++[93]))=O from pre_app [91] _])<|ŧ<|wM (ts:=[.str ins,.str [mn]]) ?_<|Tf n a hl
 refine aQ (t:=.str ins) (s1:=s7 (91::(ins++[93])) mn) (wI<|HQ (x:=U 1) (y:=U<|-1) J J J ?_) J;show U (T.str _)=_;rw[Tg]
abbrev s5(b:Tx)(p:Nat):S:=⟨[Kj b,Ki (p:Nat),Y],[]⟩
def Yo(a b:B1):aM .NotEq (.str a) (.str b)=U (.bl<|!decide (a=b)):=J
def Mb(d c:Nat)(R:Tx):Option Nat:=if c=91 then(cutAt 93 R).map λp=>d+(Nv p.1+2)else U (d+1)
def Ii:QF (λp:Nat=>.int (p:Nat)) (Mb D.length c R) m<|cN (n+1) 5 [.str<|D++c::R,.int (Nv D:Nat)] m:=by
 rw[w5];refine rZ J J (λ_ _=>J) ?_;show QB _ _<|ah _ _<|s5 (D++c::R) D.length;have d:_root_.D.aY (bH (aM .NotEq) (oI zA zB)<|cS [91]) (s5 (D++c::R) D.length)=.ok (!decide ([c]=[91]),s5 (D++c::R) D.length):=gD<|pE (pE J J wJ) J<|Yo ..;unfold Mb;split
 .rename_i e
  subst e;refine Ym (by rw[d];rfl) ?_
  have g:cutAt 93 R=Y->jG (D++91::R) [.str [93],.int (Nv D:Nat)]=U (.int<|-1):=λh=>L8 93 D (91::R) (by
   intro z;rcases bF.mp z with z|z
   .cases z
   .exact p9 h z)
  cases f:cutAt 93 R with
  |none=>
   refine L_ (s':=⟨[Kj<|D++91::R,Ki (Nv D:Nat),Ki<|-1],[]⟩) (dM (s':=s5 (D++91::R) D.length)<|yO (s1:=s5 (D++91::R) D.length) (l:=D++91::R) (ts:=[.str [93],.int (Nv D:Nat)]) J J<|g f) ?_;exact JD (o:=Y) (y:=O) (gD<|pE (t:=.int<|-1) (u:=.int<|-1) J (xC (t:=.int 1) J C6) J) J λz=>by cases z
  |some p=>
   obtain⟨j,i⟩:=fM f;obtain⟨ins,R2⟩:=p;subst j;have b:=HE 93 D (91::ins) R2 (by intro z;rcases bF.mp z with z|z;(cases z);exact i z)
   have b:jG (D++91::(ins++93::R2)) [.str [93],.int (Nv D:Nat)]=U (.int ((Nv D+(Nv ins+1):Nat):Int)):=b;refine L_ (s':=⟨[Kj<|D++91::(ins++93::R2),Ki (Nv D:Nat),Ki ((Nv D+(Nv ins+1):Nat):Int)],[]⟩) (dM (s':=s5 (D++91::(ins++93::R2)) D.length)<|yO (s1:=s5 (D++91::(ins++93::R2)) D.length) (l:=D++91::(ins++93::R2)) (ts:=[.str [93],.int (Nv D:Nat)]) J J b) ?_;exact JD (o:=U<|D.length+(Nv ins+2)) (y:=Zi) (gD<|pE (t:=.int ((Nv D+(Nv ins+1):Nat):Int)) (u:=.int<|-1) J (xC (t:=.int 1) J C6)<|by rw[qS,ar<|by lia]) J λ_=>C7 (v:=λp:Nat=>T.int (p:Nat)) (a:=Nv D+(Nv ins+2))<|pE (t:=.int ((Nv D+(Nv ins+1):Nat):Int)) (u:=.int 1) J J J
 .rename_i e
  refine Te (by rw[d,ar λz=>e<|by injection z];rfl)<|C7 (v:=λp:Nat=>T.int (p:Nat)) (a:=Nv D+1)<|pE (t:=.int (Nv D:Nat)) (u:=.int 1) J J J
def uB(h:c∈[42,43,63]):aR (c::R)=(c,R):=cv h
def nV(h:c∉[42,43,63]):aR (c::R)=(49,c::R):=cb h
def Mc:cN (n+1) 6 [.str<|D++R,.int (Nv D:Nat)] m=.ok (.str [(aR R).1],m):=by
 rw[w6];refine sEq J J J ?_;show WB (ah _ _) (s2 (.str<|D++R)<|.int (Nv D:Nat)) _;cases R with
 |nil=>exact bN (yP<|gD<|pE (t:=.int (Nv D:Nat)) (u:=.int ((D++[]).length:Nat)) J J<|(pV ..).trans<|by rw[ar<|by simp])<|bR J J
 |cons c R=>
  have a:fY (_root_.D.aY<|bH (aM .Lt) zB<|aG cJ<|k1 zA) (_root_.D.aY<|bH (aM .In) (oI zA zB)<|cS [42,43,63]) (s2 (.str<|D++c::R)<|.int (Nv D:Nat))=.ok (O&&decide (c∈[42,43,63]),s2 (.str<|D++c::R)<|.int (Nv D:Nat)):=jg (gD<|pE (t:=.int (Nv D:Nat)) (u:=.int ((D++c::R).length:Nat)) J J<|(pV ..).trans<|by rw[cw<|by simp;lia])<|gD<|pE (pE J J wJ) J<|LW ..
  by_cases h:c∈[42,43,63]
  .rw[uB h]
   exact bY (by rw[a,cw h];rfl)<|bR (pE J J wJ) J
  .rw[nV h]
   exact bN (by rw[a,ar h];rfl)<|bR J J
def wX(a:c s=.ok (O,s))(h:X3<|B s):X3<|bu (b8 c) B (k+1) s:=by
 show X3<|Res.bind (v_<|c s) _;rw[a];show X3<|Res.bind (B s) _;exact iD h
def wNx(a:c s=.ok (O,s))(h:B s=.ok (.nx,s1)):bu (b8 c) B (k+1) s=bu (b8 c) B k s1:=by
 show Res.bind (v_<|c s) _=_;rw[a];show Res.bind (B s) _=_;rw[h];rfl
def wEn(a:c s=.ok (Zi,s)):bu (b8 c) B (k+1) s=.ok (.nx,s):=by
 show Res.bind (v_<|c s) _=_;rw[a];rfl
def mt(m:Nat):Tx:=if m=49 then[]else[m]
def nW(R:Tx):R=mt (aR R).1++(aR R).2:=by
 cases R with
 |nil=>rfl
 |cons c R=>
  by_cases h:c∈[42,43,63]
  .have:c≠49:=λz=>by rw[z]at h;revert h;decide
   rw[uB h];show _=mt c++R;unfold mt;rw[cb this];rfl
  .rw[nV h];rfl
abbrev vals(l:List Itm):FC:=l.map Itm.val
abbrev s9(b:Tx)(au:List Itm)(p:Nat)(u v:Option C):S:=⟨[Kj b,U<|.ol<|vals au,Ki (p:Nat),u,v],[]⟩
def Yp(o:Option<|List Itm)(b:Tx)(done:List Itm)(x:Res<|Out×S):Prop:=match o with
 |some au=>∃p u v,x=.ok (.nx,s9 b (done++au) p u v)
 |none=>X3 x
def X3.seq1{A B:FS}(h:X3<|A s):X3<|ah A B s:=iD h
def X3.Yq{A B:FS}(h:A s=.ok (.nx,s'))(k:X3<|B s'):X3<|ah A B s:=by
 unfold ah;rw[h];exact k
def Me{D K R:Tx}{b:Option Itm}{done:List Itm}{u v:Option C}(hd:Nv done<1000000)(l:cN (n+4) 5 [.str<|D++(K++R),.int (Nv D:Nat)] []=.ok (.int ((Nv D+Nv K:Nat):Int),[]))(k:QF Itm.val b []<|cN (n+4) 7 [.str K,.str [(aR R).1]] []):match b with
  |some i=>∃g f,X_ (cN<|n+4) (s9 (D++(K++R)) done D.length u v)=.ok (.nx,s9 (D++(K++R)) (done++[i]) (D++(K++mt (aR R).1)).length g f)
  |none=>X3<|X_ (cN<|n+4)<|s9 (D++(K++R)) done D.length u v:=by
 have d:aA 3 (af (cN (n+4) 5) []<|k2 (bO zA)<|bO zC) (s9 (D++(K++R)) done D.length u v)=.ok (.nx,s9 (D++(K++R)) done D.length (Ki ((Nv D+Nv K:Nat):Int)) v):=dM (s':=s9 (D++(K++R)) done D.length u v)<|cE (ts:=[.str<|D++(K++R),.int (Nv D:Nat)]) J l;have c:eV (aA 4<|af (cN (n+4) 6) []<|k2 zA zD) (s9 (D++(K++R)) done D.length (Ki ((Nv D+Nv K:Nat):Int)) v)=.ok (.nx,s9 (D++(K++R)) done D.length (Ki ((Nv D+Nv K:Nat):Int))<|Kj [(aR R).1]):=by
  have:=Mc (n+3) (D:=D++K) (R:=R) (m:=[])
  rw[dU,cA]at this;exact wI<|dM (s':=s9 (D++(K++R)) done D.length (Ki ((Nv D+Nv K:Nat):Int)) v)<|cE (ts:=[.str<|D++(K++R),.int ((Nv D+Nv K:Nat):Int)]) J this
 have j:k2 (bO<|jQ zA (jv zC)<|jv zD) (bO<|vF 4) (s9 (D++(K++R)) done D.length (Ki ((Nv D+Nv K:Nat):Int))<|Kj [(aR R).1])=.ok ([.str K,.str [(aR R).1]],s9 (D++(K++R)) done D.length (Ki ((Nv D+Nv K:Nat):Int))<|Kj [(aR R).1]):=aQ (t:=.str K) (s1:=s9 (D++(K++R)) done D.length (Ki ((Nv D+Nv K:Nat):Int))<|Kj [(aR R).1]) (wI<|HQ (x:=U (Nv D:Nat)) (y:=U ((Nv D+Nv K:Nat):Int)) J J J<|by show U (T.str _)=_;rw[LR]) J
 have a:=wM (s:=s9 (D++(K++R)) done D.length (Ki ((Nv D+Nv K:Nat):Int))<|Kj [(aR R).1]) j k;cases b with
 |none=>
  refine X3.Yq d<|X3.Yq c<|X3.seq1 ?_;unfold gf;show X3<|Res.bind (af (cN (n+4) 7) [] _ _) _;exact iD ⟨_,a⟩
 |some i=>
  have a:af (cN (n+4) 7) [] _ _=Res.ok (i.val,_):=a;refine⟨Ki ((Nv D+Nv K:Nat):Int),Kj [(aR R).1],seq1 d<|seq1 c<|seq1 (pW (ts:=vals done) J a J<|by rw[cU];exact hd)<|wI<|dM (t:=.int ((D++(K++mt (aR R).1)).length:Nat)) (s':=⟨[Kj<|D++(K++R),U<|.ol<|vals done++[i.val],Ki (Nv D:Nat),Ki ((Nv D+Nv K:Nat):Int),Kj [(aR R).1]],[]⟩) ?_ |>.trans ?_⟩
  .refine Ma (y:=decide<|[(aR R).1]=[49]) (gD<|pE J J<|pU ..) (λh=>?_) λh=>?_
   .have e:(aR R).1=49:=by injection bt h
    have:(D++(K++mt (aR R).1)).length=Nv D+Nv K:=by rw[e];simp[mt]
    rw[this];rfl
   .have e:(aR R).1≠49:=λz=>lh h (by rw[z])
    show Res.ok (T.int<|((Nv D+Nv K:Nat):Int)+1,_)=_;unfold mt;rw[cb e,cA,cA];rfl
  .show Res.ok (Out.nx,(⟨[_,U<|.ol<|vals done++[i.val],_,_,_],[]⟩:S))=_
   rw[show vals done++[i.val]=vals (done++[i]) by simp]
theorem wR(n:Nat):∀(f g:Nat)(R D:Tx)(done:List Itm)(u v:Option C),(∀c∈R,c∈dB)->Nv R<=f->Nv R<g->Bd R->Nv done+Nv R<1000000 ->
  Yp (eL f R) (D++R) done (bu (b8<|_root_.D.aY<|bH (aM .Lt) zC<|aG cJ<|k1 zA) (X_<|cN<|n+4) g<|s9 (D++R) done D.length u v)
 |_,0,R,_,_,_,_,_,_,h,_,_=>dy h<|Nn _
 |f,g+1,[],D,done,u,v,_,_,_,_,_=>by
  cases f<;>exact⟨Nv D,u,v,by
   rw[bG];exact(wEn<|gD<|pE (t:=.int (Nv D:Nat)) (u:=.int (Nv D:Nat)) J J<|(pV ..).trans<|by rw[ar<|by simp]).trans<|by rw[bG]⟩
 |0,_+1,c::R,_,_,_,_,_,h,_,_,_=>dy h (by simp)
 |f+1,g+1,c::R,D,done,u,v,A,N,M,k,hd=>by
  have B:_root_.D.aY (bH (aM .Lt) zC<|aG cJ<|k1 zA) (s9 (D++c::R) done D.length u v)=.ok (O,s9 (D++c::R) done D.length u v):=gD<|pE (t:=.int (Nv D:Nat)) (u:=.int ((D++c::R).length:Nat)) J J<|(pV ..).trans<|by rw[cw<|by simp;lia]
  rw[eu]at N M hd;have z:∀d∈R,d∈dB:=λd hd=>A d<|bw _ hd;have r:Bd R:=by unfold Bd at k ⊢;rw[eu]at k;lia
  have step:∀(K R2:Tx)(w:Option Itm),c::R=K++R2->1<=Nv K->cN (n+4) 5 [.str<|D++(K++R2),.int (Nv D:Nat)] []=.ok (.int ((Nv D+Nv K:Nat):Int),[])->QF Itm.val w [] (cN (n+4) 7 [.str K,.str [(aR R2).1]] []) ->
    Yp (w.bind λi=>(eL f (aR R2).2).map λl=>i::l) (D++c::R) done (bu (b8<|_root_.D.aY<|bH (aM .Lt) zC<|aG cJ<|k1 zA) (X_<|cN<|n+4) (g+1)<|s9 (D++c::R) done D.length u v):=λK R2 w b W s G=>by
   have k:=Me n (done:=done) (u:=u) (v:=v) (by lia) s G
   rw[<- b]at k;cases w with
   |none=>exact wX B k
   |some i=>
    obtain⟨L,I,e⟩:=k;rw[wNx B e];have j:=nW R2;have Q:D++c::R=(D++(K++mt (aR R2).1))++(aR R2).2:=by
     rw[b,dU,dU,<- j]
    have hl:(aR R2).2.length<Nv R+1:=by
     have l1:=ey xH b;have l2:=ey xH j;rw[cA]at l1 l2;rw[eu]at l1
     lia
    have ũ:∀d∈(aR R2).2,d∈dB:=λd hd=>A d (by rw[b,j];exact lj _<|lj _ hd)
    have q:=wR n f g (aR R2).2 (D++(K++mt (aR R2).1)) (done++[i]) L I ũ (by lia) (by lia) (by unfold Bd at r ⊢;lia) (by rw[cA,sE];lia)
    rw[<- Q]at q;show Yp ((eL f (aR R2).2).map λl=>i::l) _ _ _;cases H:eL f (aR R2).2 with
    |none=>rw[H]at q;exact q
    |some l=>
     rw[H]at q;obtain⟨p,x,y,P⟩:=q;refine⟨p,x,y,?_⟩;rw[P,dU];rfl
  show Yp ((pX c R).bind λp=>(eL f p.2).map λl=>p.1::l) _ _ _;unfold pX;split
  .rename_i e
   subst e;have a:=Ii (n+3) (D:=D) (R:=R) (c:=91) (m:=[]);unfold Mb at a;rw[cv J]at a;cases j:cutAt 93 R with
   |none=>
    rw[j]at a;refine wX B<|X3.seq1<|iD ?_;exact⟨_,wM (v:=λp:Nat=>T.int (p:Nat)) (o:=Y) (ts:=[.str<|D++91::R,.int (Nv D:Nat)]) J a⟩
   |some p=>
    obtain⟨s,G⟩:=fM j;obtain⟨ins,R2⟩:=p;rw[j]at a;have V:∀d∈ins,d∈dB:=λd hd=>z d (by rw[s];exact DR _ hd)
    have S:Bd ins:=by
     have:=ey xH s
     rw[cA]at this;unfold Bd at r ⊢;show Nv ins<=_;lia
    have b:(91::R:Tx)=(91::(ins++[93]))++R2:=by rw[s];simp
    have:=step (91::(ins++[93])) R2 (k8 ins (aR R2).1) b (by simp) (by
     rw[<- b];refine a.trans ?_;rw[show(91::(ins++[93]):Tx).length=Nv ins+2 by simp])<|Ih n V S
    show Yp (((k8 ins (aR R2).1).map λi=>(i,(aR R2).2)).bind λp=>(eL f p.2).map λl=>p.1::l) _ _ _;rw[Option.bind_map];exact this
  .rename_i e
   have a:=Ii (n+3) (D:=D) (R:=R) (c:=c) (m:=[]);unfold Mb at a;rw[cb e]at a
   have:=step [c] R (Z2 c (aR R).1) J (by simp) a<|Ig n (A c<|eX ..) e
   unfold Z2 at this;split
   .rename_i F;rw[cv F]at this;exact this
   .rename_i F
    rw[cb F]at this;split
    .rename_i E;rw[cv E]at this;exact this
    .rename_i E;rw[cb E]at this;exact this
def qb(l:List Itm):aK (vals l)=O:=by
 induction l with
 |nil=>rfl
 |cons a l b=>show((O&&(O&&(O&&O)))&&aK (vals l))=O;rw[b];rfl
def c6(p:il):noOwn p.val=O:=by
 show(O&&(aK (vals p.au)&&(O&&O)))=O;rw[qb];rfl
def Ij(d:∀c∈R,c∈dB)(g:Nv R<=f)(b:Bd R):QF (λl=>.lst<|vals l) (eL f R) m<|cN (n+5) 4 [.str R] m:=by
 rw[w4];refine rZ J J (λa _=>qb a)<|L_ (s':=⟨[Kj R,U<|.ol [],Y,Y,Y],[]⟩) J<|L_ (s':=s9 R [] 0 Y Y) J ?_;have h:=wR n f many R [] [] Y Y d g (by unfold Bd at b;show Nv R<1000000;lia) b (by unfold Bd at b;show 0+Nv R<_;lia)
 cases e:eL f R with
 |none=>
  rw[e]at h;exact X3.seq1 h
 |some au=>
  rw[e]at h;obtain⟨p,u,v,i⟩:=h;exact⟨[Kj R,Kk<|vals au,Ki (p:Nat),u,v],seq1 i<|wI<|nA (t:=.lst<|vals au) J⟩
def qc(l:Tx)(c:Nat):uN [36] (l++[c])=decide (c=36):=by
 unfold uN
 have:(l++[c]).drop ((l++[c]).length-1)=[c]:=by simp
 show(decide (1<=(l++[c]).length)&&((l++[c]).drop ((l++[c]).length-1) == [36]))=_;rw[this,cw<|by simp]
 simp only[zq];by_cases h:c=36
 .rw[h];rfl
 .rw[ar h]
  exact beq_eq_false_iff_ne.mpr λz=>h (by injection z)
def Th(l:Tx):bf l Y (U<|-1)=l.dropLast:=by
 unfold bf gu;dsimp only;rw[cv<|by decide,List.dropLast_eq_take]
 congr 1
 lia
def Ti(f:Bd w):QF il.val (uA w) m<|cN (n+6) 3 [.str w] m:=by
 rw[w3];refine rZ J J (λa _=>c6 a) ?_;refine Ym J<|JD (s:=⟨[Kj w,Y,Y,Y,Y],[]⟩) (C4<|qz<|cE (ts:=[.str w,.str dB]) J<|p_ (n+4) f) J λe=>?_;have e:∀c∈w,c∈dB:=λc d=>bt<|bz.mp (by simpa using e:wH dB w=O) c d
 dsimp only;have Ū:∀c∈gJ w,c∈dB:=by
  unfold gJ;split
  .exact λc d=>e c<|uX d
  .exact e
 have ū:Bd<|gJ w:=by
  unfold gJ Bd at *;split
  .rw[BU];lia
  .exact f
 refine L_ (s':=⟨[Kj w,sv<|.bl<|pre [94] w,Y,Y,Y],[]⟩) (dM (s':=⟨[Kj w,Y,Y,Y,Y],[]⟩)<|yO (l:=w) (ts:=[.str [94]]) J J J)<|L_ (s':=⟨[Kj w,sv<|.bl<|pre [94] w,Kj<|gJ w,Y,Y],[]⟩) (dM (s':=⟨[Kj w,sv<|.bl<|pre [94] w,Y,Y,Y],[]⟩)<|Ma (y:=pre [94] w) J (λh=>?_) λh=>?_) ?_
 .unfold gJ
  rw[cv h];exact HQ (x:=U 1) (y:=Y) J J J (by show U (T.str _)=_;rw[wQ])
 .unfold gJ
  rw[h];rfl
 generalize gJ w=bd at Ū ū ⊢
 refine L_ (s':=⟨[Kj w,sv<|.bl<|pre [94] w,Kj bd,sv<|.bl<|uN [36] bd,Y],[]⟩) (dM (s':=⟨[Kj w,sv<|.bl<|pre [94] w,Kj bd,Y,Y],[]⟩)<|yO (l:=bd) (ts:=[.str [36]]) J J J) ?_;refine Ŧ (v:=λl=>T.lst<|vals l) (wM (s:=⟨[Kj w,sv<|.bl<|pre [94] w,Kj bd,sv<|.bl<|uN [36] bd,Y],[]⟩) (ts:=[.str<|if uN [36] bd=O then bd.dropLast else bd]) (aQ (wI<|Ma (y:=uN [36] bd) J (λh=>?_) λh=>?_) J)<|Ij n (λc d=>?_) ?_ ?_) λau _=>?_
 .rw[cv h]
  exact HQ (x:=Y) (y:=U<|-1) J J J (by show U (T.str _)=_;rw[Th])
 .rw[h];rfl
 .split at d
  .exact Ū c<|List.dropLast_subset _ d
  .exact Ū c d
 .split
  .rw[Nc];lia
  .exact eA _
 .unfold Bd at ū ⊢
  split
  .rw[Nc];lia
  .exact ū
 .have hl:D.aY (bH (aM .Gt) (aG cJ<|k1<|vF 4)<|cI 8) ⟨[Kj w,sv<|.bl<|pre [94] w,Kj bd,sv<|.bl<|uN [36] bd,Kk<|vals au],[]⟩=.ok (decide<|(8:Int)<(Nv au:Nat),⟨[Kj w,sv<|.bl<|pre [94] w,Kj bd,sv<|.bl<|uN [36] bd,Kk<|vals au],[]⟩):=gD<|pE (t:=.int ((vals au).length:Nat)) (u:=.int 8) J J<|(wF ..).trans<|by rw[cU]
  by_cases h:Nv au<=8
  .rw[dif_pos h]
   exact JD (y:=Zi) (hl.trans<|ey (λb=>Res.ok (b,_))<|ar<|by lia) J λ_=>C7 (a:=(⟨pre [94] w,au,uN [36] bd,h⟩:il))<|dz (ts:=[.bl<|pre [94] w,.lst<|vals au,.bl<|uN [36] bd]) J<|Ic ..
  .rw[dif_neg h]
   exact JD (y:=O) (o:=Y) (hl.trans<|ey (λb=>Res.ok (b,_))<|cw<|by lia) J λz=>by cases z
def uC(z:Bd r):RF k il.val (qR r)<|cN (n+7) 27 [.own 0]<|SC r k:=by
 rw[w27];refine gK J<|mP (v:=T.str) (o:=HR 47 r) (q:=[Y]) (C5 (ts:=[.str [47]]) J<|H_ (n+3) z) λp b d=>?_;have c:Bd p.1:=by
  unfold HR at b;obtain⟨l,j,i⟩:=a_.mp b;have g:=ey xH (fM i).1;have f:=jk j z;rw[cA]at g;unfold Bd at f ⊢
  lia
 have h:=wM (s:=St [Kj p.1] p.2 k) (fl:=pK<|k1 zB) (ts:=[.str p.1]) J<|Ti n (m:=SC p.2 k) c;show RB k il.val ((uA p.1).map λx=>(x,p.2))<|CK 3 0 (af (cN (n+6) 3) []<|pK<|k1 zB) (aV M.P.tab 3 zA)<|St [Kj p.1] p.2 k;unfold CK;cases e:uA p.1 with
 |none=>
  rw[e]at h;have a:af _ [] _ _=Res.exc 3 [] _:=h;rw[a];exact⟨_,J⟩
 |some x=>
  rw[e]at h;have a:af _ [] _ _=Res.ok (x.val,_):=h;rw[a];exact⟨⟨_,J⟩,d⟩
end K25
namespace K25
open List renaming length->Nv
open D
variable(n:Nat){m:List _root_.D.Ob}
def Ik(z:Bd r):RF k RP.val (S4 r)<|cN (n+8) 19 [.own 0]<|SC r k:=by
 rw[w19];refine gK J<|c8 (nn:=n+6) (q:=[]) z (λb _ a=>?_) ?_
 .exact RB.map (F:=RP.row)<|dS (q:=[])<|ji (v:=T.int)<|bo (ts:=[.own 0,.int 1,.int 999]) J<|lW (n+4) a
 .exact RB.map (F:=RP.like)<|dS (q:=[])<|ji (v:=il.val)<|bo (ts:=[.own 0]) J<|uC n z
def OI(z:Bd r):RF k PC.val (S5 r)<|cN (n+9) 18 [.own 0]<|SC r k:=by
 rw[w18];refine gK J<|c8 (nn:=n+7) (q:=[Y,Y]) z (λd _ a=>jI (t':=PC.last) (q:=[Y,Y]) J a)<|c8 (nn:=n+7) z (λd _ a=>?_)<|c8 (nn:=n+7) z (λd _ a=>?_) ?_
 .exact mP (v:=T.int) (q:=[Y,Y]) (bo (ts:=[.own 0,.int 1,.int 3]) J<|lW (n+5) a) λp _ c=>lV (nn:=n+6) (q:=[Ki p.1,Y]) c λe _ b=>RB.map (F:=PC.soon p.1)<|dS (q:=[Ki p.1,Y])<|j2 (v:=il.val) (u:=.int p.1) J<|bo (ts:=[.own 0]) J<|uC (n+1) b
 .exact mP (v:=RP.val) (q:=[Y,Y]) (bo (ts:=[.own 0]) J<|Ik n a) λp _ c=>lV (nn:=n+6) (q:=[Y,sv p.1.val]) c λe _ b=>RB.map (F:=PC.ft p.1)<|dS (q:=[Y,sv p.1.val])<|j2 (v:=RP.val) (u:=p.1.val) J<|bo (ts:=[.own 0]) J<|Ik n b
 .exact RB.map (F:=PC.rp)<|dS (q:=[Y,Y])<|bo (ts:=[.own 0]) J<|Ik n z
def Yr(z:Bd r):RF k CD.val (Yi r)<|cN (n+10) 17 [.own 0]<|SC r k:=by
 rw[w17];refine gK J<|c8 (nn:=n+8) (q:=[]) z (λb _ a=>jI (t':=CD.fin) (q:=[]) J a)<|c8 (nn:=n+8) z (λb _ a=>?_) ?_
 .exact RB.map (F:=CD.no)<|dS (q:=[])<|ji (v:=PC.val)<|bo (ts:=[.own 0]) J<|OI n a
 .exact RB.map (F:=CD.pc)<|dS (q:=[])<|bo (ts:=[.own 0]) J<|OI n z
def Bj(z:Bd r):RF k DD.val (mO e r)<|cN (n+8) 21 [.own 0,.bl e]<|SC r k:=by
 rw[w21];exact gK J<|mP (v:=il.val) (q:=[sv<|.bl e,Y]) (bo (ts:=[.own 0]) J<|uC n z) λp _ b=>lV (nn:=n+5) (q:=[sv<|.bl e,sv p.1.val]) b λc _ a=>RB.map (F:=DD.swap e p.1)<|dS (q:=[sv<|.bl e,sv p.1.val])<|S8 (v:=T.str) (u:=p.1.val) (u2:=.bl e) J (bo (ts:=[.own 0]) J<|wL (n+3) a) λ_=>J
def Mf(z:Bd r):RF k DD.val (pY r)<|cN (n+8) 22 [.own 0]<|SC r k:=by
 rw[w22];refine gK J<|mP (v:=T.str) (q:=[Y]) (bo (ts:=[.own 0]) J<|nT (n+4) z) λp _ c=>?_;have f:=λ(h:strip [32] p.2=Y)=>sm (q:=[Kj p.1]) (k:=k) (fl:=k1<|cS [32]) (ts:=[.str [32]]) J<|lU (n+6) h;show RB k DD.val ((strip [32] p.2).elim (U (.pile p.1 Y,p.2)) λr=>(iP 1 9 r).map λq=>(.pile p.1<|U q.1,q.2))<|ah (aO (b8<|fm<|D.tB<|bJ (bg [(24,82)]<|cN<|n+7) zA<|k1<|cS [32]) (eV<|ao<|dh 19 2<|k2 zB<|cF .non) az) (ao<|dh 19 2<|k2 (bO zB)<|af (cN (n+7) 24) []<|k3 (bO zA) (bO zI)<|bO<|cI 9)<|St [Kj p.1] p.2 k;cases e:strip [32] p.2 with
 |none=>
  have b:b8 (fm<|D.tB<|bJ (bg [(24,82)]<|cN<|n+7) zA<|k1<|cS [32]) (St [Kj p.1] p.2 k)=.ok (O,St [Kj p.1] p.2 k):=wI<|Ye<|ZY<|f e;unfold ah aO;rw[b];exact⟨⟨_,J⟩,c⟩
 |some d=>
  have b:b8 (fm<|D.tB<|bJ (bg [(24,82)]<|cN<|n+7) zA<|k1<|cS [32]) (St [Kj p.1] p.2 k)=.ok (Zi,St [Kj p.1] d k):=wI<|Yg<|ZY<|sm (ts:=[.str [32]]) J<|j4 (n+6) e;refine Yk (s':=St [Kj p.1] d k) (qP b J) ?_;exact RB.map (v:=DD.val) (F:=λa=>DD.pile p.1<|U a)<|dS (q:=[Kj p.1])<|j2 (v:=T.int) (u:=.str p.1) J<|bo (ts:=[.own 0,.int 1,.int 9]) J<|lW (n+4)<|jk e c
def Tj(z:Bd r):RF k DD.val (LV r)<|cN (n+8) 23 [.own 0]<|SC r k:=by
 rw[w23];exact gK J<|mP (v:=T.int) (q:=[Y]) (bo (ts:=[.own 0,.int 1,.int 9]) J<|lW (n+4) z) λp _ b=>lV (nn:=n+5) (q:=[Ki p.1]) b λc _ a=>RB.map (F:=DD.add p.1)<|dS (q:=[Ki p.1])<|j2 (v:=T.int) (u:=.int p.1) J<|bo (ts:=[.own 0,.int 1,.int 9]) J<|lW (n+4) a
def OJ(z:Bd r):RF k DD.val (S6 r)<|cN (n+9) 20 [.own 0]<|SC r k:=by
 rw[w20];refine gK J ?_;refine c8 (nn:=n+7) (q:=[]) z (λb _ a=>jI (t':=DD.drop) (q:=[]) J a) ?_;refine c8 (nn:=n+7) z (λb _ a=>jI (t':=DD.print) (q:=[]) J a) ?_;refine c8 (nn:=n+7) z (λb _ a=>jI (t':=DD.done) (q:=[]) J a) ?_;refine c8 (nn:=n+7) z (λb _ a=>jI (t':=DD.tell) (q:=[]) J a) ?_;refine c8 (nn:=n+7) z (λb _ a=>RB.map (F:=DD.say)<|dS (q:=[])<|ji (v:=T.str)<|bo (ts:=[.own 0]) J<|wL (n+4) a) ?_;refine c8 (nn:=n+7) z (λb _ a=>dS (q:=[])<|bo (ts:=[.own 0,.bl O]) J<|Bj n a) ?_;refine c8 (nn:=n+7) z (λb _ a=>dS (q:=[])<|bo (ts:=[.own 0,.bl Zi]) J<|Bj n a) ?_;refine c8 (nn:=n+7) z (λb _ a=>RB.map (F:=DD.join)<|dS (q:=[])<|ji (v:=T.int)<|bo (ts:=[.own 0,.int 2,.int 9]) J<|lW (n+5) a) ?_;refine c8 (nn:=n+7) z (λb _ a=>dS (q:=[])<|bo (ts:=[.own 0]) J<|Mf n a) ?_;refine c8 (nn:=n+7) z (λb _ a=>RB.map (F:=DD.bring)<|dS (q:=[])<|ji (v:=T.str)<|bo (ts:=[.own 0]) J<|nT (n+5) a) ?_;refine c8 (nn:=n+7) z (λb _ a=>RB.map (F:=DD.go)<|dS (q:=[])<|ji (v:=T.str)<|bo (ts:=[.own 0]) J<|nT (n+5) a) ?_;exact lV (nn:=n+6) z λb _ a=>dS (q:=[])<|bo (ts:=[.own 0]) J<|Tj n a
def Ŭ{oA a:Option<|α×Tx}{A B:FS}(d:c (St q r k)=.ok (y,St q r k))(b:RB k v oA<|A<|St q r k)(f:RB k v a<|B<|St q r k):RB k v (if y=O then oA else a)<|ah (aO (b8 c) A az) B<|St q r k:=by
 unfold ah aO b8;rw[d];cases y with
 |false=>exact f
 |true=>
  rw[cv J];show RB k v oA<|Res.bind (A<|St q r k) _;cases oA with
  |none=>exact df b
  |some p=>
   obtain⟨⟨q2,e⟩,z⟩:=b;rw[e];exact⟨⟨q2,J⟩,z⟩
def lX(w r:Tx):pre w r=(strip w r).isSome:=by
 cases h:strip w r with
 |none=>exact j3 h
 |some a=>rw[cX h,pre_app];rfl
def prT(rest:Tx):T->T
 |.str w=>.bl<|pre w rest
 |_=>.non
def any_eq:D.tB (aG yr<|k1<|dR<|bP (mG<|cF<|.tup [(.str [114,111,119,32]),(.str [108,97,115,116]),(.str [47]),(.str [115,111,111,110,32]),(.str [102,114,111,109,32]),(.str [110,111,116,32]),(.str [101,110,100])]) 2 [0] (setG 1) dX<|mK Gi (aV M.P.tab 14 zC)<|k1 zB) (St [Y] r k)=.ok (yQ r,St [Y] r k):=by
 refine ZY<|dz (ts:=[.lst<|(HV.map T.str).map<|prT r]) (aQ (jH<|jf (ts:=HV.map T.str) (s1:=St [Y] r k) J (by decide)<|iC λt a=>?_) J) ?_
 .obtain⟨w,_,rfl⟩:=lr.mp a
  exact⟨[Y,Kj w,sv<|.own 0],[Y,Kj w,sv<|.own 0],J,J⟩
 .have:(HV.map T.str).map (prT r)=HV.map λw=>T.bl<|pre w r:=by rw[qC];rfl
  rw[this];simp only[yr,Kl,jy,Dw,DP]
  have:(id∘λw=>pre w r)=λw=>(strip w r).isSome:=funext λw=>lX w r
  rw[this];rfl
def Ys(z:Bd r):RF k LN.val (S7 r)<|cN (n+11) 16 [.own 0]<|SC r k:=by
 rw[w16];refine gK J<|c8 (nn:=n+9) (q:=[Y]) z (λf _ d=>?_)<|Ŭ (y:=!yQ r) (C4 any_eq) ?_ ?_
 .exact RB.map (F:=LN.mark)<|dS (q:=[Y])<|j2 (v:=λa=>T.obj 12 [.str a]) (u:=.obj 3 []) J<|ji (v:=T.str)<|bo (ts:=[.own 0]) J<|nT (n+7) d
 .exact RB.map (F:=LN.bare)<|dS (q:=[Y])<|j2 (v:=DD.val) (u:=.obj 3 []) J<|bo (ts:=[.own 0]) J<|OJ (n+1) z
 .exact mP (v:=CD.val) (q:=[Y]) (bo (ts:=[.own 0]) J<|Yr n z) λp _ c=>lV (nn:=n+8) (q:=[sv p.1.val]) c λe _ b=>RB.map (F:=LN.full p.1)<|dS (q:=[sv p.1.val])<|j2 (v:=DD.val) (u:=p.1.val) J<|bo (ts:=[.own 0]) J<|OJ (n+1) b
def Mg:cN (n+1) 14 [i.val] m=.ok (.bl<|C3 i,m):=by
 rw[w14];exact sEq J J J<|bR (t:=.bl<|C3 i) (pE (t:=.str [i.mn]) (u:=.tup [.str [42],.str [63]]) J J J) J
theorem gq{α:Type}(v:α->T)(p:α->Bool):∀{l:List α},(∀x∈l,∃b1 b2 b3,g (v x) b=U b1/\c ⟨b1,m⟩=.ok (p x,⟨b2,m⟩)/\e ⟨b2,m⟩=.ok (v x,⟨b3,m⟩))->bM g c e b (l.map v) m=.ok ((l.filter p).map v,m)
 |[],_=>J
 |x::l,h=>by
  obtain⟨b1,b2,b3,k,j,i⟩:=h x<|eX ..;rw[fV,bM,k];apply qO;rw[j];apply qO;dsimp only;have a:=gq v p (l:=l) λy f=>h y<|bw _ f;cases d:p x with
  |true=>
   rw[cv J,i];apply qO;dsimp only;rw[a,List.filter_cons_of_pos d];rfl
  |false=>rw[cb gx,a,List.filter_cons_of_neg<|by rw[d];exact gx]
def wU(h:noOwn t=O):aK [t]=O:=by
 show(noOwn t&&O)=O;rw[h];rfl
section
variable{m:FR}
def wV:cN (n+2) 13 [p.val] m=.ok (.int (least p:Nat),m):=by
 rw[w13];refine sEq (wU<|c6 p) J J<|bR (t:=.int (least p:Nat)) (dz (ts:=[.lst<|(p.au.filter λi=>!C3 i).map Itm.val]) (aQ (s1:=⟨[sv p.val],[]⟩) (lcE (ts:=vals p.au) J (by have:=p.nz;rw[cU];lia) J<|gq Itm.val (λi=>!C3 i) λi a=>?_) J) ?_) J
 .exact⟨[Y,sv i.val],[Y,sv i.val],[Y,sv i.val],J,C4<|qz<|cE (ts:=[i.val]) J<|Mg n,J⟩
 .show U (T.int (((p.au.filter λi=>!C3 i).map Itm.val).length:Nat))=_
  rw[cU];rfl
def empty_eq:cN (n+3) 12 [p.val] m=.ok (.bl<|decide<|least p=0,m):=by
 rw[w12];refine sEq (wU<|c6 p) J J<|bR (t:=.bl<|decide<|least p=0) (pE (cE (ts:=[p.val]) J<|wV n) J<|(qS ..).trans ?_) J
 congr 2
 apply decide_eq_decide.mpr
 lia
def ŭ(a b:Int):aM .LtE (.int a) (.int b)=U (.bl<|decide<|a<=b):=J
def Mh:cN (n+4) 29 [(DD.swap e p l).val] m=.ok (.bl (DD.swap e p l).yR,m):=by
 rw[w29];refine sEq (by show((noOwn p.val&&(O&&(O&&O)))&&O)=O;rw[c6];rfl) J J ?_
 show WB (ah _ _) ⟨[sv (DD.swap e p l).val],[]⟩ _;have a:D.tB (af (cN (n+3) 12) []<|k1<|aV M.P.tab 4 zA) ⟨[sv (DD.swap e p l).val],[]⟩=.ok (decide<|least p=0,⟨[sv (DD.swap e p l).val],[]⟩):=qz<|cE (ts:=[p.val]) J<|empty_eq n;by_cases h:least p=0
 .refine bY (by rw[a,cw h])<|bR (t:=.bl Zi) J ?_
  show _=T.bl (!decide (least p=0)&&_);rw[cw h];rfl
 .refine bN (by rw[a,ar h])<|bR (t:=.bl<|!e ||decide (Nv l<=least p)) ?_ ?_
  .cases e with
   |false=>rfl
   |true=>
    refine(pE (t:=.int (Nv l:Nat)) (u:=.int (least p:Nat)) J (cE (ts:=[p.val]) J<|wV<|n+1)<|(ŭ ..).trans ?_:bH (aM .LtE) (aG cJ<|k1<|aV M.P.tab 10 zA) (af (cN (n+3) 13) []<|k1<|aV M.P.tab 4 zA) ⟨[sv (DD.swap O p l).val],[]⟩=_);show _=U (T.bl<|Zi ||_);rw[zk]
    congr 2
    apply decide_eq_decide.mpr
    lia
  .show _=T.bl (!decide (least p=0)&&_)
   rw[ar h];rfl
end
def Bk(x:RP):noOwn x.val=O:=by
 cases x with
 |row v=>rfl
 |like p=>show(noOwn p.val&&O)=O;rw[c6];rfl
def Bl(x:PC):noOwn x.val=O:=by
 cases x with
 |last=>rfl
 |soon v p=>show(O&&(noOwn p.val&&O))=O;rw[c6];rfl
 |ft x y=>show(noOwn x.val&&(noOwn y.val&&O))=O;rw[Bk,Bk];rfl
 |rp x=>exact Bk x
def Bm(x:CD):noOwn x.val=O:=by
 cases x with
 |fin=>rfl
 |no x=>show(noOwn x.val&&O)=O;rw[Bl];rfl
 |pc x=>exact Bl x
def wW(x:DD):noOwn x.val=O:=by
 cases x with
 |swap e p l=>show(noOwn p.val&&(O&&(O&&O)))=O;rw[c6];rfl
 |pile a v=>cases v<;>rfl
 |_=>rfl
def Yt(x:LN):noOwn x.cond=O:=by
 cases x with
 |full c d=>exact Bm c
 |_=>rfl
def Yu(x:LN):noOwn x.nC=O:=by
 cases x with
 |mark a=>rfl
 |bare d=>exact wW d
 |full c d=>exact wW d
def Bo(x:LN):noOwn x.val=O:=by
 show(noOwn x.cond&&(noOwn x.nC&&O))=O;rw[Yt,Yu];rfl
def Tn(h:noOwn t=O)(a:noOwn u=O):aK [t,u]=O:=by
 show(noOwn t&&(noOwn u&&O))=O;rw[h,a];rfl
def Il(x:PC):iO M.P.sub [10] x.val=U (.bl Zi):=by
 cases x with
 |rp x=>cases x<;>rfl
 |_=>rfl
def Im{x:DD}(c:noOwn b=O)(h:iO M.P.sub [10] b=U (.bl Zi)):cN (n+5) 28 [b,x.val] m=.ok (.bl x.yR,m):=by
 rw[š];refine sEq (Tn c<|wW x) J J<|bN (qz<|xC (t:=b) J h) ?_;cases x with
 |swap e p l=>exact bY (s:=s2 b (DD.swap e p l).val) J<|bR (t:=.bl (DD.swap e p l).yR) (cE (ts:=[(DD.swap e p l).val]) J<|Mh n) J
 |pile a v=>cases v<;>exact bN J<|bR J J
 |_=>exact bN J<|bR J J
def To{x:DD}:cN (n+5) 28 [CD.fin.val,x.val] m=.ok (.bl x.atEnd,m):=by
 rw[š];refine sEq (Tn J<|wW x) J J<|bY (s:=s2 CD.fin.val x.val) J ?_;cases x with
 |pile a v=>cases v<;>exact bR J J
 |_=>exact bR J J
def Yv{x:LN}:cN (n+5) 28 [x.cond,x.nC] m=.ok (.bl x.ms,m):=by
 cases x with
 |mark a=>
  rw[š];exact sEq J J J<|bN J<|bN J<|bR J J
 |bare d=>exact Im n J J
 |full c d=>
  cases c with
  |fin=>exact To n
  |no y=>exact Im n (Bm<|.no y) J
  |pc y=>exact Im n (Bm<|.pc y)<|Il y
def Mi:cN (n+1) 80 [.own 0,.str row,.int k] [⟨24,[]⟩]=.ok (.non,SC row k):=by
 rw[w80];rfl
def LF(k:Int)(o:Option LN)(m:FR)(x:Res<|T×FR):Prop:=match o with
 |some l=>x=.ok (l.val,m)
 |none=>∃s:S,s.m=m/\x=.exc 0 [.int k] s
def OL{fl:FL}(h:fl s=.ok (ts,s))(z:Xc k<|f ts s.m):Xc k<|af f [] fl s:=by
 obtain⟨a,e⟩:=z;unfold af;rw[h];show Xc k<|match f (ts++[]) s.m with|.ok q=>_|.bad=>_|.exc c fs b=>_
 rw[bG,e];exact⟨_,J⟩
def OM{A B:FS}(h:Xc k<|A s):Xc k<|ah A B s:=df h
def Io{A B:FS}(h:A s=.ok (.nx,s'))(z:Xc k<|B s'):Xc k<|ah A B s:=by
 unfold ah;rw[h];exact z
def Ů{A B:FS}(h:c s=.ok (O,s'))(z:Xc k<|A s'):Xc k<|aO c A B s:=by
 unfold aO;rw[h];exact z
def Yw{k:Int}{b n:Nat}{B:FS}{ts:FC}{o:Option LN}(h:aK ts=O)(hl:Nv ts=b)(c:match o with
  |some l=>∃s,B ⟨ts.map (λt=>sv t)++eQ (n-Nv ts) Y,[]⟩=.ok (.rt l.val,s)
  |none=>Xc k<|B ⟨ts.map (λt=>sv t)++eQ (n-Nv ts) Y,[]⟩):LF k o m<|aI (aH b n B) ts m:=by
 unfold aI;rw[cv h];unfold aH;rw[cv hl];cases o with
 |none=>
  obtain⟨d,a⟩:=c;rw[a];exact⟨_,J,J⟩
 |some l=>
  obtain⟨d,a⟩:=c;rw[a];show(if noOwn l.val=O then _ else _)=_
  rw[cv<|Bo l]
def Mj(z:Bd row):LF k (parse row) m<|cN (n+12) 15 [.str row,.int k] m:=by
 rw[w15];refine Yw J J ?_;have d:eV (aA 2<|yh 24 (cN (n+11) 80)<|k2 zA zB) ⟨[Kj row,Ki k,Y,Y],[]⟩=.ok (.nx,⟨[Kj row,Ki k,sv<|.own 0,Y],SC row k⟩):=wI<|dM (s':=⟨[Kj row,Ki k,Y,Y],SC row k⟩)<|ţ (ts:=[.str row,.int k]) (s':=⟨[Kj row,Ki k,Y,Y],[]⟩) J<|Mi<|n+10;have h:=Ys (k:=k) n z;unfold parse;cases e:S7 row with
 |none=>
  rw[e]at h;obtain⟨j,i⟩:=h;have c:Xc k<|aA 3 (af (cN (n+11) 16) []<|k1<|bO zC) ⟨[Kj row,Ki k,sv<|.own 0,Y],SC row k⟩:=by
   exact df<|OL (ts:=[.own 0]) J ⟨_,i⟩
  exact Io d<|OM c
 |some p=>
  rw[e]at h;obtain⟨x,a⟩:=p;have c:aA 3 (af (cN (n+11) 16) []<|k1<|bO zC) ⟨[Kj row,Ki k,sv<|.own 0,Y],SC row k⟩=.ok (.nx,⟨[Kj row,Ki k,sv<|.own 0,sv x.val],SC a k⟩):=dM (s':=⟨[Kj row,Ki k,sv<|.own 0,Y],SC a k⟩)<|je (ts:=[.own 0]) (s':=⟨[Kj row,Ki k,sv<|.own 0,Y],SC row k⟩) J h.1;have b:b8 (Ae (D.aY<|bH (aM .NotEq) (aV M.P.tab 14 zC)<|cS [])<|fm<|D.tB<|af (cN (n+11) 28) []<|k2 (aV M.P.tab 1 zD)<|aV M.P.tab 2 zD) ⟨[Kj row,Ki k,sv<|.own 0,sv x.val],SC a k⟩=.ok (!decide (a=[]) || !x.ms,⟨[Kj row,Ki k,sv<|.own 0,sv x.val],SC a k⟩):=wI<|wG (gD<|pE (t:=.str a) J J<|Yo ..)<|C4<|qz<|cE (ts:=[x.cond,x.nC]) J<|Yv<|n+6;show match(if(!decide (a=[]) || !x.ms)=O then Y else U x)with
   |some l=>∃s,ah _ _ _=.ok (.rt l.val,s)
   |none=>Xc k<|ah _ _ _
  cases f:(!decide (a=[]) || !x.ms)with
  |false=>
   rw[f]at b;exact⟨_,seq1 d<|seq1 c<|seq1 (qP b J)<|wI<|nA J⟩
  |true=>
   rw[f]at b;have g:Xc k<|bW (lP 24 (cN (n+11) 81) zC bD) ⟨[Kj row,Ki k,sv<|.own 0,sv x.val],SC a k⟩:=by
    apply df;show Xc k<|af (cN (n+11) 81) [] (k1<|cF<|.own 0) ⟨[Kj row,Ki k,sv<|.own 0,sv x.val],SC a k⟩;exact OL (ts:=[.own 0]) J<|pZ<|n+10
   exact Io d<|Io c<|OM<|Ů b g
def Xq(c:Nat)(j:Int)(x:Res α):Prop:=∃s,x=.exc c [.int j] s
section
variable{A B:FS}{fl:FL}
def fR{g:α->Res a}(h:Xq c j x):Xq c j<|x.bind g:=by
 obtain⟨s,rfl⟩:=h;exact⟨s,J⟩
def lY(h:A s=.ok (.nx,s'))(z:Xq c j<|B s'):Xq c j<|ah A B s:=by
 unfold ah;rw[h];exact z
def qe(h:fl s=.ok (ts,s))(z:Xq c j<|f ts s.m):Xq c j<|af f [] fl s:=by
 obtain⟨a,e⟩:=z;unfold af;rw[h];show Xq c j<|match f (ts++[]) s.m with|.ok q=>_|.bad=>_|.exc c fs s'=>_
 rw[bG,e];exact⟨_,J⟩
def Tp(h:ct s=.ok (O,s))(he:fl s=.ok ([.int j],s')):Xq c j<|aO (b8 ct) (GJ c fl) B s:=by
 unfold aO b8;rw[h];show Xq c j<|Res.bind (v_<|fl s) _;rw[he];exact⟨_,J⟩
def Yx(h:ct s=.ok (O,s'))(z:Xq c j<|A s'):Xq c j<|aO ct A B s:=by
 unfold aO;rw[h];exact z
def Yy(h0:s.r[i]?=U (U<|.ol us))(z:Xq c j<|e s):Xq c j<|gf i e s:=by
 unfold gf;rw[h0];show Xq c j<|Res.bind (e s) _;exact fR z
def okN(h:ct s=.ok (Zi,s)):aO (b8 ct) A az s=.ok (.nx,s):=qP (wI h) J
def Bp(h:g t s.r=U r)(z:Xq c j<|B ⟨r,s.m⟩):Xq c j<|aZ g B (t::ts) s:=by
 unfold aZ;rw[h];show Xq c j<|Res.bind (B ⟨r,s.m⟩) _;exact fR z
def lZ{a n:Nat}(h:aK ts=O)(hl:Nv ts=a)(z:Xq c j<|B ⟨ts.map (λt=>sv t)++eQ (n-Nv ts) Y,[]⟩):Xq c j<|aI (aH a n B) ts m:=by
 obtain⟨b,e⟩:=z;unfold aI;rw[cv h];unfold aH;rw[cv hl,e];exact⟨_,J⟩
end
def eM:Nat->List Tx->Except Nat (List LN)
 |_,[]=>.ok []
 |j,r::rs=>if 24<j then .error j else match parse r with
  |none=>.error j
  |some l=>match eM (j+1) rs with
   |.ok a=>.ok<|l::a
   |.error i=>.error i
abbrev aw(xs:List Tx):FC:=xs.map T.str
abbrev aN(xs:List LN):FC:=xs.map LN.val
def LsO(R:Option C)(o:Except Nat<|List LN)(done:List LN)(x:Res<|Out×S):Prop:=match o with
 |.ok a=>∃u v,x=.ok (.nx,⟨[R,U<|.ol<|aN<|done++a,u,v],[]⟩)
 |.error j=>Xq 0 (j:Nat) x
theorem wY(n:Nat):∀(rs:List Tx)(j:Nat)(done:List LN)(u v:Option C),(∀r∈rs,Bd r)->Nv done<j->LsO R (eM j rs) done (aZ (cP [2,3]) (LU<|cN<|n+12) (e9 (j:Nat)<|aw rs) ⟨[R,U<|.ol<|aN done,u,v],[]⟩)
 |[],j,done,u,v,_,_=>⟨u,v,by rw[bG];rfl⟩
 |r::rs,j,done,u,v,h,hd=>by
  have a:D.aY (bH (aM .Gt) zC<|cI 24) ⟨[R,U<|.ol<|aN done,Ki (j:Nat),Kj r],[]⟩=.ok (decide<|24<j,⟨[R,U<|.ol<|aN done,Ki (j:Nat),Kj r],[]⟩):=gD<|pE (t:=.int (j:Nat)) (u:=.int 24) J J<|(wF ..).trans<|by congr 2;apply decide_eq_decide.mpr;lia
  have c:cP [2,3] (.tup [.int (j:Nat),.str r]) [R,U<|.ol<|aN done,u,v]=U [R,U<|.ol<|aN done,Ki (j:Nat),Kj r]:=J;unfold eM;split
  .rename_i f
   rw[cw f]at a;exact Bp c<|fR<|Tp (j:=(j:Nat)) a J
  .rename_i f
   rw[ar f]at a;have hl:=Mj (k:=(j:Nat)) n (m:=[])<|h r<|eX ..;cases e:parse r with
   |none=>
    rw[e]at hl;obtain⟨y,_,d⟩:=hl;exact Bp c<|lY (okN a)<|Yy (us:=aN done) J<|qe (ts:=[.str r,.int (j:Nat)]) J ⟨_,d⟩
   |some l=>
    rw[e]at hl;have d:cN (n+12) 15 [.str r,.int (j:Nat)] []=.ok (l.val,[]):=hl;have b:=wY n (R:=R) rs (j+1) (done++[l]) (Ki (j:Nat)) (Kj r) (λx q=>h x<|bw _ q) (by rw[cA,sE];lia)
    have w:aZ (cP [2,3]) (LU<|cN<|n+12) (e9 (j:Nat)<|aw<|r::rs) ⟨[R,U<|.ol<|aN done,u,v],[]⟩=aZ (cP [2,3]) (LU<|cN<|n+12) (e9 ((j+1:Nat):Int)<|aw rs) ⟨[R,U<|.ol<|aN<|done++[l],Ki (j:Nat),Kj r],[]⟩:=by
     refine dG c (seq1 (okN a)<|pW (ts:=aN done) J (cE (ts:=[.str r,.int (j:Nat)]) J d) J<|by rw[cU];lia) ?_
     rw[show aN (done++[l])=aN done++[l.val] by simp];rfl
    rw[w];dsimp only;cases g:eM (j+1) rs with
    |error i=>rw[g]at b;exact b
    |ok z=>
     rw[g]at b;obtain⟨p,o,s⟩:=b;exact⟨p,o,by rw[s,dU];rfl⟩
theorem dC:∀(a:List LN),aK (aN a)=O
 |[]=>J
 |x::a=>by
  show(noOwn x.val&&aK (aN a))=O;rw[Bo,dC a];rfl
theorem fP:∀(l:List Tx),aK (aw l)=O
 |[]=>J
 |x::a=>by
  show(O&&aK (aw a))=O;rw[fP a];rfl
def EF(c:Nat){α:Type}(v:α->T)(o:Except Nat α)(m:FR)(x:Res<|T×FR):Prop:=match o with
 |.ok a=>x=.ok (v a,m)
 |.error j=>Xq c (j:Nat) x
def Ip(h:∀r∈rs,Bd r):EF 0 (λls=>.lst<|aN ls) (eM 1 rs) m<|cN (n+13) 32 [.lst<|aw rs] m:=by
 rw[w32];have a:=wY n (R:=Kk<|aw rs) rs 1 [] Y Y h (by decide)
 cases e:eM 1 rs with
 |error j=>
  rw[e]at a;exact lZ (wU<|fP rs) J<|lY (s':=⟨[Kk<|aw rs,U<|.ol [],Y,Y],[]⟩) J<|fR a
 |ok ls=>
  rw[e]at a;obtain⟨u,v,b⟩:=a;exact fL (m':=[]) (wU<|fP rs) (gC (s':=⟨[Kk<|aw rs,Kk<|aN ls,u,v],[]⟩) J (seq1 (s':=⟨[Kk<|aw rs,U<|.ol [],Y,Y],[]⟩) J<|seq1 b J) J)<|dC ls
def LN.name:LN->Option Tx
 |.mark a=>U a
 |_=>Y
def DD.gX:DD->Option Tx
 |.go a=>U a
 |_=>Y
def LN.gX:LN->Option Tx
 |.mark _=>Y
 |.bare x=>x.gX
 |.full _ x=>x.gX
def Tq(x:LN):iO M.P.sub [12] x.nC=U (.bl x.name.isSome):=by
 have h:∀d:DD,iO M.P.sub [12] d.val=U (.bl Zi):=λd=>by
  cases d with
  |pile a v=>cases v<;>rfl
  |_=>rfl
 cases x with
 |mark a=>rfl
 |bare d=>exact h d
 |full c d=>exact h d
def ů(x:LN):iO M.P.sub [21] x.nC=U (.bl x.gX.isSome):=by
 have h:∀d:DD,iO M.P.sub [21] d.val=U (.bl d.gX.isSome):=λd=>by
  cases d with
  |pile a v=>cases v<;>rfl
  |_=>rfl
 cases x with
 |mark a=>rfl
 |bare d=>exact h d
 |full c d=>exact h d
abbrev mQ(l:List Tx):List Ky:=l.map Ky.s
abbrev nX(l:List Tx):FC:=l.map λ_=>T.bl O
def qg:(Ky.s a∈mQ l) ↔ a∈l:=by
 constructor
 .intro h
  obtain⟨b,d,c⟩:=lr.mp h;cases c;exact d
 .exact λh=>lr.mpr ⟨a,h,J⟩
def eO:Nat->List LN->List Tx->Except Nat (List Tx)
 |_,[],d=>.ok d
 |j,l::ls,d=>match l.name with
  |none=>eO (j+1) ls d
  |some a=>if a∈d then .error j else eO (j+1) ls (d++[a])
abbrev sM(R:Option C)(done:List Tx)(u v:Option C):S:=⟨[R,U<|.od (mQ done)<|nX done,u,v],[]⟩
def MkO(R:Option C)(o:Except Nat<|List Tx)(x:Res<|Out×S):Prop:=match o with
 |.ok d=>∃u v,x=.ok (.nx,sM R d u v)
 |.error j=>Xq 1 (j:Nat) x
def C8{x:LN}(h:x.name=U a):x=.mark a:=by
 cases x with
 |mark b=>cases h;rfl
 |bare d=>cases h
 |full c d=>cases h
theorem qh:∀(xs:List LN)(j:Nat)(done:List Tx)(u v:Option C),Nv done+Nv xs<=100->MkO R (eO j xs done) (aZ (cP [2,3]) CY (e9 (j:Nat)<|aN xs)<|sM R done u v)
 |[],j,done,u,v,_=>⟨u,v,J⟩
 |x::xs,j,done,u,v,hl=>by
  rw[eu]at hl;have g:cP [2,3] (.tup [.int (j:Nat),x.val]) [R,U<|.od (mQ done)<|nX done,u,v]=U [R,U<|.od (mQ done)<|nX done,Ki (j:Nat),sv x.val]:=J;have b:b8 (D.tB<|dE (iO M.P.sub [12])<|aV M.P.tab 2 zD) (sM R done (Ki (j:Nat))<|sv x.val)=.ok (x.name.isSome,sM R done (Ki (j:Nat))<|sv x.val):=wI<|qz<|xC (t:=x.nC) J<|Tq x;unfold eO;cases f:x.name with
  |none=>
   rw[f]at b;have d:=qh (R:=R) xs (j+1) done (Ki (j:Nat)) (sv x.val) (by lia)
   have e:aZ (cP [2,3]) CY (e9 (j:Nat)<|aN<|x::xs) (sM R done u v)=aZ (cP [2,3]) CY (e9 ((j+1:Nat):Int)<|aN xs) (sM R done (Ki (j:Nat))<|sv x.val):=dG g (qP b J) J;rw[e];exact d
  |some a=>
   rw[f]at b;have ex:=C8 f;subst ex;have c:D.aY (rO .In Zi 1<|aV M.P.tab 9<|aV M.P.tab 2 zD) (sM R done (Ki (j:Nat))<|sv (LN.mark a).val)=.ok (decide<|Ky.s a∈mQ done,sM R done (Ki (j:Nat))<|sv (LN.mark a).val):=J;dsimp only;split
   .rename_i hd
    rw[cw<|qg.mpr hd]at c;exact Bp g<|Yx b<|fR<|Tp (j:=(j:Nat)) c J
   .rename_i hd
    rw[ar λz=>hd<|qg.mp z]at c;have d:=qh (R:=R) xs (j+1) (done++[a]) (Ki (j:Nat)) (sv (LN.mark a).val) (by rw[cA,sE];lia)
    have i:kP (mQ done) (nX done) (.s a) (.bl O)=(mQ<|done++[a],nX<|done++[a]):=by
     unfold kP;rw[cb λz=>hd<|qg.mp z];simp[mQ,nX]
    have h:eV (Ot 1 (aV M.P.tab 9<|aV M.P.tab 2 zD)<|cF<|.bl O) (sM R done (Ki (j:Nat))<|sv (LN.mark a).val)=.ok (.nx,sM R (done++[a]) (Ki (j:Nat))<|sv (LN.mark a).val):=by
     apply wI;show Res.bind (cH<|gd ((mQ done).length<1000000) ()) _=_;rw[iR<|by rw[cU];lia]
     show Res.ok (Out.nx,jE _ 1<|.od (kP (mQ done) (nX done) (.s a)<|.bl O).1 (kP (mQ done) (nX done) (.s a)<|.bl O).2)=_;rw[i];rfl
    have e:aZ (cP [2,3]) CY (e9 (j:Nat)<|aN<|LN.mark a::xs) (sM R done u v)=aZ (cP [2,3]) CY (e9 ((j+1:Nat):Int)<|aN xs) (sM R (done++[a]) (Ki (j:Nat))<|sv (LN.mark a).val):=dG g (Dt b<|seq1 (okN c) h) J;rw[e];exact d
theorem l9:∀l:List Tx,aK (nX l)=O
 |[]=>J
 |a::l=>by show(O&&aK (nX l))=O;rw[l9 l];rfl
def Iq(hl:Nv xs<=100):EF 1 (λd=>.h_ (mQ d)<|nX d) (eO 1 xs []) m<|cN (n+1) 33 [.lst<|aN xs] m:=by
 rw[w33];have a:=qh (R:=Kk<|aN xs) xs 1 [] Y Y (by show 0+_<=_;lia)
 cases e:eO 1 xs []with
 |error j=>
  rw[e]at a;exact lZ (wU<|dC xs) J<|lY (s':=⟨[Kk<|aN xs,U<|.od [] [],Y,Y],[]⟩) J<|fR a
 |ok d=>
  rw[e]at a;obtain⟨u,v,b⟩:=a;exact fL (m':=[]) (wU<|dC xs) (gC (s':=⟨[Kk<|aN xs,sv<|.h_ (mQ d)<|nX d,u,v],[]⟩) J (seq1 (s':=⟨[Kk<|aN xs,U<|.od [] [],Y,Y],[]⟩) J<|seq1 b J) J)<|l9 d
def gM(ms:List Tx):Nat->List LN->Except Nat Unit
 |_,[]=>.ok ()
 |j,l::ls=>match l.gX with
  |none=>gM ms (j+1) ls
  |some a=>if a∈ms then gM ms (j+1) ls else .error j
def C9{x:LN}(h:x.gX=U a):x.nC=.obj 21 [.str a]:=by
 cases x with
 |mark b=>cases h
 |bare d=>cases d<;>first|(cases h;done)|(cases h;rfl)
 |full c d=>cases d<;>first|(cases h;done)|(cases h;rfl)
abbrev sG(R:Option C)(ms:List Tx)(u v:Option C):S:=⟨[R,sv<|.h_ (mQ ms)<|nX ms,u,v],[]⟩
def GoO(R:Option C)(ms:List Tx)(o:Except Nat Unit)(x:Res<|Out×S):Prop:=match o with
 |.ok _=>∃u v,x=.ok (.nx,sG R ms u v)
 |.error j=>Xq 2 (j:Nat) x
theorem Bq:∀(xs:List LN)(j:Nat)(u v:Option C),GoO R ms (gM ms j xs)<|aZ (cP [2,3]) Yc (e9 (j:Nat)<|aN xs)<|sG R ms u v
 |[],j,u,v=>⟨u,v,J⟩
 |x::xs,j,u,v=>by
  have g:cP [2,3] (.tup [.int (j:Nat),x.val]) [R,sv<|.h_ (mQ ms)<|nX ms,u,v]=U [R,sv<|.h_ (mQ ms)<|nX ms,Ki (j:Nat),sv x.val]:=J;have b:D.tB (dE (iO M.P.sub [21])<|aV M.P.tab 2 zD) (sG R ms (Ki (j:Nat))<|sv x.val)=.ok (x.gX.isSome,sG R ms (Ki (j:Nat))<|sv x.val):=qz<|xC (t:=x.nC) J<|ů x;have f:=Bq (R:=R) (ms:=ms) xs (j+1) (Ki (j:Nat))<|sv x.val;have i:∀{c:FT},c (sG R ms (Ki (j:Nat))<|sv x.val)=.ok (Zi,sG R ms (Ki (j:Nat))<|sv x.val)->aZ (cP [2,3]) (aO (b8 c) (GJ 2<|k1 zC) az) (e9 (j:Nat)<|aN<|x::xs) (sG R ms u v)=aZ (cP [2,3]) (aO (b8 c) (GJ 2<|k1 zC) az) (e9 ((j+1:Nat):Int)<|aN xs) (sG R ms (Ki (j:Nat))<|sv x.val):=λh=>dG g (okN h) J;unfold gM;cases e:x.gX with
  |none=>
   rw[e]at b;rw[i<|yP b];exact f
  |some a=>
   rw[e]at b;have hd:=C9 e;have d:D.aY (rO .NotIn O 1<|aV M.P.tab 9<|aV M.P.tab 2 zD) (sG R ms (Ki (j:Nat))<|sv x.val)=.ok (!decide (Ky.s a∈mQ ms),sG R ms (Ki (j:Nat))<|sv x.val):=by
    have k:x.val=.obj 1 [x.cond,.obj 21 [.str a]]:=by rw[<- hd];rfl
    rw[k];rfl
   dsimp only;split
   .rename_i h
    rw[cw<|qg.mpr h]at d;rw[i<|jg b d];exact f
   .rename_i h
    rw[ar λz=>h<|qg.mp z]at d;exact Bp g<|Tp (j:=(j:Nat)) (jg b d) J
def Ml:EF 2 (λ_=>.non) (gM ms 1 xs) m<|cN (n+1) 34 [.lst<|aN xs,.h_ (mQ ms)<|nX ms] m:=by
 rw[w34];have a:=Bq (R:=Kk<|aN xs) (ms:=ms) xs 1 Y Y;have b:aK [T.lst<|aN xs,.h_ (mQ ms)<|nX ms]=O:=Tn (dC xs)<|l9 ms;cases e:gM ms 1 xs with
 |error j=>
  rw[e]at a;exact lZ b J a
 |ok d=>
  rw[e]at a;obtain⟨u,v,c⟩:=a;exact fL (m':=[]) b (XY (s':=sG (Kk<|aN xs) ms u v) J c J) J
theorem qi:∀{p q:B1},c∉p->aF c (p++c::q)=p::aF c q
 |[],q,_=>by show aF c (c::q)=_;rw[aF,cv J]
 |d::p,q,h=>by
  have hd:d≠c:=λe=>h (by rw[e];exact eX ..)
  show aF c (d::(p++c::q))=_;rw[aF,cb hd,qi λz=>h<|bw _ z]
def flat(ls:List Tx):Tx:=(ls.map λl=>l++[10]).flatten
theorem qj:∀{ls:List Tx},(∀l∈ls,10∉l)->aF 10 (flat ls)=ls++[[]]
 |[],_=>J
 |a::r,h=>by
  have:flat (a::r)=a++10::flat r:=by show(a++[10])++flat r=_;simp
  rw[this,qi<|h a<|eX ..,qj λl hl=>h l<|bw _ hl];rfl
def Br(xs:List α)(x:α):atT (xs++[x]) (-1)=U x:=by
 unfold atT;rw[cb<|by decide,cv<|by rw[cA,sE];lia]
 have:(-1+((xs++[x]).length:Int)).toNat=Nv xs:=by rw[cA,sE];lia
 rw[this];simp
def Ir(xs:List α)(x:α):bf (xs++[x]) Y (U<|-1)=xs:=by
 unfold bf gu;dsimp only;rw[cv<|by decide]
 have:(-1+((xs++[x]).length:Int)).toNat=Nv xs:=by rw[cA,sE];lia
 rw[this];simp
def Tr(h:∀l∈ls,10∉l)(a:(flat ls).length<=100000):cN (n+1) 30 [.str<|flat ls] m=.ok (.tup [.lst<|aw ls,.bl O],m):=by
 rw[w30];have d:splitM (flat ls) [.str [10]]=U (.lst<|aw<|ls++[[]]):=by
  show gd _ _=_;rw[iR a,qj h]
 have c:atT (aw<|ls++[[]]) (-1)=U (.str []):=by
  rw[aw,mV];exact Br _ _
 have b:bf (aw<|ls++[[]]) Y (U<|-1)=aw ls:=by
  rw[aw,mV];exact Ir _ _
 refine sEq J J (Tn (fP ls) J)<|bS (t:=.lst<|aw<|ls++[[]]) (yO (l:=flat ls) (ts:=[.str [10]]) J J d)<|bY (s:=s2 (.str<|flat ls)<|.lst<|aw<|ls++[[]]) (gD<|pE (t:=.str []) (u:=.str []) (pE (t:=.lst<|aw<|ls++[[]]) (u:=.int<|-1) J (xC (t:=.int 1) J C6) c) J J)<|bR (t:=.tup [.lst<|aw ls,.bl O]) (dz (ts:=[.lst<|aw ls,.bl O]) (aQ (HQ (x:=Y) (y:=U<|-1) (t:=.lst<|aw<|ls++[[]]) J J J<|by show U (T.lst _)=_;rw[b]) J)<|yT ..) J
def gO(rs:List Tx):Except (Nat×Nat)<|List LN:=match eM 1 rs with
 |.error j=>.error (0,j)
 |.ok a=>match eO 1 a []with
  |.error j=>.error (1,j)
  |.ok d=>match gM d 1 a with
   |.error j=>.error (2,j)
   |.ok _=>.ok a
def RdO(o:Except (Nat×Nat)<|List LN)(m:FR)(x:Res<|T×FR):Prop:=match o with
 |.ok a=>x=.ok (.obj 0 [.lst<|aN a],m)
 |.error p=>Xq p.1 (p.2:Nat) x
theorem r6:∀{rs:List Tx}{j:Nat}{ls:List LN},eM j rs=.ok ls->Nv ls=Nv rs/\(rs≠[]->j+Nv rs<=25)
 |[],j,ls,h=>by cases h;exact⟨J,λz=>dy J z⟩
 |r::rs,j,ls,h=>by
  unfold eM at h;split at h
  .cases h
  .rename_i d
   split at h
   .cases h
   .split at h
    .rename_i l _ a e
     cases h;obtain⟨c,b⟩:=r6 e;refine⟨by rw[eu,eu,c],λ_=>?_⟩
     rw[eu];by_cases z:rs=[]
     .rw[z,xJ];lia
     .have:=b z;lia
    .cases h
def Mm(h:∀l∈rs,10∉l)(r:∀l∈rs,Bd l)(p:(flat rs).length<=100000):RdO (gO rs) m<|cN (n+14) 31 [.str<|flat rs] m:=by
 rw[w31];have e:=Ip n (m:=[]) r;have i:k1 (bO<|oI (af (cN (n+13) 30) []<|k1 zA) zO) ⟨[Kj<|flat rs,Y,Y],[]⟩=.ok ([.lst<|aw rs],⟨[Kj<|flat rs,Y,Y],[]⟩):=aQ (wI<|pE (cE (ts:=[.str<|flat rs]) J<|Tr (n+12) h p) J J) J;unfold gO;cases g:eM 1 rs with
 |error j=>
  rw[g]at e;exact lZ J J<|fR<|fR<|qe i e
 |ok a=>
  rw[g]at e;have hl:Nv a<=100:=by
   obtain⟨q1,q2⟩:=r6 g;by_cases z:rs=[]
   .rw[q1,z];decide
   .have:=q2 z;lia
  have f:aA 1 (af (cN (n+13) 32) []<|k1<|bO<|oI (af (cN (n+13) 30) []<|k1 zA) zO) ⟨[Kj<|flat rs,Y,Y],[]⟩=.ok (.nx,⟨[Kj<|flat rs,Kk<|aN a,Y],[]⟩):=dM (s':=⟨[Kj<|flat rs,Y,Y],[]⟩)<|cE i e;have c:=Iq (n+12) (xs:=a) (m:=[]) hl;dsimp only;cases o:eO 1 a []with
  |error j=>
   rw[o]at c;exact lZ J J<|lY f<|fR<|fR<|qe (ts:=[.lst<|aN a]) J c
  |ok d=>
   rw[o]at c;have s2:aA 2 (af (cN (n+13) 33) []<|k1<|bO zB) ⟨[Kj<|flat rs,Kk<|aN a,Y],[]⟩=.ok (.nx,⟨[Kj<|flat rs,Kk<|aN a,sv<|.h_ (mQ d)<|nX d],[]⟩):=dM (s':=⟨[Kj<|flat rs,Kk<|aN a,Y],[]⟩)<|cE (ts:=[.lst<|aN a]) J c;have b:=Ml (n+12) (xs:=a) (ms:=d) (m:=[]);dsimp only;cases k:gM d 1 a with
   |error j=>
    rw[k]at b;exact lZ J J<|lY f<|lY s2<|fR<|fR<|qe (ts:=[.lst<|aN a,.h_ (mQ d)<|nX d]) J b
   |ok q=>
    rw[k]at b;have s3:bW (af (cN (n+13) 34) []<|k2 (bO zB)<|bO zC) ⟨[Kj<|flat rs,Kk<|aN a,sv<|.h_ (mQ d)<|nX d],[]⟩=.ok (.nx,⟨[Kj<|flat rs,Kk<|aN a,sv<|.h_ (mQ d)<|nX d],[]⟩):=by
     have:=cE (s:=⟨[Kj<|flat rs,Kk<|aN a,sv<|.h_ (mQ d)<|nX d],[]⟩) (fl:=k2 (bO zB)<|bO zC) (ts:=[.lst<|aN a,.h_ (mQ d)<|nX d]) J b
     unfold bW;rw[this];rfl
    refine fL (m':=[]) J (gC (s':=⟨[Kj<|flat rs,Kk<|aN a,sv<|.h_ (mQ d)<|nX d],[]⟩) J (seq1 f<|seq1 s2<|seq1 s3 J) J) ?_;show(aK (aN a)&&O)=O;rw[dC];rfl
def Itm.core(i:Itm):Tx:=if i.sg=[]then[46]else if i.ot=O then[91,94]++i.sg++[93]else if(decide (Nv i.sg=1)&&i.sg.all mL)=O then i.sg else[91]++i.sg++[93]
def Itm.txt(i:Itm):Tx:=i.core++mt i.mn
def cK(l:List Itm):Tx:=(l.map Itm.txt).flatten
def il.txt(p:il):Tx:=(if p.f then[94]else[])++(cK p.au++(if p.b then[36]else[]))
def RP.txt:RP->Tx
 |.row v=>[114,111,119,32]++cV v
 |.like p=>47::(p.txt++[47])
def PC.txt:PC->Tx
 |.last=>[108,97,115,116]
 |.soon v p=>[115,111,111,110,32]++(cV v++(32::47::(p.txt++[47])))
 |.ft x y=>[102,114,111,109,32]++(x.txt++([32,116,111,32]++y.txt))
 |.rp x=>x.txt
def CD.txt:CD->Tx
 |.fin=>[101,110,100]
 |.no x=>[110,111,116,32]++x.txt
 |.pc x=>x.txt
def OO(e:Bool):Tx:=if e then[115,119,97,112,32,101,118,101,114,121,32]else[115,119,97,112,32]
def DD.txt:DD->Tx
 |.drop=>[100,114,111,112]
 |.print=>[112,114,105,110,116]
 |.done=>[100,111,110,101]
 |.tell=>[116,101,108,108]
 |.say l=>[115,97,121,32]++(34::(l++[34]))
 |.swap e p l=>OO e++(47::(p.txt++(47::32::34::(l++[34]))))
 |.join v=>[106,111,105,110,32]++cV v
 |.pile a none=>[112,105,108,101,32]++a
 |.pile a<|U v=>[112,105,108,101,32]++(a++(32::cV v))
 |.bring a=>[98,114,105,110,103,32]++a
 |.go a=>[103,111,32]++a
 |.add v w=>[97,100,100,32]++(cV v++(32::cV w))
def LN.txt:LN->Tx
 |.mark a=>[109,97,114,107,32]++a
 |.bare x=>x.txt
 |.full c x=>c.txt++([58,32]++x.txt)
def YA(d:Tx):Bool:=pre [48] d ||decide (cV (vl d)=d)
def Ű:dZ.all (λa=>YA [a])=O:=by decide +kernel
def ű:dZ.all (λa=>dZ.all λb=>YA [a,b])=O:=by decide +kernel
def Ų:dZ.all (λa=>dZ.all λb=>dZ.all λc=>YA [a,b,c])=O:=by decide +kernel
def YB(hd:∀c∈d,c∈dZ)(h0:d≠[])(hl:Nv d<=3)(e:pre [48] d=Zi):cV (vl d)=d:=by
 have:YA d=O:=by
  match d,h0,hl with
  |[a],_,_=>exact bz.mp Ű a<|hd a<|by simp
  |[a,b],_,_=>exact bz.mp (bz.mp ű a<|hd a<|by simp) b<|hd b<|by simp
  |[a,b,c],_,_=>exact bz.mp (bz.mp (bz.mp Ų a<|hd a<|by simp) b<|hd b<|by simp) c<|hd c<|by simp
 unfold YA at this;rw[e,zk]at this;exact bt this
structure mR(v lo hi:Int):Prop where
 l:lo<=v
 h:v<=hi
def r8(h:iP lo a r=U p):r=cV p.1++p.2/\mR p.1 lo a:=by
 obtain⟨c,b,_⟩:=rY dZ r;unfold iP at h;dsimp only at h;split at h
 .cases h
 .rename_i c1
  split at h
  .cases h
  .rename_i c2
   cases h;simp only[oq,c7,tc,BR]at c1 c2;obtain⟨a1,a2,a3⟩:=c1;refine⟨?_,⟨by lia,by lia⟩⟩
   rw[YB b a1 (by lia) a2]
   exact c
structure dN(a:Tx):Prop where
 hd:∀c∈a,c∈eK
 h0:a≠[]
 hl:Nv a<=8
def uD(h:nameP r=U p):r=p.1++p.2/\dN p.1:=by
 obtain⟨b,a,_⟩:=rY eK r;unfold nameP at h;dsimp only at h;split at h
 .cases h
 .rename_i c1
  cases h;simp only[oq,c7,tc]at c1;exact⟨b,⟨a,c1.1,by lia⟩⟩
def OP(h:HR c r=U p):r=c::(p.1++c::p.2)/\c∉p.1:=by
 obtain⟨f,e,d⟩:=a_.mp h;obtain⟨b,a⟩:=fM d;rw[cX e,b];exact⟨J,a⟩
structure JF(l:Tx):Prop where
 h:∀c∈l,c∈dB
 n:34∉l
 l:Nv l<=40
def Bs(h:jh r=U p):r=34::(p.1++34::p.2)/\JF p.1:=by
 obtain⟨q,f,a⟩:=a_.mp h;split at a
 .cases a
 .rename_i c
  cases a;obtain⟨e,b⟩:=OP f;simp only[oq,c7,tc,BR,Bool.not_eq_false']at c;exact⟨e,⟨λd hd=>bt<|bz.mp c.2 d hd,b,by lia⟩⟩
structure Tt(i:Itm):Prop where
 m:i.mn=49\/i.mn=42\/i.mn=43\/i.mn=63
 l:Nv i.sg<=12
def yU(r:Tx):(aR r).1=49\/(aR r).1=42\/(aR r).1=43\/(aR r).1=63:=by
 cases r with
 |nil=>exact .inl J
 |cons c r=>
  by_cases h:c∈[42,43,63]
  .rw[uB h]
   simpa using Or.inr h
  .rw[nV h];exact .inl J
def YC{mn:Nat}(h:k8 ins mn=U i):i.txt=[91]++ins++[93]++mt mn/\i.mn=mn/\i.sg.length<=12:=by
 unfold k8 at h;dsimp only at h
 generalize hs:(if pre [94] ins=O then ins.drop 1 else ins)=sg at h
 split at h
 .cases h
 rename_i c1;split at h
 .cases h
 split at h
 .cases h
 split at h
 .cases h
 rename_i b;cases h;simp only[oq,c7,tc]at c1;refine⟨?_,J,by show Nv sg<=12;lia⟩
 unfold Itm.txt Itm.core;dsimp only;rw[cb c1.1]
 congr 1
 cases a:pre [94] ins with
 |true=>
  rw[a,cv J]at hs;rw[lX]at a;obtain⟨r,c⟩:=Du.mp a;rw[cv J,<- hs,cX c];rfl
 |false=>
  rw[a,cb gx]at hs;subst hs;rw[a]at b;rw[cb gx,cb<|by simpa using b]
def YD(h:pX c r=U p):c::r=p.1.txt++p.2/\Tt p.1:=by
 unfold pX at h;split at h
 .rename_i e
  obtain⟨q,k,j⟩:=a_.mp h;obtain⟨i,g,rfl⟩:=d_.mp j;obtain⟨f,d,a⟩:=YC g;obtain⟨b,_⟩:=fM k;refine⟨?_,⟨by rw[d];exact yU _,a⟩⟩
  rw[f,e,b]
  have:=nW q.2
  simp only[dU,M8,BX];rw[<- this]
 .split at h
  .rename_i e
   cases h;refine⟨?_,⟨yU _,by simp⟩⟩
   have:=nW r
   unfold Itm.txt Itm.core;dsimp only;rw[cv J,e,dU,<- this];rfl
  .split at h
   .rename_i e
    cases h;refine⟨?_,⟨yU _,by simp⟩⟩
    have:=nW r
    unfold Itm.txt Itm.core;dsimp only;rw[cb<|by simp,cb<|by simp,cv<|by simpa using e,dU,<- this];rfl
   .cases h
theorem Bt:∀{f:Nat}{r:Tx}{l:List Itm},eL f r=U l->r=cK l/\∀i∈l,Tt i
 |0,[],l,h=>by cases h;exact⟨J,λ_ h=>nomatch h⟩
 |_+1,[],l,h=>by cases h;exact⟨J,λ_ h=>nomatch h⟩
 |0,c::r,l,h=>by cases h
 |f+1,c::r,l,h=>by
  obtain⟨p,m,k⟩:=a_.mp<|show(pX c r).bind _=U l from h;obtain⟨n,j,rfl⟩:=d_.mp k;obtain⟨g,e⟩:=YD m;obtain⟨d,b⟩:=Bt j;refine⟨?_,λi a=>?_⟩
  .rw[g,d];rfl
  .rcases bF.mp a with z|z
   .rw[z];exact e
   .exact b i z
def OQ(h:uA w=U p):w=p.txt/\∀i∈p.au,Tt i:=by
 unfold uA at h;split at h
 .cases h
 .obtain⟨au,j,a⟩:=a_.mp h
  split at a
  .cases a
   obtain⟨g,f⟩:=Bt j;refine⟨?_,f⟩;unfold il.txt;dsimp only;have d:w=(if pre [94] w=O then[94]else[])++gJ w:=by
    unfold gJ;cases b:pre [94] w with
    |true=>
     rw[lX]at b;obtain⟨r,e⟩:=Du.mp b;rw[cX e];rfl
    |false=>rfl
   rw[<- g]
   conv=>lhs;rw[d]
   congr 1
   generalize gJ w=bd
   rcases sJ bd with rfl|⟨l,c,rfl⟩
   .rfl
   .rw[sO,qc]
    by_cases hc:c=36
    .rw[cw hc,cv J,cv J,Nd,hc]
    .rw[ar hc,cb gx,cb gx,bG]
  .cases a
def Tu(h:qR r=U p):r=47::(p.1.txt++47::p.2):=by
 obtain⟨q,d,c⟩:=a_.mp h;obtain⟨x,b,rfl⟩:=d_.mp c;obtain⟨a,_⟩:=OP d;rw[a,(OQ b).1]
section
variable{p:α}
def iE(h:(strip w r).elim o g=U p):(∃a,r=w++a/\g a=U p)\/o=U p:=by
 cases e:strip w r with
 |none=>rw[e]at h;exact .inr h
 |some a=>rw[e]at h;exact .inl ⟨a,cX e,h⟩
def C_(h:(strip w r).bind g=U p):∃a,r=w++a/\g a=U p:=by
 obtain⟨a,c,b⟩:=a_.mp h;exact⟨a,cX c,b⟩
end
def il.g(p:il):Prop:=∀i∈p.au,Tt i
def RP.g:RP->Prop
 |.row v=>mR v 1 999
 |.like p=>p.g
def PC.g:PC->Prop
 |.last=>True
 |.soon v p=>mR v 1 3/\p.g
 |.ft x y=>x.g/\y.g
 |.rp x=>x.g
def CD.g:CD->Prop
 |.fin=>True
 |.no x=>x.g
 |.pc x=>x.g
def DD.g:DD->Prop
 |.say l=>JF l
 |.swap _ p l=>p.g/\JF l
 |.join v=>mR v 2 9
 |.pile a none=>dN a
 |.pile a<|U v=>dN a/\mR v 1 9
 |.bring a=>dN a
 |.go a=>dN a
 |.add v w=>mR v 1 9/\mR w 1 9
 |_=>True
def LN.g:LN->Prop
 |.mark a=>dN a
 |.bare x=>x.g
 |.full c x=>c.g/\x.g
def yV(h:qR r=U p):r=47::(p.1.txt++47::p.2)/\p.1.g:=by
 refine⟨Tu h,?_⟩;obtain⟨q,c,b⟩:=a_.mp h;obtain⟨x,a,rfl⟩:=d_.mp b;exact(OQ a).2
def Tv(h:S4 r=U p):r=p.1.txt++p.2/\p.1.g:=by
 rcases iE h with⟨e,d,h⟩|h
 .obtain⟨q,c,rfl⟩:=d_.mp h
  obtain⟨b,a⟩:=r8 c;exact⟨by rw[d,b];simp[RP.txt],a⟩
 .obtain⟨q,c,rfl⟩:=d_.mp h
  obtain⟨b,a⟩:=yV c;exact⟨by rw[b];simp[RP.txt],a⟩
def YE(h:S5 r=U p):r=p.1.txt++p.2/\p.1.g:=by
 rcases iE h with⟨k,b,h⟩|h
 .cases h;exact⟨b,trivial⟩
 rcases iE h with⟨k,b,h⟩|h
 .revert h;refine Nw λq a=>λh=>?_
  obtain⟨l,j,h⟩:=C_ h;obtain⟨q2,i,rfl⟩:=d_.mp h;obtain⟨f,e⟩:=r8 a;obtain⟨d,c⟩:=yV i;exact⟨by rw[b,f,j,d];simp[PC.txt],e,c⟩
 rcases iE h with⟨k,b,h⟩|h
 .revert h;refine Nw λq a=>λh=>?_
  obtain⟨l,j,h⟩:=C_ h;obtain⟨q2,i,rfl⟩:=d_.mp h;obtain⟨f,e⟩:=Tv a;obtain⟨d,c⟩:=Tv i;exact⟨by rw[b,f,j,d];simp[PC.txt],e,c⟩
 .obtain⟨q,a,rfl⟩:=d_.mp h
  exact Tv a
def ų(h:Yi r=U p):r=p.1.txt++p.2/\p.1.g:=by
 rcases iE h with⟨c,b,h⟩|h
 .cases h;exact⟨b,trivial⟩
 rcases iE h with⟨c,b,h⟩|h
 .obtain⟨q,a,rfl⟩:=d_.mp h
  obtain⟨e,d⟩:=YE a;exact⟨by rw[b,e];simp[CD.txt],d⟩
 .obtain⟨q,a,rfl⟩:=d_.mp h
  exact YE a
def Iu(h:mO e r=U p):OO e++r=p.1.txt++p.2/\p.1.g:=by
 revert h;refine Nw λq i=>λh=>?_;obtain⟨k,j,h⟩:=C_ h;obtain⟨q2,f,rfl⟩:=d_.mp h;obtain⟨d,c⟩:=yV i;obtain⟨b,a⟩:=Bs f;exact⟨by rw[d,j,b];simp[DD.txt],c,a⟩
def Tw(h:pY r=U p):[112,105,108,101,32]++r=p.1.txt++p.2/\p.1.g:=by
 revert h;refine Nw λq f=>λh=>?_;obtain⟨b,a⟩:=uD f;rcases iE h with⟨j,i,h⟩|h
 .obtain⟨q2,e,rfl⟩:=d_.mp h
  obtain⟨d,c⟩:=r8 e;exact⟨by rw[b,i,d];simp[DD.txt],a,c⟩
 .cases h
  exact⟨by rw[b];simp[DD.txt],a⟩
def YF(h:S6 r=U p):r=p.1.txt++p.2/\p.1.g:=by
 rcases iE h with⟨b,a,h⟩|h
 .cases h;exact⟨a,trivial⟩
 rcases iE h with⟨b,a,h⟩|h
 .cases h;exact⟨a,trivial⟩
 rcases iE h with⟨b,a,h⟩|h
 .cases h;exact⟨a,trivial⟩
 rcases iE h with⟨b,a,h⟩|h
 .cases h;exact⟨a,trivial⟩
 rcases iE h with⟨b,a,h⟩|h
 .obtain⟨q,e,rfl⟩:=d_.mp h
  obtain⟨d,c⟩:=Bs e;exact⟨by rw[a,d];simp[DD.txt],c⟩
 rcases iE h with⟨b,a,h⟩|h
 .rw[a];exact Iu h
 rcases iE h with⟨b,a,h⟩|h
 .rw[a];exact Iu h
 rcases iE h with⟨b,a,h⟩|h
 .obtain⟨q,e,rfl⟩:=d_.mp h
  obtain⟨d,c⟩:=r8 e;exact⟨by rw[a,d];simp[DD.txt],c⟩
 rcases iE h with⟨b,a,h⟩|h
 .rw[a];exact Tw h
 rcases iE h with⟨b,a,h⟩|h
 .obtain⟨q,e,rfl⟩:=d_.mp h
  obtain⟨d,c⟩:=uD e;exact⟨by rw[a,d];simp[DD.txt],c⟩
 rcases iE h with⟨b,a,h⟩|h
 .obtain⟨q,e,rfl⟩:=d_.mp h
  obtain⟨d,c⟩:=uD e;exact⟨by rw[a,d];simp[DD.txt],c⟩
 obtain⟨b,a,h⟩:=C_ h;revert h;refine Nw λq e=>λh=>?_;obtain⟨l,k,h⟩:=C_ h;obtain⟨q2,d,rfl⟩:=d_.mp h;obtain⟨c,j⟩:=r8 e;obtain⟨i,f⟩:=r8 d;exact⟨by rw[a,c,k,i];simp[DD.txt],j,f⟩
def Ŵ(h:S7 r=U p):r=p.1.txt++p.2/\p.1.g:=by
 rcases iE h with⟨l,j,h⟩|h
 .obtain⟨q,a,rfl⟩:=d_.mp h
  obtain⟨c,b⟩:=uD a;exact⟨by rw[j,c];simp[LN.txt],b⟩
 split at h
 .obtain⟨q,a,rfl⟩:=d_.mp h
  exact YF a
 .revert h;refine Nw λq a=>λh=>?_
  obtain⟨k,i,h⟩:=C_ h;obtain⟨q2,c,rfl⟩:=d_.mp h;obtain⟨b,f⟩:=ų a;obtain⟨e,d⟩:=YF c;exact⟨by rw[b,i,e];simp[LN.txt],f,d⟩
def iF(h:parse r=U l):r=l.txt/\l.g/\l.ms=O:=by
 obtain⟨p,e,a⟩:=a_.mp h;split at a
 .cases a
 .rename_i c
  cases a;simp only[oq,xF,decide_eq_false_iff_not,tc,Bool.not_eq_false,Classical.not_not]at c;obtain⟨b,d⟩:=Ŵ e;rw[c.1,bG]at b;exact⟨b,d,c.2⟩
def Iv{S a b:Tx}(h:∀c∈a,c∈S):sp S (a++b)=(a++(sp S b).1,(sp S b).2):=by
 induction a with
 |nil=>rfl
 |cons c a f=>
  have e:sp S (c::(a++b))=(c::(sp S<|a++b).1,(sp S<|a++b).2):=cv<|h c<|eX ..;show sp S (c::(a++b))=_;rw[e,f λd hd=>h d<|bw _ hd];rfl
def Bu{S:Tx}{b:Tx}(h:∀c,b.head?=U c->c∉S):sp S b=([],b):=by
 cases b with
 |nil=>rfl
 |cons c b=>exact cb<|h c J
def YG{S r:Tx}(h:c∉S):∀d,(c::r:Tx).head?=U d->d∉S:=λd e=>by cases e;exact h
def hd0{S:Tx}:∀c,([]:Tx).head?=U c->c∉S:=λ_ h=>nomatch h
def wZ{S a:Tx}(h:∀c∈a,c∈S):wH S a=O:=bz.mpr λc b=>cw<|h c b
def w_{w b:Tx}(W:dN w)(h:∀c,b.head?=U c->c∉eK):nameP (w++b)=U (w,b):=by
 unfold nameP;rw[Iv W.hd,Bu h];dsimp only;rw[bG,cb];rw[ar W.h0,ar<|by have:=W.hl;lia]
 decide
def Iw:cV (n:Int)=(Nat.toDigits 10 n).map Gf:=by
 show(Nat.repr n).toList.map Gf=_;rw[Nat.toList_repr]
def Iz:∀c∈cV (n:Int),c∈dZ:=λc e=>by
 rw[Iw]at e;obtain⟨d,f,rfl⟩:=lr.mp e;have h:=Nat.isDigit_of_mem_toDigits (by decide) (by decide) f
 unfold Char.isDigit at h;simp only[bZ,c7,ge_iff_le,UInt32.le_iff_toNat_le]at h;have a:48<=d.toNat:=h.1;have b:d.toNat<=57:=h.2
 generalize d.toNat=m at a b
 have:m=48\/m=49\/m=50\/m=51\/m=52\/m=53\/m=54\/m=55\/m=56\/m=57:=by lia
 unfold dZ;simpa using this
def IA(n k:Nat)(a:0<k)(h:n<10^k):(cV (n:Int)).length<=k:=by
 rw[Iw,cU];exact(Nat.length_toDigits_le_iff (by decide) a).mpr h
def ŵ(v:Nat):Bool:=let d:=cV v;!decide (d=[])&&(!pre [48] d&&decide (vl d=v))
def Bv:((gQ 999).all λk=>ŵ<|k+1)=O:=by decide +kernel
def nY{b:Tx}(N:mR v lo d)(j:1<=lo)(i:d<=999)(f:∀c,b.head?=U c->c∉dZ):iP lo d (cV v++b)=U (v,b):=by
 have ř:=N.l;have e:=N.h;obtain⟨v,rfl⟩:∃n:Nat,v=n:=⟨v.toNat,by lia⟩
 have a:=bz.mp Bv (v-1)<|uT.mpr<|by lia
 rw[show v-1+1=v by lia]at a
 unfold ŵ at a;simp only[bZ,xF,decide_eq_false_iff_not,c7]at a;obtain⟨c1,c2,g⟩:=a;have hl:=IA v 3 (by decide) (by lia)
 unfold iP;rw[Iv<|Iz v,Bu f];dsimp only;rw[bG,c2,g,ar c1,ar<|by lia,ar<|by lia,ar<|by lia]
 rfl
def Bw(h:c∉a):HR c (c::(a++c::b))=U (a,b):=by
 unfold HR;rw[show strip [c] (c::(a++c::b))=U (a++c::b)from lT [c] _];exact nU h
def r9(W:JF l):jh (34::(l++34::b))=U (l,b):=by
 unfold jh;rw[Bw W.n];show(if _ then Y else U (l,b))=_
 rw[ar<|by have:=W.l;lia,wZ W.h]
 rfl
structure yW(sg:Tx):Prop where
 ne:sg≠[]
 nz:Nv sg<=12
 nd:sg.Nodup
 mem:∀c∈sg,c∈dB/\c≠93/\c≠94/\c≠47
inductive IB:Itm->Prop
 |any (m:Nat):IB ⟨[],O,m⟩
 |neg (sg:Tx) (m:Nat):yW sg->IB ⟨sg,O,m⟩
 |set (sg:Tx) (m:Nat):yW sg->(decide (Nv sg=1)&&sg.all mL)=Zi->IB ⟨sg,Zi,m⟩
 |pl (c m:Nat):mL c=O->IB ⟨[c],Zi,m⟩
structure uP(i:Itm):Prop where
 k:IB i
 m:i.mn=49\/i.mn=42\/i.mn=43\/i.mn=63
def OR(h:mL c=O):c∈dB/\c∉ZX:=by
 unfold mL at h;rw[bZ]at h;refine⟨bt h.1,λz=>?_⟩;rw[cw z]at h;cases h.2
def Mn{m:Nat}{r:Tx}(b:m=49\/m=42\/m=43\/m=63)(a:∀c,r.head?=U c->c∉[42,43,63]):aR (mt m++r)=(m,r):=by
 rcases b with rfl|rfl|rfl|rfl
 .show aR r=_
  cases r with
  |nil=>rfl
  |cons c r=>exact nV<|a c J
 .rfl
 .rfl
 .rfl
def IC{m:Nat}(G:yW sg)(h:ot=O\/(decide (Nv sg=1)&&sg.all mL)=Zi):k8 (if ot then 94::sg else sg) m=U ⟨sg,ot,m⟩:=by
 have d:pre [94] (if ot then 94::sg else sg)=ot:=by
  cases ot with
  |true=>exact pre_app [94] sg
  |false=>
   show pre [94] sg=Zi;cases sg with
   |nil=>exact dy J G.ne
   |cons c l=>exact uz<|et (G.mem c<|eX ..).2.2.1
 unfold k8;dsimp only;rw[d];have b:(if ot=O then(if ot=O then 94::sg else sg).drop 1 else(if ot=O then 94::sg else sg))=sg:=by cases ot<;>rfl
 rw[b,ar G.ne,ar<|by have:=G.nz;lia,cb<|by decide,cb,cb<|by simpa using G.nd,cb]
 .rcases h with h|h
  .rw[h];simp
  .rw[h,zo];simp
 .intro z
  obtain⟨c,e,a⟩:=DV.mp z
  have:=G.mem c e
  have a:=bt a;simp only[bF,mU,lb]at a;rcases a with rfl|rfl|rfl
  .exact this.2.1 J
  .exact this.2.2.1 J
  .exact this.2.2.2 J
def ID(I:uP i){r:Tx}(f:∀c,r.head?=U c->c∉[42,43,63]):∃c t,i.txt=c::t/\c∉[42,43,63]/\pX c (t++r)=U (i,r):=by
 obtain⟨k,g⟩:=I;have a:=Mn g f;cases k with
 |any m=>
  refine⟨46,mt m,J,by decide,?_⟩
  show(if(46:Nat)=91 then _ else if(46:Nat)=46 then U ((⟨[],O,(aR<|mt m++r).1⟩:Itm),(aR<|mt m++r).2)else _)=_
  rw[cb<|by decide,cv J,a]
 |pl c m h=>
  obtain⟨j,b⟩:=OR h;have e:c≠91:=λz=>b (by rw[z];decide)
  have d:c≠46:=λz=>b (by rw[z];decide)
  refine⟨c,mt m,?_,λz=>b<|by revert z;simp only[bF,mU,lb];rintro(rfl|rfl|rfl)<;>decide,?_⟩
  .unfold Itm.txt Itm.core
   dsimp only;rw[cb<|by simp,cb<|by simp,cv<|by simpa using h];rfl
  .unfold pX
   rw[cb e,cb d,cv h,a]
 |neg sg m G=>
  refine⟨91,(94::sg)++[93]++mt m,?_,by decide,?_⟩
  .unfold Itm.txt Itm.core
   dsimp only;rw[cb G.ne,cv J];simp
  .unfold pX
   rw[cv J,dU,dU,show[93]++(mt m++r)=93::(mt m++r)from J,nU λz=>by
    rcases bF.mp z with z|z
    .cases z
    .exact(G.mem 93 z).2.1 J]
   show iS _ (k8 (94::sg) (aR<|mt m++r).1)=_;rw[a,show k8 (94::sg) m=U ⟨sg,O,m⟩from IC (ot:=O) G<|.inl J];rfl
 |set sg m G h=>
  refine⟨91,sg++[93]++mt m,?_,by decide,?_⟩
  .unfold Itm.txt Itm.core
   dsimp only;rw[cb G.ne,cb<|by simp,cb<|by rw[h];simp];simp
  .unfold pX
   rw[cv J,dU,dU,show[93]++(mt m++r)=93::(mt m++r)from J,nU λz=>(G.mem 93 z).2.1 J];show iS _ (k8 sg (aR<|mt m++r).1)=_;rw[a,show k8 sg m=U ⟨sg,Zi,m⟩from IC (ot:=Zi) G<|.inr h];rfl
theorem xg:∀{l:List Itm}{f:Nat},(∀i∈l,uP i)->(cK l).length<=f->eL f (cK l)=U l
 |[],f,_,_=>by cases f<;>rfl
 |i::l,f,h,b=>by
  have g:∀c,(cK l).head?=U c->c∉[42,43,63]:=λc a=>by
   cases l with
   |nil=>cases a
   |cons j l=>
    obtain⟨d,t,e,hd,_⟩:=ID (h j<|by simp) (r:=[]) (λ_ h=>nomatch h)
    have:cK (j::l)=d::(t++cK l):=by show j.txt++cK l=_;rw[e];rfl
    rw[this]at a;cases a;exact hd
  obtain⟨c,t,e,_,k⟩:=ID (h i<|eX ..) g;have n:cK (i::l)=c::(t++cK l):=by show i.txt++cK l=_;rw[e];rfl
  rw[n]at b ⊢;rw[eu,cA]at b;cases f with
  |zero=>lia
  |succ f=>
   show(pX c<|t++cK l).bind _=_;rw[k];show(eL f<|cK l).map _=_;rw[xg (λj m=>h j<|bw _ m)<|by lia]
   rfl
def Tz{m c:Nat}(a:m=49\/m=42\/m=43\/m=63)(h:c∈mt m):c∈[42,43,63]:=by
 rcases a with rfl|rfl|rfl|rfl
 .cases h
 .rw[gA.mp h];decide
 .rw[gA.mp h];decide
 .rw[gA.mp h];decide
def yX(I:uP i):(∀c∈i.txt,c∈dB/\c≠47)/\(∃c t,i.txt=c::t/\c≠94)/\∃c t,i.txt=t++[c]/\c≠36:=by
 obtain⟨k,b⟩:=I;have j:∀c∈[42,43,63],c∈dB/\c≠47/\c≠36:=by decide
 have last:∀(t:Tx)(e:Nat),e≠36->∃c u,t++[e]++mt i.mn=u++[c]/\c≠36:=λt e f=>by
  rcases b with h|h|h|h<;>rw[h]
  .exact⟨e,t,by show t++[e]++[]=_;rw[bG],f⟩
  .exact⟨42,t++[e],J,by decide⟩
  .exact⟨43,t++[e],J,by decide⟩
  .exact⟨63,t++[e],J,by decide⟩
 have mem:∀core:Tx,(∀c∈core,c∈dB/\c≠47)->∀c∈core++mt i.mn,c∈dB/\c≠47:=λcore h c g=>by
  rcases iI.mp g with z|z
  .exact h c z
  .have:=j c<|Tz b z;exact⟨this.1,this.2.1⟩
 cases k with
 |any m=>exact⟨mem [46]<|by decide,⟨46,_,J,by decide⟩,last [] 46<|by decide⟩
 |pl c m h=>
  obtain⟨l,a⟩:=OR h;have e:Itm.txt ⟨[c],Zi,m⟩=[c]++mt m:=by
   unfold Itm.txt Itm.core;dsimp only;rw[cb<|by simp,cb<|by simp,cv<|by simpa using h]
  rw[e];exact⟨mem [c] λd hd=>by rw[gA.mp hd];exact⟨l,λz=>a<|by rw[z];decide⟩,⟨c,_,J,λz=>a<|by rw[z];decide⟩,last [] c λz=>a<|by rw[z];decide⟩
 |neg sg m G=>
  have e:Itm.txt ⟨sg,O,m⟩=([91,94]++sg)++[93]++mt m:=by
   unfold Itm.txt Itm.core;dsimp only;rw[cb G.ne,cv J]
  rw[e];refine⟨mem _ λd hd=>?_,⟨91,_,J,by decide⟩,last _ 93<|by decide⟩
  rcases iI.mp hd with z|z
  .rcases iI.mp z with z|z
   .exact(by decide:∀c∈[91,94],c∈dB/\c≠47) d z
   .exact⟨(G.mem d z).1,(G.mem d z).2.2.2⟩
  .rw[gA.mp z];decide
 |set sg m G h=>
  have e:Itm.txt ⟨sg,Zi,m⟩=([91]++sg)++[93]++mt m:=by
   unfold Itm.txt Itm.core;dsimp only;rw[cb G.ne,cb<|by simp,cb<|by rw[h];simp]
  rw[e];refine⟨mem _ λd hd=>?_,⟨91,_,J,by decide⟩,last _ 93<|by decide⟩
  rcases iI.mp hd with z|z
  .rcases iI.mp z with z|z
   .rw[gA.mp z];decide
   .exact⟨(G.mem d z).1,(G.mem d z).2.2.2⟩
  .rw[gA.mp z];decide
theorem By:∀{l:List Itm},(∀i∈l,uP i)->∀c∈cK l,c∈dB/\c≠47
 |[],_,_,h=>nomatch h
 |i::l,h,c,b=>by
  rcases iI.mp (show c∈i.txt++cK l from b)with z|z
  .exact(yX<|h i<|eX ..).1 c z
  .exact By (λj a=>h j<|bw _ a) c z
def TH(h:∀i∈l,uP i){b:Bool}:pre [94] (cK l++(if b then[36]else[]))=Zi:=by
 cases l with
 |nil=>cases b<;>rfl
 |cons i l=>
  obtain⟨c,t,e,a⟩:=(yX<|h i<|eX ..).2.1
  have:cK (i::l)++(if b then[36]else[])=c::(t++cK l++(if b then[36]else[])):=by
   show(i.txt++cK l)++_=_;rw[e];rfl
  rw[this];exact uz<|et a
def IE:∀{l:List Itm},(∀i∈l,uP i)->uN [36] (cK l)=Zi:=λ{l} h=>by
 rcases sJ l with rfl|⟨l,i,rfl⟩
 .rfl
 .rw[sO]at h ⊢
  obtain⟨c,t,e,a⟩:=(yX<|h i<|by simp).2.2
  have:cK (l++[i])=(cK l++t)++[c]:=by
   unfold cK;rw[mV,zH];show _++(i.txt++[])=_;rw[bG,e,dU]
  rw[this,qc,ar a]
def qT(p:il):Prop:=∀i∈p.au,uP i
def uE(h:qT p):∀c∈p.txt,c∈dB/\c≠47:=λc d=>by
 unfold il.txt at d;rcases iI.mp d with z|z
 .cases a:p.f with
  |true=>rw[a]at z;rw[gA.mp z];decide
  |false=>rw[a]at z;cases z
 .rcases iI.mp z with z|z
  .exact By h c z
  .cases a:p.b with
   |true=>rw[a]at z;rw[gA.mp z];decide
   |false=>rw[a]at z;cases z
def TJ(h:qT p):uA p.txt=U p:=by
 obtain⟨f,au,b,nz⟩:=p;have h:∀i∈au,uP i:=h;have d:pre [94] (il.txt ⟨f,au,b,nz⟩)=f:=by
  cases f with
  |true=>exact pre_app [94] _
  |false=>exact TH h
 have g:gJ (il.txt ⟨f,au,b,nz⟩)=cK au++(if b then[36]else[]):=by
  unfold gJ;rw[d];cases f<;>rfl
 have e:uN [36] (cK au++(if b=O then[36]else[]))=b:=by
  cases b with
  |true=>show uN [36] (cK au++[36])=O;rw[qc];rfl
  |false=>show uN [36] (cK au++[])=Zi;rw[bG];exact IE h
 have a:(if b=O then(cK au++(if b=O then[36]else[])).dropLast else(cK au++(if b=O then[36]else[])))=cK au:=by
  cases b with
  |true=>show(cK au++[36]).dropLast=_;rw[Nd]
  |false=>exact bG _
 unfold uA;dsimp only;rw[d,g,e,a,wZ λc a=>(uE (p:=⟨f,au,b,nz⟩) h c a).1];show MG (eL _<|cK au) _=_;rw[xg h<|by rw[cA];lia]
 exact dif_pos nz
def uF(h:qT p):qR (47::(p.txt++47::b))=U (p,b):=by
 unfold qR;rw[Bw λz=>(uE h 47 z).2 J];show(uA p.txt).map _=_;rw[TJ h];rfl
def RP.c:RP->Prop
 |.row v=>mR v 1 999
 |.like p=>qT p
def PC.c:PC->Prop
 |.last=>True
 |.soon v p=>mR v 1 3/\qT p
 |.ft x y=>x.c/\y.c
 |.rp x=>x.c
def CD.c:CD->Prop
 |.fin=>True
 |.no x=>x.c
 |.pc x=>x.c
section
variable{b:Tx}
def IF(h:x.c)(a:∀c,b.head?=U c->c∉dZ):S4 (x.txt++b)=U (x,b):=by
 cases x with
 |row v=>
  show Option.elim (strip [114,111,119,32]<|[114,111,119,32]++cV v++b) _ _=_;rw[dU,lT];show iS _ (iP 1 999<|cV v++b)=_;rw[nY h (by decide) (by decide) a];rfl
 |like p=>
  show iS _ (qR<|47::(p.txt++[47]++b))=_;rw[dU,show[47]++b=47::b from J,uF h];rfl
def uG{x:RP}(d:c≠114)(a:c≠47):strip (c::w) (x.txt++b)=Y:=by
 cases x with
 |row v=>exact cb d
 |like p=>exact cb a
def OS(h:x.c)(a:∀c,b.head?=U c->c∉dZ):S5 (x.txt++b)=U (x,b):=by
 cases x with
 |last=>rfl
 |soon v p=>
  show HS ((cV v++(32::47::(p.txt++[47])))++b)=_;unfold HS;rw[dU,nY (b:=32::47::(p.txt++[47])++b) h.1 (by decide) (by decide)<|YG (c:=32)<|by decide]
  show iS _ (qR<|47::(p.txt++[47]++b))=_;rw[dU,show[47]++b=47::b from J,uF h.2];rfl
 |ft x y=>
  show HU ((x.txt++([32,116,111,32]++y.txt))++b)=_;unfold HU;rw[dU,IF (b:=[32,116,111,32]++y.txt++b) h.1<|YG (c:=32)<|by decide]
  show iS _ (S4<|y.txt++b)=_;rw[IF h.2 a];rfl
 |rp x=>
  unfold S5;rw[show(PC.rp x).txt=x.txt from J,uG (by decide)<|by decide,uG (by decide)<|by decide,uG (by decide)<|by decide,IF h a];rfl
def IG{x:PC}(h:c≠114/\c≠47/\c≠108/\c≠115/\c≠102):strip (c::w) (x.txt++b)=Y:=by
 cases x with
 |last=>exact cb h.2.2.1
 |soon v p=>exact cb h.2.2.2.1
 |ft x y=>exact cb h.2.2.2.2
 |rp x=>exact uG h.1 h.2.1
def YH(h:x.c)(a:∀c,b.head?=U c->c∉dZ):Yi (x.txt++b)=U (x,b):=by
 cases x with
 |fin=>rfl
 |no x=>
  show iS _ (S5<|x.txt++b)=_;rw[OS h a];rfl
 |pc x=>
  unfold Yi;rw[show(CD.pc x).txt=x.txt from J,IG<|by decide,IG<|by decide,OS h a];rfl
end
def DD.c:DD->Prop
 |.say l=>JF l
 |.swap _ p l=>qT p/\JF l
 |.join v=>mR v 2 9
 |.pile a none=>dN a
 |.pile a<|U v=>dN a/\mR v 1 9
 |.bring a=>dN a
 |.go a=>dN a
 |.add v w=>mR v 1 9/\mR w 1 9
 |_=>True
def uH(N:mR v lo a)(d:1<=lo)(c:a<=999):iP lo a (cV v)=U (v,[]):=by
 have:=nY (b:=[]) N d c hd0
 rw[bG]at this;exact this
def k9(N:dN a):nameP a=U (a,[]):=by
 have:=w_ (b:=[]) N hd0
 rw[bG]at this;exact this
def BA(h:qT p)(W:JF l):mO e (47::(p.txt++(47::32::34::(l++[34]))))=U (.swap e p l,[]):=by
 unfold mO;rw[uF h];show iS _ (jh<|34::(l++34::[]))=_;rw[r9 W];rfl
def OT(h:x.c):S6 x.txt=U (x,[]):=by
 cases x with
 |drop=>rfl
 |print=>rfl
 |done=>rfl
 |tell=>rfl
 |say l=>
  show iS _ (jh<|34::(l++34::[]))=_;rw[r9 h];rfl
 |swap e p l=>
  cases e with
  |true=>
   show mO O (47::(p.txt++(47::32::34::(l++[34]))))=_;exact BA h.1 h.2
  |false=>
   show mO Zi (47::(p.txt++(47::32::34::(l++[34]))))=_;exact BA h.1 h.2
 |join v=>
  show iS _ (iP 2 9<|cV v)=_;rw[uH h (by decide)<|by decide];rfl
 |pile a v=>
  cases v with
  |none=>
   show pY a=_;unfold pY;rw[k9 h];rfl
  |some v=>
   show pY (a++(32::cV v))=_;unfold pY;rw[w_ h.1<|YG<|by decide]
   show iS _ (iP 1 9<|cV v)=_;rw[uH h.2 (by decide)<|by decide];rfl
 |bring a=>
  show iS _ (nameP a)=_;rw[k9 h];rfl
 |go a=>
  show iS _ (nameP a)=_;rw[k9 h];rfl
 |add v w=>
  show LV (cV v++(32::cV w))=_;unfold LV;rw[nY h.1 (by decide) (by decide)<|YG<|by decide]
  show iS _ (iP 1 9<|cV w)=_;rw[uH h.2 (by decide)<|by decide];rfl
def LN.c:LN->Prop
 |.mark a=>dN a
 |.bare x=>x.c
 |.full c x=>c.c/\x.c
def TL{x:DD}:yQ x.txt=Zi/\strip [109,97,114,107,32] x.txt=Y:=by
 cases x with
 |swap e p l=>cases e<;>exact⟨J,J⟩
 |pile a v=>cases v<;>exact⟨J,J⟩
 |_=>exact⟨J,J⟩
def TM{x:CD}:yQ (x.txt++b)=O/\strip [109,97,114,107,32] (x.txt++b)=Y:=by
 have rp:∀x:RP,yQ (x.txt++b)=O/\strip [109,97,114,107,32] (x.txt++b)=Y:=λx=>by cases x<;>exact⟨J,J⟩
 have pc:∀x:PC,yQ (x.txt++b)=O/\strip [109,97,114,107,32] (x.txt++b)=Y:=λx=>by
  cases x with
  |rp x=>exact rp x
  |_=>exact⟨J,J⟩
 cases x with
 |fin=>exact⟨J,J⟩
 |no x=>exact⟨J,J⟩
 |pc x=>exact pc x
def xh(h:x.c)(g:x.ms=O):parse x.txt=U x:=by
 have hl:S7 x.txt=U (x,[]):=by
  cases x with
  |mark a=>
   show iS _ (nameP a)=_;rw[k9 h];rfl
  |bare d=>
   obtain⟨f,e⟩:=TL (x:=d);unfold S7;rw[show(LN.bare d).txt=d.txt from J,e,f];show iS _ (S6 d.txt)=_;rw[OT h];rfl
  |full c d=>
   obtain⟨f,e⟩:=TM (x:=c) (b:=[58,32]++d.txt);unfold S7;rw[show(LN.full c d).txt=c.txt++([58,32]++d.txt)from J,e,f];show HW (c.txt++([58,32]++d.txt))=_;unfold HW;rw[YH (b:=[58,32]++d.txt) h.1<|YG (c:=58)<|by decide]
   show iS _ (S6 d.txt)=_;rw[OT h.2];rfl
 unfold parse;rw[hl];show(if _ then Y else U x)=_
 rw[g];rfl
abbrev S1(t:T):S:=⟨[sv t],[]⟩
def jl(h:Nv a+Nv b<=1000000):cz .Add (.str a) (.str b)=U (.str<|a++b):=iR h
def II{i:Itm}(h:Nv i.sg<=12):Nv i.core<=15:=by
 unfold Itm.core;split
 .decide
 .split
  .rw[cA,cA];show 2+_+1<=_;lia
  .split
   .lia
   .rw[cA,cA];show 1+_+1<=_;lia
def TN(m:Nat):(mt m).length<=1:=by
 unfold mt;split<;>simp
theorem uI:∀{l:List Itm},(∀i∈l,Tt i)->(cK l).length<=16*Nv l
 |[],_=>eA _
 |i::l,h=>by
  have d:=II (h i<|eX ..).l;have c:=TN i.mn;have b:=uI (l:=l) λj a=>h j<|bw _ a;show((i.core++mt i.mn)++cK l).length<=_;rw[cA,cA,eu]
  lia
def k_{p:il}(h:p.g):Nv p.txt<=130:=by
 have e:=uI h;have d:=p.nz;unfold il.txt;rw[cA,cA];have c:(if p.f=O then[94]else[]:Tx).length<=1:=by split<;>simp
 have a:(if p.b=O then[36]else[]:Tx).length<=1:=by split<;>simp
 lia
section
variable{m:FR}
def Mp{i:Itm}(h:Nv i.sg<=12):cN (n+3) 11 [.str i.sg,.bl i.ot] m=.ok (.str i.core,m):=by
 rw[w11];refine sEq J J J ?_;show WB (ah _ _) (s2 (.str i.sg)<|.bl i.ot) _;have d:∀u v:Tx,Nv u<=2->Nv v<=2->v5 u v (.str i.sg)=U (.str<|u++i.sg++v):=λu v g f=>iR (by lia)
 unfold Itm.core;split
 .rename_i e
  exact bY (gD<|pE J J<|(pU ..).trans<|by rw[cw e])<|bR J J
 .rename_i e
  refine bN (gD<|pE J J<|(pU ..).trans<|by rw[ar e]) ?_
  split
  .rename_i a
   exact bY (qz<|by show Res.ok (T.bl i.ot,_)=_;rw[a])<|bR (xC (t:=.str i.sg) J<|d [91,94] [93] (by decide)<|by decide) J
  .rename_i a
   have a:i.ot=Zi:=by simpa using a
   refine bN (qz<|by show Res.ok (T.bl i.ot,_)=_;rw[a]) ?_
   have b:=qz<|cE (s:=s2 (.str i.sg)<|.bl i.ot) (fl:=k2 zA zB) (ts:=[.str i.sg,.bl i.ot]) J<|Ie n;rw[a]at b;split
   .rename_i c
    rw[c]at b;rw[a];exact bY b<|bR J J
   .rename_i c
    rw[show(decide (Nv i.sg=1)&&i.sg.all mL)=Zi by simpa using c]at b
    rw[a];exact bN b<|bR (xC (t:=.str i.sg) J<|d [91] [93] (by decide)<|by decide) J
def parts(l:List Itm):List Tx:=l.flatMap λi=>[i.core,mt i.mn]
theorem OU(n:Nat):∀(l:List Itm)(done:List Tx)(a b c:Option C),(∀i∈l,Tt i)->Nv done+2*Nv l<=1000->∃f d c',aZ (cP [2,3,4]) (Yb<|cN<|n+3) (vals l) ⟨[sv t,U<|.ol<|aw done,a,b,c],[]⟩=.ok (.nx,⟨[sv t,U<|.ol<|aw<|done++parts l,f,d,c'],[]⟩)
 |[],done,a,b,c,_,_=>⟨a,b,c,by rw[show done++parts []=done from bG _];rfl⟩
 |i::l,done,a,b,c,h,hl=>by
  rw[eu]at hl;have m:=h i<|eX ..;obtain⟨f,d,c',e⟩:=OU n (t:=t) l (done++[i.core]++[mt i.mn]) (Kj i.sg) (sv<|.bl i.ot) (Kj [i.mn]) (λx j=>h x<|bw _ j) (by rw[cA,cA];show _+1+1+_<=_;lia)
  refine⟨f,d,c',?_⟩;rw[show done++parts (i::l)=done++[i.core]++[mt i.mn]++parts l by simp[parts]]
  have k:∀{s:S},vF 4 s=.ok (.str [i.mn],s)->rF (D.aY<|oE (vF 4)<|cS [49]) (cS []) (vF 4) s=.ok (.str<|mt i.mn,s):=λg=>by
   refine Ma (y:=decide<|[i.mn]=[49]) (gD<|aP g J<|pU ..) (λq=>?_) λq=>?_
   .have:i.mn=49:=by injection bt q
    unfold mt;rw[cv this];rfl
   .have:i.mn≠49:=λz=>lh q (by rw[z])
    unfold mt;rw[cb this];exact g
  refine dG (r:=[sv t,U<|.ol<|aw done,Kj i.sg,sv<|.bl i.ot,Kj [i.mn]]) J (seq1 (pW (ts:=aw done) J (cE (ts:=[.str i.sg,.bl i.ot]) J<|Mp n m.l) J<|by rw[cU];lia)<|pW (ts:=aw done++[.str i.core]) J (k J) J<|by rw[cA,cU];show _+1<_;lia) ?_
  rw[show aw (done++[i.core]++[mt i.mn])=aw done++[.str i.core]++[.str<|mt i.mn] by simp]at e
  exact e
theorem qk:∀l:List Itm,(parts l).flatten=cK l
 |[]=>J
 |i::l=>by
  show([i.core,mt i.mn]++parts l).flatten=_;rw[zH,qk l];show(i.core++(mt i.mn++[]))++_=(i.core++mt i.mn)++cK l;rw[bG]
def Dc(l:List Itm):(parts l).length=2*Nv l:=by
 induction l with
 |nil=>rfl
 |cons c w a=>
  show([c.core,mt c.mn]++parts w).length=_;rw[cA,a];show 2+_=2*(Nv w+1)
  lia
theorem r_:∀l:List Tx,strsOf (aw l)=U l
 |[]=>J
 |a::l=>by
  show(strsOf<|aw l).map _=_;rw[r_ l];rfl
theorem ql:∀l:List Tx,gc [] l=l.flatten
 |[]=>J
 |[a]=>by simp[gc]
 |a::b::r=>by
  show a++[]++gc [] (b::r)=_;rw[ql<|b::r,bG];rfl
def join_eq(h:Nv l.flatten<=1000000):joinM [] [.lst<|aw l]=U (.str l.flatten):=by
 show(strsOf<|aw l).bind _=_;rw[r_];show gd _ _=_;rw[iR<|by rw[MZ]at h;simpa using h,ql]
def yY{p:il}(h:p.g):cN (n+4) 10 [p.val] m=.ok (.str p.txt,m):=by
 have hl:=k_ h;have r:=p.nz
 let fr:Tx:=if p.f=O then[94]else[]
 let bk:Tx:=if p.b=O then[36]else[]
 obtain⟨a,b,c,e⟩:=OU n (t:=p.val) p.au [fr] Y Y Y h (by show 1+_<=_;lia)
 have d:([fr]++parts p.au++[bk]).flatten=p.txt:=by
  rw[zH,zH,qk];show(fr++[])++cK p.au++(bk++[])=fr++(cK p.au++bk);rw[bG,bG,dU]
 have i:=join_eq (l:=[fr]++parts p.au++[bk]) (by rw[d];lia)
 rw[d]at i;rw[è];have o:iz 1 (iN<|k1<|rF (D.tB<|oI zA zO) (cS [94])<|cS []) ⟨[sv p.val,Y,Y,Y,Y],[]⟩=.ok (.nx,⟨[sv p.val,U<|.ol<|aw [fr],Y,Y,Y],[]⟩):=by
  have:rF (D.tB<|oI zA zO) (cS [94]) (cS []) ⟨[sv p.val,Y,Y,Y,Y],[]⟩=.ok (.str fr,⟨[sv p.val,Y,Y,Y,Y],[]⟩):=Ma (y:=p.f) (qz<|aP J J J) (λq=>by show _=Res.ok (T.str<|if p.f=O then[94]else[],_);rw[q];rfl) λq=>by show _=Res.ok (T.str<|if p.f=O then[94]else[],_);rw[q];rfl
  have j:k1 (rF (D.tB<|oI zA zO) (cS [94])<|cS []) ⟨[sv p.val,Y,Y,Y,Y],[]⟩=.ok ([.str fr],⟨[sv p.val,Y,Y,Y,Y],[]⟩):=aQ this J;show Res.bind (Res.bind (k1 (rF (D.tB<|oI zA zO) (cS [94])<|cS []) ⟨[sv p.val,Y,Y,Y,Y],[]⟩) _) _=_;rw[j];rfl
 have k:gf 1 (rF (D.tB<|oI zA<|cI 2) (cS [36])<|cS []) ⟨[sv p.val,U<|.ol<|aw<|[fr]++parts p.au,a,b,c],[]⟩=.ok (.nx,⟨[sv p.val,U<|.ol<|aw<|[fr]++parts p.au++[bk],a,b,c],[]⟩):=by
  rw[show aw ([fr]++parts p.au++[bk])=aw ([fr]++parts p.au)++[.str bk] by simp]
  exact pW (ts:=aw<|[fr]++parts p.au) J (t:=.str bk) (s1:=⟨[sv p.val,U<|.ol<|aw<|[fr]++parts p.au,a,b,c],[]⟩) (Ma (y:=p.b) (qz<|aP J J J) (λq=>by show _=Res.ok (T.str<|if p.b=O then[36]else[],_);rw[q];rfl) λq=>by show _=Res.ok (T.str<|if p.b=O then[36]else[],_);rw[q];rfl) J (by rw[cU,cA,Dc];show 1+_<_;lia)
 exact fL (m':=[]) (wU<|c6 _) (gC (s':=⟨[sv p.val,Kk<|aw<|[fr]++parts p.au++[bk],a,b,c],[]⟩) J (seq1 o<|seq1 (qQ (ts:=vals p.au) (s1:=⟨[sv p.val,U<|.ol<|aw [fr],Y,Y,Y],[]⟩) J e)<|seq1 k<|nA<|yO (l:=[]) (ts:=[.lst<|aw<|[fr]++parts p.au++[bk]]) J J i) J) J
end
section
variable{m:FR}
def IJ(N:mR v lo a)(d:1<=lo)(c:a<=999):strN [.int v]=U (.str<|cV v)/\(cV v).length<=3:=by
 have ř:=N.l;have b:=N.h;obtain⟨v,rfl⟩:∃n:Nat,v=n:=⟨v.toNat,by lia⟩
 have hl:=IA v 3 (by decide) (by lia)
 refine⟨iR ⟨?_,by lia⟩,hl⟩
 show Nat.log2 v<1920;by_cases z:v=0
 .rw[z];decide
 .exact(B4 z).mpr<|eS (show v<2^10 by lia)<|by decide
structure TE(a:FE)(s:S)(x:B1)(k:Nat):Prop where
 e:a s=.ok (.str x,s)
 l:Nv x<=k
section
variable{x y:Tx}
def TE.add(h:TE a s x i)(g:TE b s y j)(q:i+j<=1000000:=by decide):TE (oA a b) s (x++y)<|i+j:=
 ⟨aP h.e g.e<|jl<|by have:=h.l;have:=g.l;lia,by rw[cA];have:=h.l;have:=g.l;lia⟩
def TE.c(l:Tx):TE (cS l) s l l.length:=⟨J,eA _⟩
def TE.nn{v lo b:Int}(h:a s=.ok (.int v,s))(N:mR v lo b)(d:1<=lo:=by decide)(c:b<=999:=by decide):TE (aG strN<|k1 a) s (cV v) 3:=⟨dz (ts:=[.int v]) (aQ h J) (IJ N d c).1,(IJ N d c).2⟩
def TE.as(h:TE a s x i)(e:x=y):a s=.ok (.str y,s):=e▸h.e
def TE.k{fl:FL}(h:fl s=.ok (ts,s))(q:g ts s.m=.ok (.str x,s.m)/\x.length<=i):TE (af g [] fl) s x i:=⟨cE h q.1,q.2⟩
def TE.f{c:FT}(h:c s=.ok (z,s))(g:z=O->TE a s x i)(d:z=Zi->TE b s x i):TE (rF c a b) s x i:=⟨Ma h (λq=>(g q).e) λq=>(d q).e,by cases z;exact(d J).l;exact(g J).l⟩
def tx{A:Prop}(w:WB (ao a) s (λp=>p.1=.str y)->A)(h:TE a s x i)(q:x=y)(z:i<=j:=by decide):A/\y.length<=j:=by subst q;exact⟨w<|bR h.e J,eY h.l z⟩
def lf{A:Prop}(h:A/\x.length<=i)(z:i<=j:=by decide):A/\x.length<=j:=⟨h.1,eY h.2 z⟩
end
def sd(h:JF l):cN (n+1) 40 [.str l] m=.ok (.str<|34::(l++[34]),m)/\(34::(l++[34])).length<=42:=by
 rw[w40];exact tx (λw=>sEq J J J w) (TE.add (TE.add (TE.c _) ⟨J,h.l⟩)<|TE.c _) J
def qm{p:il}(h:p.g):cN (n+5) 39 [p.val] m=.ok (.str<|47::(p.txt++[47]),m)/\(47::(p.txt++[47])).length<=132:=by
 rw[w39];exact tx (λw=>sEq (wU<|c6 _) J J w) (TE.add (TE.add (TE.c _)<|TE.k J ⟨yY n h,k_ h⟩)<|TE.c _) J
def uJ{x:RP}(h:x.g):cN (n+6) 37 [x.val] m=.ok (.str x.txt,m)/\x.txt.length<=140:=by
 rw[UG];cases x with
 |row v=>exact tx (λw=>sEq J J J<|bY J w) (TE.add (TE.c _)<|TE.nn J h) J
 |like p=>exact tx (λw=>sEq (wU<|Bk<|.like p) J J<|bN J<|bN J<|bY J w) (TE.k J<|qm n h) J
def yZ{x:PC}(h:x.g):cN (n+7) 37 [x.val] m=.ok (.str x.txt,m)/\x.txt.length<=300:=by
 cases x with
 |last=>rw[UG];exact⟨sEq J J J<|bN J<|bY J<|bR J J,by decide⟩
 |soon v p=>rw[UG];exact tx (λw=>sEq (wU<|Bl<|.soon v p) J J<|bN J<|bN J<|bN J<|bY J w) (TE.add (TE.add (TE.add (TE.c _)<|TE.nn J h.1)<|TE.c _)<|TE.k J<|qm (n+1) h.2) (by simp[PC.txt])
 |ft x y=>rw[UG];exact tx (λw=>sEq (wU<|Bl<|.ft x y) J J<|bN J<|bN J<|bN J<|bN J<|bY J w) (TE.add (TE.add (TE.add (TE.c _)<|TE.k J<|uJ n h.1)<|TE.c _)<|TE.k J<|uJ n h.2) (by simp[PC.txt])
 |rp x=>exact lf<|uJ (n+1) h
def IK{x:CD}(h:x.g):cN (n+8) 37 [x.val] m=.ok (.str x.txt,m)/\x.txt.length<=310:=by
 cases x with
 |fin=>rw[UG];exact⟨sEq J J J<|bN J<|bN J<|bN J<|bN J<|bN J<|bN J<|bR J J,by decide⟩
 |no x=>rw[UG];exact tx (λw=>sEq (wU<|Bm<|.no x) J J<|bN J<|bN J<|bN J<|bN J<|bN J<|bY J w) (TE.add (TE.c _)<|TE.k J<|yZ n h) J
 |pc x=>exact lf<|yZ (n+1) h
def y9{x:DD}(h:x.g):cN (n+6) 38 [x.val] m=.ok (.str x.txt,m)/\x.txt.length<=300:=by
 rw[w38];cases x with
 |drop=>exact⟨sEq J J J<|bN J<|bY J<|bR J J,by decide⟩
 |print=>exact⟨sEq J J J<|bN J<|bN J<|bY J<|bR J J,by decide⟩
 |done=>exact⟨sEq J J J<|bN J<|bN J<|bN J<|bY J<|bR J J,by decide⟩
 |tell=>exact⟨sEq J J J<|bN J<|bN J<|bN J<|bN J<|bN J<|bN J<|bN J<|bN J<|bN J<|bN J<|bN J<|bR J J,by decide⟩
 |say l=>exact tx (λw=>sEq J J J<|bN J<|bN J<|bN J<|bN J<|bY J w) (TE.add (TE.c _)<|TE.k J<|sd (n+4) h) J
 |swap e p l=>
  have b:(OO e).length<=11:=by cases e<;>decide
  exact tx (λw=>sEq (wU<|wW<|.swap e p l) J J<|bN J<|bN J<|bN J<|bN J<|bN J<|bY J w) (TE.add (TE.add (TE.add (⟨Ma (y:=e) J (λq=>by rw[q];rfl) λq=>by rw[q];rfl,b⟩:TE _ _ (OO e) 11)<|TE.k J<|qm n h.1)<|TE.c _)<|TE.k J<|sd (n+4) h.2) (by simp[DD.txt])
 |join v=>exact tx (λw=>sEq J J J<|bN J<|bN J<|bN J<|bN J<|bN J<|bN J<|bY J w) (TE.add (TE.c _)<|TE.nn J h) J
 |pile a v=>
  cases v with
  |none=>exact tx (λw=>sEq J J J<|bN J<|bN J<|bN J<|bN J<|bN J<|bN J<|bN J<|bY J w) (TE.add (TE.add (TE.c _) ⟨J,(show dN a from h).hl⟩) (TE.f (z:=O) J (λ_=>TE.c _) λz=>nomatch z))<|bG _
  |some v=>exact tx (λw=>sEq J J J<|bN J<|bN J<|bN J<|bN J<|bN J<|bN J<|bN J<|bY J w) (TE.add (TE.add (TE.c _) ⟨J,h.1.hl⟩) (TE.f (z:=Zi) J (λz=>nomatch z) λ_=>TE.add (TE.c _)<|TE.nn J h.2)) (by simp[DD.txt])
 |bring a=>exact tx (λw=>sEq J J J<|bN J<|bN J<|bN J<|bN J<|bN J<|bN J<|bN J<|bN J<|bY J w) (TE.add (TE.c _) ⟨J,(show dN a from h).hl⟩) J
 |go a=>exact tx (λw=>sEq J J J<|bN J<|bN J<|bN J<|bN J<|bN J<|bN J<|bN J<|bN J<|bN J<|bY J w) (TE.add (TE.c _) ⟨J,(show dN a from h).hl⟩) J
 |add v w=>exact tx (λw=>sEq J J J<|bN J<|bN J<|bN J<|bN J<|bN J<|bN J<|bN J<|bN J<|bN J<|bN J<|bY J w) (TE.add (TE.add (TE.add (TE.c _)<|TE.nn J h.1)<|TE.c _)<|TE.nn J h.2) (by simp[DD.txt])
def Mq(c:CD):iO M.P.sub [3] c.val=U (.bl Zi):=by
 cases c with
 |fin=>rfl
 |no x=>rfl
 |pc x=>
  cases x with
  |rp x=>cases x<;>rfl
  |_=>rfl
def y_{x:LN}(h:x.g):cN (n+9) 36 [x.val] m=.ok (.str x.txt,m)/\x.txt.length<=700:=by
 rw[w36];cases x with
 |mark a=>
  have e:cN (n+8) 38 [(LN.mark a).nC] []=.ok (.str (LN.mark a).txt,[])/\(LN.mark a).txt.length<=13:=by
   rw[w38];exact tx (λw=>sEq J J J<|bY J w) (TE.add (TE.c _) ⟨J,(show dN a from h).hl⟩) J
  exact tx (λw=>sEq J J J<|bY (s:=S1 (LN.mark a).val) J w) (TE.k (ts:=[(LN.mark a).nC]) J e) J
 |bare d=>exact tx (λw=>sEq (wU<|Bo<|.bare d) J J<|bY (s:=S1 (LN.bare d).val) J w) (TE.k (ts:=[d.val]) J<|y9 (n+2) h) J
 |full c d=>exact tx (λw=>sEq (wU<|Bo<|.full c d) J J<|bN (s:=S1 (LN.full c d).val) (qz<|xC (t:=c.val) J<|Mq c) w) (TE.add (TE.add (TE.k (ts:=[c.val]) J<|IK n h.1)<|TE.c _)<|TE.k (ts:=[d.val]) J<|y9 (n+2) h.2) (by simp[LN.txt])
end
end K25
namespace K25
open List renaming length->Nv
open D PySem
variable(n:Nat)
abbrev IL(z:Tx):Bool:=Aq ⟨z.toArray⟩
def IM(z:Tx):IL z=(!decide (z=[])&&z.all eR):=by
 show(decide (z.toArray.size > 0)&&z.toArray.all eR)=_;cases z with
 |nil=>rfl
 |cons c z=>simp
def YI(h:∀c∈z,c∈eK)(h0:z≠[]):IL z=O:=by
 rw[IM,ar h0];refine bz.mpr λc a=>?_
 have:eK.all eR=O:=by decide +kernel
 exact bz.mp this c<|h c a
def YJ(h:c∈z)(a:eR c=Zi):IL z=Zi:=by
 rw[IM]
 have:z.all eR=Zi:=by
  cases e:z.all eR with
  |false=>rfl
  |true=>rw[bz.mp e c h]at a;cases a
 rw[this,zo]
theorem dY:∀{l:Tx},c∉l->aF c l=[l]
 |[],_=>J
 |d::l,h=>by
  rw[aF,cb λe=>h<|by rw[e];exact eX ..,dY λz=>h<|bw _ z]
theorem j5(h:c∉Z):∀P:Tx,aF c (P++c::Z)=aF c P++[Z]
 |[]=>by
  show aF c (c::Z)=[[]]++[Z];have e:aF c (c::Z)=[]::aF c Z:=by rw[aF,cv J]
  rw[e,dY h];rfl
 |d::P=>by
  have b:=j5 h P;show aF c (d::(P++c::Z))=_;rw[aF,aF,b];split
  .rfl
  .cases e:aF c P with
   |nil=>exact dy e (by
     cases P with
     |nil=>simp[aF]
     |cons x P=>
      rw[aF];split
      .simp
      .split<;>simp)
   |cons a r=>rfl
def pD(c:Nat)(P:Tx):aF c P≠[]:=by
 cases P with
 |nil=>simp[aF]
 |cons x P=>
  rw[aF];split
  .simp
  .split<;>simp
def mS(P:Tx):Tx:=(aF 32 P).getLastD []
def BB(h:32∉P):mS P=P:=by unfold mS;rw[dY h];rfl
def qo(h:32∉a):mS (Q++32::a)=a:=by unfold mS;rw[j5 h];simp
theorem za:∀r:Tx,32∉r\/∃P Z,r=P++32::Z/\32∉Z
 |[]=>.inl λh=>nomatch h
 |c::r=>by
  rcases za r with h|⟨P,Z,rfl,h⟩
  .by_cases hc:c=32
   .exact .inr ⟨[],r,by rw[hc];rfl,h⟩
   .refine .inl λz=>?_
    rcases bF.mp z with z|z
    .exact hc z.symm
    .exact h z
  .exact .inr ⟨c::P,Z,J,h⟩
def xj(h:c≠32):c∈mS (R++[c]):=by
 rcases za (R++[c])with a|⟨P,Z,e,a⟩
 .rw[BB a];simp
 .rw[e,qo a]
  rcases sJ Z with rfl|⟨Z,d,rfl⟩
  .have:=ey D5 e
   rw[BY,BY]at this
   have:U c=U 32:=this
   cases this;exact dy J h
  .rw[sO]at e ⊢
   have:=ey D5 e
   rw[BY,show P++32::(Z++[d])=(P++32::Z)++[d] by simp,BY]at this
   have:U c=U d:=this
   cases this;simp
def nameOf(w r:Tx):Tx:=match(aF 32 r).reverse with
 |z::y::_=>if y=w/\IL z=O then z else[]
 |_=>[]
def IP(h:32∉r):nameOf w r=[]:=by unfold nameOf;rw[dY h];rfl
def uK(h:32∉Z):nameOf w (P++32::Z)=if mS P=w/\IL Z=O then Z else[]:=by
 unfold nameOf mS;rw[j5 h,Nf];rcases sJ (aF 32 P)with e|⟨l,a,e⟩
 .exact dy e<|pD 32 P
 .rw[e,sO,Nf]
  simp
def Mr(h:c≠32)(b:eR c=Zi):nameOf w (R++[c])=[]:=by
 have hl:=xj (R:=R) h;rcases za (R++[c])with a|⟨P,Z,e,a⟩
 .exact IP a
 .rw[e]at hl ⊢
  rw[qo a]at hl;rw[uK a,cb]
  rintro⟨_,z⟩
  rw[YJ hl b]at z;cases z
def YK(xs:List α)(y z:α):atT (xs++[y,z]) (-2)=U y:=by
 unfold atT;rw[cb<|by decide,cv<|by rw[cA];show -((_+2:Nat):Int)<=_;lia]
 have:(-2+((xs++[y,z]).length:Int)).toNat=Nv xs:=by rw[cA];show(-2+((_+2:Nat):Int)).toNat=_;lia
 rw[this];simp
def TQ(hl:Nv r<=100000):cN (n+1) 46 [.str r,.str w] m=.ok (.str<|nameOf w r,m):=by
 rw[w46];have i:splitM r [.str [32]]=U (.lst<|aw<|aF 32 r):=iR hl;refine sEq J J J<|bS (t:=.lst<|aw<|aF 32 r) (yO (l:=r) (ts:=[.str [32]]) J J i) ?_;show WB (ah _ _) ⟨[Kj r,Kj w,Kk<|aw<|aF 32 r],[]⟩ _
 generalize hp:aF 32 r=ps
 have a:nameOf w r=match ps.reverse with
  |z::y::_=>if y=w/\IL z=O then z else[]
  |_=>[]:=by unfold nameOf;rw[hp]
 have c:D.aY (bH (aM .Gt) (aG cJ<|k1 zC) zI) ⟨[Kj r,Kj w,Kk<|aw ps],[]⟩=.ok (decide<|1<Nv ps,⟨[Kj r,Kj w,Kk<|aw ps],[]⟩):=gD<|pE (t:=.int ((aw ps).length:Nat)) (u:=.int 1) J J<|(wF ..).trans<|by rw[cU];congr 2;apply decide_eq_decide.mpr;lia
 rcases sJ ps with rfl|⟨g,z,rfl⟩
 .exact bN (yP c)<|bR J<|by rw[a];rfl
 .rw[sO]at a c ⊢
  rcases sJ g with rfl|⟨xs,y,rfl⟩
  .exact bN (yP c)<|bR J<|by rw[a];rfl
  .rw[sO]at a c ⊢
   have k:xs++[y]++[z]=xs++[y,z]:=by simp
   rw[k]at a c ⊢;rw[cw<|by rw[cA];show 1<_+2;lia]at c
   rw[show(xs++[y,z]).reverse=z::y::xs.reverse by simp]at a
   have a:nameOf w r=if y=w/\IL z=O then z else[]:=a
   have d:oI zC (dE kD zI) ⟨[Kj r,Kj w,Kk<|aw<|xs++[y,z]],[]⟩=.ok (.str z,⟨[Kj r,Kj w,Kk<|aw<|xs++[y,z]],[]⟩):=aP (t:=.lst<|aw<|xs++[y,z]) (u:=.int<|-1) J (xC (t:=.int 1) J C6) (by
    show atT (aw<|xs++[y,z]) (-1)=_;rw[show aw (xs++[y,z])=aw (xs++[y])++[.str z] by simp]
    exact Br _ _)
   have h:oI zC (dE kD<|cI 2) ⟨[Kj r,Kj w,Kk<|aw<|xs++[y,z]],[]⟩=.ok (.str y,⟨[Kj r,Kj w,Kk<|aw<|xs++[y,z]],[]⟩):=aP (t:=.lst<|aw<|xs++[y,z]) (u:=.int<|-2) J (xC (t:=.int 2) J J) (by
    show atT (aw<|xs++[y,z]) (-2)=_;rw[show aw (xs++[y,z])=aw xs++[.str y,.str z] by simp]
    exact YK _ _ _)
   have f:=jg c<|jg (gD<|aP (b:=vF 1) h (u:=.str w) J<|pU y w)<|qz<|xC d<|show ZN (.str z)=U (.bl<|IL z)from J;by_cases hc:y=w/\IL z=O
   .refine bY (f.trans<|by rw[cw hc.1,hc.2];rfl)<|bR d<|by rw[a,cv hc]
   .refine bN (f.trans<|ey (λq=>Res.ok (q,_)) ?_)<|bR J<|by rw[a,cb hc]
    by_cases h1:y=w
    .have j:IL z=Zi:=by
      cases e:IL z with
      |false=>rfl
      |true=>exact dy ⟨h1,e⟩ hc
     rw[j];simp
    .rw[ar h1];simp
abbrev OV:Tx:=[109,97,114,107]
abbrev OW:Tx:=[103,111]
def Hd(X:Tx):Prop:=X=[]\/∃R,X=R++[58,32]
section
variable(d:Hd X)
include d
def gP(h:32∉a)(b:58∉w):nameOf w (X++a)=[]:=by
 rcases d with rfl|⟨R,rfl⟩
 .exact IP h
 .rw[show R++[58,32]++a=(R++[58])++32::a by simp,uK h,cb]
  rintro⟨z,_⟩
  exact b (by rw[<- z];exact xj<|by decide)
def jm(b:32∉kw)(N:dN a):nameOf w (X++(kw++32::a))=if kw=w then a else[]:=by
 have c:32∉a:=λz=>by have:=N.hd 32 z;revert this;decide
 have hl:mS (X++kw)=kw:=by
  rcases d with rfl|⟨R,rfl⟩
  .exact BB b
  .rw[show R++[58,32]++kw=(R++[58])++32::kw by simp,qo b]
 rw[<- dU,uK c,hl,YI N.hd N.h0];by_cases h:kw=w
 .rw[cv ⟨h,J⟩,cv h]
 .rw[cb λz=>h z.1,cb h]
end
def OX(h:c≠32)(a:eR c=Zi):nameOf w (X++(Zv++[c]))=[]:=by
 rw[<- dU];exact Mr h a
def IQ(N:mR v lo d)(k:1<=lo)(j:d<=999):∃m c,cV v=m++[c]/\c≠32/\eR c=Zi:=by
 have ř:=N.l;have f:=N.h;obtain⟨v,rfl⟩:∃n:Nat,v=n:=⟨v.toNat,by lia⟩
 have g:=Iz v;rcases sJ (cV (v:Int))with e|⟨m,c,e⟩
 .have a:=bz.mp Bv (v-1)<|uT.mpr<|by lia
  rw[show v-1+1=v by lia]at a
  unfold ŵ at a;rw[e]at a;cases a
 .rw[sO]at e
  have:c∈dZ:=g c (by rw[e];simp)
  have i:dZ.all (λc=>decide (c≠32)&&!eR c)=O:=by decide +kernel
  have b:=bz.mp i c this;rw[bZ,xF]at b;exact⟨m,c,e,bt b.1,b.2⟩
def a34:eR 34=Zi:=by decide +kernel
def IS(b:Hd X){d:DD}(h:d.g):nameOf OV (X++d.txt)=[]/\nameOf OW (X++d.txt)=d.gX.getD []:=by
 have n:∀(s:Tx)(c:Nat),d.txt=s++[c]->c≠32->eR c=Zi->d.gX.getD []=[]->nameOf OV (X++d.txt)=[]/\nameOf OW (X++d.txt)=d.gX.getD []:=λ_ _ e i f k=>by
  rw[k,e];exact⟨OX i f,OX i f⟩
 have m:∀{v lo j:Int}{P:Tx},mR v lo j->1<=lo->j<=999->d.txt=P++cV v->d.gX.getD []=[]->nameOf OV (X++d.txt)=[]/\nameOf OW (X++d.txt)=d.gX.getD []:=λ{v lo j P} N i f e k=>by
  obtain⟨s,c,r,q,o⟩:=IQ N i f;exact n (P++s) c (by rw[e,r,dU]) q o k
 cases d with
 |drop=>exact⟨gP b (by decide)<|by decide,gP b (by decide)<|by decide⟩
 |print=>exact⟨gP b (by decide)<|by decide,gP b (by decide)<|by decide⟩
 |done=>exact⟨gP b (by decide)<|by decide,gP b (by decide)<|by decide⟩
 |tell=>exact⟨gP b (by decide)<|by decide,gP b (by decide)<|by decide⟩
 |say l=>exact n ([115,97,121,32]++(34::l)) 34 (by simp[DD.txt]) (by decide) a34 J
 |swap e p l=>exact n (OO e++(47::(p.txt++(47::32::34::l)))) 34 (by simp[DD.txt]) (by decide) a34 J
 |join v=>exact m (P:=[106,111,105,110,32]) h (by decide) (by decide) J J
 |pile a v=>
  cases v with
  |none=>exact⟨jm b (kw:=[112,105,108,101]) (by decide) h,jm b (kw:=[112,105,108,101]) (by decide) h⟩
  |some v=>exact m (P:=[112,105,108,101,32]++(a++[32])) h.2 (by decide) (by decide) (by simp[DD.txt]) J
 |bring a=>exact⟨jm b (kw:=[98,114,105,110,103]) (by decide) h,jm b (kw:=[98,114,105,110,103]) (by decide) h⟩
 |go a=>exact⟨jm b (kw:=OW) (by decide) h,(jm b (kw:=OW) (by decide) h).trans<|cv J⟩
 |add v w=>exact m (P:=[97,100,100,32]++(cV v++[32])) h.2 (by decide) (by decide) (by simp[DD.txt]) J
def TR{l:LN}(h:l.g):nameOf OV l.txt=l.name.getD []/\nameOf OW l.txt=l.gX.getD []:=by
 cases l with
 |mark a=>exact⟨(jm (X:=[]) (.inl J) (kw:=OV) (by decide) h).trans<|cv J,jm (X:=[]) (.inl J) (kw:=OV) (by decide) h⟩
 |bare d=>exact IS (X:=[]) (.inl J) h
 |full c d=>
  have:=IS (X:=c.txt++[58,32]) (.inr ⟨_,J⟩) h.2
  rw[dU]at this;exact this
def BC{l:LN}(h:l.g)(e:l.name=U a\/l.gX=U a):a≠[]:=by
 have f:∀{d:DD},d.g->d.gX=U a->a≠[]:=λ{d} h e=>by
  cases d<;>try(cases e;done)
  cases e;exact(show dN _ from h).h0
 cases l with
 |mark b=>
  rcases e with e|e
  .cases e;exact(show dN _ from h).h0
  .cases e
 |bare d=>
  rcases e with e|e
  .cases e
  .exact f h e
 |full c d=>
  rcases e with e|e
  .cases e
  .exact f h.2 e
def YL(x:PC):∃c t,x.txt=c::t/\c≠32/\c≠88:=by
 cases x with
 |rp x=>cases x<;>exact⟨_,_,J,by decide,by decide⟩
 |_=>exact⟨_,_,J,by decide,by decide⟩
def YM(x:DD):∃c t,x.txt=c::t/\c≠32/\c≠88:=by
 cases x with
 |swap e p l=>cases e<;>exact⟨_,_,J,by decide,by decide⟩
 |pile a v=>cases v<;>exact⟨_,_,J,by decide,by decide⟩
 |_=>exact⟨_,_,J,by decide,by decide⟩
def OY(x:LN):∃c t,x.txt=c::t/\c≠32/\c≠88:=by
 cases x with
 |mark a=>exact⟨_,_,J,by decide,by decide⟩
 |bare d=>exact YM d
 |full c d=>
  have:∃e t,c.txt=e::t/\e≠32/\e≠88:=by
   cases c with
   |pc x=>exact YL x
   |_=>exact⟨_,_,J,by decide,by decide⟩
  obtain⟨e,t,f,b⟩:=this;exact⟨e,t++([58,32]++d.txt),by show c.txt++_=_;rw[f];rfl,b⟩
def IT{x:DD}(h:x.g):∃m c,x.txt=m++[c]/\c≠32:=by
 have d:∀{a P:Tx},dN a->∃m c,P++a=m++[c]/\c≠32:=λ{a P} N=>by
  rcases sJ a with e|⟨m,c,e⟩
  .exact dy e N.h0
  .rw[sO]at e
   exact⟨P++m,c,by rw[e,dU],λz=>by have:=N.hd c (by rw[e];simp);rw[z]at this;revert this;decide⟩
 have b:∀{v lo f:Int}{P:Tx},mR v lo f->1<=lo->f<=999->∃m c,P++cV v=m++[c]/\c≠32:=λ{v lo f P} N k j=>by
  obtain⟨m,c,e,i,_⟩:=IQ N k j;exact⟨P++m,c,by rw[e,dU],i⟩
 cases x with
 |drop=>exact⟨[100,114,111],112,J,by decide⟩
 |print=>exact⟨[112,114,105,110],116,J,by decide⟩
 |done=>exact⟨[100,111,110],101,J,by decide⟩
 |tell=>exact⟨[116,101,108],108,J,by decide⟩
 |say l=>exact⟨[115,97,121,32]++(34::l),34,by simp[DD.txt],by decide⟩
 |swap e p l=>exact⟨OO e++(47::(p.txt++(47::32::34::l))),34,by simp[DD.txt],by decide⟩
 |join v=>exact b h (by decide) (by decide)
 |pile a v=>
  cases v with
  |none=>exact d h
  |some v=>
   have:=b (P:=[112,105,108,101,32]++(a++[32])) h.2 (by decide) (by decide)
   rw[show[112,105,108,101,32]++(a++[32])++cV v=(DD.pile a<|U v).txt by simp[DD.txt]]at this
   exact this
 |bring a=>exact d h
 |go a=>exact d h
 |add v w=>
  have:=b (P:=[97,100,100,32]++(cV v++[32])) h.2 (by decide) (by decide)
  rw[show[97,100,100,32]++(cV v++[32])++cV w=(DD.add v w).txt by simp[DD.txt]]at this
  exact this
def TU{x:LN}(h:x.g):∃i c,x.txt=i++[c]/\c≠32:=by
 cases x with
 |mark a=>
  rcases sJ a with e|⟨i,c,e⟩
  .exact dy e (show dN a from h).h0
  .rw[sO]at e
   exact⟨[109,97,114,107,32]++i,c,by show _++a=_;rw[e,dU],λz=>by have:=(show dN a from h).hd c (by rw[e];simp);rw[z]at this;revert this;decide⟩
 |bare d=>exact IT h
 |full c d=>
  obtain⟨i,e,f,b⟩:=IT h.2;exact⟨c.txt++([58,32]++i),e,by show c.txt++([58,32]++d.txt)=_;rw[f];simp,b⟩
def IU:parse (32::r)=Y/\parse (r++[32])=Y/\parse (88::r)=Y/\parse []=Y:=by
 have no:∀{q:Tx},(∀l:LN,l.g->q≠l.txt)->parse q=Y:=λ{q} h=>by
  cases e:parse q with
  |none=>rfl
  |some l=>exact dy (iF e).1<|h l (iF e).2.1
 refine⟨no λl _ e=>?_,no λl h e=>?_,no λl _ e=>?_,J⟩
 .obtain⟨c,t,b,a,_⟩:=OY l
  rw[b]at e;injection e with e _;exact a e.symm
 .obtain⟨d,c,b,a⟩:=TU h
  rw[b]at e
  have:=ey D5 e
  rw[BY,BY]at this
  have:U 32=U c:=this
  cases this;exact a J
 .obtain⟨c,t,b,_,a⟩:=OY l
  rw[b]at e;injection e with e _;exact a e.symm
end K25
namespace K25
open List renaming length->Nv
open D
variable(n:Nat){m:List _root_.D.Ob}
def qA(c:Nat):T:=.lst<|(M.kb.getD c []).map T.bl
def TV(m:FR):cN (n+1) 43 [.int 0] m=.ok (qA 0,m):=by
 rw[Ţ];exact sEq J J J<|bR J J
def TX(m:FR):cN (n+1) 43 [.int 1] m=.ok (qA 1,m):=by
 rw[Ţ];exact sEq J J J<|bR J J
def TY(m:FR):cN (n+1) 43 [.int 2] m=.ok (qA 2,m):=by
 rw[Ţ];exact sEq J J J<|bR J J
def idx:Nat->Nat->FC
 |_,0=>[]
 |k,m+1=>.int (k:Nat)::idx (k+1) m
def Ms:oz 0 n=idx 0 n:=by
 have:∀m k:Nat,(D3 k m).map (λj=>T.int<|0+(j:Nat))=idx k m:=λm=>by
  induction m with
  |zero=>exact λ_=>J
  |succ m a=>
   intro k;rw[M9,fV,a<|k+1];show T.int (0+(k:Int))::_=T.int (k:Int)::_;rw[Int.zero_add]
 unfold oz;rw[List.range_eq_range'];exact this n 0
abbrev Gx:=Tx×LN
structure Gl(z:Gx):Prop where
 p:parse z.1=U z.2
 l:Nv z.1<=1000
def Gl.t(h:Gl z):z.1=z.2.txt/\z.2.g:=⟨(iF h.p).1,(iF h.p).2.1⟩
def TZ:jC (.lst<|aw<|P++r::R) (.int (Nv P:Nat))=U (.str r):=by
 show atT (aw<|P++r::R) (Nv P:Int)=_;rw[pT<|by rw[cU];simp]
 simp
def Mt(a:Tx)(l:List Tx):Dp (.str a) (.lst<|aw l)=U (decide<|a∈l):=by
 have h:(aw l).all cy=O:=by
  rw[DO];exact bz.mpr λ_ _=>J
 show gd _ _=_;rw[iR ⟨J,h⟩,DP]
 congr 1
 induction l with
 |nil=>rfl
 |cons b l c=>
  have c:=c (by rw[DO];exact bz.mpr λ_ _=>J)
  rw[lq,c];show(decide (b=a) ||decide (a∈l))=_;by_cases h1:a=b
  .subst h1
   rw[cw J,cw<|eX ..];rfl
  .rw[ar<|et h1,zk]
   exact decide_eq_decide.mpr ⟨bw _,λz=>(bF.mp z).resolve_left h1⟩
abbrev sK(rs seen:List Tx)(u v:Option C):S:=⟨[Kk<|aw rs,U<|.ol<|aw seen,u,v],[]⟩
abbrev sQ(rs seen:List Tx)(i:Nat):Option C->S:=sK rs seen<|Ki (i:Nat)
def Ŷ(a:Tx):aM .NotEq (.str a) (.str [])=U (.bl<|!decide (a=[])):=J
def IV(h:g t s.r=U r)(a:b ⟨r,s.m⟩=.ok (.rt v,s1)):aZ g b (t::ts) s=.ok (.rt v,s1):=by
 unfold aZ;rw[h];apply qO;rw[a];rfl
def IX(rs:List Tx)(i:Nat)(zs:List Gx):Prop:=∀(j:Nat)(z:Gx),zs[j]?=U z->jC (.lst<|aw rs) (.int ((i+j:Nat):Int))=U (.str z.1)
def IX.of(zs:List Gx):IX (zs.map (·.1)) 0 zs:=λj z e=>by
 show atT (aw<|zs.map (·.1)) ((0+j:Nat):Int)=_
 rw[ow,pT<|by rw[cU,cU];exact(dj.mp e).1,f6,f6,e];rfl
def Gl.nq(h:Gl z):nameOf OV z.1=z.2.name.getD []/\nameOf OW z.1=z.2.gX.getD []:=by
 rw[h.t.1];exact TR h.t.2
def IX.tl(h:IX rs i<|z::zs):IX rs (i+1) zs:=λj y e=>by rw[Nm,Np 1 j];exact h (j+1) y e
def OZ(a:IX rs i<|z::zs)(hl:Gl z):aA 3 (af (cN (n+1) 46) []<|k2 (oI zA zC)<|cS w) (sQ rs seen i v)=.ok (.nx,sQ rs seen i<|Kj<|nameOf w z.1):=dM (s':=sQ rs seen i v)<|cE (ts:=[.str z.1,.str w]) (aQ (aP J J<|a 0 z J) J)<|TQ n<|eY hl.l<|by decide
def YN(a:Tx):D.aY (bH (aM .NotEq) zD<|cS []) (sQ rs seen i<|Kj a)=.ok (!decide (a=[]),sQ rs seen i<|Kj a):=gD<|pE J J<|Ŷ ..
def inQ(a:Tx):D.aY (rO .In Zi 1 zD) (sQ rs seen i<|Kj a)=.ok (decide<|a∈seen,sQ rs seen i<|Kj a)/\D.aY (rO .NotIn O 1 zD) (sQ rs seen i<|Kj a)=.ok (!decide (a∈seen),sQ rs seen i<|Kj a):=by
 constructor<;>refine gD ?_<;>show Res.bind (cH<|Dp (.str a)<|.lst<|aw seen) _=_<;>rw[Mt]<;>rfl
def O0(c:Nat)(j:Int)(e:cN (n+1) 43 [.int j] []=.ok (qA c,[])):ao (aG aE<|k2 (af (cN (n+1) 43) []<|k1<|cI j)<|oA zC zI) (sQ rs seen i u)=.ok (.rt<|.tup [qA c,.int ((i+1:Nat):Int)],sQ rs seen i u):=nA<|dz (ts:=[qA c,.int ((i+1:Nat):Int)]) (aQ (cE (ts:=[.int j]) J e) J)<|yT ..
def ŷ(rs:List Tx)(o:Except Nat<|List Tx)(x:Res<|Out×S):Prop:=match o with
 |.ok d=>∃u v,x=.ok (.nx,sK rs d u v)
 |.error j=>∃s:S,x=.ok (.rt<|.tup [qA 1,.int (j:Nat)],s)
theorem O1(n:Nat):∀(zs:List Gx)(i:Nat)(seen:List Tx)(u v:Option C),IX rs i zs->(∀z∈zs,Gl z)->Nv seen+Nv zs<=100->ŷ rs (eO (i+1) (zs.map (·.2)) seen) (aZ (setG 2) (CZ<|cN<|n+1) (idx i zs.length)<|sK rs seen u v)
 |[],i,seen,u,v,_,_,_=>⟨u,v,J⟩
 |z::zs,i,seen,u,v,c,h,hl=>by
  rw[eu]at hl;have d:=h z<|eX ..;have b:=OZ (v:=v) (seen:=seen) (w:=OV) n c d;rw[d.nq.1]at b;have f:=λk j=>O1 n zs (i+1) k (Ki (i:Nat)) j c.tl λx c=>h x<|bw _ c;show ŷ rs (match z.2.name with
   |none=>eO (i+1+1) (zs.map (·.2)) seen
   |some a=>if a∈seen then .error (i+1)else eO (i+1+1) (zs.map (·.2)) (seen++[a]))<|aZ (setG 2) (CZ<|cN<|n+1) (.int (i:Nat)::idx (i+1) zs.length)<|sK rs seen u v
  cases e:z.2.name with
  |none=>
   rw[e]at b;rw[dG (g:=setG 2) (s:=sK rs seen u v) (t:=.int (i:Nat)) (ts:=idx (i+1) zs.length) J (seq1 b<|seq1 (qP (yP<|YN []) J)<|qP (YN []) J:CZ (cN<|n+1) _=_) J];exact f seen _ (by lia)
  |some a=>
   have t1:=YN (rs:=rs) (seen:=seen) (i:=i) a;have t2:=(inQ (rs:=rs) (seen:=seen) (i:=i) a).1;rw[ar<|BC d.t.2<|.inl e]at t1;rw[e]at b;dsimp only;split
   .rename_i hd
    rw[cw hd]at t2;exact⟨_,IV J<|seq1 b<|CV<|Dt (jg t1 t2)<|O0 n 1 1<|TX n _⟩
   .rename_i hd
    rw[ar hd]at t2;rw[dG (g:=setG 2) (s:=sK rs seen u v) (t:=.int (i:Nat)) (ts:=idx (i+1) zs.length) J (seq1 b<|seq1 (qP (jg t1 t2) J)<|Dt t1<|pW (ts:=aw seen) J (t:=.str a) J J<|by rw[cU];lia:CZ (cN<|n+1) _=_) J]
    have:=f (seen++[a]) (Kj a) (by rw[cA,sE];lia)
    unfold sK at this;rw[show aw (seen++[a])=aw seen++[.str a] by simp]at this
    exact this
def Ÿ(rs d:List Tx)(o:Except Nat Unit)(x:Res<|Out×S):Prop:=match o with
 |.ok _=>∃u v,x=.ok (.nx,sK rs d u v)
 |.error j=>∃s:S,x=.ok (.rt<|.tup [qA 2,.int (j:Nat)],s)
theorem O2(n:Nat):∀(zs:List Gx)(i:Nat)(u v:Option C),IX rs i zs->(∀z∈zs,Gl z)->Ÿ rs d (gM d (i+1)<|zs.map (·.2)) (aZ (setG 2) (C0<|cN<|n+1) (idx i zs.length)<|sK rs d u v)
 |[],i,u,v,_,_=>⟨u,v,J⟩
 |z::zs,i,u,v,c,h=>by
  have f:=h z<|eX ..;have b:=OZ (v:=v) (seen:=d) (w:=OW) n c f;rw[f.nq.2]at b;have j:=λk=>O2 n (d:=d) zs (i+1) (Ki (i:Nat)) k c.tl λx c=>h x<|bw _ c;show Ÿ rs d (match z.2.gX with
   |none=>gM d (i+1+1)<|zs.map (·.2)
   |some a=>if a∈d then gM d (i+1+1) (zs.map (·.2))else .error (i+1))<|aZ (setG 2) (C0<|cN<|n+1) (.int (i:Nat)::idx (i+1) zs.length)<|sK rs d u v
  cases e:z.2.gX with
  |none=>
   rw[e]at b;rw[dG (g:=setG 2) (s:=sK rs d u v) (t:=.int (i:Nat)) (ts:=idx (i+1) zs.length) J (seq1 b<|qP (yP<|YN []) J:C0 (cN<|n+1) _=_) J];exact j _
  |some a=>
   have t1:=YN (rs:=rs) (seen:=d) (i:=i) a;have t2:=(inQ (rs:=rs) (seen:=d) (i:=i) a).2;rw[ar<|BC f.t.2<|.inr e]at t1;rw[e]at b;dsimp only;split
   .rename_i hd
    rw[cw hd]at t2;rw[dG (g:=setG 2) (s:=sK rs d u v) (t:=.int (i:Nat)) (ts:=idx (i+1) zs.length) J (seq1 b<|qP (jg t1 t2) J:C0 (cN<|n+1) _=_) J];exact j _
   .rename_i hd
    rw[ar hd]at t2;exact⟨_,IV J<|seq1 b<|Dt (jg t1 t2)<|O0 n 2 2<|TY n _⟩
section
variable{a b:FE}
def Ź(g:a s=.ok (.own k,s))(f:s.m[k]?=U ⟨c,[.ol zs]⟩)(e:b s=.ok (.int j,s))(d:atT zs j=U t):ny c a b s=.ok (t,s):=by
 unfold ny;rw[g];refine Eq.trans (qy _ _) ?_;dsimp only;rw[e];refine Eq.trans (qy _ _) ?_;dsimp only;unfold Ct;dsimp only;rw[f];dsimp only;rw[cv J];show Res.bind (cH<|atT zs j) _=_;rw[d];rfl
def bpt(h0:e s=.ok (v,s))(h:a s=.ok (.own k,s))(g:s.m[k]?=U ⟨c,[.ol zs]⟩)(f:b s=.ok (.int j,s))(d:0<=j/\j<Nv zs):o9 c a b e s=.ok (.nx,⟨s.r,s.m.set k ⟨c,[.ol<|zs.set j.toNat v]⟩⟩):=by
 unfold o9;rw[h0];refine Eq.trans (qy _ _) ?_;dsimp only;rw[h];refine Eq.trans (qy _ _) ?_;dsimp only;rw[f];refine Eq.trans (qy _ _) ?_;dsimp only;unfold Ct;dsimp only;rw[g];dsimp only;rw[cv J];show Res.bind (cH<|gd (0<=j/\j<Nv zs) ()) _=_;rw[iR d];rfl
end
def IW(h:0<j):cz .Mod (.int i) (.int j)=U (.int<|i % j):=iR h
def O3(h:0<j/\j<1073741824):cz .FloorDiv (.int i) (.int j)=U (.int<|i/j):=iR h
theorem qp:∀l:B1,(l.map λc=>[c]).flatten=l
 |[]=>J
 |c::l=>by rw[fV,MY,qp l];rfl
def Dd(i j:Int):cz .Add (.int i) (.int j)=U (.int<|i+j):=J
def IY:gp.all (λc=>decide<|c∈dB/\c≠34)=O:=by decide +kernel
def zb(h:a s=.ok (.bl b,s1)):D.aY a s=.ok (b,s1):=by
 unfold D.aY;rw[h];rfl
def Bx(k:Nat)(m:FR):Prop:=∃a b:Int,m[k]?=U ⟨50,[.ol [.int a,.int b]]⟩/\0<=a/\1<=b
def av(a b:Int):Int:=if a=0 then b else a
def BD{a b many:Int}(h:m[k]?=U ⟨50,[.ol [.int a,.int b]]⟩)(f:0<many/\many<1073741824):cN (n+1) 49 [.own k,.int many] m=.ok (.int<|av a b % many,m.set k ⟨50,[.ol [.int<|av a b/many,.int b]]⟩):=by
 have i:k<Nv m:=(dj.mp h).1;have fin:∀c,c[k]?=U ⟨50,[.ol [.int<|av a b,.int b]]⟩->ah (aA 2<|oM (ny 50 zA zO) zB)
   (ah (o9 50 zA zO<|oD (ny 50 zA zO) zB)
  <|ao zC) ⟨[sv<|.own k,Ki many,Y],c⟩=.ok (.rt<|.int<|av a b % many,⟨[sv<|.own k,Ki many,Ki<|av a b % many],c.set k ⟨50,[.ol [.int<|av a b/many,.int b]]⟩⟩):=λc h=>by
  have e:∀u,ny 50 zA zO ⟨[sv<|.own k,Ki many,u],c⟩=.ok (.int<|av a b,⟨[sv<|.own k,Ki many,u],c⟩):=λu=>Ź (k:=k) (zs:=[.int<|av a b,.int b]) (j:=0) J h J J;exact seq1 (dM (t:=.int<|av a b % many) (s':=⟨[sv<|.own k,Ki many,Y],c⟩)<|aP (e Y) J<|IW f.1)<|seq1 (bpt (k:=k) (zs:=[.int<|av a b,.int b]) (j:=0) (v:=.int<|av a b/many) (aP (e _) J<|O3 f) J h J ⟨by decide,by show(0:Int)<2;decide⟩) J
 rw[w49];have g:D.aY (oE (ny 50 zA zO) zO) ⟨[sv<|.own k,Ki many,Y],m⟩=.ok (decide<|a=0,⟨[sv<|.own k,Ki many,Y],m⟩):=zb<|aP (Ź (k:=k) (zs:=[.int a,.int b]) (t:=.int a) (j:=0) J h J J) J<|qS _ _;by_cases h0:a=0
 .have d:av a b=b:=cv h0
  have l:m.set k ⟨50,[.ol [.int<|av a b/many,.int b]]⟩=(m.set k ⟨50,[.ol [.int b,.int b]]⟩).set k ⟨50,[.ol [.int<|av a b/many,.int b]]⟩:=by rw[D0]
  rw[l];refine gC J (seq1 (s':=⟨[sv<|.own k,Ki many,Y],m.set k ⟨50,[.ol [.int b,.int b]]⟩⟩) (Dt (s':=⟨[sv<|.own k,Ki many,Y],m⟩) (g.trans<|by rw[cw h0])<|bpt (k:=k) (zs:=[.int a,.int b]) (j:=0) (v:=.int b) (Ź (k:=k) (zs:=[.int a,.int b]) (t:=.int b) (j:=1) J h J J) J h J ⟨by decide,by show(0:Int)<2;decide⟩)<|fin _ ?_) J
  rw[gy i,d]
 .have d:av a b=a:=cb h0
  exact gC J (seq1 (s':=⟨[sv<|.own k,Ki many,Y],m⟩) (qP (s':=⟨[sv<|.own k,Ki many,Y],m⟩) (g.trans<|by rw[ar h0]) J)<|fin m<|by rw[d];exact h) J
def IZ(d:0<=a)(c:1<=b):1<=av a b:=by unfold av;split<;>lia
def tk{fl:FL}{many:Int}{Q:T×S->Prop}(g:fl s=.ok ([.own k,.int many],s))(j:Bx k s.m)(c:0<many/\many<1073741824)(h:∀d m',0<=d->d<many->Bx k m'->Q (.int d,⟨s.r,m'⟩)):W (af (cN (n+1) 49) [] fl s) Q:=by
 obtain⟨a,b,e,l,f⟩:=j;have i:k<Nv s.m:=(dj.mp e).1;have o:=IZ l f;exact cZ<|W.of g<|W.of (BD n e c)<|h _ _ (B5 _<|by lia) (zN _ c.1) ⟨_,b,gy i,Nq (by lia)<|by lia,f⟩
def YQ{fl:FL}{many j:Int}{Q:T×S->Prop}(c:fl s=.ok ([.own k,.int many],s))(f:Bx k s.m)(e:0<many/\many<1073741824)(h:∀d m',Bx k m'->Q (.bl d,⟨s.r,m'⟩)):W (oE (af (cN (n+1) 49) [] fl) (cI j) s) Q:=
 wC<|tk n c f e λd m' _ _ b=>W.of (a:=(.int j,⟨s.r,m'⟩)) J ⟨_,qS _ _,h _ _ b⟩
def Mu{fl:FL}{many j:Int}{Q:T×S->Prop}(c:fl s=.ok ([.own k,.int many],s))(f:Bx k s.m)(e:0<many/\many<1073741824)(h:∀d m',j<=d->d<j+many->Bx k m'->Q (.int d,⟨s.r,m'⟩)):W (oA (cI j) (af (cN (n+1) 49) [] fl) s) Q:=
 wC<|W.of (a:=(.int j,s)) J<|tk n c f e λd m' i g b=>⟨_,Dd _ _,h _ _ (by lia) (by lia) b⟩
def ir{d:Int}(e:0<=d)(b:d<Nv l):∃c∈l,jC (.str l) (.int d)=U (.str [c]):=by
 have a:d.toNat<Nv l:=by lia
 refine⟨l[d.toNat],D6 a,?_⟩;show(atT l d).map _=_;unfold atT;rw[cv e,cv b,fQ a];rfl
def ixL{d:Int}(e:0<=d)(b:d<Nv l):∃c∈l,jC (.lst l) (.int d)=U c:=by
 have a:d.toNat<Nv l:=by lia
 refine⟨l[d.toNat],D6 a,?_⟩;show atT l d=_;unfold atT;rw[cv e,cv b,fQ a]
def T3(h:0<=d)(a:d<=100000):nt [.int d]=U (oz 0 d.toNat):=iR (by lia)
def iG(d:Nat):(oz 0 d).length=d:=by unfold oz;rw[cU,zx]
def BE(h:Bx k m)(h0:0<Nv l)(B:Nv l<=100)(r:0<=z)(A:z<=1000):W (cN (n+2) 50 [.own k,.str l,.int z] m) λp=>∃w,p.1=.str w/\(Nv w:Int)=z/\(∀c∈w,c∈l)/\Bx k p.2:=by
 rw[w50];refine nB J<|HK ?_;have e:W (dR (bP (xA nt<|k1 zC) 2 [0,1] (setG 1) dX<|oI zD<|af (cN (n+1) 49) []<|k2 zC<|aG cJ<|k1 zD) ⟨[sv<|.own k,Kj l,Ki z],m⟩) λp=>∃w:B1,p.1=.lst ((w.map λc=>[c]).map T.str)/\(Nv w:Int)=z/\(∀c∈w,c∈l)/\Bx k p.2.m:=by
  refine X6<|OF<|W.of (a:=(oz 0 z.toNat,⟨[sv<|.own k,Kj l,Ki z],m⟩)) ?_ ⟨by rw[iG];lia,?_⟩
  .have u:=T3 r (by lia:z<=100000)
   unfold xA;simp only[ev,SX,qy,JB,u]
  .refine(Š (I:=Bx k) (R:=λt=>∃c,c∈l/\t=.str [c]) (λt _ m h=>⟨[Y,sv t,sv<|.own k,Kj l],J,wC<|W.of (a:=(.str l,⟨[Y,sv t,sv<|.own k,Kj l],m⟩)) J<|tk n (k:=k) (many:=(Nv l:Nat)) J h (by lia) λd y q1 q2 b=>?_⟩) m h).mono λp ⟨q1,q2,o⟩=>?_
   .obtain⟨c,q,e⟩:=ir q1 q2
    exact⟨_,e,⟨c,q,J⟩,b⟩
   .obtain⟨w,e,g⟩:=HN (f:=λc:Nat=>T.str [c]) q2
    refine⟨w,?_,?_,g,o⟩
    .show T.lst p.1=_
     rw[e,qC];rfl
    .rw[e,cU,iG]at q1
     lia
 obtain⟨p,x,w,v,g,hl,j⟩:=e;have i:=join_eq (l:=w.map λc=>[c]) (by rw[qp];lia)
 rw[qp]at i;refine⟨(.str w,p.2),?_,w,J,g,hl,j⟩;obtain⟨t,s⟩:=p;cases v;have ä:dR (bP (xA nt<|k1 zC) 2 [0,1] (setG 1) dX<|oI zD<|af (cN (n+1) 49) []<|k2 zC<|aG cJ<|k1 zD) ⟨[sv<|.own k,Kj l,Ki z],m⟩=_:=x;show mK joinM (cS []) (k1<|dR _) _=_;simp only[ev,qy,JB];show Res.bind (Res.bind (dR _ ⟨[sv<|.own k,Kj l,Ki z],m⟩) _) _=_;rw[ä];simp only[qy,JB,i]
def zc(g:Bx k m):W (cN (n+3) 51 [.own k] m) λp=>∃a,p.1=.str a/\dN a/\Bx k p.2:=by
 rw[w51];refine nB J<|HK<|cZ<|gI<|W.of (a:=(.own k,⟨[sv<|.own k],m⟩)) J<|gI<|W.of (a:=(.str eK,⟨[sv<|.own k],m⟩)) J<|gI<|Mu (n+1) J g (by decide) λd f i h b=>W.of (a:=([],⟨[sv<|.own k],f⟩)) J ?_
 refine(BE n b (l:=eK) (z:=d) (by decide) (by decide) (by lia)<|by lia).mono λp ⟨w,e,q1,q2,c⟩=>⟨w,e,⟨q2,λz=>?_,by lia⟩,c⟩
 rw[z]at q1
 have:((0:Nat):Int)=d:=q1
 lia
def nZ(j:Bx k m)(r:0<=f)(q:f<=40):W (cN (n+3) 52 [.own k,.int f] m) λp=>∃a,p.1=.str a/\JF a/\(Nv a:Int)<=f/\Bx k p.2:=by
 rw[w52];refine nB J<|JC (t:=.str gp) (s':=⟨[sv<|.own k,Ki f,Y],m⟩) J<|HK<|cZ<|gI<|W.of (a:=(.own k,⟨[sv<|.own k,Ki f,Kj gp],m⟩)) J<|gI<|W.of (a:=(.str gp,⟨[sv<|.own k,Ki f,Kj gp],m⟩)) J<|gI<|tk (n+1) (k:=k) (many:=f+1) J j (by lia) λd h q1 q2 b=>W.of (a:=([],⟨[sv<|.own k,Ki f,Kj gp],h⟩)) J ?_
 exact(BE n b (l:=gp) (z:=d) (by decide) (by decide) (by lia)<|by lia).mono λp ⟨w,e,s,g,o⟩=>⟨w,e,⟨λc i=>(bt<|bz.mp IY c<|g c i).1,λz=>(bt<|bz.mp IY 34<|g 34 z).2 J,by lia⟩,by lia,o⟩
def YR:eG.all (λc=>decide<|c∈dB/\c≠93/\c≠94/\c≠47/\c<128)=O:=by decide +kernel
def ź:eG.Nodup:=by decide +kernel
theorem BF:∀(l xs:B1),xs.Nodup->Nv xs<=(xs.filter λc=>!decide (c∈l)).length+Nv l
 |[],xs,_=>by rw[List.filter_eq_self.mpr λa _=>by simp];exact fJ _ _
 |a::l,xs,h=>by
  have e:(xs.filter λc=>!decide (c∈a::l))=(xs.erase a).filter λc=>!decide (c∈l):=by
   rw[h.erase_eq_filter,List.filter_filter]
   congr 1
   funext c
   by_cases q:c=a<;>simp[q]
  have:=BF l (xs.erase a)<|h.erase a
  have b:Nv xs<=(xs.erase a).length+1:=by rw[List.length_erase];split<;>lia
  rw[e,eu]
  lia
abbrev JG(k:Nat)(z:Int)(l:B1)(u v:Option C)(m:FR):S:=⟨[sv<|.own k,Ki z,Kj eG,Kj l,u,v],m⟩
structure Ż(l:B1):Prop where
 nd:l.Nodup
 mem:∀c∈l,c∈eG
abbrev ż(k:Nat)(z:Int)(l:B1)(t:T)(a:B1):FR->S:=JG k z l (sv t)<|Kk<|a.map λc=>.str [c]
theorem I_(n:Nat):∀(ts:FC)(l:B1)(u v:Option C)(m:FR),Bx k m->Ż l->Nv l+Nv ts<=12->W (aZ (setG 4) (SY<|cN<|n+1) ts<|JG k z l u v m) λp=>p.1=.nx/\∃f j i m',p.2=JG k z f j i m'/\f.length=Nv l+Nv ts/\Ż f/\Bx k m'
 |[],l,u,v,m,g,hl,_=>⟨_,J,J,l,u,v,m,J,J,hl,g⟩
 |t::ts,l,u,v,m,g,hl,E=>by
  rw[eu]at E;have s:dR (bP (mG zC) 2 [3] (setG 1) (D.aY<|rO .NotIn O 2 zB) zB) (JG k z l (sv t) v m)=.ok (.lst<|(eG.filter λc=>!decide (c∈l)).map λc=>.str [c],JG k z l (sv t) v m):=by
   refine jH<|jf (ts:=eG.map λc=>T.str [c]) (s1:=JG k z l (sv t) v m) J (by rw[cU];decide)<|gq (λc:Nat=>T.str [c]) (λc=>!decide (c∈l)) λc _=>?_
   exact⟨[Y,Kj [c],Kj l],[Y,Kj [c],Kj l],[Y,Kj [c],Kj l],J,J,J⟩
  have H:=BF l eG ź;have L:Nv eG=91:=J;have P:=D7 (λc=>!decide (c∈l)) eG
  generalize hL:(eG.filter λc=>!decide (c∈l))=left at s H P
  obtain⟨⟨o,s1⟩,R,rfl,x,m',rfl,h,A⟩:W (SY (cN<|n+1)<|JG k z l (sv t) v m) λp=>p.1=.nx/\∃x m',p.2=ż k z (l++[x]) t left m'/\x∈left/\Bx k m':=by
   refine yN<|lS<|W.of s ⟨J,lS<|wC<|W.of (a:=(.str l,ż k z l t left m)) J<|wC<|W.of (a:=(.lst<|left.map λc=>.str [c],ż k z l t left m)) J<|tk n (k:=k) (many:=((left.map λc=>T.str [c]).length:Nat)) J g (by rw[cU];lia) λd m' N M b=>?_⟩
   obtain⟨q,F,e⟩:=ixL N M;obtain⟨x,h,rfl⟩:=lr.mp F;exact⟨_,e,_,jl<|by show _+1<=_;lia,J,x,m',J,h,b⟩
  rw[<- hL]at h;obtain⟨y,w⟩:=zr.mp h;have G:Ż<|l++[x]:=⟨by
   rw[DZ];refine⟨hl.nd,by simp,λa K b g e=>?_⟩
   rw[gA.mp g]at e;subst e;simp[K]at w,λc I=>by
   rcases iI.mp I with q|q
   .exact hl.mem c q
   .rw[gA.mp q];exact y⟩
  obtain⟨p,Q,q1,f,j,i,Ž,q2,B,q4,q5⟩:=I_ n ts (l++[x]) (sv t) _ m' A G (by rw[cA];show _+1+_<=_;lia)
  refine⟨p,dG (r:=[sv<|.own k,Ki z,Kj eG,Kj l,sv t,v]) J R Q,q1,f,j,i,Ž,q2,?_,q4,q5⟩;rw[B];simp only[cA,eu,xJ]
  lia
def O4(i:Bx k m)(r:1<=z)(q:z<=12):W (cN (n+2) 53 [.own k,.int z] m) λp=>∃l,p.1=.str l/\yW l/\Bx k p.2:=by
 rw[w53];refine nB J<|JC (t:=.str eG) (s':=⟨[sv<|.own k,Ki z,Y,Y,Y,Y],m⟩) J<|JC (t:=.str []) (s':=⟨[sv<|.own k,Ki z,Kj eG,Y,Y,Y],m⟩) J<|lR ?_;have f:=I_ n (k:=k) (z:=z) (oz 0 z.toNat) [] Y Y m i ⟨Nb,λ_ h=>(nomatch h)⟩ (by rw[iG];show 0+_<=_;lia)
 obtain⟨⟨o,s1⟩,e,rfl,l,u,v,b,rfl,q1,q2,a⟩:=f;refine W.of (qQ (ts:=oz 0 z.toNat) (s1:=JG k z [] Y Y m) ?_ e) ⟨J,lQ (t:=.str l) (s':=JG k z l u v b) J ⟨l,J,⟨λh=>?_,?_,q2.nd,λc g=>(λh=>⟨h.1,h.2.1,h.2.2.1,h.2.2.2.1⟩)<|bt<|bz.mp YR c<|q2.mem c g⟩,a⟩⟩
 .have j:=T3 (d:=z) (by lia) (by lia)
  show xA nt (k1 zB) (JG k z [] Y Y m)=_;unfold xA;simp only[ev,SX,qy,JB,j]
 .rw[h,iG]at q1
  have:(0:Nat)=0+z.toNat:=q1
  lia
 .rw[iG]at q1
  have:Nv l=0+z.toNat:=q1
  lia
def dO(d:a s=.ok (t,s))(c:b s=.ok (u,s)):aG aE (k2 a b) s=.ok (.tup [t,u],s):=dz (aQ d<|aQ c J)<|yT _ _
def iQ(f:a s=.ok (t,s))(e:b s=.ok (u,s))(d:c s=.ok (v,s)):aG aE (k3 a b c) s=.ok (.tup [t,u,v],s):=dz (aQ f<|aQ e<|aQ d J)<|Ic _ _ _
def YS(a b c d:T):eB [a,b,c,d]=U (.lst [a,b,c,d]):=iR (by show 4<=1000;decide)
def De(h:a s=.ok (.int i,s)):D.aY (oE a<|cI j) s=.ok (decide<|i=j,s):=zb<|aP h (u:=.int j) J<|qS _ _
def UH(q:¬ i=j)(h:a s=.ok (.int i,s)):D.aY (oE a<|cI j) s=.ok (Zi,s):=(De h).trans (by rw[ar q])
def ž(h:a s=.ok (.int i,s))(q:decide (i<j)=b):D.aY (bH (aM .Lt) a<|cI j) s=.ok (b,s):=(zb<|aP h (u:=.int j) J<|pV _ _).trans (by rw[q])
def O5:pS.all mL=O:=by decide +kernel
def O6{c m:Nat}(h:mL c=O):Itm.txt ⟨[c],Zi,m⟩=[c]++mt m:=by
 unfold Itm.txt Itm.core;dsimp only;rw[cb<|by simp,cb<|by simp,cv<|by simpa using h]
def T4{m:Nat}(G:yW sg):Itm.txt ⟨sg,O,m⟩=[91,94]++sg++[93]++mt m:=by
 unfold Itm.txt Itm.core;dsimp only;rw[cb G.ne,cv J]
def T5{m:Nat}(G:yW sg)(h:(decide (Nv sg=1)&&sg.all mL)=Zi):Itm.txt ⟨sg,Zi,m⟩=[91]++sg++[93]++mt m:=by
 unfold Itm.txt Itm.core;dsimp only;rw[cb G.ne,cb<|by simp,cb<|by rw[h];simp]
abbrev ItW(k:Nat)(p:T×FR):Prop:=∃i:Itm,uP i/\p.1=.tup [.str i.txt,i.val]/\Bx k p.2
def T6(H:Bx k m):W (cN (n+3) 54 [.own k] m) λp=>ItW k p:=by
 rw[w54];refine nB J<|eW<|tk (n+1) (k:=k) (many:=4) J H (by decide) λd m1 q v b1=>?_
 obtain⟨mn,r,M,L⟩:∃mn:Nat,(mn=49\/mn=42\/mn=43\/mn=63)/\jC (.str [49,42,43,63]) (.int d)=U (.str [mn])/\jC (.lst [.str [],.str [42],.str [43],.str [63]]) (.int d)=U (.str<|mt mn):=by
  have h:d=0\/d=1\/d=2\/d=3:=by lia
  rcases h with rfl|rfl|rfl|rfl
  .exact⟨49,by decide,J,J⟩
  .exact⟨42,by decide,J,J⟩
  .exact⟨43,by decide,J,J⟩
  .exact⟨63,by decide,J,J⟩
 have j:(mt mn).length<=1:=by unfold mt;split<;>simp
 refine JC (t:=.str [mn]) (aP J J M)<|JC (t:=.str<|mt mn) (aP (dz J<|YS _ _ _ _) J L)<|eW<|tk (n+1) (k:=k) (many:=4) J b1 (by decide) λf m2 P N b2=>?_
 have F:f=0\/f=1\/f=2\/f=3:=by lia
 rcases F with rfl|rfl|rfl|rfl
 .refine jD J<|jD J<|jD J<|JC (t:=.str pS) J<|eW<|wC<|W.of (a:=(.str pS,_)) J<|tk (n+1) (k:=k) (many:=85) J b2 (by decide) λd m3 g u b3=>?_
  obtain⟨c,o,e⟩:=ir (l:=pS) g u;exact⟨_,e,lQ (dO (TE.add (⟨J,eA _⟩:TE (vF 6) _ [c] 1) (⟨J,j⟩:TE zD _ (mt mn) 1)).e<|iQ J J J) ⟨⟨[c],Zi,mn⟩,⟨.pl c mn<|bz.mp O5 c o,r⟩,by rw[O6<|bz.mp O5 c o];rfl,b3⟩⟩
 .exact wD J<|lQ (dO (TE.add (TE.c _) (⟨J,j⟩:TE zD _ (mt mn) 1)).e<|iQ J J J) ⟨⟨[],O,mn⟩,⟨.any mn,r⟩,J,b2⟩
 .refine jD J<|wD J<|eW<|cZ<|gI<|W.of (a:=(.own k,_)) J<|gI<|Mu (n+1) (k:=k) (many:=12) J b2 (by decide) λd m3 g u b3=>W.of (a:=([],_)) J<|(O4 n b3 g<|by lia).mono λp s=>?_
  obtain⟨l,e,hl,b4⟩:=s;obtain⟨t,m4⟩:=p;cases e;exact lQ (dO (TE.add (TE.add (TE.add (TE.c _) (⟨J,hl.nz⟩:TE (vF 7) _ l 12))<|TE.c _) (⟨J,j⟩:TE zD _ (mt mn) 1)).e<|iQ J J J) ⟨⟨l,O,mn⟩,⟨.neg l mn hl,r⟩,by rw[T4 hl];rfl,b4⟩
 .refine jD J<|jD J<|wD J<|eW<|cZ<|gI<|W.of (a:=(.own k,_)) J<|gI<|Mu (n+1) (k:=k) (many:=12) J b2 (by decide) λd m3 g u b3=>W.of (a:=([],_)) J<|(O4 n b3 g<|by lia).mono λp s=>?_
  obtain⟨l,e,hl,b4⟩:=s;obtain⟨t,m4⟩:=p;cases e;have fin:∀(l:B1)(m5:FR)(A y w:Option C),yW l->(decide (Nv l=1)&&l.all mL)=Zi->Bx k m5->WB (ao<|aG aE<|k2 (oA (oA (oA (cS [91])<|vF 7)<|cS [93]) zD)<|aG aE<|k3 (vF 7) (cF<|.bl Zi) zC) ⟨[sv<|.own k,A,Kj [mn],Kj<|mt mn,Ki 3,y,w,Kj l],m5⟩ (λp=>ItW k p):=λl m5 A y w q v b=>lQ (dO (TE.add (TE.add (TE.add (TE.c _) (⟨J,q.nz⟩:TE (vF 7) _ l 12))<|TE.c _) (⟨J,j⟩:TE zD _ (mt mn) 1)).e<|iQ J J J) ⟨⟨l,Zi,mn⟩,⟨.set l mn q v,r⟩,by rw[T5 q v];rfl,b⟩
  refine Ş ⟨_,De (i:=(Nv l:Nat)) J,λh=>lS<|wC<|W.of (a:=(.str [36,46,91,42,43,63],_)) J<|tk (n+1) (k:=k) (many:=6) J b4 (by decide) λd m5 K I b5=>?_,λh=>fin l m4 _ Y Y hl ?_ b4⟩
  .obtain⟨c,o,e⟩:=ir (l:=[36,46,91,42,43,63]) K I
   have G:[36,46,91,42,43,63].all (λc=>decide<|(c∈dB/\c≠93/\c≠94/\c≠47)/\mL c=Zi)=O:=by decide +kernel
   obtain⟨D,B⟩:=bt<|bz.mp G c o;exact⟨_,e,J,fin [c] m5 _ Y Y ⟨by simp,by show 1<=12;decide,by simp,λx E=>by rw[gA.mp E];exact D⟩ (by simp[B]) b5⟩
  .have:Nv l≠1:=λz=>by
    have h:decide (((Nv l:Nat):Int)=1)=Zi:=h;rw[z]at h;cases h
   rw[ar this];rfl
abbrev jn(au:List Itm):FC:=au.map λi=>.tup [.str i.txt,i.val]
abbrev se(c:Nat):Itm:=⟨[c],Zi,49⟩
def Mv(au:List Itm):Nat:=(au.filter λi=>!C3 i).length
def T7(h:mL c=O):(se c).txt=[c]:=by rw[O6 h];rfl
def Ja(h:uP i):Tt i:=⟨h.m,by
 cases h.k with
 |any m=>exact iU _
 |neg sg m G=>exact G.nz
 |set sg m G _=>exact G.nz
 |pl c m _=>show 1<=12;decide⟩
def YT(h:uP i):decide (i.mn∈[49,43])=!C3 i:=by
 unfold C3;rcases h.m with e|e|e|e<;>rw[e]<;>rfl
def BG(h:c s=.ok (O,s1))(k:d s1=R):fY c d s=R:=by
 unfold fY;rw[h];exact k
def aaa(a:T):eB [a]=U (.lst [a]):=iR (by show 1<=1000;decide)
def T8(a b:T):eB [a,b]=U (.lst [a,b]):=iR (by show 2<=1000;decide)
theorem l_{α:Type}(v f:α->T):∀{l:List α},(∀x∈l,∃b1 b2,g (v x) b=U b1/\e ⟨b1,m⟩=.ok (f x,⟨b2,m⟩))->bM g dX e b (l.map v) m=.ok (l.map f,m)
 |[],_=>J
 |x::l,h=>by
  obtain⟨b1,b2,d,c⟩:=h x<|eX ..;rw[fV,bM,d];refine Eq.trans (qy _ _) ?_;show Res.bind (e ⟨b1,m⟩) _=_;rw[c];show Res.bind (bM g dX e b (l.map v) m) _=_;rw[l_ v f λy a=>h y<|bw _ a];rfl
abbrev fT(f:Bool):Tx:=if f then[94]else[]
abbrev bT(b:Bool):Tx:=if b then[36]else[]
abbrev Mw(f:Bool)(au:List Itm)(b:Bool):Tx:=fT f++(cK au++bT b)
abbrev T9(f:Bool)(au:List Itm)(b:Bool):T:=.tup [.bl f,.lst<|vals au,.bl b]
def xl(l:List Itm):(l.map Itm.txt).flatten=cK l:=J
abbrev sf(k:Nat)(l:Int)(f b:Bool)(a:Int)(au:List Itm)(u:Option C)(m:FR):S:=⟨[sv<|.own k,Ki l,sv<|.bl f,sv<|.bl b,Ki a,Kk<|jn au,u],m⟩
def fB(f:Bool)(c:Nat):jC (.lst [.str [],.str [c]]) (.int<|if f then 1 else 0)=U (.str<|if f then[c]else[]):=by cases f<;>rfl
def aab(f:Itm->T)(l:List Itm):aM .Eq (.lst<|l.map f) (.lst [])=U (.bl l.isEmpty):=by
 cases l with
 |nil=>rfl
 |cons a l=>rfl
def YU(h:a s=.ok (t,s1))(k:ZF t=U ts):mG a s=.ok (ts,s1):=by
 unfold mG;rw[h];refine Eq.trans (qy _ _) ?_;dsimp only;rw[k];rfl
abbrev x54(j:Int):FE:=dR<|bP (mG<|vF 5) 2 [] (setG 1) dX<|oI zB<|cI j
abbrev j54:FE:=mK joinM (cS [])<|k1<|x54 0
abbrev r54:FS:=ah (aA 6<|oA (oA (oI (aG eB<|k2 (cS [])<|cS [94])<|aG qL<|k1 zC)<|j54)<|oI (aG eB<|k2 (cS [])<|cS [36])<|aG qL<|k1 zD)
<|ao<|aG aE<|k2 (vF 6)<|aG aE<|k3 zC (x54 1) zD
def Jb{G:T×FR->Prop}(h:∀i∈au,uP i)(hl:Nv au<=8)(n:G (.tup [.str<|Mw f au b,T9 f au b],m)):WB r54 (sf k l f b a au Y m) G:=by
 have q:=uI λi g=>Ja<|h i g;have e:∀(u:Option C)(j:Int)(F:Itm->T),(∀i:Itm,jC (.tup [.str i.txt,i.val]) (.int j)=U (F i))->x54 j (sf k l f b a au u m)=.ok (.lst<|au.map F,sf k l f b a au u m):=λu j F o=>jH<|jf (ts:=jn au) (s1:=sf k l f b a au u m) J (by rw[cU];lia)<|l_ (λi:Itm=>.tup [.str i.txt,i.val]) F λi _=>⟨[Y,sv<|.tup [.str i.txt,i.val]],[Y,sv<|.tup [.str i.txt,i.val]],J,aP J J<|o i⟩
 have d:=join_eq (l:=au.map Itm.txt) (by rw[xl];lia)
 rw[xl,aw,qC]at d;have p:j54 (sf k l f b a au Y m)=.ok (.str<|cK au,sf k l f b a au Y m):=by
  simp only[ev,qy,JB,e Y 0 (λi=>.str i.txt) λ_=>J];show Res.bind (cH<|joinM [] [.lst<|au.map<|T.str∘Itm.txt]) _=_;rw[d];rfl
 have lf:∀(f:Bool)(c:Nat),(if f then[c]else[]:B1).length<=1:=λf c=>by cases f<;>simp
 refine JC (t:=.str<|Mw f au b) (TE.as (TE.add (TE.add (⟨aP (dz J<|T8 _ _) (dz J J)<|fB f 94,lf f 94⟩:TE _ (sf k l f b a au Y m) (fT f) 1) (⟨p,by lia⟩:TE _ _ (cK au) 128)) (⟨aP (dz J<|T8 _ _) (dz J J)<|fB b 36,lf b 36⟩:TE _ _ (bT b) 1))<|dU _ _ _) ?_
 exact lQ (dO J<|iQ J (e _ 1 Itm.val λ_=>J) J) n
abbrev a54:FC:=[.str [32,116,111,32],.str [58,32,100,114,111,112],.str [32,116,111,32,114,111,119,32],.str [110,111,116,32]]
def Mx(d:0<=a)(b:a<4):∃w:B1,jC (.lst a54) (.int a)=U (.str w)/\w.length<=8/\∀c∈w,mL c=O:=by
 have h:a=0\/a=1\/a=2\/a=3:=by lia
 have al:∀w:B1,w.all mL=O->∀c∈w,mL c=O:=λw=>bz.mp;rcases h with rfl|rfl|rfl|rfl
 .exact⟨_,J,by decide,al _<|by decide⟩
 .exact⟨_,J,by decide,al _<|by decide⟩
 .exact⟨_,J,by decide,al _<|by decide⟩
 .exact⟨_,J,by decide,al _<|by decide⟩
abbrev e54:FT:=D.aY<|oE (dR<|bP (mG<|vF 5) 2 [] (setG 1) (D.aY<|bH (aM .In) (oI (oI zB zI)<|cI 2)<|cS [49,43]) zB)<|aG eB bD
abbrev u54:FE:=oA (jQ (vF 5) nJ<|jv<|cI 7)<|aG eB<|k1<|aG aE<|k2 (cS [120])<|aG aE<|k3 (cS [120]) (cF<|.bl Zi)<|cS [49]
abbrev q54:FS:=ah (aO (fY (D.aY<|bH (aM .Gt) zB zO)<|e54)
  (aA 5<|u54)
  az) r54
def YV(l:List α):bf l Y (U 7)=l.take 7:=by
 unfold bf;show(l.drop 0).take (min 7 l.length-0)=_;rw[BW,Nat.sub_zero];by_cases h:7<=Nv l
 .rw[u9 h]
 .rw[Nat.min_eq_right<|by lia,Ng,M4<|by lia]
abbrev k7(au:List Itm):List Itm:=au.take 7++[se 120]
def YW{G:T×FR->Prop}(o:lst=0\/lst=1)(h:∀i∈au,uP i)(hl:Nv au<=8)(g:∀au:List Itm,(∀i∈au,uP i)->Nv au<=8->(lst=1->0<Mv au)->G (.tup [.str<|Mw f au b,T9 f au b],m)):WB q54 (sf k lst f b c au Y m) G:=by
 rcases o with rfl|rfl
 .exact jD J (Jb h hl (g au h hl λz=>by cases z))
 .have p:(au.filter λi=>decide<|i.mn∈[49,43])=au.filter λi=>!C3 i:=Nh λi d=>YT<|h i d
  have e:e54 (sf k 1 f b c au Y m)=.ok ((au.filter λi=>!C3 i).isEmpty,sf k 1 f b c au Y m):=by
   rw[<- p];refine zb<|aP (jH<|jf (ts:=jn au) (s1:=sf k 1 f b c au Y m) J (by rw[cU];lia)<|gq (λi:Itm=>T.tup [.str i.txt,i.val]) (λi=>decide<|i.mn∈[49,43]) λi _=>⟨[Y,sv<|.tup [.str i.txt,i.val]],[Y,sv<|.tup [.str i.txt,i.val]],[Y,sv<|.tup [.str i.txt,i.val]],J,J,J⟩) (dz J<|iR<|iU _)<|aab _ _
  refine Ş ⟨_,BG J e,λq=>?_,λq=>Jb h hl<|g au h hl λ_=>?_⟩
  .have l:∀i∈k7 au,uP i:=λi d=>by
    rcases iI.mp d with z|z
    .exact h i<|zG z
    .rw[gA.mp z];exact⟨.pl 120 49<|by decide,.inl J⟩
   have j:(k7 au).length<=8:=by
    rw[cA,uU];show min 7 _+1<=8
    lia
   have X3:0<Mv (k7 au):=List.length_pos_of_mem (a:=se 120)<|zr.mpr ⟨lj _<|gA.mpr J,J⟩;have n:u54 (sf k 1 f b c au Y m)=.ok (.lst<|jn<|k7 au,sf k 1 f b c au Y m):=by
    rw[show jn (k7 au)=bf (jn au) Y (U 7)++[.tup [.str [120],.tup [.str [120],.bl Zi,.str [49]]]] by rw[YV,jn,mV,M1];rfl]
    refine aP (t:=.lst<|bf (jn au) Y<|U 7) (u:=.lst [.tup [.str [120],.tup [.str [120],.bl Zi,.str [49]]]]) (s1:=sf k 1 f b c au Y m) J (dz (aQ (dO J<|iQ J J J) J)<|aaa _)<|iR ?_;rw[YV,uU];show min 7 _+1<=_
    lia
   generalize k7 au=X at l j X3 n
   refine lS ⟨_,n,J,?_⟩;show WB r54 (sf k 1 f b c X Y m) G;exact Jb l j<|g X l j λ_=>X3
  .have q:(au.filter λi=>!C3 i).isEmpty=Zi:=q
   unfold Mv;exact List.length_pos_iff.mpr λz=>by rw[z]at q;cases q
def Q54(lst:Int)(k:Nat)(p:T×FR):Prop:=∃f au b,(∀i∈au,uP i)/\au.length<=8/\p.1=.tup [.str<|Mw f au b,T9 f au b]/\(lst=1->0<Mv au)/\Bx k p.2
def YX(r:Bx k m)(hl:lst=0\/lst=1):W (cN (n+4) 55 [.own k,.int lst] m)<|Q54 lst k:=by
 rw[w55];refine nB J<|eW<|YQ (n+2) J r (by decide) λf m1 b1=>?_
 refine eW<|YQ (n+2) J b1 (by decide) λb m2 b2=>?_
 refine eW<|tk (n+2) J b2 (by decide) λg m3 a1 a2 b3=>?_
 refine eW<|X6<|OF<|ş<|gI<|tk (n+2) J b3 (by decide) λd m4 u v b4=>W.of (a:=([],_)) J ⟨oz 0 d.toNat,T3 u<|by lia,by show(oz 0 d.toNat).length<=_;rw[iG];lia,?_⟩
 refine(Š (I:=Bx k) (R:=λt=>∃i:Itm,uP i/\t=.tup [.str i.txt,i.val]) (λt _ m r=>⟨[Y,sv t,sv<|.own k],J,cZ<|W.of (a:=([.own k],⟨[Y,sv t,sv<|.own k],m⟩)) J<|(T6 n r).mono λp ⟨i,q1,q2,j⟩=>⟨⟨i,q1,q2⟩,j⟩⟩) m4 b4).mono λp x=>?_;obtain⟨q1,q2,j⟩:=x;obtain⟨us,m5⟩:=p;obtain⟨au,e,l⟩:=HN (us:=us) (f:=λi:Itm=>T.tup [.str i.txt,i.val]) q2;have y:Nv au<=8:=by
  have q1:Nv us=_:=q1;rw[e,cU]at q1;rw[q1];show(oz 0 d.toNat).length<=8;rw[iG];lia
 have e:us=jn au:=e;subst e;have h:∀au:List Itm,(∀i∈au,uP i)->Nv au<=8->WB q54 (sf k lst f b g au Y m5) (Q54 lst k):=λau u v=>YW hl u v λau B A z=>⟨f,au,b,B,A,J,z,j⟩;refine Ş (s:=sf k lst f b g au Y m5) ⟨(decide<|g<4,sf k lst f b g au Y m5),J,λq=>?_,λ_=>h au l y⟩;obtain⟨w,e,w1,w2⟩:=Mx a1<|bt q;refine lS<|W.of (a:=(.lst<|jn<|w.map λc=>se c,sf k lst f b g au Y m5)) (jH ?_) ⟨J,h _ (λi l=>?_)<|by rw[cU];exact w1⟩
 .rw[jn,qC]
  refine jf (ts:=w.map λc=>.str [c]) (s1:=sf k lst f b g au Y m5) ?_ (by rw[cU];lia)<|l_ (λc:Nat=>T.str [c]) _ λc o=>⟨[Y,Kj [c]],[Y,Kj [c]],J,(dO J<|iQ J J J).trans<|by show _=Res.ok (T.tup [T.str (se c).txt,(se c).val],_);rw[T7<|w2 c o];rfl⟩
  exact YU (aP (dz J<|YS _ _ _ _) J e) J
 .obtain⟨c,o,rfl⟩:=lr.mp l
  exact⟨.pl c 49<|w2 c o,.inl J⟩
def xn(b:a s=.ok (t,s)):aG aE (k1 a) s=.ok (.tup [t],s):=dz (aQ b J)<|iR<|by show 1<=1000;decide
def YY(h:a s=.ok (t,s))(g:b s=.ok (u,s))(f:c s=.ok (v,s))(e:d s=.ok (w,s)):aG aE (bQ a<|k3 b c d) s=.ok (.tup [t,u,v,w],s):=dz (aQ h<|aQ g<|aQ f<|aQ e J)<|iR<|by show 4<=1000;decide
def YZ{fl:FL}{a:Out×S->Prop}(h:W (fl s) λp=>∃r,rG [i,j] p.1 p.2.r=U r/\a (.nx,⟨r,p.2.m⟩)):W (GW i j fl s) a:=W.bind<|h.mono λ_ ⟨_,e,q⟩=>wO e ⟨_,J,q⟩
def mf(h:qT p):p.g:=λi a=>Ja<|h i a
def BH{x:RP}(h:x.c):x.g:=by
 cases x with
 |row v=>exact h
 |like p=>exact mf h
def Jc{x:PC}(h:x.c):x.g:=by
 cases x with
 |last=>trivial
 |soon v p=>exact⟨h.1,mf h.2⟩
 |ft x y=>exact⟨BH h.1,BH h.2⟩
 |rp x=>exact BH h
def Jd{x:RP}(h:x.c):Nv x.txt<=140:=(uJ (m:=[]) 0<|BH h).2
def Je{x:PC}(h:x.c):Nv x.txt<=300:=(yZ (m:=[]) 0<|Jc h).2
abbrev Y0(x:Tx)(t:T):Prop:=∃a,noOwn a=O/\t=.tup [.str x,a]
def Jf(a:Bx k m)(hl:lst=0\/lst=1):W (cN (n+4) 55 [.own k,.int lst] m) λp=>∃q:il,qT q/\p.1=.tup [.str q.txt,q.val]/\(lst=1->0<least q)/\Bx k p.2:=(YX n a hl).mono λp ⟨f,au,b,g,d,e,c,a⟩=>⟨⟨f,au,b,d⟩,g,e,c,a⟩
def My{q:il}:noOwn q.val=O:=c6 q
def Jg(f:Bx k m):W (cN (n+5) 56 [.own k] m) λp=>∃x:RP,x.c/\Y0 x.txt p.1/\Bx k p.2:=by
 rw[w56];refine nB J<|bBr<|X0<|YQ (n+3) J f (by decide) λd m1 b1=>⟨d,J,λ_=>?_,λ_=>?_⟩
 .refine eW<|Mu (n+3) J b1 (by decide) λv m2 g j b2=>?_
  have N:mR v 1 999:=⟨g,by lia⟩
  exact lQ (dO (TE.add (TE.c _)<|TE.nn J N).e<|dO J J) ⟨.row v,N,⟨_,J,J⟩,b2⟩
 .refine eW<|cZ<|W.of (a:=([.own k,.int 0],_)) J<|(Jf n b1<|.inl J).mono λp b=>?_
  obtain⟨q,h,e,_,b2⟩:=b;obtain⟨i,m2⟩:=p;cases e;exact lQ (dO (TE.add (TE.add (TE.c _) (⟨J,k_<|mf h⟩:TE (oI zB zO) _ q.txt 130))<|TE.c _).e<|dO J J) ⟨.like q,h,⟨.tup [.str [108,105,107,101],q.val],Tn (t:=.str [108,105,107,101]) J My,J⟩,b2⟩
abbrev r56:FS:=ah (aO (D.tB zC)
  (ao<|aG aE<|k2 (oA (oA (cS [110,111,116,32]) zD)<|cS [58,32])<|aG aE<|k2 (cS [110,111,116])<|vF 4)
  az)
<|ao<|aG aE<|k2 (oA zD<|cS [58,32])<|vF 4
def Q56(k:Nat)(p:T×FR):Prop:=(Y0 [] p.1\/∃c:CD,c≠.fin/\c.c/\Y0 (c.txt++[58,32]) p.1)/\Bx k p.2
def BI{x:PC}(h:x.c)(hd:noOwn a=O)(b:Bx k m):WB r56 ⟨[sv<|.own k,j,sv<|.bl neg,Kj x.txt,sv a,i,g,f,d],m⟩<|Q56 k:=by
 cases neg with
 |true=>exact wD J (lQ (dO (TE.add (TE.add (TE.c _) (⟨J,Je h⟩:TE zD _ x.txt 300))<|TE.c _).e<|dO J J) ⟨.inr ⟨.no x,(λz=>nomatch z),h,⟨.tup [.str [110,111,116],a],Tn (t:=.str [110,111,116]) J hd,J⟩⟩,b⟩)
 |false=>exact jD J (lQ (dO (TE.add (⟨J,Je h⟩:TE zD _ x.txt 300)<|TE.c _).e J) ⟨.inr ⟨.pc x,(λz=>nomatch z),h,⟨_,hd,J⟩⟩,b⟩)
def T_(o:Bx k m):W (cN (n+6) 57 [.own k] m)<|Q56 k:=by
 rw[w57];refine nB J<|eW<|tk (n+4) J o (by decide) λb m1 w u b1=>?_
 by_cases h0:b=0
 .subst h0
  exact wD J<|lQ (dO J<|xn J) ⟨.inl ⟨_,J,J⟩,b1⟩
 .refine jD (UH h0 J)<|eW<|YQ (n+4) J b1 (by decide) λneg m2 b2=>lR<|HM<|W.of (dO J<|xn J) ⟨_,J,J,?_⟩
  have l:b=1\/b=2\/b=3\/b=4:=by lia
  rcases l with rfl|rfl|rfl|rfl
  .refine lR<|HL J<|HM<|cZ<|W.of (a:=([.own k],_)) J<|(Jg n b2).mono λp ⟨x,h,⟨f,i,e⟩,b3⟩=>?_
   obtain⟨d,m3⟩:=p;cases e;exact⟨_,J,J,jD J<|jD J<|BI (x:=.rp x) h i b3⟩
  .exact jD J<|jD J<|jD J<|BI (x:=.last) trivial J b2
  .refine jD J<|lR<|HL J<|yN<|lS<|Mu (n+4) J b2 (by decide) λv m3 r t b3=>⟨J,yN<|lS<|cZ<|W.of (a:=([.own k,.int 0],_)) J<|(Jf (n+1) b3<|.inl J).mono λp ⟨q,h,e,_,b4⟩=>⟨J,?_⟩⟩
   obtain⟨d,m4⟩:=p;cases e;have N:mR v 1 3:=⟨r,by lia⟩
   refine YZ<|W.of (a:=([.str (PC.soon v q).txt,.tup [.str [115,111,111,110],.int v,q.val]],_)) (aQ (TE.as (TE.add (TE.add (TE.add (TE.add (TE.c _)<|TE.nn J N)<|TE.c _) (⟨J,k_<|mf h⟩:TE (oI (vF 6) zO) _ q.txt 130))<|TE.c _)<|by simp[PC.txt])<|aQ (iQ J J J) J) ⟨_,J,J,jD J<|BI (x:=.soon v q) ⟨N,h⟩ (by show(O&&(O&&(noOwn q.val&&O)))=O;rw[My];rfl) b4⟩
  .refine jD J<|jD J<|lR<|HL J<|yN<|lS<|cZ<|W.of (a:=([.own k],_)) J<|(Jg n b2).mono λp ⟨x,h,⟨f,i,e⟩,b3⟩=>⟨J,?_⟩
   obtain⟨d,m3⟩:=p;cases e;refine yN<|lS<|cZ<|W.of (a:=([.own k],_)) J<|(Jg n b3).mono λp ⟨y,g,⟨j,s,e⟩,b4⟩=>⟨J,?_⟩;obtain⟨d,m4⟩:=p;cases e;exact YZ<|W.of (a:=([.str (PC.ft x y).txt,.tup [.str [102,114,111,109],f,j]],_)) (aQ (TE.as (TE.add (TE.add (TE.add (TE.c _) (⟨J,Jd h⟩:TE (oI (vF 7) zO) _ x.txt 140))<|TE.c _) (⟨J,Jd g⟩:TE (oI (vF 8) zO) _ y.txt 140))<|by simp[PC.txt])<|aQ (iQ J J J) J) ⟨_,J,J,BI (x:=.ft x y) ⟨h,g⟩ (by show(O&&(noOwn f&&(noOwn j&&O)))=O;rw[i,s];rfl) b4⟩
def Q57(k:Nat)(p:T×FR):Prop:=∃d:DD,d.c/\d.yR=O/\d.gX=Y/\Y0 d.txt p.1/\Bx k p.2
def Ua(s:Bx k m):W (cN (n+5) 58 [.own k,.bl j] m)<|Q57 k:=by
 rw[w58];refine nB J<|eW<|cZ<|W.of (a:=([.own k,.int 1],_)) J<|(Jf n s<|.inr J).mono λp f=>?_;obtain⟨q,d,e,h,b1⟩:=f;obtain⟨g,m1⟩:=p;cases e;have P:=k_<|mf d;have h:=h J;refine JC J<|JC J ?_;cases j with
 |false=>
  refine jD J<|eW<|cZ<|W.of (a:=([.own k,.int 40],_)) J<|(nZ (n+1) b1 (by decide)<|by decide).mono λp f=>?_
  obtain⟨l,e,b,t,b2⟩:=f;obtain⟨g,m2⟩:=p;cases e;exact lQ (dO (TE.as (TE.add (TE.add (TE.add (TE.add (⟨J,by decide⟩:TE (vF 4) _ [115,119,97,112,32,47] 12) (⟨J,P⟩:TE (oI zC zO) _ q.txt 130))<|TE.c _) (⟨J,b.l⟩:TE (vF 5) _ l 40))<|TE.c _) (y:=(DD.swap Zi q l).txt)<|by simp[DD.txt,OO])<|YY J J J J) ⟨.swap Zi q l,⟨d,b⟩,by show(!decide (least q=0)&&(!Zi ||_))=O;rw[ar<|by lia];rfl,J,⟨_,by show(O&&(noOwn q.val&&(O&&(O&&O))))=O;rw[My];rfl,J⟩,b2⟩
 |true=>
  have u:(q.au.filter λi=>decide<|i.mn∈[49,43])=q.au.filter λi=>!C3 i:=Nh λi o=>YT<|d i o;have el:∀(r:Fm)(m:FR),aG cJ (k1<|dR<|bP (mG<|oI (oI zC zI) zI) 2 [] (setG 1) (D.aY<|bH (aM .In) (oI zB<|cI 2)<|cS [49,43]) zB) ⟨Kn k::sv (.bl O)::sv (.tup [.str q.txt,q.val])::r,m⟩=.ok (.int (least q:Nat),⟨Kn k::sv (.bl O)::sv (.tup [.str q.txt,q.val])::r,m⟩):=λr m=>by
   refine dz (ts:=[.lst<|(q.au.filter λi=>decide<|i.mn∈[49,43]).map Itm.val]) (aQ (jH<|jf (ts:=q.au.map Itm.val) (s1:=⟨Kn k::sv (.bl O)::sv (.tup [.str q.txt,q.val])::r,m⟩) J (by have:=q.nz;rw[cU];lia)<|gq Itm.val (λi=>decide<|i.mn∈[49,43]) λi _=>⟨[Y,sv i.val],[Y,sv i.val],[Y,sv i.val],J,J,J⟩) J) ?_
   show U (T.int (((q.au.filter λi=>decide<|i.mn∈[49,43]).map Itm.val).length:Nat))=_;rw[cU,u];rfl
  have l8:least q<=8:=eY (D7 _ _) q.nz;refine lR<|HL J<|yN<|lS<|W.of (el _ _) ⟨J,lS<|W.of (a:=(.str [115,119,97,112,32,101,118,101,114,121,32,47],_)) J ⟨J,eW<|cZ<|W.of (a:=([.own k,.int (least q:Nat)],_)) J<|(nZ (n+1) b1 (by lia)<|by lia).mono λp ⟨l,e,b,t,b2⟩=>?_⟩⟩
  obtain⟨g,m2⟩:=p;cases e;exact lQ (dO (TE.as (TE.add (TE.add (TE.add (TE.add (⟨J,by decide⟩:TE (vF 4) _ [115,119,97,112,32,101,118,101,114,121,32,47] 12) (⟨J,P⟩:TE (oI zC zO) _ q.txt 130))<|TE.c _) (⟨J,b.l⟩:TE (vF 5) _ l 40))<|TE.c _) (y:=(DD.swap O q l).txt)<|by simp[DD.txt,OO])<|YY J J J J) ⟨.swap O q l,⟨d,b⟩,by show(!decide (least q=0)&&(!O ||decide (Nv l<=least q)))=O;rw[ar<|by lia,cw<|by lia];rfl,J,⟨_,by show(O&&(noOwn q.val&&(O&&(O&&O))))=O;rw[My];rfl,J⟩,b2⟩
def Y3(a b c:T):eB [a,b,c]=U (.lst [a,b,c]):=iR (by show 3<=1000;decide)
def Q58(k:Nat)(p:T×FR):Prop:=∃d:DD,d.c/\d.yR=O/\Y0 d.txt p.1/\Bx k p.2
def aac(l:Ap):aM .NotEq (.lst<|l.map T.str) (.lst [])=U (.bl<|!l.isEmpty):=by cases l<;>rfl
abbrev r58(aj:Nat->Fn):FS:=ah (aA 3<|af (aj 51) []<|k1 zA)
<|ah (aO (D.aY<|oE zC<|cI 9)
  (ah (aA 5<|oA zI<|af (aj 49) []<|k2 zA<|cI 9)
<|ao<|aG aE<|k2 (oA (oA (oA (cS [112,105,108,101,32]) zD)<|cS [32])<|aG strN<|k1<|vF 5)<|aG aE<|k3 (cS [112,105,108,101]) zD<|vF 5)
  az)
<|ah (aO (D.aY<|oE zC<|cI 10)
  (ao<|aG aE<|k2 (oA (cS [112,105,108,101,32]) zD)<|aG aE<|k3 (cS [112,105,108,101]) zD<|cF .non)
  az)
<|ao<|aG aE<|k2 (oA (cS [98,114,105,110,103,32]) zD)<|aG aE<|k2 (cS [98,114,105,110,103]) zD
def O8(g:Bx k m):WB (r58<|cN<|n+5) ⟨[sv<|.own k,f,Ki way,Y,Y,Y,Y],m⟩<|Q58 k:=by
 refine eW<|cZ<|W.of (a:=([.own k],_)) J<|(zc (n+2) g).mono λp d=>?_;obtain⟨a,e,N,b2⟩:=d;obtain⟨i,m2⟩:=p;cases e;by_cases h9:way=9
 .subst h9
  refine wD J<|eW<|Mu (n+4) J b2 (by decide) λv m3 h j b3=>?_
  have b:mR v 1 9:=⟨h,by lia⟩
  exact lQ (dO (TE.as (TE.add (TE.add (TE.add (TE.c _) (⟨J,N.hl⟩:TE zD _ a 8))<|TE.c _)<|TE.nn J b) (y:=(DD.pile a<|U v).txt)<|by simp[DD.txt])<|iQ J J J) ⟨.pile a<|U v,⟨N,b⟩,J,⟨_,J,J⟩,b3⟩
 .refine jD (UH h9 J) ?_
  by_cases Z5:way=10
  .subst Z5
   exact wD J<|lQ (dO (TE.as (TE.add (TE.c _) (⟨J,N.hl⟩:TE zD _ a 8)) (y:=(DD.pile a Y).txt)<|by simp[DD.txt])<|iQ J J J) ⟨.pile a Y,N,J,⟨_,J,J⟩,b2⟩
  .exact jD (UH Z5 J)<|lQ (dO (TE.add (TE.c _) (⟨J,N.hl⟩:TE zD _ a 8)).e<|dO J J) ⟨.bring a,N,J,⟨_,J,J⟩,b2⟩
def Jh(w:Bx k m)(o:∀a∈f,dN a)(hl:Nv f<=1000):W (cN (n+6) 59 [.own k,.lst<|f.map T.str] m)<|Q58 k:=by
 rw[w59];refine nB J<|eW<|tk (n+4) J w (by decide) λb m1 B A b1=>?_
 by_cases h3:b<3
 .have t:b=0\/b=1\/b=2:=by lia
  rcases t with rfl|rfl|rfl<;>refine wD J<|lQ (dO (aP (dz J<|Y3 _ _ _) J J)<|xn<|aP (dz J<|Y3 _ _ _) J J)<|by first|exact⟨.print,trivial,J,⟨_,J,J⟩,b1⟩|exact⟨.drop,trivial,J,⟨_,J,J⟩,b1⟩|exact⟨.done,trivial,J,⟨_,J,J⟩,b1⟩
 refine jD (ž J<|ar h3) ?_;by_cases h4:b=3
 .subst h4
  refine wD J<|eW<|cZ<|W.of (a:=([.own k,.int 40],_)) J<|(nZ (n+2) b1 (by decide)<|by decide).mono λp s=>?_
  obtain⟨l,e,g,h,b2⟩:=s;obtain⟨z,m2⟩:=p;cases e;exact lQ (dO (TE.as (TE.add (TE.add (TE.c _) (⟨J,g.l⟩:TE (vF 4) _ l 40))<|TE.c _) (y:=(DD.say l).txt)<|by simp[DD.txt])<|dO J J) ⟨.say l,g,J,⟨_,J,J⟩,b2⟩
 refine jD (UH h4 J) ?_;by_cases h5:b<6
 .refine wD (ž J<|cw h5) ?_
  exact(HK<|cZ<|W.of (a:=([.own k,.bl<|decide<|b=5],_)) (aQ J<|aQ (aP J J<|qS _ _) J)<|(Ua n b1).mono λp ⟨d,q1,q2,_,q5,q6⟩=>⟨d,q1,q2,q5,q6⟩)
 refine jD (ž J<|ar h5) ?_;by_cases h6:b=6
 .subst h6
  refine wD J<|eW<|Mu (n+4) J b1 (by decide) λv m2 g h b2=>?_
  have N:mR v 2 9:=⟨g,by lia⟩
  exact lQ (dO (TE.add (TE.c _)<|TE.nn J N).e<|dO J J) ⟨.join v,N,J,⟨_,J,J⟩,b2⟩
 refine jD (UH h6 J) ?_;by_cases h7:b=7
 .subst h7
  refine wD J<|eW<|Ŝ<|gI<|Mu (n+4) J b1 (by decide) λv m2 g h b2=>gI<|Mu (n+4) J b2 (by decide) λi m3 x C b3=>W.of (a:=([],_)) J ⟨_,T8 _ _,?_⟩
  have N:mR v 1 9:=⟨g,by lia⟩
  have r:mR i 1 9:=⟨x,by lia⟩
  exact lQ (dO (TE.as (TE.add (TE.add (TE.add (TE.c _)<|TE.nn (a:=oI (vF 6) zO) J N)<|TE.c _)<|TE.nn (a:=oI (vF 6) zI) J r) (y:=(DD.add v i).txt)<|by simp[DD.txt])<|iQ J J J) ⟨.add v i,⟨N,r⟩,J,⟨_,J,J⟩,b3⟩
 refine jD (UH h7 J) ?_;by_cases h8:b=8
 .subst h8
  cases f with
  |nil=>exact jD J<|O8 n b1
  |cons w0 f=>
   refine wD (BG J<|zb<|aP J (dz J<|iR<|iU _)<|aac _)<|eW<|wC<|W.of (a:=(.lst<|(w0::f).map T.str,_)) J<|tk (n+4) (k:=k) (many:=(((w0::f).map T.str).length:Nat)) J b1 (by rw[cU];rw[eu]at hl ⊢;lia) λd m2 g h b2=>?_
   obtain⟨q,u,e⟩:=ixL g h;obtain⟨a,j,rfl⟩:=lr.mp u;exact⟨_,e,lQ (dO (TE.add (TE.c _) (⟨J,(o a j).hl⟩:TE zD _ a 8)).e<|dO J J) ⟨.go a,o a j,J,⟨_,J,J⟩,b2⟩⟩
 refine jD (s':=⟨[sv<|.own k,Kk<|f.map T.str,Ki b,Y,Y,Y,Y],m1⟩) ?_<|O8 n b1;have e:D.aY (oE zC<|cI 8) ⟨[sv<|.own k,Kk<|f.map T.str,Ki b,Y,Y,Y,Y],m1⟩=.ok (decide<|b=8,⟨[sv<|.own k,Kk<|f.map T.str,Ki b,Y,Y,Y,Y],m1⟩):=De J;rw[ar h8]at e;show fY _ _ ⟨[sv<|.own k,Kk<|f.map T.str,Ki b,Y,Y,Y,Y],m1⟩=_;unfold fY;rw[e];rfl
abbrev Sm(c:Int):Prop:=c.natAbs.log2<1048577
abbrev Pm:Int:=10^(64:Int).toNat*10^(64:Int).toNat+7
abbrev Pn:Int:=10^(64:Int).toNat*10^(63:Int).toNat+9
def zd:(0<Pm/\Pm.natAbs<2^1000)/\(0<Pn/\Pn.natAbs<2^1000)/\(48271^(31:Int).toNat:Int).natAbs.log2<2000000/\(10^(64:Int).toNat:Int).natAbs.log2<2000000/\(10^(63:Int).toNat:Int).natAbs.log2<2000000:=by decide +kernel
def ab(c:Int):Int:=if c<0 then -c else c
def j6(x:Int):Int:=(x+1)*48271^(31:Int).toNat % Pm
def O9(c:Int):Int:=j6 (ab c)*j6 (ab c) % Pn+1
def Ji(c:Int):0<=ab c:=by unfold ab;split<;>lia
def Ub(c:Int):(ab c).natAbs=c.natAbs:=by unfold ab;split<;>lia
def lgS{n k:Nat}(h:n.log2<k):(n+1).log2<k+1:=by
 refine(B4<|by lia).mpr ?_
 by_cases h0:n=0
 .rw[h0];exact Nat.one_lt_two_pow (by lia)
 .have:=(B4 h0).mp h
  rw[Nat.pow_succ];lia
def lgM{a b k:Nat}(h:a<=b)(c:0<k)(d:b.log2<k):a.log2<k:=by
 by_cases h0:a=0
 .rw[h0];exact c
 .exact(B4 h0).mpr<|B3 h<|(B4<|by lia).mp d
def lgP{x P:Int}(c:0<=x)(b:x<P)(a:P.natAbs<2^1000):x.natAbs.log2<1000:=by
 by_cases h0:x.natAbs=0
 .rw[h0];decide
 .exact(B4 h0).mpr<|Nj (by lia) a
def aad(h0:0<=x)(h:Sm x):(x+1).natAbs.log2<2000000:=by
 have e:(x+1).natAbs=x.natAbs+1:=by lia
 rw[e]
 have:=lgS h
 lia
def pw(h:0<=j/\j<=1000000/\i.natAbs<2^64):cz .Pow (.int i) (.int j)=U (.int<|i^j.toNat):=iR h
def ml(h:i.natAbs.log2<2000000)(a:j.natAbs.log2<2000000):cz .Mult (.int i) (.int j)=U (.int<|i*j):=iR<|.inr ⟨h,a⟩
def O_(x:Int):0<=j6 x/\j6 x<Pm:=⟨B5 _<|by have:=zd.1.1;lia,zN _ zd.1.1⟩
def BJ(x:Int):(j6 x).natAbs.log2<2000000:=by have:=lgP (O_ x).1 (O_ x).2 zd.1.2;lia
def Jj(c:Int):1<=O9 c:=by
 have:0<=j6 (ab c)*j6 (ab c) % Pn:=B5 _ (by have:=zd.2.1.1;lia)
 unfold O9;lia
def pmE(s:S):oA (bH (cz .Mult) (bH (cz .Pow) (cI 10)<|cI 64)<|bH (cz .Pow) (cI 10)<|cI 64) (cI 7) s=.ok (.int Pm,s):=aP (aP (aP J J<|pw<|by decide) (aP J J<|pw<|by decide)<|ml zd.2.2.2.1 zd.2.2.2.1) J<|Dd _ _
def pnE(s:S):oA (bH (cz .Mult) (bH (cz .Pow) (cI 10)<|cI 64)<|bH (cz .Pow) (cI 10)<|cI 63) (cI 9) s=.ok (.int Pn,s):=aP (aP (aP J J<|pw<|by decide) (aP J J<|pw<|by decide)<|ml zd.2.2.2.1 zd.2.2.2.2) J<|Dd _ _
def mxE(h:a s=.ok (.int x,s))(h0:(x+1).natAbs.log2<2000000):oM (bH (cz .Mult) (oA a zI)<|bH (cz .Pow) (cI 48271)<|cI 31) (oA (bH (cz .Mult) (bH (cz .Pow) (cI 10)<|cI 64)<|bH (cz .Pow) (cI 10)<|cI 64)<|cI 7) s=.ok (.int<|j6 x,s):=aP (aP (aP h J<|Dd _ _) (aP J J<|pw<|by decide)<|ml h0 zd.2.2.1) (pmE s)<|IW zd.1.1
def Y4{fl:FL}(h:fl s=.ok (ts,s1))(k:Nv ts<=1000):iN fl s=.ok (ts,s1):=by unfold iN;rw[h];exact cv k
abbrev Pa(c:Int):Ob:=⟨50,[.ol [.int<|ab c,.int<|O9 c]]⟩
def uL(h:Sm c):cN (n+1) 48 [.int c] m=.ok (.own m.length,m++[Pa c]):=by
 rw[w48];have d:∀r,aG Cy (k1 zA) ⟨Ki c::r,m⟩=.ok (.int<|ab c,⟨Ki c::r,m⟩):=λr=>J;refine gC (s':=⟨[Ki c,Ki<|j6<|ab c],m++[Pa c]⟩) J (seq1 (dM (t:=.int<|j6<|ab c) (s':=⟨[Ki c,Y],m⟩)<|mxE (d _)<|aad (Ji c)<|by show(ab c).natAbs.log2<_;rw[Ub];exact h)<|nA ?_) J
 have e:iN (k2 (aG Cy<|k1 zA)<|oA (oM (bH (cz .Mult) zB zB)<|oA (bH (cz .Mult) (bH (cz .Pow) (cI 10)<|cI 64)<|bH (cz .Pow) (cI 10)<|cI 63)<|cI 9) zI) ⟨[Ki c,Ki<|j6<|ab c],m⟩=.ok ([.int<|ab c,.int<|O9 c],⟨[Ki c,Ki<|j6<|ab c],m⟩):=by
  exact Y4 (aQ (d [Ki<|j6<|ab c])<|aQ (fl:=bD) (aP (b:=cI 1) (aP (aP (t:=.int<|j6<|ab c) (u:=.int<|j6<|ab c) (a:=vF 1) (b:=vF 1) (s:=⟨[Ki c,Ki<|j6<|ab c],m⟩) J J<|ml (BJ _)<|BJ _) (pnE _)<|IW zd.2.1.1) J<|Dd _ 1) J) (by show 2<=1000;decide)
 show vI 50 _ ⟨[Ki c,Ki<|j6<|ab c],m⟩=_;unfold vI;rw[e];rfl
def Jk(m:FR)(c:Int):Bx m.length<|m++[Pa c]:=⟨ab c,O9 c,by rw[gz<|eA _,sP];rfl,Ji c,Jj c⟩
def smD(h:Sm c):Sm<|c/24:=lgM (by lia) (by decide) h
abbrev Tx3(x:Tx)(t:T):Prop:=∃a b,noOwn a=O/\noOwn b=O/\t=.tup [.str x,a,b]
def Uc(t:T):Prop:=∃x:LN,x.c/\x.ms=O/\Tx3 x.txt t
def Y5{x:DD}(h:x.c):x.g:=by
 cases x with
 |swap e p l=>exact⟨mf h.1,h.2⟩
 |pile a v=>cases v<;>exact h
 |_=>exact h
def Y6{x:CD}(h:x.c):x.g:=by
 cases x with
 |fin=>trivial
 |no x=>exact Jc h
 |pc x=>exact Jc h
def Jl{x:DD}(h:x.c):Nv x.txt<=300:=(y9 (m:=[]) 0<|Y5 h).2
def Ud{x:CD}(h:x.c):Nv x.txt<=310:=(IK (m:=[]) 0<|Y6 h).2
theorem noS:∀a:Ap,aK (a.map T.str)=O
 |[]=>J
 |_::a=>by show(O&&aK (a.map T.str))=O;rw[noS a];rfl
def Ue(o:Sm cell)(q:∀a∈i,dN a)(hl:Nv i<=1000):W (cN (n+7) 60 [.int cell,.lst<|i.map T.str] m) λp=>Uc p.1/\p.2=m:=by
 rw[w60];have fin:∀(x:LN)(a b:T),x.c->x.ms=O->noOwn a=O->noOwn b=O->noOwn (.tup [.str x.txt,a,b])=O/\Uc (.tup [.str x.txt,a,b])/\m=m:=λx a b u t s r=>⟨by show(O&&(noOwn a&&(noOwn b&&O)))=O;rw[s,r];rfl,⟨x,u,t,a,b,s,r,J⟩,J⟩
 refine OE (by show(O&&(aK (i.map T.str)&&O))=O;rw[noS];rfl)<|nB J<|eW<|cZ<|W.of (a:=([.int cell],_)) J<|W.of (uL (n+5) o)<|bBr<|X0<|YQ (n+5) J (Jk [] cell) (by decide) λd m1 b1=>⟨d,J,λ_=>?_,λ_=>?_⟩
 .refine eW<|tk (n+5) J b1 (by decide) λf m2 u t b2=>?_
  refine eW<|cZ<|W.of (a:=([.own 0,.int 40],_)) J<|(nZ (n+3) b2 (by decide)<|by decide).mono λp j=>?_
  obtain⟨l,e,v,C,b3⟩:=j;obtain⟨k,m3⟩:=p;cases e;have w:f=0\/f=1\/f=2:=by lia
  rcases w with rfl|rfl|rfl
  .exact wD J<|lQ (iQ J (xn J)<|xn J)<|fin (.full .fin .tell) _ _ ⟨trivial,trivial⟩ J J J
  .exact jD J<|wD J<|lQ (iQ (TE.as (TE.add (TE.add (TE.c _) (⟨J,v.l⟩:TE (vF 4) _ l 40))<|TE.c _) (y:=(LN.full .fin<|.say l).txt)<|by simp[LN.txt,CD.txt,DD.txt]) (xn J)<|dO J J)<|fin (.full .fin<|.say l) _ _ ⟨trivial,v⟩ J J J
  .refine jD J<|jD J<|eW<|cZ<|gI<|cZ<|W.of (a:=([.int<|cell/24],_)) (aQ (aP J J<|O3<|by decide) J)<|W.of (uL (n+5)<|smD o)<|W.of (a:=([],_)) J<|(zc (n+3)<|Jk m3 _).mono λp j=>?_
   obtain⟨a,e,N,b4⟩:=j;obtain⟨k,m4⟩:=p;cases e;exact lQ (iQ (TE.as (TE.add (TE.c _) (⟨J,N.hl⟩:TE (vF 5) _ a 8)) (y:=(LN.full .fin<|.bring a).txt)<|by simp[LN.txt,CD.txt,DD.txt]) (xn J)<|dO J J)<|fin (.full .fin<|.bring a) _ _ ⟨trivial,N⟩ J J J
 .refine lR<|HM<|cZ<|W.of (a:=([.own 0],_)) J<|(T_ n b1).mono λp j=>?_
  obtain⟨e,b2⟩:=j;obtain⟨k,m2⟩:=p;rcases e with⟨B,h,e⟩|⟨c,c1,c2,B,h,e⟩
  .cases e
   refine⟨_,J,J,lR<|HM<|cZ<|W.of (a:=([.own 0,.lst<|i.map T.str],_)) J<|(Jh n b2 q hl).mono λp ⟨d,q1,q2,⟨A,g,q5⟩,b3⟩=>?_⟩;obtain⟨k,m3⟩:=p;cases q5;exact⟨_,J,J,lQ (iQ (TE.add (⟨J,iU _⟩:TE (vF 6) _ [] 1) (⟨J,Jl q1⟩:TE (vF 8) _ d.txt 300)).e J J)<|fin (.bare d) _ _ q1 q2 h g⟩
  .cases e
   refine⟨_,J,J,lR<|HM<|cZ<|W.of (a:=([.own 0,.lst<|i.map T.str],_)) J<|(Jh n b2 q hl).mono λp ⟨d,q1,q2,⟨A,g,q5⟩,b3⟩=>?_⟩;obtain⟨k,m3⟩:=p;cases q5;have z:(LN.full c d).ms=O:=by
    cases c with
    |fin=>exact dy J c1
    |_=>exact q2
   exact⟨_,J,J,lQ (iQ (TE.as (TE.add (⟨J,by rw[cA];have:=Ud c2;show _+2<=_;lia⟩:TE (vF 6) _ (c.txt++[58,32]) 320) (⟨J,Jl q1⟩:TE (vF 8) _ d.txt 300)) (y:=(LN.full c d).txt)<|by simp[LN.txt]) J J)<|fin (.full c d) _ _ ⟨c2,q1⟩ z h g⟩
def mk(c:Int):Bool:=decide<|av (ab c) (O9 c) % 8=2
def xo(a:k=Nv m):∃m',Bx k m'/\cN (n+1) 49 [.own k,.int 8] (m++[Pa c])=.ok (.int<|av (ab c) (O9 c) % 8,m'):=by
 have e:(m++[Pa c])[k]?=U (Pa c):=by rw[a,gz<|eA _,sP];rfl
 have h:=BD n e (many:=8) (by decide)
 have b:=IZ (Ji c)<|Jj c;exact⟨_,⟨_,O9 c,gy (dj.mp e).1,Nq (by lia)<|by decide,Jj c⟩,h⟩
abbrev UI(R:Option C)(a:Ap)(u v:Option C)(m:FR):S:=⟨[R,U<|.ol<|a.map T.str,u,v],m⟩
abbrev s6(R:Option C)(a:Ap)(c:Int)(k:Nat):FR->S:=UI R a (Ki c)<|sv<|.own k
theorem sj(n:Nat):∀(cs:Dx)(d:Ap)(u v:Option C)(m:FR),(∀c∈cs,Sm c)->(∀a∈d,dN a)->Nv d+Nv cs<=1000->W (aZ (setG 2) (S0<|cN<|n+3) (cs.map T.int)<|UI R d u v m) λp=>p.1=.nx/\∃f k j m',p.2=UI R f k j m'/\f.length=Nv d+(cs.filter mk).length/\∀a∈f,dN a
 |[],d,u,v,m,_,g,_=>⟨_,J,J,d,u,v,m,J,J,g⟩
 |c::cs,d,u,v,m,y,g,hl=>by
  rw[eu]at hl;obtain⟨m',l,F⟩:=xo (n+2) (c:=c) (m:=m) J;obtain⟨⟨o,H⟩,w,rfl,h,m1,rfl,A,E⟩:W (S0 (cN<|n+3)<|UI R d (Ki c) v m) λp=>p.1=.nx/\∃f m',p.2=s6 R f c m.length m'/\f.length=Nv d+(if mk c then 1 else 0)/\∀a∈f,dN a:=by
   refine yN<|lS<|cZ<|W.of (a:=([.int c],_)) J<|W.of (uL (n+2)<|y c<|eX ..) ⟨J,ZV<|W.of (a:=(mk c,s6 R d c m.length m')) (zb<|aP (je (ts:=[.own m.length,.int 8]) (s':=s6 R d c m.length<|m++[Pa c]) J F) J<|qS _ _) ⟨λq=>?_,λq=>?_⟩⟩
   .obtain⟨⟨t,m2⟩,e,a,w,N,b2⟩:=zc n l
    cases w;have q:mk c=O:=q;refine W.of (pW (i:=1) (s:=s6 R d c m.length m') J (je (ts:=[.own m.length]) (s':=s6 R d c m.length m') J e) J<|by rw[cU];lia) ⟨J,d++[a],m2,?_,by rw[q,cA];rfl,λb l=>?_⟩
    .show _=(⟨[R,U<|.ol<|(d++[a]).map T.str,Ki c,sv<|.own m.length],m2⟩:S)
     rw[mV];rfl
    .rcases iI.mp l with z|z
     .exact g b z
     .rw[gA.mp z];exact N
   .have q:mk c=Zi:=q
    exact W.of J ⟨J,d,m',J,by rw[q];rfl,g⟩
  obtain⟨p,G,q1,f,k,j,m',q2,B,q4⟩:=sj n (R:=R) cs h (Ki c) (sv<|.own m.length) m1 (λx D=>y x<|bw _ D) E (by rw[A];split<;>lia)
  refine⟨p,dG (r:=[R,U<|.ol<|d.map T.str,Ki c,v]) J w G,q1,f,k,j,m',q2,?_,q4⟩;rw[B,A,Ni];cases mk c
  .rfl
  .show Nv d+1+_=Nv d+(_+1)
   lia
theorem Y7:∀cs:Dx,aK (cs.map T.int)=O
 |[]=>J
 |_::cs=>by show(O&&aK (cs.map T.int))=O;rw[Y7 cs];rfl
def MA(d:∀c∈cs,Sm c)(hl:Nv cs<=100):∃b:Ap,Nv b=(cs.filter mk).length/\(∀a∈b,dN a)/\cN (n+4) 61 [.lst<|cs.map T.int] m=.ok (.lst<|b.map T.str,m):=by
 rw[w61];obtain⟨⟨o,s1⟩,e,rfl,b,u,v,m',rfl,g,f⟩:=sj n (R:=Kk<|cs.map T.int) cs [] Y Y [] d (λ_ z=>(nomatch z)) (by show 0+_<=_;lia)
 refine⟨b,by rw[g];exact ow _,f,fL (m':=m') (by show(aK (cs.map T.int)&&O)=O;rw[Y7];rfl) (gC (s':=⟨[Kk<|cs.map T.int,Kk<|b.map T.str,u,v],m'⟩) J (seq1 (s':=UI (Kk<|cs.map T.int) [] Y Y []) J<|seq1 (qQ (ts:=cs.map T.int) (s1:=UI (Kk<|cs.map T.int) [] Y Y []) J e) J) J)<|noS b⟩
abbrev JH(R:Option C)(a:Ap)(xs:FC)(vs:Ap)(u v:Option C)(m:FR):S:=⟨[R,Kk<|a.map T.str,U<|.ol xs,U<|.ol<|vs.map T.str,u,v],m⟩
structure LI(ws:Ap)(xs:FC)(vs:Ap):Prop where
 k:∀x∈xs,Uc x
 pre:vs=ws.take vs.length
def LI.add(h:LI a xs vs)(c:Uc x):LI a (xs++[x]) vs:=
 ⟨λy b=>by
  rcases iI.mp b with z|z
  .exact h.k y z
  .rw[gA.mp z];exact c,h.pre⟩
def LI.old(h:LI a xs vs)(b:Nv vs<Nv a):LI a xs<|vs++[a[Nv vs]]:=
 ⟨h.k,by
  rw[cA];show _=a.take (Nv vs+1);rw[List.take_succ_eq_append_getElem b,<- h.pre]⟩
def aae(a:B1)(vs:Ap):Dp (.str a) (.lst<|vs.map T.str)=U (decide<|a∈vs):=by
 have g:∀vs:Ap,(vs.map T.str).any (λy=>eqT y<|.str a)=decide (a∈vs):=λvs=>by
  induction vs with
  |nil=>simp
  |cons b vs d=>
   rw[fV,lq,d];show(decide (b=a) ||_)=_;by_cases h:b=a
   .simp[h]
   .simp[h,et h]
 have f:∀vs:Ap,(vs.map T.str).all cy=O:=λvs=>by
  induction vs with
  |nil=>rfl
  |cons b vs d=>rw[fV,ed,d];rfl
 have e:Dp (.str a) (.lst<|vs.map T.str)=gd (cy (.str a)=O/\(vs.map T.str).all cy=O) ((vs.map T.str).any λy=>eqT y<|.str a):=by
  cases a with
  |nil=>rfl
  |cons c t=>cases t<;>rfl
 rw[e,iR ⟨J,f vs⟩,g]
abbrev Z6:FE:=oI zB<|jF 3
abbrev sy(R:Option C)(a:Ap)(xs:FC)(vs:Ap)(c:Int)(b:Bool):FR->S:=JH R a xs vs (Ki c)<|sv<|.bl b
abbrev mkT(a:Tx):T:=.tup [.str (LN.mark a).txt,.tup [.str [97,108,119,97,121,115]],.tup [.str [109,97,114,107],.str a]]
def Ug(w:Sm c)(y:∀a∈b,dN a)(hl:Nv b<=100)(B:Nv xs<=100)(h:LI b xs vs)(f:mk c=O->Nv vs<Nv b) :
  ∃x q m',S2 (cN<|n+7) (JH R b xs vs (Ki c) v m)=.ok (.nx,sy R b (xs++[x]) q c (mk c) m')/\LI b (xs++[x]) q/\q.length=Nv vs+(if mk c then 1 else 0):=by
 obtain⟨m1,_,A⟩:=xo (n+6) (c:=c) (m:=m) J;have g:aA 5 (oE (af (cN (n+7) 49) []<|k2 (af (cN (n+7) 48) []<|k1<|vF 4)<|cI 8)<|cI 2) (JH R b xs vs (Ki c) v m)=.ok (.nx,sy R b xs vs c (mk c) m1):=dM (s':=JH R b xs vs (Ki c) v m1)<|aP (je (ts:=[.own m.length,.int 8]) (s':=JH R b xs vs (Ki c) v<|m++[Pa c]) (aQ (je (ts:=[.int c]) (s':=JH R b xs vs (Ki c) v m) J<|uL (n+6) w) J) A) J<|qS _ _;have k:∃x:T,LI b (xs++[x]) vs/\gf 2 (af (cN (n+7) 60) []<|k2 (vF 4) zB) (sy R b xs vs c (mk c) m1)=.ok (.nx,sy R b (xs++[x]) vs c (mk c) m1):=by
  obtain⟨⟨t,m2⟩,e,q1,q5⟩:=Ue n (cell:=c) (m:=m1) w y (by lia)
  rw[show m2=m1 from q5]at e;refine⟨t,h.add q1,(pW (i:=2) (s:=sy R b xs vs c (mk c) m1) J (je (ts:=[.int c,.lst<|b.map T.str]) (s':=sy R b xs vs c (mk c) m1) J e) J<|by lia).trans ?_⟩
  rfl
 have d:∀xs m,D.tB (vF 5) (sy R b xs vs c (mk c) m)=.ok (mk c,sy R b xs vs c (mk c) m):=λ_ _=>J;cases l:mk c with
 |false=>
  rw[l]at g k d;obtain⟨x,o,p⟩:=k;refine⟨x,vs,m1,seq1 g<|seq1 (qP (s':=sy R b xs vs c Zi m1) ?_ p)<|qP (d _ _) J,o,J⟩;unfold fY;rw[d];rfl
 |true=>
  have f:=f l;rw[l]at g k d;have j:∀xs,Z6 (sy R b xs vs c O m1)=.ok (.str b[Nv vs],sy R b xs vs c O m1):=λxs=>by
   refine aP (t:=.lst<|b.map T.str) (u:=.int ((vs.map T.str).length:Nat)) (s1:=sy R b xs vs c O m1) J J ?_;show atT (b.map T.str) (((vs.map T.str).length:Nat):Int)=_;rw[cU,pT<|by rw[cU];exact f,f6,fQ f];rfl
  have r:D.aY (rO .NotIn O 3<|Z6) (sy R b xs vs c O m1)=.ok (!decide (b[Nv vs]∈vs),sy R b xs vs c O m1):=by
   apply zb;show AN O 3 (Z6) (sy R b xs vs c O m1)=_;unfold AN;rw[j];refine Eq.trans (qy _ _) ?_;show Res.bind (cH<|Dp (.str b[Nv vs])<|.lst<|vs.map T.str) _=_;rw[aae];rfl
  have a3:∀xs,gf 3 (Z6) (sy R b xs vs c O m1)=.ok (.nx,sy R b xs (vs++[b[Nv vs]]) c O m1):=λxs=>by
   refine(pW (i:=3) J (j xs) J<|by rw[cU];lia).trans ?_
   rw[show vs.map T.str++[T.str b[Nv vs]]=(vs++[b[Nv vs]]).map T.str by rw[mV];rfl];rfl
  by_cases ha:b[Nv vs]∈vs
  .obtain⟨x,o,p⟩:=k
   refine⟨x,vs++[b[Nv vs]],m1,seq1 g<|seq1 (qP (s':=sy R b xs vs c O m1) (BG (d _ _)<|r.trans ?_) p)<|Dt (d _ _)<|a3 _,o.old f,by rw[cA];rfl⟩
   rw[cw ha];rfl
  .have z:=y _<|D6 f
   refine⟨_,vs++[b[Nv vs]],m1,seq1 g<|seq1 (s':=sy R b (xs++[mkT b[Nv vs]]) vs c O m1) (Dt (s':=sy R b xs vs c O m1) (BG (d _ _)<|r.trans ?_) ?_)<|Dt (d _ _)<|a3 _,(h.add ⟨.mark b[Nv vs],z,J,_,_,J,J,J⟩).old f,by rw[cA];rfl⟩
   .rw[ar ha];rfl
   .refine(pW (i:=2) (t:=mkT b[Nv vs]) J (iQ (TE.add (TE.c _) (⟨j xs,z.hl⟩:TE _ _ b[Nv vs] 8)).e (xn J)<|dO J<|j xs) J<|by lia).trans ?_
    rfl
theorem sA(n:Nat)(j:∀a∈b,dN a)(hl:Nv b<=100):∀(cs:Dx)(xs:FC)(vs:Ap)(u v:Option C)(m:FR),(∀c∈cs,Sm c)->LI b xs vs->Nv vs+(cs.filter mk).length=Nv b->Nv xs+Nv cs<=100->∃d g f m',aZ (setG 4) (S2<|cN<|n+7) (cs.map T.int) (JH R b xs vs u v m)=.ok (.nx,JH R b d b g f m')/\LI b d b/\d.length=Nv xs+Nv cs
 |[],xs,vs,u,v,m,_,h,e,_=>by
  have e:Nv vs+0=Nv b:=e;have ev:vs=b:=by rw[h.pre,show Nv vs=Nv b by lia,Ng]
  subst ev;exact⟨xs,u,v,m,J,h,J⟩
 |c::cs,xs,vs,u,v,m,i,h,e,l=>by
  rw[eu]at l;rw[Ni]at e;obtain⟨x,A,m',z,t,s⟩:=Ug n (R:=R) (v:=v) (m:=m) (i c<|eX ..) j hl (by lia:Nv xs<=100) h λq=>by rw[q]at e;have e:Nv vs+((cs.filter mk).length+1)=Nv b:=e;lia
  obtain⟨d,g,f,Ž,w,p,o⟩:=sA n (R:=R) j hl cs (xs++[x]) A (Ki c) (sv<|.bl<|mk c) m' (λy k=>i y<|bw _ k) t (by
   rw[s];cases q:mk c with
   |true=>rw[q]at e;have e:Nv vs+((cs.filter mk).length+1)=Nv b:=e;show _+1+_=_;lia
   |false=>rw[q]at e;exact e) (by rw[cA];show _+1+_<=_;lia)
  refine⟨d,g,f,Ž,dG (r:=[R,Kk<|b.map T.str,U<|.ol xs,U<|.ol<|vs.map T.str,Ki c,v]) J z w,p,?_⟩;rw[o];simp only[cA,eu,xJ]
  lia
theorem Y9:∀{xs:FC},(∀x∈xs,Uc x)->aK xs=O
 |[],_=>J
 |x::xs,h=>by
  show(noOwn x&&aK xs)=O;obtain⟨y,_,_,a,b,f,d,e⟩:=h x<|eX ..;rw[Y9 λy c=>h y<|bw _ c,e];show((O&&(noOwn a&&(noOwn b&&O)))&&O)=O;rw[f,d];rfl
def Df(b:∀c∈cs,Sm c)(hl:Nv cs<=24):∃xs:FC,(∀x∈xs,Uc x)/\xs.length=Nv cs/\cN (n+8) 62 [.lst<|cs.map T.int] m=.ok (.lst xs,m):=by
 rw[w62];obtain⟨a,f,i,j⟩:=MA (n+3) (cs:=cs) (m:=[]) b (by lia)
 have g:Nv a<=100:=by rw[f];exact eY (D7 _ _) (by lia)
 obtain⟨xs,u,v,m',e,d,h⟩:=sA n (R:=Kk<|cs.map T.int) i g cs [] [] Y Y [] b ⟨λ_ z=>(nomatch z),J⟩ (by rw[f];exact ow _) (by show 0+_<=_;lia)
 refine⟨xs,d.k,by rw[h];exact ow _,fL (m':=m') (by show(aK (cs.map T.int)&&O)=O;rw[Y7];rfl) (gC (s':=⟨[Kk<|cs.map T.int,Kk<|a.map T.str,Kk xs,U<|.ol<|a.map T.str,u,v],m'⟩) J (seq1 (dM (t:=.lst<|a.map T.str)<|je (ts:=[.lst<|cs.map T.int]) (s':=⟨[Kk<|cs.map T.int,Y,Y,Y,Y,Y],[]⟩) J j)<|seq1 (s':=⟨[Kk<|cs.map T.int,Kk<|a.map T.str,U<|.ol [],Y,Y,Y],[]⟩) J<|seq1 (s':=JH (Kk<|cs.map T.int) a [] [] Y Y []) J<|seq1 (qQ (ts:=cs.map T.int) (s1:=JH (Kk<|cs.map T.int) a [] [] Y Y []) J e) J) J)<|Y9 d.k⟩
def aaf(h:Sm x):(x+1).natAbs.log2<2000000:=by
 have:=lgM (show(x+1).natAbs<=x.natAbs+1 by lia) (by decide)<|lgS h
 lia
abbrev mj(c j:Int):Int:=(j6 c*j6 c+j) % Pn
theorem xq:∀(cs ds:Dx)(j:Int)(u v w:Option C),(∀c∈cs,Sm c)->(∀c∈ds,Sm c)->Nv ds+Nv cs<=1000->∃(UD:Dx)(d b a:Option C),aZ (cP [2,3]) Yd (e9 j<|cs.map T.int) ⟨[R,U<|.ol<|ds.map T.int,u,v,w],[]⟩=.ok (.nx,⟨[R,U<|.ol<|UD.map T.int,d,b,a],[]⟩)/\UD.length=Nv ds+Nv cs/\∀c∈UD,Sm c
 |[],ds,j,u,v,w,_,hd,_=>⟨ds,u,v,w,J,J,hd⟩
 |c::cs,ds,j,u,v,w,g,hd,hl=>by
  rw[eu]at hl;have h:Sm<|mj c j:=by
   have:=lgP (B5 (j6 c*j6 c+j)<|by have:=zd.2.1.1;lia) (zN (j6 c*j6 c+j) zd.2.1.1) zd.2.1.2
   show _<1048577
   lia
  obtain⟨UD,d,b,a,e,l,k⟩:=xq (R:=R) cs (ds++[mj c j]) (j+1) (Ki j) (Ki c) (Ki<|j6 c) (λx f=>g x<|bw _ f) (λx f=>by
   rcases iI.mp f with z|z
   .exact hd x z
   .rw[gA.mp z];exact h) (by rw[cA];show _+1+_<=_;lia)
  refine⟨UD,d,b,a,dG (r:=[R,U<|.ol<|ds.map T.int,Ki j,Ki c,w]) J (s1:=⟨[R,U<|.ol<|(ds++[mj c j]).map T.int,Ki j,Ki c,Ki<|j6 c],[]⟩) (seq1 (dM (t:=.int<|j6 c) (s':=⟨[R,U<|.ol<|ds.map T.int,Ki j,Ki c,w],[]⟩)<|mxE J<|aaf<|g c<|eX ..) ?_) e,by rw[l];simp only[cA,eu,xJ];lia,k⟩
  refine(pW (i:=1) (Xh:=ds.map T.int) (ts:=ds.map T.int) (t:=.int<|mj c j) (s1:=⟨[R,U<|.ol<|ds.map T.int,Ki j,Ki c,Ki<|j6 c],[]⟩) J (aP (aP (t:=.int<|j6 c*j6 c) (u:=.int j) (aP (t:=.int<|j6 c) (u:=.int<|j6 c) J J<|ml (BJ _)<|BJ _) J<|Dd _ _) (pnE _)<|IW zd.2.1.1) J<|by rw[cU];lia).trans ?_
  rw[mV];rfl
def Jm(a:∀c∈cs,Sm c)(hl:Nv cs<=24):∃ds:Dx,Nv ds=Nv cs/\(∀c∈ds,Sm c)/\cN (n+1) 63 [.lst<|cs.map T.int] m=.ok (.lst<|ds.map T.int,m):=by
 rw[w63];obtain⟨ds,u,v,w,e,d,b⟩:=xq (R:=Kk<|cs.map T.int) cs [] 0 Y Y Y a (λ_ z=>(nomatch z)) (by show 0+_<=_;lia)
 exact⟨ds,by rw[d];exact ow _,b,fL (m':=[]) (by show(aK (cs.map T.int)&&O)=O;rw[Y7];rfl) (gC (s':=⟨[Kk<|cs.map T.int,Kk<|ds.map T.int,u,v,w],[]⟩) J (seq1 (s':=⟨[Kk<|cs.map T.int,U<|.ol [],Y,Y,Y],[]⟩) J<|seq1 (qQ (ts:=e9 0<|cs.map T.int) (s1:=⟨[Kk<|cs.map T.int,U<|.ol [],Y,Y,Y],[]⟩) J e) J) J)<|Y7 ds⟩
def resT:Except (Nat×Nat) (List LN)->T
 |.error p=>.tup [qA p.1,.int (p.2:Nat)]
 |.ok _=>.tup [.lst [],.int 0]
def Y_:∀c<3,noOwn (qA c)=O:=by decide
def MB(ls:List LN):Except (Nat×Nat)<|List LN:=match eO 1 ls []with
 |.error j=>.error (1,j)
 |.ok d=>match gM d 1 ls with
  |.error j=>.error (2,j)
  |.ok _=>.ok ls
def xu(h:∀z∈zs,Gl z)(hl:Nv zs<=63):cN (n+2) 47 [.lst<|aw<|zs.map (·.1)] []=.ok (resT<|MB<|zs.map (·.2),[]):=by
 have q:(aw<|zs.map (·.1)).length=Nv zs:=by rw[cU,cU]
 unfold MB;rw[w47];have g:aK [T.lst<|aw<|zs.map (·.1)]=O:=wU<|fP _
 have a:∀{s:S},vF 0 s=.ok (.lst<|aw<|zs.map (·.1),s)->xA nt (k1<|aG cJ<|k1 zA) s=.ok (idx 0 zs.length,s):=λp=>ť (ts:=[.int ((aw<|zs.map (·.1)).length:Nat)]) (aQ (dz (ts:=[.lst<|aw<|zs.map (·.1)]) (aQ p J) J) J) (by
  rw[q,<- Ms];show gd _ _=_;exact iR<|by lia)
 have e:iz 1 (iN bD) ⟨[Kk<|aw<|zs.map (·.1),Y,Y,Y],[]⟩=.ok (.nx,sK (zs.map (·.1)) [] Y Y):=J
 have c:ŷ (zs.map (·.1)) (eO 1 (zs.map (·.2)) [])<|aZ (setG 2) (CZ<|cN<|n+1) (idx 0 zs.length)<|sK (zs.map (·.1)) [] Y Y:=O1 n zs 0 [] Y Y (IX.of zs) h (by show 0+_<=_;lia)
 cases k:eO 1 (zs.map (·.2)) []with
 |error j=>
  rw[k]at c;obtain⟨s,e5⟩:=c;exact fL (m':=s.m) g (gC (s':=s) J (seq1 e<|CV<|qQ (a J) e5) J) J
 |ok d=>
  rw[k]at c;obtain⟨u,v,e5⟩:=c;have b:Ÿ (zs.map (·.1)) d (gM d 1<|zs.map (·.2))<|aZ (setG 2) (C0<|cN<|n+1) (idx 0 zs.length)<|sK (zs.map (·.1)) d u v:=O2 n zs 0 u v (IX.of zs) h
  dsimp only;cases i:gM d 1 (zs.map (·.2))with
  |error j=>
   rw[i]at b;obtain⟨s,f⟩:=b;exact fL (m':=s.m) g (gC (s':=s) J (seq1 e<|seq1 (qQ (a J) e5)<|CV<|qQ (a J) f) J) J
  |ok w=>
   rw[i]at b;obtain⟨o,l,f⟩:=b;exact fL (m':=[]) g (gC (s':=sK (zs.map (·.1)) d o l) J (seq1 e<|seq1 (qQ (a J) e5)<|seq1 (qQ (a J) f)<|nA<|dz (ts:=[.lst [],.int 0]) J<|yT ..) J) J
theorem qt:∀{rs:List Tx},(∀r∈rs,Nv r<=2000)->(flat rs).length<=2001*Nv rs
 |[],_=>eA _
 |r::rs,h=>by
  have c:=h r<|eX ..;have b:=qt (rs:=rs) λx a=>h x<|bw _ a;show((r++[10])++flat rs).length<=_;rw[cA,cA,sE,eu]
  lia
def Jo:∀{rs:List Tx}{p:Nat×Nat},gO rs=.error p->p.1<3:=λ{rs p} h=>by
 unfold gO at h;split at h
 .cases h;show 0<3;decide
 .split at h
  .cases h;show 1<3;decide
  .split at h
   .cases h;show 2<3;decide
   .cases h
abbrev sF(rs:List Tx)(a b:T)(m:FR):S:=⟨[Kj<|flat rs,sv a,sv b,Y],m⟩
abbrev cR(n:Nat):FE:=af (cN (n+14) 31) []<|pK<|k1 zA
section
variable{rs:List Tx}(h:∀r∈rs,10∉r/\r.length<=2000)(hl:Nv rs<=24)
include h hl
def fl:(flat rs).length<=100000:=by
 have:=qt λr a=>(h r a).2
 lia
def rd(nn:Nat)(b:FR):RdO (gO rs) b<|cN (nn+14) 31 [.str<|flat rs] b:=Mm nn (λl a=>(h l a).1) (λl a=>eY (h l a).2<|by decide)<|fl h hl
def ze(nn:Nat):cN (nn+15) 42 [.str<|flat rs] []=.ok (resT<|gO rs,[]):=by
 have b:=rd h hl nn [];rw[w42];have d:aA 1 (aG eB bD) ⟨[Kj<|flat rs,Y,Y,Y],[]⟩=.ok (.nx,⟨[Kj<|flat rs,Kk [],Y,Y],[]⟩):=J;have s2:aA 2 zO ⟨[Kj<|flat rs,Kk [],Y,Y],[]⟩=.ok (.nx,(sF rs (.lst []) (.int 0) [])):=J;cases e:gO rs with
 |ok k=>
  rw[e]at b;have t:cN (nn+14) 31 [.str<|flat rs] []=.ok (.obj 0 [.lst<|aN k],[]):=b;have a:wc (cR nn) (RU 3 1 2 M.kb) (sF rs (.lst []) (.int 0) [])=.ok (.nx,(sF rs (.lst []) (.int 0) [])):=by
   have:cR nn (sF rs (.lst []) (.int 0) [])=_:=cE (ts:=[.str<|flat rs]) J t
   unfold wc;rw[this]
  exact fL (m':=[]) J (gC (s':=(sF rs (.lst []) (.int 0) [])) J (seq1 d<|seq1 s2<|seq1 a<|nA<|dz (ts:=[.lst [],.int 0]) J<|yT ..) J) J
 |error p=>
  rw[e]at b;obtain⟨c,j⟩:=p;have g:c<3:=Jo e;obtain⟨s,a⟩:Xq c (j:Nat)<|cR nn<|sF rs (.lst []) (.int 0) []:=qe (ts:=[.str<|flat rs]) J b;have f:s.r=[Kj<|flat rs,Kk [],Ki 0,Y]:=by
   obtain⟨d,o⟩:=b;have n:cR nn (sF rs (.lst []) (.int 0) [])=(match cN (nn+14) 31 [.str<|flat rs] []with|.ok q=>.ok (q.1,sF rs (.lst []) (.int 0) q.2)|.bad=>.bad|.exc c fs s'=>.exc c fs<|sF rs (.lst []) (.int 0) s'.m):=J
   rw[n,o]at a;injection a with _ _ a
   rw[<- a]
  obtain⟨i,sm⟩:=s;have f:i=_:=f;subst f;have l:M.kb[c]?=U (M.kb.getD c []):=by
   match c,g with
   |0,_=>rfl
   |1,_=>rfl
   |2,_=>rfl
  have e5:wc (cR nn) (RU 3 1 2 M.kb) (sF rs (.lst []) (.int 0) [])=.ok (.nx,(sF rs (qA c) (.int (j:Nat)) sm)):=by
   unfold wc;rw[a];show RU 3 1 2 M.kb c [.int (j:Nat)] _=_;unfold RU;rw[l];rfl
  refine fL (m':=sm) J (gC (s':=(sF rs (qA c) (.int (j:Nat)) sm)) J (seq1 d<|seq1 s2<|seq1 e5<|nA<|dz (ts:=[qA c,.int (j:Nat)]) J<|yT ..) J)<|Tn (Y_ c g) J
end
def Jp(h:∀z∈zs,Gl z)(hl:Nv zs<=24):cN (n+10) 35 [.obj 0 [.lst<|aN<|zs.map (·.2)]] m=.ok (.str<|flat<|zs.map (·.1),m):=by
 rw[w35];have c:(flat<|zs.map (·.1)).length<=100000:=by
  have:=qt (rs:=zs.map (·.1)) λr f=>by
   obtain⟨z,i,rfl⟩:=lr.mp f;exact eY (h z i).l (by decide)
  rw[cU]at this
  lia
 have b:=join_eq (l:=(zs.map (·.1)).map λl=>l++[10])<|eY c<|by decide
 have g:bM (setG 1) dX (oA (af (cN (n+9) 36) []<|k1 zB)<|cS [10]) [Y,Y] (aN<|zs.map (·.2)) []=.ok (aw<|(zs.map (·.1)).map λl=>l++[10],[]):=by
  clear c b hl
  induction zs with
  |nil=>rfl
  |cons z zs d=>
   have a:=h z<|eX ..;have q:=(y_ n (m:=[]) a.t.2).1;rw[<- a.t.1]at q;exact Ť (t:=z.2.val) (u:=.str<|z.1++[10]) (b1:=[Y,sv z.2.val]) (b2:=[Y,sv z.2.val]) J (aP (cE (s:=⟨[Y,sv z.2.val],[]⟩) (ts:=[z.2.val]) J q) J<|jl<|by have:=a.l;show _+1<=_;lia)<|d λy e=>h y<|bw _ e
 refine sEq (wU<|by show(aK (aN<|zs.map (·.2))&&O)=O;rw[dC];rfl) J J<|bR (yO (l:=[]) (ts:=[.lst<|aw<|(zs.map (·.1)).map λl=>l++[10]]) J (aQ (lcE (s:=S1<|.obj 0 [.lst<|aN<|zs.map λz:Gx=>z.2]) (ts:=aN<|zs.map λz:Gx=>z.2) J (by rw[cU,cU];lia) J g) J) b) J
def nsm:10∉eK:=by decide
def nsg:10∉dB:=by decide
def Za(h:dN a):10∉a:=λz=>nsm<|h.hd 10 z
def nwd(h:JF l):10∉l:=λz=>nsg<|h.h 10 z
def npt(h:qT p):10∉p.txt:=λz=>nsg (uE h 10 z).1
def j7{a b:Tx}(h:10∉a)(c:10∉b):10∉a++b:=λz=>(iI.mp z).elim h c
def BK(h:c≠10)(a:10∉b):10∉c::b:=λz=>(bF.mp z).elim (λe=>h e.symm) a
def UJ(h:v.natAbs<1000)(h0:0<=v):10∉cV v:=by
 have k:(gQ 1000).all (λj=>!decide (10∈cV (j:Nat)))=O:=by decide +kernel
 have:=bz.mp k v.natAbs<|uT.mpr h
 rw[show((v.natAbs:Nat):Int)=v by lia]at this
 simpa using this
def nrp{x:RP}(h:x.c):10∉x.txt:=by
 cases x with
 |row v=>exact j7 (by decide)<|UJ (by have:=h.1;have:=h.2;lia)<|by have:=h.1;lia
 |like p=>exact BK (by decide)<|j7 (npt h)<|by decide
def ndd{x:DD}(h:x.c):10∉x.txt:=by
 cases x with
 |drop=>decide
 |print=>decide
 |done=>decide
 |tell=>decide
 |say l=>exact j7 (by decide)<|BK (by decide)<|j7 (nwd h)<|by decide
 |swap e p l=>exact j7 (by cases e<;>decide)<|BK (by decide)<|j7 (npt h.1)<|BK (by decide)<|BK (by decide)<|BK (by decide)<|j7 (nwd h.2)<|by decide
 |join v=>exact j7 (by decide)<|UJ (by have:=h.1;have:=h.2;lia)<|by have:=h.1;lia
 |pile a v=>
  cases v with
  |none=>exact j7 (by decide)<|Za h
  |some v=>exact j7 (by decide)<|j7 (Za h.1)<|BK (by decide)<|UJ (by have:=h.2.1;have:=h.2.2;lia)<|by have:=h.2.1;lia
 |bring a=>exact j7 (by decide)<|Za h
 |go a=>exact j7 (by decide)<|Za h
 |add v w=>exact j7 (by decide)<|j7 (UJ (by have:=h.1.1;have:=h.1.2;lia)<|by have:=h.1.1;lia)<|BK (by decide)<|UJ (by have:=h.2.1;have:=h.2.2;lia)<|by have:=h.2.1;lia
def npc{x:PC}(h:x.c):10∉x.txt:=by
 cases x with
 |last=>decide
 |soon v p=>exact j7 (by decide)<|j7 (UJ (by have:=h.1.1;have:=h.1.2;lia)<|by have:=h.1.1;lia)<|BK (by decide)<|BK (by decide)<|j7 (npt h.2)<|by decide
 |ft x y=>exact j7 (by decide)<|j7 (nrp h.1)<|j7 (by decide)<|nrp h.2
 |rp x=>exact nrp h
def ncd{x:CD}(h:x.c):10∉x.txt:=by
 cases x with
 |fin=>decide
 |no x=>exact j7 (by decide)<|npc h
 |pc x=>exact npc h
def nln{x:LN}(h:x.c):10∉x.txt:=by
 cases x with
 |mark a=>exact j7 (by decide)<|Za h
 |bare x=>exact ndd h
 |full c x=>exact j7 (ncd h.1)<|j7 (by decide)<|ndd h.2
def n_(ns:Dx)(j:Nat):∃v:Int,∀m,cN (n+1) 41 [.scr ns,.int (j:Nat)] m=.ok (.int v,m):=by
 by_cases h:j<Nv ns
 .refine⟨ns[j],λm=>?_⟩
  rw[w41];exact sEq J J J<|bY (s:=s2 (.scr ns)<|.int (j:Nat)) (gD<|pE (t:=.int (j:Nat)) (u:=.int (Nv ns:Nat)) J J<|(pV ..).trans<|by rw[cw<|by lia])<|bR (aP (t:=.scr ns) (u:=.int (j:Nat)) J J<|by show(atT ns (j:Int)).map _=_;rw[pT h,fQ h];rfl) J
 .refine⟨0,λm=>?_⟩
  rw[w41];exact sEq J J J<|bN (s:=s2 (.scr ns)<|.int (j:Nat)) (gD<|pE (t:=.int (j:Nat)) (u:=.int (Nv ns:Nat)) J J<|(pV ..).trans<|by rw[ar<|by lia])<|bR J J
def Z8(h:a s=.ok (.int i,s))(b:0<j/\j<1073741824):oD a (cI j) s=.ok (.int<|i/j,s):=aP h J<|iR b
def Dg(h:a s=.ok (.int i,s))(b:0<j):oM a (cI j) s=.ok (.int<|i % j,s):=aP h J<|iR b
def aag:[32,58,47,48,34,49,42,91,93,94].all (λc=>decide<|c≠10)=O:=by decide
def sign_eq(v:Int):∃c,c≠10/\∀m,cN (n+1) 44 [.int v] m=.ok (.str [c],m):=by
 by_cases h:v % 2=1
 .obtain⟨c,b,a⟩:=ir (l:=[32,58,47,48,34,49,42,91,93,94]) (d:=v/2 % 10) (by lia) (by show _<(10:Int);lia)
  refine⟨c,bt<|bz.mp aag c b,λm=>?_⟩;rw[w44];exact sEq J J J<|bS J<|bY ((De<|Dg (i:=v) (j:=2) J<|by decide).trans<|by rw[cw h])<|bR (aP J (Dg (Z8 (i:=v) (j:=2) J<|by decide)<|by decide) a) J
 .obtain⟨c,b,a⟩:=ir (l:=gp) (d:=v/2 % 93) (by lia) (by show _<(93:Int);lia)
  refine⟨c,λe=>nsg<|e▸(bt<|bz.mp IY c b).1,λm=>?_⟩;rw[w44];exact sEq J J J<|bS J<|bN ((De<|Dg (i:=v) (j:=2) J<|by decide).trans<|by rw[ar h])<|bR (aP (t:=.str gp) J (Dg (Z8 (i:=v) (j:=2) J<|by decide)<|by decide) a) J
def Zb(h:10∉l):10∉bf l lo a:=λz=>h<|uX<|zG z
def Zc{l:Tx}:(bf l lo a).length<=Nv l:=by
 unfold bf;rw[uU,BU]
 lia
def Jq(h:10∉r)(hl:Nv r<=900)(o:c≠10):∃d,10∉d/\d.length<=2000/\(way % 10=0->parse d=Y)/\∀m,cN (n+1) 45 [.str r,.int way,.int a,.str [c]] m=.ok (.str d,m):=by
 by_cases h0:way % 10=0
 .obtain⟨d,F,E,C,B⟩:∃d:Tx,10∉d/\d.length<=2000/\parse d=Y/\jC (.lst [.str<|32::r,.str<|r++[32],.str<|88::r,.str []]) (.int<|way/10 % 4)=U (.str d):=by
   obtain⟨w,v,u,q⟩:=IU (r:=r);have hd:way/10 % 4=0\/way/10 % 4=1\/way/10 % 4=2\/way/10 % 4=3:=by lia
   rcases hd with e|e|e|e<;>rw[e]
   .exact⟨_,BK (by decide) h,by rw[eu];lia,w,J⟩
   .exact⟨_,j7 h<|by decide,by rw[cA];show _+1<=_;lia,v,J⟩
   .exact⟨_,BK (by decide) h,by rw[eu];lia,u,J⟩
   .exact⟨_,by decide,by decide,q,J⟩
  refine⟨d,F,E,λ_=>C,λm=>?_⟩;rw[ZW];exact sEq J J J<|bY ((De<|Dg (i:=way) (j:=10) J<|by decide).trans<|by rw[cw h0])<|bR (aP (t:=.lst [.str<|32::r,.str<|r++[32],.str<|88::r,.str []]) (dz (aQ (aP J J<|jl<|by show 1+_<=_;lia)<|aQ (aP J J<|jl<|by show _+1<=_;lia)<|aQ (aP J J<|jl<|by show 1+_<=_;lia) J) J) (Dg (Z8 (i:=way) (j:=10) J<|by decide)<|by decide) B) J
 .obtain⟨k,A,G⟩:∃k:Int,0<k/\GX [.int 1,.int (Nv r:Nat)]=U (.int k):=⟨_,(by
   show(0:Int)<if _<_ then _ else _
   split<;>lia),J⟩
  let j:=a % k
  have g:∀lo l:D2,10∉bf r lo l/\(bf r lo l).length<=900:=λlo l=>⟨Zb h,eY Zc hl⟩;have f:oM zC (aG GX<|k2 zI<|aG cJ<|k1 zA) ⟨[Kj r,Ki way,Ki a,Kj [c],Y],[]⟩=.ok (.int j,⟨[Kj r,Ki way,Ki a,Kj [c],Y],[]⟩):=aP (t:=.int a) J (dz (ts:=[.int 1,.int (Nv r:Nat)]) J G)<|iR A;have t0:∀{s:S},vF 1 s=.ok (.int way,s)->D.aY (oE (oM zB<|cI 10) zO) s=.ok (Zi,s):=λe=>(De<|Dg (i:=way) (j:=10) e<|by decide).trans (by rw[ar h0])
  let b:S:=⟨[Kj r,Ki way,Ki a,Kj [c],Ki j],[]⟩
  have l1:jQ zA nJ (jv<|vF 4) b=.ok (.str<|bf r Y<|U j,b):=HQ (x:=Y) (y:=U j) J J J J;have l2:jQ zA (jv<|oA (vF 4) zI) nJ b=.ok (.str<|bf r (U<|j+1) Y,b):=HQ (x:=U<|j+1) (y:=Y) J J J J;have l3:jQ zA (jv<|vF 4) nJ b=.ok (.str<|bf r (U j) Y,b):=HQ (x:=U j) (y:=Y) J J J J;have q1:=g Y<|U j;have q2:=g (U<|j+1) Y;have p:=g (U j) Y;by_cases hx:way % 3=0
  .refine⟨bf r Y (U j)++bf r (U<|j+1) Y,j7 q1.1 q2.1,by rw[cA];lia,λz=>dy z h0,λm=>?_⟩
   rw[ZW];exact sEq J J J<|bN (t0 J)<|bS f<|bY (s:=b) ((De<|Dg (i:=way) (j:=3) J<|by decide).trans<|by rw[cw hx])<|bR (aP l1 l2<|jl<|by lia) J
  .have t3:D.aY (oE (oM zB<|cI 3) zO) b=.ok (Zi,b):=(De<|Dg (i:=way) (j:=3) J<|by decide).trans (by rw[ar hx])
   have l4:oA (jQ zA nJ<|jv<|vF 4) zD b=.ok (.str<|bf r Y (U j)++[c],b):=aP l1 J<|jl<|by show _+1<=_;lia
   by_cases hy:way % 3=1
   .refine⟨(bf r Y (U j)++[c])++bf r (U<|j+1) Y,j7 (j7 q1.1<|BK o<|by decide) q2.1,by rw[cA,cA];show _+1+_<=_;lia,λz=>dy z h0,λm=>?_⟩
    rw[ZW];exact sEq J J J<|bN (t0 J)<|bS f<|bN (s:=b) t3<|bY (s:=b) ((De<|Dg (i:=way) (j:=3) J<|by decide).trans<|by rw[cw hy])<|bR (aP l4 l2<|jl<|by rw[cA];show _+1+_<=_;lia) J
   .refine⟨(bf r Y (U j)++[c])++bf r (U j) Y,j7 (j7 q1.1<|BK o<|by decide) p.1,by rw[cA,cA];show _+1+_<=_;lia,λz=>dy z h0,λm=>?_⟩
    rw[ZW];exact sEq J J J<|bN (t0 J)<|bS f<|bN (s:=b) t3<|bN (s:=b) ((De<|Dg (i:=way) (j:=3) J<|by decide).trans<|by rw[ar hy])<|bR (aP l4 l3<|jl<|by rw[cA];show _+1+_<=_;lia) J
theorem sC(b:parse a=Y):∀(A:List Tx)(j:Nat),(∀r∈A,∃x,parse r=U x)->j+Nv A<=24->eM j (A++a::B)=.error (j+Nv A)
 |[],j,_,hl=>by
  show(if 24<j then _ else match parse a with|none=>_|some l=>_)=_
  rw[b,cb<|by have:j+0<=24:=hl;lia];rfl
 |r::A,j,h,hl=>by
  rw[eu]at hl;obtain⟨x,e⟩:=h r<|eX ..;have c:=sC (B:=B) b A (j+1) (λy d=>h y<|bw _ d) (by lia)
  show(if 24<j then _ else match parse r with|none=>_|some l=>match eM (j+1) (A++a::B)with|.ok f=>_|.error i=>_)=_
  rw[e,c,cb<|by lia,eu]
  show Except.error (j+1+Nv A)=Except.error (j+(Nv A+1))
  congr 1;lia
theorem qu:∀(zs:List Gx)(j:Nat),(∀z∈zs,parse z.1=U z.2)->j+Nv zs<=25->eM j (zs.map (·.1))=.ok (zs.map (·.2))
 |[],_,_,_=>J
 |z::zs,j,h,hl=>by
  rw[eu]at hl;have a:=qu zs (j+1) (λy b=>h y<|bw _ b) (by lia)
  show(if 24<j then _ else match parse z.1 with|none=>_|some l=>match eM (j+1) (zs.map λz:Gx=>z.1)with|.ok c=>_|.error i=>_)=_
  rw[h z<|eX ..,a,cb<|by lia];rfl
def Rl(r:Tx):Prop:=∃x:LN,x.c/\x.ms=O/\r=x.txt
def Rl.p(h:Rl r):∃x,parse r=U x/\r.length<=700/\10∉r:=by
 obtain⟨x,a,b,rfl⟩:=h;exact⟨x,xh a b,(y_ (m:=[]) 0 (iF<|xh a b).2.1).2,nln a⟩
theorem BL:∀xs:FC,(∀x∈xs,Uc x)->∃rs:List Tx,Nv rs=Nv xs/\(∀r∈rs,Rl r)/\bM (setG 1) dX (oI zB zO) [Y,Y] xs []=.ok (aw rs,[])
 |[],_=>⟨[],J,λ_ z=>(nomatch z),J⟩
 |x::xs,h=>by
  obtain⟨rs,i,g,f⟩:=BL xs λy c=>h y<|bw _ c;obtain⟨y,q1,q2,a,b,_,_,e⟩:=h x<|eX ..;refine⟨y.txt::rs,by rw[eu,eu,i],λr d=>?_,?_⟩
  .rcases bF.mp d with rfl|z
   .exact⟨y,q1,q2,J⟩
   .exact g r z
  .subst e
   exact Ť (t:=.tup [.str y.txt,a,b]) (u:=.str y.txt) (b1:=[Y,sv<|.tup [.str y.txt,a,b]]) (b2:=[Y,sv<|.tup [.str y.txt,a,b]]) J (aP (t:=.tup [.str y.txt,a,b]) J J J) f
def Zd(ns:Dx):(bf ns (U 4)<|U 28).length<=24/\∀c∈bf ns (U 4) (U 28),c∈ns:=by
 unfold bf;constructor
 .rw[uU]
  have d:gu ns.length ns.length (U 28)=min 28 ns.length:=J;have b:gu ns.length 0 (U 4)=min 4 ns.length:=J;rw[d,b]
  lia
 .exact λc a=>uX<|zG a
abbrev sL(ns cs:Dx)(a b c d e f:Option C):S:=⟨[sv<|.scr ns,Kk<|cs.map T.int,a,b,c,d,e,f],[]⟩
abbrev s3(ns cs:Dx)(rs:List Tx)(a b:Option C):S:=sL ns cs (U<|.ol<|aw rs) a b Y Y Y
abbrev sN(ns cs:Dx):S:=sL ns cs Y Y Y Y Y Y
abbrev uM(n:Nat):Nat->Fn:=cN<|n+15
abbrev ce(aj:Nat->Fn)(j:Int):FE:=af (aj 41) []<|k2 zA<|cI j
abbrev oW(aj:Nat->Fn):FE:=af (aj 45) []<|bQ (Fv 2 zD)<|k3 (vF 4) (ce aj 2)<|af (aj 44) []<|k1<|ce aj 3
abbrev i8(aj:Nat->Fn):FS:=aO (D.aY<|oE (oM (oD (ce aj 0)<|cI 24)<|cI 2) zI) (aA 1<|af (aj 63) []<|k1 zB) az
abbrev l8(aj:Nat->Fn):FS:=iz 2<|bP (mG<|af (aj 62) []<|k1 zB) 2 [] (setG 1) dX<|oI zB zO
abbrev p8:FS:=aO (D.aY<|CL 2<|aG eB bD) (iz 2<|iN<|k1<|cS [112,114,105,110,116]) az
def MC(h:∀c∈ns,Sm c):∃(cs:Dx)(A B:List Tx)(d:Tx)(way:Int),(∀r∈A,Rl r)/\(∀r∈B,Rl r)/\A.length+Nv B+1<=24/\10∉d/\d.length<=2000/\(way % 10=0->parse d=Y) /\
  ah (aA 1<|jQ zA (jv<|cI 4)<|jv<|cI 28)
 (ah (i8<|uM n)
<|ah (l8<|uM n)
<|ah (p8)
<|ah (aA 3<|oM (ce (uM n) 0)<|jF 2)
<|ah (aA 4<|ce (uM n) 1)
<|ah (Ot 2 zD<|oW<|uM n) K)
 ⟨[sv<|.scr ns,Y,Y,Y,Y,Y,Y,Y],[]⟩=K (s3 ns cs (A++d::B) (Ki (Nv A:Nat))<|Ki way):=by
 obtain⟨c1,c2⟩:=Zd ns;have g:∀c∈bf ns (U 4) (U 28),Sm c:=λc q=>h c<|c2 c q;obtain⟨e,x⟩:=n_ (n+14) ns 0;obtain⟨f,Z⟩:=n_ (n+14) ns 1;obtain⟨w,X⟩:=n_ (n+14) ns 2;obtain⟨v,W⟩:=n_ (n+14) ns 3;obtain⟨c,q,R⟩:=sign_eq (n+14) v;obtain⟨ds,d1,d2,S⟩:=Jm (n+14) (m:=[]) g c1;obtain⟨cs,Q,P,V⟩:∃cs:Dx,Nv cs<=24/\(∀c∈cs,Sm c)/\i8 (uM n) (sN ns<|bf ns (U 4)<|U 28)=.ok (.nx,sN ns cs):=by
  have i:=De (s:=sN ns<|bf ns (U 4)<|U 28) (j:=1)<|Dg (j:=2) (Z8 (j:=24) (cE (fl:=k2 zA zO) (ts:=[.scr ns,.int 0]) J<|x [])<|by decide)<|by decide
  by_cases hv:e/24 % 2=1
  .rw[cw hv]at i
   exact⟨ds,by lia,d2,Dt i<|dM (t:=.lst<|ds.map T.int)<|je (ts:=[.lst<|(bf ns (U 4)<|U 28).map T.int]) (s':=sN ns<|bf ns (U 4)<|U 28) J S⟩
  .rw[ar hv]at i
   exact⟨_,c1,g,qP i J⟩
 obtain⟨xs,K1,cD,el⟩:=Df (n+7) (m:=[]) P Q;obtain⟨k,r1,C,z⟩:=BL xs K1;have a3:l8 (uM n) (sN ns cs)=.ok (.nx,s3 ns cs k Y Y):=by
  unfold l8 iz;rw[jf (ts:=xs) (s1:=sN ns cs) (us:=aw k) (m':=[]) (YU (t:=.lst xs) (cE (ts:=[.lst<|cs.map T.int]) J el) J) (by lia) z];rfl
 obtain⟨b,q0,q1,q2,a4⟩:∃b:List Tx,0<Nv b/\b.length<=24/\(∀r∈b,Rl r)/\p8 (s3 ns cs k Y Y)=.ok (.nx,s3 ns cs b Y Y):=by
  cases k with
  |nil=>exact⟨[[112,114,105,110,116]],by decide,by decide,λr L=>⟨.bare .print,trivial,J,gA.mp L⟩,J⟩
  |cons r l=>exact⟨r::l,by rw[eu];lia,by lia,C,J⟩
 obtain⟨A,r,B,rfl,N⟩:∃(A:List Tx)(r:Tx)(B:List Tx),b=A++r::B/\e % (Nv b:Nat)=(Nv A:Nat):=by
  have M:(e % (Nv b:Nat)).toNat<Nv b:=by
   have:=zN e<|show(0:Int)<(Nv b:Nat) by lia
   have:=B5 e<|show((Nv b:Nat):Int)≠0 by lia
   lia
  refine⟨b.take (e % (Nv b:Nat)).toNat,b[(e % (Nv b:Nat)).toNat],b.drop<|(e % (Nv b:Nat)).toNat+1,?_,?_⟩
  .rw[<- uW M,List.take_append_drop]
  .rw[uU]
   have:=B5 e<|show((Nv b:Nat):Int)≠0 by lia
   lia
 obtain⟨_,_,p1,E⟩:=(q2 r<|by simp).p
 obtain⟨d,I,H,G,F⟩:=Jq (n+14) (r:=r) (way:=f) (a:=w) (c:=c) E (by lia) q
 refine⟨cs,A,B,d,f,λy o=>q2 y<|by simp[o],λy o=>q2 y<|by simp[o],?_,I,H,G,?_⟩
 .rw[cA,eu]at q1;lia
 have a5:aA 3 (oM (ce (uM n) 0)<|jF 2) (s3 ns cs (A++r::B) Y Y)=.ok (.nx,s3 ns cs (A++r::B) (Ki (Nv A:Nat)) Y):=dM (t:=.int (Nv A:Nat)) (s':=s3 ns cs (A++r::B) Y Y)<|aP (t:=.int e) (u:=.int ((aw<|A++r::B).length:Nat)) (cE (ts:=[.scr ns,.int 0]) J<|x []) J<|by rw[cU,IW<|by lia,N]
 have a6:aA 4 (ce (uM n) 1) (s3 ns cs (A++r::B) (Ki (Nv A:Nat)) Y)=.ok (.nx,s3 ns cs (A++r::B) (Ki (Nv A:Nat))<|Ki f):=dM (t:=.int f) (s':=s3 ns cs (A++r::B) (Ki (Nv A:Nat)) Y)<|cE (ts:=[.scr ns,.int 1]) J<|Z []
 let s7:=s3 ns cs (A++r::B) (Ki (Nv A:Nat))<|Ki f
 have D:Fv 2 zD s7=.ok (.str r,s7):=by
  have:ZE (.lst<|aw<|A++r::B) (.int (Nv A:Nat))=U (.str r):=TZ
  show Res.bind (cH<|ZE (.lst<|aw<|A++r::B)<|.int (Nv A:Nat)) _=_;rw[this];rfl
 have po:oW (uM n) s7=.ok (.str d,s7):=cE (ts:=[.str r,.int f,.int w,.str [c]]) (aQ D<|aQ (t:=.int f) J<|aQ (cE (s:=s7) (ts:=[.scr ns,.int 2]) J<|X [])<|aQ (cE (s:=s7) (ts:=[.int v]) (aQ (cE (s:=s7) (ts:=[.scr ns,.int 3]) J<|W []) J)<|R []) J)<|F [];have a7:Ot 2 zD (oW<|uM n) s7=.ok (.nx,s3 ns cs (A++d::B) (Ki (Nv A:Nat))<|Ki f):=by
  show eg 2 zD _ s7=_;unfold eg;rw[po];show Res.bind (cH<|gd (0<=((Nv A:Nat):Int)/\((Nv A:Nat):Int)<((aw<|A++r::B).length:Nat))<|(aw<|A++r::B).set ((Nv A:Nat):Int).toNat<|T.str d) _=_;rw[iR ⟨by lia,by rw[cU,cA,eu];lia⟩,Int.toNat_natCast,show(aw<|A++r::B).set A.length (T.str d)=aw (A++d::B) by
   unfold aw;rw[mV,mV,fV,fV,List.set_append_right _ _<|by rw[cU];lia,cU,sP];rfl];rfl
 exact seq1 (s':=sN ns<|bf ns (U 4)<|U 28) J<|seq1 V<|seq1 a3<|seq1 a4<|seq1 a5<|seq1 a6<|seq1 a7 J
abbrev sW(ns cs:Dx)(rs:List Tx)(a:Nat)(way:Int)(x y z:Option C):S:=sL ns cs (Kk<|aw rs) (Ki a) (Ki way) x y z
abbrev k0(a:Nat):T:=.tup [qA 0,.int ((a+1:Nat):Int)]
abbrev rr(rs:List Tx):T:=resT<|gO rs
abbrev e5:FE:=mK joinM (cS [])<|k1<|dR<|bP (mG zC) 2 [] (setG 1) dX<|oA zB<|cS [10]
abbrev sR(aj:Nat->Fn)(f:FE):FE:=af (aj 35) []<|k1<|af (aj 31) []<|k1 f
abbrev g7e(aj:Nat->Fn):FE:=oZ (dE (Wt "str")<|vF 7)<|oZ (oE (vF 7)<|vF 5)<|oE (sR aj<|vF 7)<|vF 5
abbrev t3e(aj:Nat->Fn):FT:=D.aY<|oE (vF 6)<|aG aE<|k2 (af (aj 43) []<|k1 zO)<|oA zD zI
abbrev t4e(aj:Nat->Fn):FT:=Ae (D.aY<|oE (oM (vF 4)<|cI 10) zO)<|D.aY<|bH (aM .NotEq) (vF 6)<|af (aj 47) []<|k1 zC
abbrev t5e:FT:=D.aY<|bH (aM .NotEq) (oI (vF 6) zO)<|aG eB bD
abbrev Ze(aj:Nat->Fn):FS:=ah (aA 7<|sR aj<|vF 5)
<|ao<|g7e aj
abbrev Pc(aj:Nat->Fn):FS:=ah (aA 5<|e5)
<|ah (aA 6<|af (aj 42) []<|k1<|vF 5)
<|ah (aO (t3e aj)
  (ao<|cF<|.bl O)
  az)
<|ah (aO (t4e aj)
  (ao<|cF<|.bl Zi)
  az)
<|ah (aO (t5e)
  (ao<|cF<|.bl O)
  az)
<|Ze aj
def aah(a b:T)(h:shape 5 a b=O):aM .NotEq a b=U (.bl<|!eqT a b):=by
 have:aM .NotEq a b=Ĉ a b:=by
  cases b<;>rfl
 rw[this];exact iR h
def aai(a b:T)(h:shape 5 a b=O):aM .Eq a b=U (.bl<|eqT a b):=by
 have:aM .Eq a b=ZD a b:=by
  cases b<;>rfl
 rw[this];exact iR h
def lg:∀c<3,∀i j:Int,shape 5 (.tup [qA c,.int i]) (.tup [qA c,.int j])=O/\shape 5 (.tup [qA c,.int i]) (.tup [qA 0,.int j])=O/\aM .NotEq (qA c) (.lst [])=U (.bl O):=λc a i j=>by
 match c,a with
 |0,_=>exact⟨J,J,J⟩
 |1,_=>exact⟨J,J,J⟩
 |2,_=>exact⟨J,J,J⟩
theorem Pd:∀rs:List Tx,(∀r∈rs,∃l,parse r=U l)->∃zs:List Gx,zs.map (·.1)=rs/\∀z∈zs,Gl z
 |[],_=>⟨[],J,λ_ z=>(nomatch z)⟩
 |r::rs,h=>by
  obtain⟨zs,d,c⟩:=Pd rs λy b=>h y<|bw _ b;obtain⟨l,hl⟩:=h r<|eX ..;refine⟨(r,l)::zs,by rw[fV,d],λz a=>?_⟩
  rcases bF.mp a with rfl|q
  .refine⟨hl,?_⟩
   have:=(y_ (m:=[]) 0 (iF hl).2.1).2
   rw[<- (iF hl).1]at this;exact eY this (by decide)
  .exact c z q
def Uh(ns:Dx)(h:∀c∈ns,Sm c):∃m',cN (n+16) 64 [.scr ns] []=.ok (.bl O,m'):=by
 obtain⟨cs,A,B,o,d,X,hB,hl,Z5,Z,hw,e0⟩:=MC n h (K:=Pc<|uM n);have I:(A++o::B).length<=24:=by rw[cA,eu];lia
 have F:∀r∈A++o::B,10∉r/\r.length<=2000:=λr g=>by
  have k:Rl r->10∉r/\r.length<=2000:=λq=>by
   obtain⟨x,_,q1,q2⟩:=q.p;exact⟨q2,by lia⟩
  rcases iI.mp g with z|z
  .exact k<|X r z
  .rcases bF.mp z with rfl|z
   .exact⟨Z5,Z⟩
   .exact k<|hB r z
 have bA:∀l,parse o=U l->∀r∈A++o::B,∃l,parse r=U l:=λl el r g=>by
  rcases iI.mp g with z|z
  .obtain⟨x,q,_⟩:=(X r z).p;exact⟨x,q⟩
  .rcases bF.mp z with rfl|z
   .exact⟨l,el⟩
   .obtain⟨x,q,_⟩:=(hB r z).p;exact⟨x,q⟩
 have Zf:parse o=Y->gO (A++o::B)=.error (0,Nv A+1):=λe=>by
  unfold gO;rw[sC e A 1 (λr g=>by obtain⟨x,q,_⟩:=(X r g).p;exact⟨x,q⟩)<|by lia,Np 1]
 generalize hrs:A++o::B=a at e0 I F bA Zf
 have W:=fl F I;have hg:=ze F I n;have g:=rd F I (n+1) [];have hj:=join_eq (l:=a.map λl=>l++[10])<|eY W<|by decide
 have hc:bM (setG 1) dX (oA zB<|cS [10]) [Y,Y] (aw a) []=.ok (aw<|a.map λl=>l++[10],[]):=by
  have:∀a:List Tx,(∀r∈a,Nv r<=2000)->bM (setG 1) dX (oA zB<|cS [10]) [Y,Y] (aw a) []=.ok (aw<|a.map λl=>l++[10],[]):=λa=>by
   induction a with
   |nil=>exact λ_=>J
   |cons r a ih=>
    intro hx;exact Ť (t:=.str r) (u:=.str<|r++[10]) (b1:=[Y,Kj r]) (b2:=[Y,Kj r]) J (aP (t:=.str r) J J<|jl<|by have:=hx r<|eX ..;show _+1<=_;lia)<|ih λy hy=>hx y<|bw _ hy
  exact this _ λr g=>(F r g).2
 have a1:aA 5 (e5) (s3 ns cs a (Ki (Nv A:Nat))<|Ki d)=.ok (.nx,sW ns cs a A.length d (Kj<|flat a) Y Y):=dM (t:=.str<|flat a) (s':=sW ns cs a A.length d Y Y Y)<|yO (l:=[]) (ts:=[.lst<|aw<|a.map λl=>l++[10]]) J (aQ (jH<|jf (ts:=aw a) (s1:=sW ns cs a A.length d Y Y Y) (m':=[]) J (by rw[cU];lia) hc) J) hj
 have a2:aA 6 (af (uM n 42) []<|k1<|vF 5) (sW ns cs a A.length d (Kj<|flat a) Y Y)=.ok (.nx,sW ns cs a A.length d (Kj<|flat a) (sv<|rr a) Y):=dM (s':=sW ns cs a A.length d (Kj<|flat a) Y Y)<|cE (ts:=[.str<|flat a]) J hg
 let s2:S:=sW ns cs a A.length d (Kj<|flat a) (sv<|rr a) Y
 have t3:∀b,shape 5 (rr a) (k0 A.length)=O->eqT (rr a) (k0 A.length)=b->t3e (uM n) s2=.ok (b,s2):=λb R E=>gD<|pE (t:=rr a) (u:=k0 A.length) J (dz (ts:=[qA 0,.int ((Nv A+1:Nat):Int)]) (aQ (cE (s:=s2) (ts:=[.int 0]) J<|TV (n+14) _) J)<|yT ..)<|(aai _ _ R).trans<|by rw[E]
 have fin:∀s',Pc (uM n) (s3 ns cs a (Ki (Nv A:Nat))<|Ki d)=.ok (.rt<|.bl O,s')->s'.m=[]->∃m',cN (n+16) 64 [.scr ns] []=.ok (.bl O,m'):=λs' e T=>by
  refine⟨[],?_⟩;rw[w64];exact fL (m':=s'.m) J (gC (s':=s') J (e0.trans e) J) J
 by_cases E:eqT (rr a) (k0 A.length)=O/\shape 5 (rr a) (k0 A.length)=O
 .exact fin s2 (seq1 a1<|seq1 a2<|CV<|Dt (t3 O E.2 E.1) J) J
 cases M:parse o with
 |none=>
  refine dy ?_ E;rw[show rr a=_ from ey resT<|Zf M];exact⟨oY _,(lg 0 (by decide) _ _).1⟩
 |some l=>
  have Q:¬ d % 10=0:=λz=>by rw[hw z]at M;cases M
  obtain⟨zs,L,N⟩:=Pd a<|bA l M;have zl:Nv zs<=24:=by rw[<- cU (f:=λz:Gx=>z.1) (as:=zs),L];exact I
  have eb:=xu (n+13) N (by lia)
  have v:gO a=MB (zs.map (·.2)):=by
   unfold gO;rw[<- L,qu zs 1 (λz hz=>(N z hz).p)<|by lia];rfl
  rw[<- v,L]at eb;have V:∀C,gO a=.ok C->C=zs.map (·.2):=λC e=>by
   rw[e]at v;unfold MB at v;split at v
   .cases v
   .split at v
    .cases v
    .cases v;rfl
  have t4:shape 5 (rr a) (rr a)=O->t4e (uM n) s2=.ok (Zi ||Zi,s2):=λR=>wG ((De<|Dg (i:=d) (j:=10) J<|by decide).trans<|by rw[ar Q])<|gD<|pE (t:=rr a) (u:=rr a) J (cE (s:=s2) (ts:=[.lst<|aw a]) J eb)<|(aah _ _ R).trans<|by rw[oY];rfl
  cases H:gO a with
  |error p=>
   obtain⟨c,j⟩:=p;have D:=Jo H;have w:rr a=.tup [qA c,.int (j:Nat)]:=ey resT H;have Dj:shape 5 (rr a) (k0 A.length)=O:=by rw[w];exact(lg c D _ _).2.1
   have Vq:shape 5 (rr a) (rr a)=O:=by rw[w];exact(lg c D _ _).1
   have P:=t3 Zi Dj (by cases x:eqT (rr a) (k0 A.length)with|false=>rfl|true=>exact dy ⟨x,Dj⟩ E)
   have q5:t5e s2=.ok (O,s2):=gD<|pE (t:=qA c) (u:=.lst []) (aP (t:=rr a) (u:=.int 0) J J<|by rw[w];rfl) J (lg c D 0 0).2.2
   exact fin s2 (seq1 a1<|seq1 a2<|seq1 (qP P J)<|seq1 (qP (t4 Vq) J)<|CV<|Dt q5 J) J
  |ok C=>
   have w:rr a=.tup [.lst [],.int 0]:=ey resT H;have P:=t3 Zi (by rw[w];rfl) (by rw[w];rfl)
   have q5:t5e s2=.ok (Zi,s2):=gD<|pE (t:=.lst []) (u:=.lst []) (aP (t:=rr a) (u:=.int 0) J J<|by rw[w];rfl) J J
   rw[H]at g;have g:uM n 31 [.str<|flat a] []=.ok (.obj 0 [.lst<|aN C],[]):=g;have Zt:=Jp (n+5) (zs:=zs) (m:=[]) N zl;rw[L,<- V C H]at Zt;have sh:∀{f:FE}{s:S},s.m=[]->f s=.ok (.str<|flat a,s)->sR (uM n) f s=.ok (.str<|flat a,s):=λ{f s} T W=>cE (ts:=[.obj 0 [.lst<|aN C]]) (aQ (cE (ts:=[.str<|flat a]) (aQ W J)<|by rw[T];exact g) J) (by rw[T];exact Zt)
   let s7:S:=sW ns cs a A.length d (Kj<|flat a) (sv<|rr a)<|Kj<|flat a
   have G:aM .Eq (.str<|flat a) (.str<|flat a)=U (.bl O):=(pU ..).trans (by rw[cw J])
   have g7:ao (g7e<|uM n) s7=.ok (.rt<|.bl O,s7):=nA<|wN (x:=O) (y:=O) J λ_=>wN (x:=O) (y:=O) (aP (t:=.str<|flat a) (u:=.str<|flat a) J J G) λ_=>aP (t:=.str<|flat a) (u:=.str<|flat a) (sh J J) J G;exact fin s7 (seq1 a1<|seq1 a2<|seq1 (qP P J)<|seq1 (qP (t4<|by rw[w];rfl) J)<|seq1 (qP q5 J)<|seq1 (s':=s7) (dM (t:=.str<|flat a) (s':=s2)<|sh J J) g7) J
end K25
namespace K25
open List renaming length->Nv
open PySem D L2
variable(n:Nat)
set_option maxHeartbeats 0
def mdB:∀P,XS (KH.K P) M Ft It=O:=λP=>by kernel_rfl
def mdC:∀P,M.cs.all (SS<|KH.K P)=O:=λP=>by kernel_rfl
def mdQ:∀P,Ft.map (UE<|KH.K P)=Ft.map λe=>(UE (KH.K P) e).map<|LJ e:=λP=>by kernel_rfl
def BnL:List Fe->Prop
 |[]=>True
 |e::r=>Bn e/\BnL r
theorem Ph:∀{l:List Fe},BnL l->∀e∈l,Bn e
 |e::r,h,x,a=>by
  rcases bF.mp a with z|z
  .rw[z];exact h.1
  .exact Ph h.2 x z
def lz0{P:B2->Prop}(h:P []):∀us:B2,Nv us=0->P us
 |[],_=>h
 |_::_,e=>by cases e
def Zg{n:Nat}{P:B2->Prop}(h:∀a,∀us:B2,Nv us=n->P (a::us)):∀us:B2,Nv us=n+1->P us
 |[],e=>by cases e
 |a::us,e=>h a us<|Ea.inj e
def lz1{P:B2->Prop}(h:∀a,P [a]):∀us:B2,Nv us=1->P us:=Zg λa=>lz0<|h a
def lz2{P:B2->Prop}(h:∀a b,P [a,b]):∀us:B2,Nv us=2->P us:=Zg λa=>lz1<|h a
def lz3{P:B2->Prop}(h:∀a b c,P [a,b,c]):∀us:B2,Nv us=3->P us:=Zg λa=>lz2<|h a
def lz4{P:B2->Prop}(h:∀a b c d,P [a,b,c,d]):∀us:B2,Nv us=4->P us:=Zg λa=>lz3<|h a
def lz5{P:B2->Prop}(h:∀a b c d e,P [a,b,c,d,e]):∀us:B2,Nv us=5->P us:=Zg λa=>lz4<|h a
def bn:∀e∈Ft,Bn e:=Ph (by
 repeat' first|exact trivial|refine And.intro ?_ ?_
 all_goals first|exact λ_ _ _ _ _ _=>lz0 J|exact λ_ _ _ _ _ _=>lz1 λ_=>J|exact λ_ _ _ _ _ _=>lz2 λ_ _=>J|exact λ_ _ _ _ _ _=>lz3 λ_ _ _=>J|exact λ_ _ _ _ _ _=>lz4 λ_ _ _ _=>J|exact λ_ _ _ _ _ _=>lz5 λ_ _ _ _ _=>J)
end K25
end
open PySem PySem.W PyProof.Rows
set_option maxRecDepth 100000 in
set_option maxHeartbeats 0 in
theorem PySem.Challenge.cw_rowblade_k25_whole_one_sign_otherwise_holds : PySem.Challenge.rw_rowblade_k25_whole_one_sign_otherwise.Holds := by
 w_on
 refine holds_law (by
  unfold OpenLaw.wellSaid OpenRow.wellSaid OpenRow.partSaid looksOpen
  repeat' (with_reducible refine look_both ?_ ?_)
  all_goals decide +kernel) λaar=>?_
 refine holds_open (q:=KH.vw) (loose:=KH.lz) (Xt:=KH.Xt) (XP:=XL KH.vw []) (Yf:=Hook.obs<|kHook KH.K KH.as KH.kas) (Ya:=Hook.val<|kHook KH.K KH.as KH.kas) (YP:=Hook.says<|kHook KH.K KH.as KH.kas) (N:=20402) KH.left (Hook.of<|kHook KH.K KH.as KH.kas) (Hook.keeps<|kHook KH.K KH.as KH.kas) (λs e=>xl_of s (Bool.and_eq_true_iff.mp e).1) XL.keeps (by rfl) (by rfl) (by rfl) (λs e=>recFacts_of (Bool.and_eq_true_iff.mp e).2) (by rfl) (by first|assumption|decide +kernel) (by decide +kernel) ⟨J,J,J,J,J,by decide +kernel⟩ ?hw ?hc
 (case hw=>w_witness2)
 k_fill
 refine _root_.D.XX (l:=_) (m:=63) (n:=16) (K:=KH.K) (M:=K25.M) (Ft:=K25.Ft) (It:=K25.It) (i:=64) J (by decide) J ⟨J,by decide,by decide⟩ (λw h a=>PySem.W.kIn_of a) J J J J J (λP=>⟨⟨K25.mdB P,K25.mdQ P,K25.bn⟩,K25.mdC P⟩) λns _ hs=>K25.Uh 0 ns hs
