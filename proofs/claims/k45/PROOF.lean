import PyProof.Rows.All
import Wide.All
import OpenK.AllK
import Wide.FinOn
import Lean
import PyProof.EqAt
import PyProof.EqKinds
import PyProof.TupleCall
import PyProof.Rows.EnumRows
import PyProof.EnumMake
import KE.KIntText
import KE.KEqDict
import PyProof.DictValues
import PyProof.TupleOfGen
import PyProof.CollectIter
import KE.KRevIter
import PyProof.Rows.SumAny
import PyProof.MinMaxWalk
import PyProof.WalkInts
import PyProof.ConsumeS
import PyProof.ExcInit
import PyProof.ExcClass2
import KE.KTryMore
import PySem.Challenge.RW_rowblade_k45_endless_at_its_piece
set_option Elab.async false
set_option linter.all false
set_option maxRecDepth 100000
set_option compiler.extract_closed false
noncomputable section
set_option genSizeOf false
set_option bootstrap.genMatcherCode false
local macro_rules|`(def $x $s:optDeclSig $v:declVal)=>`(noncomputable def $x $s:optDeclSig $v:declVal)
local macro_rules|`(abbrev $x $s:optDeclSig $v:declVal)=>`(noncomputable abbrev $x $s:optDeclSig $v:declVal)
open PySem renaming wpAny_bind->ar,Shared->av,Value->bj,Addr->bt,wpAny->cq,model->cv,Expr->cw,sizeLine->cC,wpAny_pure->dk,Program->dn,World->dv,starEach->dy,FuncData->eh,Around->ek,Heap->ey,wpAny_mono->eC,sizeLine_eq->eJ,mainGlobals->eP,compareOp->eQ,eval->eR,wpAny_Call_Name_kw->ff,codeAny_call_builtin->fu,foldedSetIterable->fv,behindInMarks->fA,swapsWith->fC,treeTable->fE,wpAny_execs_nil->f6,wpAny_call->f7,codeAny_mono->gg,Stmt->gi,wpAny_holding->gE,Scope->gL,mem_of_lookup->hF,wpAny_truthy_bool->hG,wpAny_pyIter_list->hJ,bootBuiltins->hM,codeAny->hW,backTo->hX,assignEach->hZ,OsState->h7,wpAny_passesOwn->ij,sysModules->iq,wpAny_execs_cons->i0,checkBuiltinCall->i4,wpAny_standAt->j1,binaryOp->ka,attributeBase->ke,wpAny_getItem_str_slice->kv,wpAny_loadPart_at->kx,recursionLimit->kz,plainObj_wpAny_Assign_Attribute->lp,cLine->lq,call_meets->me,Within->mq,Params->mr,sliceBounds->mI,keywordEach->mM,codeAny_builtin->mZ,Thread->nr,CmpOp->nz,PassesOwn->nX,tupleKind_room_in1->n2,Operator->n3,wpAny_newObj_type->n6,standAt->n7,holding->n8,excClassObj->oa,plainId_quiet->ox,ExceptHandler->oC,intText?->o5,NameKind->o6,typeLookup->o8,typeIs_str->pa,rawInt->pb,isInstance->pd,Keyword->pq,wpAny_loadPart'->pv,post_val_or_str->pz,letOwnedTupleGo->pB,wpAny_tryCatch->p0,wpAny_of_eq->qx,wpAny_loadPart->qB,unbindBehindTheSuite->q0,subscripted->ra,boundAndCalled->rd,backToKw->ri,noteFrame->rr,argBest->rz,Str->sq,swappedStores->sr,wpAny_Constant_int->sF,typeOf->sG,builtinsNs->sI,assign->sT,wpAny_pyIter_enum->td,valueAt->tf,intItems->th,callerA->tj,GenState->tJ,wpAny_lookBehind->uj,tupleKind->uk,setFlight->uG,pastItsLine_dict->u1,getMethod->u2,wpAny_letGo->vu,wpAny_field->vv,Model->wV,IsRangeIter->xa,wpAny_updateSeq->xp,importedModules->xI,setAttr->y0,leaving->y1,getItem->y3,wpAny_setField->zk,wpAny_seqItems->zv,wpAny_newFunctionEnv_cells->z3,wpAny_Expr_any->z4,isTrue->z5,atKey->z6,wpAny_attempt->Cz,Expr->CS,seqIndex?->E5,cellsFrom->Fv,bindL->Fx,bindC->FC,wpAny_pyNext_range_end->FD,wpAny_pyIter_rangeiter->F7,wpAny_nsSet1->Gf,seqIndex_neg->G2,relabel->He,pyNext->HI,getAttr->HY,Result->Iy,Paired->IH,BindsTo->IZ,wpAny_pyNext_list_end->I0,codeAny_call_function->I_
open PySem.Heap renaming get?_push_of_some->ax,lt_size->b7,get?_push_size->de,get?_update_other->eo,get?_update_self->gs,size_push->kf,get?_none_of_le->ll,SameBut->og,get?_push_at->rS,get?_update_ne->CT
open PySem.W.Fast renaming te10110043849684766642->dA
open PySem.Builtin.Str renaming occurrences->eg,strSliceIndices->f3,strKind->gN
open PySem.Str renaming ofString->et,join->vd,empty->y6
open False renaming elim->eI
open Ne renaming symm->eL
open ForInStep renaming yield->fX
open Array renaming length_toList->f5,getElem?_toList->oP,toList->yF,find?_toList->DK
open True renaming intro->gf
open PySem.Value renaming builtin->gV,none->hQ,type->n4,bool->pM,float->z7
open PySem.Builtin.Builtins renaming bindParams->hB
open PySem.Flow renaming next->hV
open PySem.Builtin.Int renaming intBits->h9
open PySem.Builtin.Range renaming rangeSize->ip,small->tc
open PySem.W renaming looks_pair->iv,segRun_of->i1,piece_app->i3,piecesOf->kA,looks_findIn->kS,SharedT->mB,segRunT->nL,boot_heap->o4,findIn->pf,looks_mroIn->rb,Looks->sx,hideAll->ti,any_some->tm,hideAll_get->vy,Frag->C9,emptyDict->Fc
open PySem.F renaming plainAttrs_list->ix,type_list_append->tq,slot_list_append->tu,type_str_split->vh,slot_str_split->vi,plainAttrs_str->vk,type_list_pop->wk,slot_list_pop->wq
open PySem.Obj renaming mapFields->i5,mapSeq->ro,data_mapFields->rp,isFreed_of_fields->Aj
open PySem.StrLaws renaming sliceText->jo,subAt_eq->kl
open PyProof.Rows renaming AllBare->lb,envOfC->va,subscriptTail->CC,subscriptTail_builtinR->GZ,IntsAre->IU
open PySem.Builtin.List renaming listTooLong->lD
open PySem.Code renaming quiet_builtin->mN,isFrame->y8
open PySem.SeqAt renaming EqAt->n5
open PySem.Around renaming under_plainId->oT,under->xi,frames_deeper->zi
open PySem.W.Looks renaming ld->o7
open PySem.Txt renaming startswith->pk,slice_le->rX,endswith->r0,find->vb,slice->y4
open Sum renaming inr->sb,inl->si
open PySem.Calls renaming Name_function_global->ui,callWith_builtin->yB
open PyProof renaming noPylong_small->vl
open PySem.EntryCells renaming newEntry->vr
open PySem.SeqAt.EqAt renaming str_int->vT,int_str->wh
open PySem.Heap.IsList renaming push->yA
open PySem.Heap.Ns1 renaming of_empty->Ae
open PySem.Builtin.ObjectAttr renaming find->Jn,dataDescriptor?->JB
def bp:=@if_neg
def bU:=@if_pos
def b0:=@decide_eq_false
def c3:=@of_decide_eq_true
def c4:=@decide_eq_true
def ec:=@decide_eq_true_eq
def ef:=@absurd
def ej:=@congrArg
def ew:=@congrFun
def ma:=@or_false
def oy:=@decide_eq_true_iff
def pF:=@beq_self_eq_true
def s9:=@if_true
def xW:=@if_false
def H9:=@beq_iff_eq
open Option renaming some->U,none->Y
open Bool renaming true->O,false->Zc
theorem J.{u}{α:Sort u}{a:α}:a=a:=rfl
abbrev Ap:=List<|List Nat
abbrev B1:=List Nat
abbrev B2:=List PySem.Value
abbrev Bi:=List sq
abbrev Bz:=List CS
abbrev BM:=List PySem.Addr
abbrev D1:=Option PySem.Value
abbrev D2:=Option Int
abbrev Dx:=List Int
abbrev Ee:=List PySem.Stmt
abbrev Fh:=List Bool
namespace Z0
end Z0
open PySem.W renaming Frag->bq,findIn->eY,keepIn->lJ,nsIn->mS,kitOne->nT,kia_one->nU,emptyDict->rL,instObj->uJ,isFn->Cb,mroIn->Cc,fnOf->Cd,plainGet->DT,hasDictIn->DU,makesIn->DV,callWith_K->DW,lookIn->zr,specialIn->zt,takesIn->zu,callWith_K0->zw,methodCall_KW->zx,methodObj->DX,plainGet_of->DY,plainOver->DZ,takerIn->D0,any_some->D3,Looks->D4,codeIn->D5,kitAny->D6,exmOne->D7,handedIn->My,kitx_list->Mz,kitx_dict->MA,kitx_own->MB,cellsFrom_some->MC,callWith_of->MD,Dflts->ME
open Nat renaming le_trans->bG,le_refl->cV,le_add_right->bD,lt_of_lt_of_le->dN,ne_of_lt->dO,zero_le->jc,lt_of_le_of_lt->jd,lt_succ_self->mT,sub_self->nV,lt_irrefl->qp,le_of_eq->qq,succ->rM,le_add_left->uK,min_eq_left->uL,ne_of_gt->xS,add_le_add_right->xT,le_succ->Ce,sub_le->uM,le_of_lt->zy,le_of_not_lt->zE,add_sub_cancel_left->zF,le_of_not_le->zG,add_comm->D8,min_self->D9,zero_add->D_,sub_lt_sub_left->Ea,sub_zero->Eb,zero_sub->Ec,min_eq_right->Ed,succ_mul->MF,lt_succ_of_lt->MG,le_antisymm->MH,not_lt_zero->MI,lt_of_succ_lt_succ->MJ,add_right_comm->ML,not_succ_le_zero->MM,le_of_succ_le_succ->MN
open Option renaming bind_eq_some_iff->bM,map_eq_some_iff->ck,some->kF,ite_none_right_eq_some->nW,isSome_iff_exists->Ef,isSome_map->Eg,getD_none->MO,none->MP,bind_some->MQ,map_some->MR
open List renaming length_map->cz,length_append->cQ,length_cons->dM,mem_cons_of_mem->ee,mem_cons_self->eO,append_nil->bF,getElem?_eq_some_iff->bK,replicate->bL,mem_cons->cu,range->cK,getElem?_set_ne->cW,size_toArray->cZ,getElem?_eq_getElem->c5,getElem?_set_self->dG,map_append->eF,length_set->eT,getElem?_append_right->eZ,all_cons->e7,map_cons->fq,append_assoc->fB,prefix_rfl->fD,lookup->fP,getElem?_map->fQ,mem_of_getElem?->gz,map_map->gM,getElem?_append_left->gY,getD_eq_getElem?_getD->gZ,mem_singleton->iF,all_eq_true->iG,mem_append->i6,mem_map->je,mem_range->jL,lookup_cons->jZ,length_replicate->kG,length_drop->kH,nil_append->lK,flatten->lL,mem_append_right->mU,isEmpty_iff->mV,nodup_cons->nY,not_mem_nil->nZ,length_nil->qt,zip_cons_cons->qu,length_take->rN,any_cons->rO,replicate_succ->rP,flatten_cons->rQ,length_range->rR,drop_eq_getElem_cons->rT,foldl_cons->uN,map_congr_left->uO,cons_append->uP,set->uQ,range'->uR,getElem?_replicate->xU,map_take->xV,length->Cf,length_singleton->Cg,find?_cons->Ci,length_zip->Cj,any_map->uS,map->uT,ext_getElem?->uU,drop_zero->uV,take_succ_cons->uW,mem_append_left->zH,mem_filterMap->zJ,of_mem_zip->zK,map_nil->zL,forIn_cons->zM,getElem?_range->zN,range_succ_eq_map->zP,getElem?_eq_none->zQ,take_of_length_le->zR,prefix_append->zS,contains_iff_mem->zT,foldl_append->zU,length_range'->zV,drop_of_length_le->zW,filterMap_cons->Eh,foldl->Ei,any_eq_true->Ej,map_drop->Ek,drop_length->El,reverse_cons->Em,length_reverse->En,drop_left->Eo,take->Ep,flatten_append->Er,getElem_mem->Es,mem_filter->MS,eraseIdxIfInBounds_toArray->MT,all_map->MU,take_append_drop->MV,idxOf?->MW,findIdx?_eq_some_iff_getElem->MX,zip_nil_right->MY,length_eq_zero_iff->MZ,nodup_append->M0,dropLast_eq_take->M1,set_comm->M3,Pairwise->M4,range'_succ->M5,map_id'->M6,map_replicate->M7,foldl_map->M8,flatMap_append->M9,take_eq_take_iff->M_,mem_of_mem_take->Na,set_append_right->Nb,drop_drop->Nc,take_take->Nd,mem_range'->Nf,take_nil->Ng
open Bool renaming and_eq_true->cL,false_ne_true->dw,and_eq_true_iff->zX,eq_iff_iff->zY,true_and->zZ,false_eq_true->z8,false_and->Et,eq_false_iff->Eu,not_eq_true'->Ew,or_eq_true->Ey,not_true->Ez,and_false->Nh,and_true->Ni,eq_false_or_eq_true->Nj,not_false->Nk
open Int renaming ofNat->mW,toNat_natCast->uX,zero_add->z9,add_zero->EA,emod_nonneg->Nl,emod_lt_of_pos->Nm
open PyProof.Rows renaming callWith_type1->Cm,boot_list->uY,boot_isinstance->uZ,envOfC->EB,recsOf->Nn,drecsOf->Np,boot_enumerate->Nq,evalArgs_kw2->Nr,boot_int->Nt
namespace Z1
end Z1
abbrev dD:=List<|PySem.Addr×PySem.Obj
abbrev bA(x:sq):Prop:=(x == ("__debug__":sq))=Zc
abbrev fF(x:sq):Prop:=(x == ("__classdict__":sq))=Zc
abbrev Kk:=PySem.Value->PySem.Shared->Prop
abbrev Kt:=Unit->PySem.Shared->Prop
abbrev L9:String:="BaseException.__getattribute__"
abbrev Md:String:="object.__class__"
open List renaming length->Mo
namespace L2
open PySem PySem.Spec PyProof.Rows
abbrev Key:=Sum Int Str
def qL:Key->bj->Bool
 |.inl k,v=>Value.isInt k v
 |.inr x,v=>Value.isStrOf x v
def ZN(w:dv):Key->Int
 |.inl k=>hashInt k
 |.inr x=>hashStr w x
def cH:∀{k:Key}{v:bj},qL k v=O->(∃i t,k=si i/\v=Value.int i t)\/(∃x t,k=sb x/\v=Value.str x t)
 |.inl i,v,h=>by
  obtain⟨t,e⟩:=Value.isInt_shape (k:=i) (v:=v) h;exact .inl ⟨i,t,J,e⟩
 |.inr x,v,h=>by
  obtain⟨t,e⟩:=Value.isStrOf_shape (x:=x) (v:=v) h;exact .inr ⟨x,t,J,e⟩
def Cn(i:Int)(t:Tok):qL (.inl i) (.int i t)=O:=by simp[qL,Value.isInt]
def Co(x:Str)(t:Tok):qL (.inr x) (.str x t)=O:=by simp[qL,Value.isStrOf]
def OS(a b:Int):decide ((si a:Key)=si b)=(a == b):=by
 by_cases e:a=b
 .subst e;simp
 .have h:¬ (si a:Key)=si b:=λq=>e<|Sum.inl.inj q
  rw[b0 h];exact(beq_eq_false_iff_ne.mpr e).symm
def OT(a b:Str):decide ((sb a:Key)=sb b)=decide (a=b):=by
 by_cases e:a=b
 .subst e;simp
 .have h:¬ (sb a:Key)=sb b:=λq=>e<|Sum.inr.inj q
  rw[b0 h,b0 e]
def OU(a:Int)(b:Str):decide ((si a:Key)=sb b)=Zc:=b0 (λq=>nomatch q)
def OV(a:Str)(b:Int):decide ((sb a:Key)=si b)=Zc:=b0 (λq=>nomatch q)
def dc(prog:dn)(w:dv):PySem.KeyKind prog w Key where
 is:=qL
 hash:=ZN w
 inj:=λv a b g d=>by
  rcases cH g with⟨i,t,rfl,rfl⟩|⟨x,t,rfl,rfl⟩
  .rcases cH d with⟨j,u,rfl,e⟩|⟨y,u,rfl,e⟩
   .injection e with e1 _;rw[e1]
   .exact nomatch e
  .rcases cH d with⟨j,u,rfl,e⟩|⟨y,u,rfl,e⟩
   .exact nomatch e
   .injection e with e1 _;rw[e1]
 byValue:=λk v h=>by
  rcases cH h with⟨i,t,rfl,rfl⟩|⟨x,t,rfl,rfl⟩<;>rfl
 pyHash:=λc h=>by
  rcases cH c with⟨i,t,rfl,rfl⟩|⟨x,t,rfl,rfl⟩
  .exact wpAny_pyHash_int h
  .exact wpAny_pyHash_str h
 eqBool:=λf c h=>by
  rcases cH f with⟨i,t,rfl,rfl⟩|⟨x,t,rfl,rfl⟩
  .rcases cH c with⟨j,u,rfl,rfl⟩|⟨y,u,rfl,rfl⟩
   .rw[OS]at h;exact wpAny_eqBool_int h
   .rw[OU]at h;exact wh i t y u _ _ _ _ h
  .rcases cH c with⟨j,u,rfl,rfl⟩|⟨y,u,rfl,rfl⟩
   .rw[OV]at h;exact vT x t j u _ _ _ _ h
   .rw[OT]at h;exact wpAny_eqBool_str h
 «strs»:=λk x t v h=>by
  rcases cH h with⟨i,u,rfl,e⟩|⟨y,u,rfl,e⟩
  .exact nomatch e
  .injection e with e1 _
   subst e1;cases v<;>rfl
def u0(prog:dn)(w:dv)(i:Int)(t:Tok):(dc prog w).is (.inl i) (.int i t)=O:=Cn i t
def u3(prog:dn)(w:dv)(x:Str)(t:Tok):(dc prog w).is (.inr x) (.str x t)=O:=Co x t
inductive V where
 |non|bl (b:Bool)|int (i:Int)|str (x:Str)|byt (b:Array UInt8)|flt (b:UInt64)|ref (a:bt)|ty (n:String)
 deriving DecidableEq
def RelV:V->bj->Prop
 |.non,u=>u=hQ
 |.bl b,u=>u=pM b
 |.int i,u=>∃t,u=Value.int i t
 |.str x,u=>∃t,u=Value.str x t
 |.byt b,u=>∃t,u=Value.bytes b t
 |.flt b,u=>∃t,u=z7 b t
 |.ref a,u=>u=Value.ref a
 |.ty n,u=>u=n4 n
abbrev Vals:List V->B2->Prop:=IH RelV
theorem Vals.length(r:Vals xs us):xs.length=us.length:=Paired.length r
theorem Vals.get:∀{xs:List V}{us:B2}{i:Nat}{x:V},Vals xs us->xs[i]?=U x->∃u,us[i]?=U u/\RelV x u
 |_,_,_,_,.nil,e=>by simp at e
 |_,_,0,_,.cons r _,e=>by simp at e;subst e;exact⟨_,J,r⟩
 |_,_,i+1,x,.cons _ t,e=>by
  obtain⟨u,b,a⟩:=Vals.get (i:=i) (x:=x) t (by simpa using e)
  exact⟨u,by simpa using b,a⟩
theorem Vals.set(r:RelV x u):∀{xs:List V}{us:B2}(i:Nat),Vals xs us->Vals (xs.set i x) (us.set i u)
 |_,_,_,.nil=>.nil
 |_,_,0,.cons _ t=>.cons r t
 |_,_,i+1,.cons q t=>.cons q<|Vals.set r i t
theorem Vals.append:∀{xs ys:List V}{us a:B2},Vals xs us->Vals ys a->Vals (xs++ys) (us++a)
 |_,_,_,_,.nil,s=>s
 |_,_,_,_,.cons r t,s=>.cons r<|Vals.append t s
theorem Vals.take:∀{xs:List V}{us:B2}(n:Nat),Vals xs us->Vals (xs.take n) (us.take n)
 |_,_,0,_=>.nil
 |_,_,_+1,.nil=>.nil
 |_,_,n+1,.cons r t=>.cons r<|Vals.take n t
theorem Vals.drop:∀{xs:List V}{us:B2}(n:Nat),Vals xs us->Vals (xs.drop n) (us.drop n)
 |_,_,0,r=>r
 |_,_,_+1,.nil=>.nil
 |_,_,n+1,.cons _ t=>Vals.drop n t
def g_:Option V->D1->Prop
 |some v,some u=>RelV v u
 |none,none=>True
 |_,_=>False
def KV{a:Type}:List (a×V)->List (a×bj)->Prop:=IH λ(p:a×V) (q:a×bj)=>p.1=q.1/\RelV p.2 q.2
def kV:Key->V
 |.inl i=>.int i
 |.inr x=>.str x
inductive HO where
 |lst (xs:List V)
 |tup (xs:List V)
 |dK (aW:List<|Key×V)|dT (aW:List<|List Key×V)
 |set (S:Int->Bool) (n:Nat)
 |ins (C dx:bt) (fs:List<|Str×V)
 |own (x:bt)
 |xd (fs:List<|Str×V)
 |met (f x:bt)
 |mz (lo hi:Int)
 |jf (o:Obj) (u:HO)
 |tbl (ps:Array bj)
 |ext (φ:ey->Prop)
abbrev Hp:=bt->Option HO
def upd(H:Hp)(a:bt)(o:HO):Hp:=λb=>if b=a then U o else H b
def ai:upd H a o a=U o:=by unfold upd;rw[bU J]
def ak(h:b≠a):upd H a o b=H b:=by unfold upd;rw[bp h]
def z_:upd (upd H a o) a u=upd H a u:=by
 funext b;unfold upd;split<;>rfl
def Uo{H:Hp}(h:H a=U o)(h':H b=U u)(d:o≠u):a≠b:=by
 intro e;subst e;rw[h]at h';exact d<|kF.inj h'
def aK{H:Hp}(h:H a=U o)(h':H b=Y):a≠b:=by
 intro e;subst e;rw[h]at h';cases h'
section
variable(P:dn)(w:dv)
def cj(H:Hp)(h:ey)(a:bt):HO->Prop
 |.lst c=>c.length<=cC/\∃(b:B2)(n:Nat),Vals c b/\h.get? a=U {cls:=.type "list",data:=.seq b.toArray n}
 |.tup c=>c.length<=cC/\∃b:B2,Vals c b/\IsTup h a b.toArray
 |.dK e=>e.length<=cC/\(a == iq)=Zc/\∃j,KV e j/\h.DictOf (dc P w) a j
 |.dT e=>e.length<=cC/\(a == iq)=Zc/\∃c:List (List Key×bt×bj),
   IH (λ(p:List Key×V) (q:List Key×bt×bj)=>p.1=q.1/\H q.2.1=U (.tup<|p.1.map kV)/\RelV p.2 q.2.2) e c /\
   ∃o es r,h.get? a=U o/\o.ExactDict/\o.data=.dict es r/\es.toList=c.map (entryOfKey<|uk<|dc P w)/\(c.map (·.1)).Nodup
 |.set S n=>h.SetOf (intKind P w) a S n
 |.ins C g fs=>H g=U (.own a)/\fs.length<=1000/\g≠a/\h.get? a=U (uJ C g) /\
   ∃d,h.Ns1 g d/\(∀f,g_ (fs.lookup f)<|d f)/\mq d (fs.map (·.1))
 |.own _=>∃o,h.get? a=U o
 |.xd fs=>∃d,h.Ns1 a d/\∀f,g_ (fs.lookup f)<|d f
 |.mz lo m=>∃t u v,h.get? a=U {cls:=.type "range",data:=.fields #[.int lo t,.int m u,.int 1 v]}
 |.jf o u=>h.get? a=U o/\cj H h a u
 |.tbl ps=>h.get? a=U {cls:=.none,data:=.fields ps}
 |.met f x=>h.get? a=U (DX (.ref f)<|.ref x)
 |.ext i=>i h/\(∃o,h.get? a=U o)/\∀l k:ey,i l->(∀o,l.get? a=U o->k.get? a=U o)->i k
def j0(H:Hp)(h:ey):Prop:=∀a o,H a=U o->cj P w H h a o
end
variable{C a dx f x:bt}{A:ek}{b e o:cw}{h h':ey}{H H':Hp}{aa:dD}{es:Bz}{p pos:Pos}{P:dn}{s:av}{E:Kk}{w:dv}
section
variable{o:HO}
theorem cj.lt(x:cj P w H h a o):a<h.objs.size:=by
 cases o with
 |lst b=>obtain⟨_,_,_,_,e⟩:=x;exact b7 e
 |tup b=>obtain⟨_,_,_,p⟩:=x;exact p.lt
 |dK c=>obtain⟨_,_,_,_,o,_,_,e,_⟩:=x;exact b7 e
 |dT c=>obtain⟨_,_,_,_,o,_,_,e,_⟩:=x;exact b7 e
 |set S n=>obtain⟨o,_,_,_,e,_⟩:=x;exact b7 e
 |ins C dx fs=>obtain⟨_,_,_,e,_⟩:=x;exact b7 e
 |own y=>obtain⟨_,e⟩:=x;exact b7 e
 |xd fs=>obtain⟨_,⟨_,_,_,e,_⟩,_⟩:=x;exact b7 e
 |mz lo g=>obtain⟨_,_,_,e⟩:=x;exact b7 e
 |jf ob u=>obtain⟨e,_⟩:=x;exact b7 e
 |tbl ps=>exact b7<|show h.get? a=U _ from x
 |met f y=>exact b7<|show h.get? a=U _ from x
 |ext d=>obtain⟨_,⟨_,e⟩,_⟩:=x;exact b7 e
theorem Paired.OW{α e:Type}{F G:α->e->Prop}:∀{d:List α}{c:List e},IH F d c->(∀a b,F a b->G a b)->IH G d c
 |_,_,.nil,_=>.nil
 |_,_,.cons r t,f=>.cons (f _ _ r)<|Paired.OW t f
def cj.n_(x:cj P w H h a o)(k:∀b u,(b=a\/H b=U (.own a))->h.get? b=U u->h'.get? b=U u)
  (A:∀b,H b=U (.own a)->H' b=U (.own a)) (s:∀b xs,H b=U (.tup xs)->H' b=U (.tup xs)):cj P w H' h' a o:=by
 induction o with
 |lst xs=>obtain⟨z,i,n,r,e⟩:=x;exact⟨z,i,n,r,k _ _ (.inl J) e⟩
 |tup xs=>obtain⟨z,i,r,ob,e,c⟩:=x;exact⟨z,i,r,ob,k _ _ (.inl J) e,c⟩
 |dK D=>obtain⟨z,y,l,r,ob,es,g,e,c⟩:=x;exact⟨z,y,l,r,ob,es,g,k _ _ (.inl J) e,c⟩
 |dT D=>
  obtain⟨z,y,xs,r,ob,es,g,e,c⟩:=x;exact⟨z,y,xs,Paired.OW r λp q z=>⟨z.1,s _ _ z.2.1,z.2.2⟩,ob,es,g,k _ _ (.inl J) e,c⟩
 |set S n=>obtain⟨ob,es,g,t,e,c⟩:=x;exact⟨ob,es,g,t,k _ _ (.inl J) e,c⟩
 |ins C dx fs=>
  obtain⟨d,z,ne,e,j,⟨od,es,g,B,c⟩,r⟩:=x;exact⟨A _ d,z,ne,k _ _ (.inl J) e,j,⟨od,es,g,k _ _ (.inr d) B,c⟩,r⟩
 |own y=>obtain⟨ob,e⟩:=x;exact⟨ob,k _ _ (.inl J) e⟩
 |xd fs=>obtain⟨j,⟨od,es,g,e,c⟩,r⟩:=x;exact⟨j,⟨od,es,g,k _ _ (.inl J) e,c⟩,r⟩
 |mz lo F=>obtain⟨t,u,v,e⟩:=x;exact⟨t,u,v,k _ _ (.inl J) e⟩
 |jf ob u m=>obtain⟨e,q⟩:=x;exact⟨k _ _ (.inl J) e,m q⟩
 |tbl ps=>
  have e:h.get? a=U {cls:=.none,data:=.fields ps}:=x;show h'.get? a=U {cls:=.none,data:=.fields ps};exact k a _ (.inl J) e
 |met f y=>
  have e:h.get? a=U (DX (.ref f)<|.ref y):=x;show h'.get? a=U (DX (.ref f)<|.ref y);exact k a _ (.inl J) e
 |ext E=>obtain⟨p,⟨o,e⟩,st⟩:=x;exact⟨st _ _ p λo q=>k _ _ (.inl J) q,⟨o,k _ _ (.inl J) e⟩,st⟩
theorem j0.lt(x:j0 P w H h)(e:H a=U o):a<h.objs.size:=(x a o e).lt
def j0.fresh(x:j0 P w H h)(e:h.objs.size<=a):H a=Y:=by
 cases q:H a with
 |none=>rfl
 |some u=>exact ef (dN (x.lt q) e)<|qp _
def j0.kept(x:j0 P w H h)(k:∀b u,h.get? b=U u->h'.get? b=U u):j0 P w H h':=λa o e=>
 (x a o e).n_ (λb u _ q=>k b u q) (λ_ q=>q) λ_ _ q=>q
def j0.laid(x:j0 P w H h)(k:∀b u,h.get? b=U u->h'.get? b=U u)(f:h.objs.size<=a)(new:cj P w (upd H a o) h' a o):j0 P w (upd H a o) h':=λb u e=>by
 have d:=x.fresh f;by_cases hb:b=a
 .subst hb;rw[ai]at e;cases e;exact new
 .rw[ak hb]at e
  exact(x b u e).n_ (λc v _ q=>k c v q) (λc q=>by rw[ak<|aK q d];exact q) λc g q=>by rw[ak<|aK q d];exact q
end
def Rd(H:Hp)(a:bt)(u:HO):Prop:=H a=U u\/∃o,H a=U (.jf o u)
def Rd.ok(r:Rd H a u)(x:j0 P w H h):cj P w H h a u:=by
 rcases r with r|⟨o,r⟩
 .exact x a u r
 .obtain⟨_,q⟩:=x a _ r
  exact q
def Up:Option HO->Prop
 |U<|.lst _=>True
 |U<|.dK _=>True
 |U<|.dT _=>True
 |U<|.set _ _=>True
 |U<|.ins _ _ _=>True
 |U<|.ext _=>True
 |_=>False
section
variable{e:bt}
def j0.write(ok:j0 P w H h)(mu:Up<|H x)(he:e=x\/H e=U (.own x))(k:∀b u,b≠e->h.get? b=U u->h'.get? b=U u)(i:∃u,h'.get? e=U u)
  (new:cj P w (upd H x j) h' x j):j0 P w (upd H x j) h':=λb u q=>by
 have Uq:∀c y,H c=U (.own y)->c≠x:=λc y r z=>by subst z;rw[r]at mu;exact mu
 have ZO:∀c a,H c=U (.tup a)->c≠x:=λc a r z=>by subst z;rw[r]at mu;exact mu
 by_cases hb:b=x
 .subst hb;rw[ai]at q;cases q;exact new
 .rw[ak hb]at q
  by_cases hbe:b=e
  .have f:H b=U (.own x):=by
    rcases he with z|z
    .exact ef (hbe.trans z) hb
    .rw[hbe];exact z
   rw[q]at f;cases f;obtain⟨v,g⟩:=i;exact⟨v,by rw[hbe];exact g⟩
  .refine(ok b u q).n_ (λc v d r=>k c v ?_ r) (λc r=>by rw[ak<|Uq c b r];exact r) λc a r=>by rw[ak<|ZO c a r];exact r
   rcases d with rfl|d
   .exact hbe
   .rintro rfl
    rcases he with z|z
    .exact Uq c b d z
    .rw[d]at z;cases z;exact hb J
end
structure Un(fs ex:BM)(H H':Hp)(h h':ey):Prop where
 keep:∀b o,h.get? b=U o->H b=Y->b∉fs->b∉ex->h'.get? b=U o
 slot:∀b o,h.get? b=U o->H b=Y->b∈fs->b∉ex->∃sl,h'.get? b=U {o with slots:=sl}
 free:∀b o,h.get? b=U o->H b=Y->b∉ex->H' b=Y
 there:∀b o,h.get? b=U o->b∉ex->∃o',h'.get? b=U o'
 mX:∀b xs,H b=U (.tup xs)->H' b=U (.tup xs)
 lM:∀b o u,H b=U (.jf o u)->H' b=U (.jf o u)
 mY:∀b ps,H b=U (.tbl ps)->∃more,H' b=U (.tbl<|ps++more)
section
variable{e:bt}{o:HO}
def Un.any(u:Un fs ex H H1 h j){b:bt}(q:h.get? b=U ob)(n:H b=Y)(a:b∉ex):∃sl,j.get? b=U {ob with slots:=sl}:=by
 by_cases hb:b∈fs
 .exact u.slot b ob q n hb a
 .exact⟨ob.slots,u.keep b ob q n hb a⟩
def Un.kept(k:∀b u,h.get? b=U u->h'.get? b=U u):Un fs ex H H h h':=
 ⟨λb ob q _ _ _=>k b ob q,λb ob q _ _ _=>⟨ob.slots,k b ob q⟩,λ_ _ _ n _=>n,λb ob q _=>⟨ob,k b ob q⟩,λ_ _ q=>q,λ_ _ _ q=>q,λ_ ps q=>⟨#[],by rw[q];simp⟩⟩
def Un.refl:Un fs ex H H h h:=Un.kept λ_ _ q=>q
def Un.laid(k:∀b u,h.get? b=U u->h'.get? b=U u)(e:h.objs.size<=a)(c:H a=Y):Un fs ex H (upd H a o) h h' where
 keep:=λb u q _ _ _=>k b u q
 slot:=λb u q _ _ _=>⟨u.slots,k b u q⟩
 free:=λb u q n _=>by rw[ak<|dO<|dN (b7 q) e];exact n
 there:=λb u q _=>⟨u,k b u q⟩
 mX:=λb d q=>by rw[ak<|aK q c];exact q
 lM:=λb u d q=>by rw[ak<|aK q c];exact q
 mY:=λb ps q=>⟨#[],by rw[ak<|aK q c,q];simp⟩
def Un.write(mu:Up<|H x)(he:e=x\/H e=U (.own x))(k:∀b u,b≠e->h.get? b=U u->h'.get? b=U u)(i:∃u,h'.get? e=U u):Un fs ex H (upd H x o) h h':=by
 have c:∀b,H b=Y->b≠x:=λb n z=>by subst z;rw[n]at mu;exact mu
 have d:∀b,H b=Y->b≠e:=λb n z=>by
  subst z;rcases he with r|r
  .exact c b n r
  .rw[n]at r;cases r
 have a:∀b u,H b=U u->¬ Up (U u)->b≠x:=λb u q g z=>by subst z;rw[q]at mu;exact g mu
 refine⟨λb u q n _ _=>k b u (d b n) q,λb u q n _ _=>⟨u.slots,k b u (d b n) q⟩,λb u q n _=>by rw[ak<|c b n];exact n,λb u q _=>?_,
  λb f q=>by rw[ak<|a b _ q λz=>z];exact q,λb u f q=>by rw[ak<|a b _ q λz=>z];exact q,λb ps q=>⟨#[],by rw[ak<|a b _ q λz=>z,q];simp⟩⟩
 by_cases hbe:b=e
 .subst hbe;exact i
 .exact⟨u,k b u hbe q⟩
end
def IS(h:ey)(H:Hp):BM:=(cK h.objs.size).filter λa=>(H a).isSome
def rV(h:ey)(H:Hp):ey:=PySem.W.hideAll h<|IS h H
def Cp(h:ey)(H:Hp):(rV h H).objs.size=h.objs.size:=PySem.W.hideAll_size _ _
def EC{b:bt}{o:Obj}(e:h.get? b=U o)(n:H b=Y):(rV h H).get? b=U o:=
 PySem.W.hideAll_get _ e λa=>by
  have q:(H b).isSome=O:=(MS.mp a).2;rw[n]at q;simp at q
def Jm{b:bt}{o:Obj}(e:(rV h H).get? b=U o):h.get? b=U o/\H b=Y:=by
 have a:h.get? b=U o:=PySem.W.of_hideAll (IS h H) e;refine⟨a,?_⟩;cases q:H b with
 |none=>rfl
 |some x=>
  have c:b∈IS h H:=MS.mpr ⟨jL.mpr<|b7 a,by simp[q]⟩
  have z:(rV h H).get? b=Y:=PySem.W.hideAll_none (IS h H) c;rw[z]at e;cases e
def Jo(g h:ey)(L:bt):dD:=(cK h.objs.size).filterMap λa=>if a=L\/(g.get? a).isSome=O then Y else(h.get? a).map λo=>(a,o)
def rest(g h:ey)(L d:bt):dD:=(Jo g h L).filter λp=>decide<|p.1≠d
structure Mod(K:bq)(mg:Str->D1)(base:ey):Prop where
 kin:K.In base
 glob:base.Ns eP mg
 blt:∃mb,base.Ns sI mb/\∀x:Str,x ≠ "__name__" -> mb x=hM x
 nolimit:base.NoLimit
structure Cx where
 prog:dn
 w:dv
 K:bq
 mg:Str->D1
 base:ey
 A:ek
 N:Bi
 s₀:av
 H₀:Hp
 env:Env
 outer:List Env
 stack:List Env
 ex:BM
 fn:Str->Bool
 calm:Bool
 pn:dD
 xe:Kk
def nG(l:List Env):BM:=l.filterMap (·.frame)
abbrev Cx.fs(X:Cx):BM:=nG X.outer
def kI(sc:gL)(x:Str):Prop:=sc.names.lookup x=U .local\/sc.names.lookup x=U .cell\/sc.names.lookup x=U .free
def Loc(sc:gL)(x:Str):Prop:=sc.names.lookup x=U .local\/sc.names.lookup x=U .cell
def Look(env:Env)(h:ey)(m:Str->D1)(x:Str)(u:bj):Prop:=
 (env.kindOf x=U .local/\m x=U u)\/((env.kindOf x=U .cell\/env.kindOf x=U .free)/\∃c,env.cells.lookup x=U c/\h.IsCell c (U u))
structure Cx.Ok(X:Cx):Prop where
 mod:Mod X.K X.mg X.base
 kind:X.env.scope.kind=.function
 glob:X.env.globals=eP
 blt:X.env.builtins=sI
 above:X.s₀.heap.objs.size<=X.env.locals
 inj:∀x y c,X.env.cells.lookup x=U c->X.env.cells.lookup y=U c->x=y
 has:∀x,(X.env.kindOf x=U .cell\/X.env.kindOf x=U .free)->∃c,X.env.cells.lookup x=U c
 cab:∀x c,X.fn x=O->X.env.cells.lookup x=U c->X.s₀.heap.objs.size<=c
 hd:X.calm=O->X.A.handled=Y
 frames:X.A.frames=U X.stack
 stk:X.stack=X.outer\/(X.stack=X.env::X.outer/\X.env.frame=U X.env.locals)
 exf:∀b∈X.ex,b≠X.env.locals/\∀x c,X.env.cells.lookup x=U c->c≠b
 bs:∀b o,X.base.get? b=U o->X.s₀.heap.get? b=U o/\X.H₀ b=Y
 bsz:X.base.objs.size<=X.s₀.heap.objs.size
 noex:∀b o,X.base.get? b=U o->b∉X.ex
 exfs:∀b∈X.ex,b∉X.fs
 j3:X.s₀.heap.FunFrames X.base X.outer
 frf:∀b∈X.fs,X.H₀ b=Y
structure Inv(X:Cx)(aa:dD)(σ:List<|Option V)(H:Hp)(s:av):Prop where
 ok:X.Ok
 os:s.os=X.s₀.os
 bare:lb s.gens
 base:Un X.fs X.ex X.H₀ H X.s₀.heap s.heap
 loc:∃m,s.heap.Ns X.env.locals m/\∀(i:Nat)(x:Str)(v:V),X.N[i]?=U x->σ[i]?=U (U v)->kI X.env.scope x->∃u,RelV v u/\Look X.env s.heap m x u
 cell:∀x c,X.env.cells.lookup x=U c->∃v,s.heap.IsCell c v
 free:H X.env.locals=Y
 freeC:∀x c,X.env.cells.lookup x=U c->H c=Y
 pin:∀p∈X.pn++aa,s.heap.get? p.1=U p.2/\H p.1=Y/\p.1≠X.env.locals/\p.1∉X.fs/\∀v,p.2.data≠.cell v
 bC:j0 X.prog X.w H s.heap
 len:σ.length=X.N.length
section
variable{X:Cx}
def Cx.Ok.ZP(ok:X.Ok){b:bt}{o:Obj}(e:X.base.get? b=U o):b∉X.fs:=λa=>by
 have:=(ok.j3.mem a).1
 rw[e]at this;cases this
theorem Inv.bs(I:Inv X aa σ H s):∀b o,X.base.get? b=U o->s.heap.get? b=U o/\H b=Y:=λb o e=>
 ⟨I.base.keep b o (I.ok.bs b o e).1 (I.ok.bs b o e).2 (I.ok.ZP e)<|I.ok.noex b o e,I.base.free b o (I.ok.bs b o e).1 (I.ok.bs b o e).2<|I.ok.noex b o e⟩
def Inv.bk(I:Inv X aa σ H s):∀b o,X.base.get? b=U o->s.heap.get? b=U o:=λb o e=>(I.bs b o e).1
theorem Inv.mod(I:Inv X aa σ H s):Mod X.K X.mg X.base:=I.ok.mod
def Inv.iE(I:Inv X aa σ H s):X.K.In s.heap:=I.ok.mod.kin.keeps I.bk
theorem Inv.lt(I:Inv X aa σ H s):X.env.locals<s.heap.objs.size:=let⟨_,hn,_⟩:=I.loc;hn.lt
def Inv.sz(I:Inv X aa σ H s):X.s₀.heap.objs.size<=s.heap.objs.size:=bG I.ok.above<|zy I.lt
def Inv.ZQ(I:Inv X aa σ H s)(h:s.heap.objs.size<=a):a∉X.fs:=λc=>by
 obtain⟨_,o,b,_⟩:=I.ok.j3.mem c;exact ef (dN (b7 b)<|bG I.sz h)<|qp _
def Inv.Jp(I:Inv X aa σ H s):∀x c,X.env.cells.lookup x=U c->c≠X.env.locals:=λx c e z=>by
 obtain⟨v,o,a,hd⟩:=I.cell x c e;obtain⟨m,⟨f,es,g,b,d,_⟩,_⟩:=I.loc;rw[z,b]at a;cases a;rw[d]at hd;cases hd
theorem Inv.j3(I:Inv X aa σ H s):s.heap.FunFrames X.base X.outer:=by
 have all:∀(l:List Env),(∀b∈nG l,b∈X.fs)->X.s₀.heap.FunFrames X.base l->s.heap.FunFrames X.base l:=by
  intro l
  induction l with
  |nil=>intro _ _;trivial
  |cons env r g=>
   intro f hl;obtain⟨j,⟨L,o,a,i,h,hd⟩,hr⟩:=hl;have d:L∈X.fs:=f L (by unfold nG;rw[Eh,a];exact eO)
   obtain⟨sl,e⟩:=I.base.slot L o h (I.ok.frf L d) d λz=>I.ok.exfs L z d;exact⟨j,⟨L,_,a,i,e,hd⟩,g (λb c=>f b<|by unfold nG;rw[Eh,a];exact ee _ c) hr⟩
 exact all X.outer (λ_ c=>c) I.ok.j3
theorem Inv.stack(I:Inv X aa σ H s):s.heap.FunFrames X.base X.stack:=by
 rcases I.ok.stk with e|⟨e,b⟩
 .rw[e];exact I.j3
 .rw[e]
  obtain⟨m,a,_⟩:=I.loc;refine .cons (by rw[I.ok.kind];decide) b a ?_ I.j3
  exact ll<|bG I.ok.bsz I.ok.above
def Inv.j4(I:Inv X aa σ H s):∀b∈nG X.stack,b∈X.env.locals::X.fs:=λb a=>by
 rcases I.ok.stk with e|⟨e,c⟩
 .rw[e]at a;exact ee _ a
 .rw[e]at a
  unfold nG at a;rw[Eh,c]at a;exact a
def Inv.rW(I:Inv X aa σ H s):∀b∈nG X.stack,H b=Y:=λb a=>by
 rcases cu.mp (I.j4 b a)with e|a
 .rw[e];exact I.free
 .obtain⟨_,o,c,_⟩:=I.ok.j3.mem a
  exact I.base.free b o c (I.ok.frf b a) λz=>I.ok.exfs b z a
def Inv.step{ch:BM}(I:Inv X aa σ H s)
  (D:∀b∈ch,(b∈X.ex\/X.s₀.heap.objs.size<=b)/\b≠X.env.locals/\(∀x c,X.env.cells.lookup x=U c->c≠b)/\∀p∈X.pn++aa,p.1≠b)
  (keep:∀b o,b≠X.env.locals->b∉X.fs->b∉ch->s.heap.get? b=U o->H b=Y->h'.get? b=U o)
  (slot:∀b o,b≠X.env.locals->b∈X.fs->b∉ch->s.heap.get? b=U o->H b=Y->∃sl,h'.get? b=U {o with slots:=sl}) (free:∀b o,b∉ch->s.heap.get? b=U o->H b=Y->H' b=Y)
  (there:∀b o,b∉ch->s.heap.get? b=U o->∃y,h'.get? b=U y)
  (mX:∀b h,H b=U (.tup h)->H' b=U (.tup h)) (lM:∀b o u,H b=U (.jf o u)->H' b=U (.jf o u)) (mY:∀b ps,H b=U (.tbl ps)->∃A,H' b=U (.tbl<|ps++A))
  (ns:∀m,s.heap.Ns X.env.locals m->h'.Ns X.env.locals m) (bC:j0 X.prog X.w H' h') (L:lb g') :
  Inv X aa σ H' {s with heap:=h',gens:=g',drawn:=d',toks:=t'}:=by
 have Ŝ:∀b o,X.s₀.heap.get? b=U o->b≠X.env.locals:=λb o e=>dO<|dN (b7 e) I.ok.above;have E:∀b o,X.s₀.heap.get? b=U o->b∉X.ex->b∉ch:=λb o e a j=>by
  rcases(D b j).1 with z|z
  .exact a z
  .exact ef (dN (b7 e) z)<|qp _
 have f:∀x c,X.env.cells.lookup x=U c->∀v,s.heap.IsCell c v->h'.IsCell c v:=λx c e v G=>by
  obtain⟨o,t,hd⟩:=G;have C:c∉ch:=λz=>(D c z).2.2.1 x c e J;by_cases hc:c∈X.fs
  .obtain⟨sl,q⟩:=slot c o (I.Jp x c e) hc C t<|I.freeC x c e
   exact⟨_,q,hd⟩
  .exact⟨o,keep c o (I.Jp x c e) hc C t<|I.freeC x c e,hd⟩
 refine⟨I.ok,I.os,L,⟨λb o e n j a=>?_,λb o e n j a=>?_,λb o e n a=>?_,λb o e a=>?_,λb h e=>mX b h<|I.base.mX b h e,λb o h e=>lM b o h<|I.base.lM b o h e,λb ps e=>?_⟩,?_,λx c e=>?_,?_,λx c e=>?_,λp F=>?_,bC,I.len⟩
 .exact keep b o (Ŝ b o e) j (E b o e a) (I.base.keep b o e n j a)<|I.base.free b o e n a
 .obtain⟨sl,g⟩:=I.base.slot b o e n j a
  obtain⟨N,B⟩:=slot b _ (Ŝ b o e) j (E b o e a) g<|I.base.free b o e n a;exact⟨N,B⟩
 .obtain⟨y,g⟩:=I.base.there b o e a
  exact free b y (E b o e a) g<|I.base.free b o e n a
 .obtain⟨y,g⟩:=I.base.there b o e a
  exact there b y (E b o e a) g
 .obtain⟨m1,g⟩:=I.base.mY b ps e
  obtain⟨m2,B⟩:=mY b _ g;exact⟨m1++m2,by rw[B,Array.append_assoc]⟩
 .obtain⟨m,K,hl⟩:=I.loc
  refine⟨m,ns m K,λi x v g B M=>?_⟩;obtain⟨u,r,l⟩:=hl i x v g B M;refine⟨u,r,?_⟩;rcases l with l|⟨k,c,e,z⟩
  .exact .inl l
  .exact .inr ⟨k,c,e,f x c e _ z⟩
 .obtain⟨v,z⟩:=I.cell x c e
  exact⟨v,f x c e v z⟩
 .obtain⟨m,⟨o,_,_,t,_⟩,_⟩:=I.loc
  exact free _ o (λz=>(D _ z).2.1 J) t I.free
 .obtain⟨v,o,t,hd⟩:=I.cell x c e
  exact free c o (λz=>(D c z).2.2.1 x c e J) t<|I.freeC x c e
 .obtain⟨e,n,ne,nf,d⟩:=I.pin p F
  have C:p.1∉ch:=λz=>(D p.1 z).2.2.2 p F J;exact⟨keep p.1 p.2 ne nf C e n,free p.1 p.2 C e n,ne,nf,d⟩
def Inv.un(I:Inv X aa σ H s)(u:Un X.fs [] H H' s.heap h')(bC:j0 X.prog X.w H' h'):Inv X aa σ H' {s with heap:=h',toks:=t'}:=by
 obtain⟨m,⟨o,es,p,d,r⟩,_⟩:=id I.loc;obtain⟨sl,h⟩:=u.any d I.free (by simp)
 exact I.step (g':=s.gens) (d':=s.drawn) (ch:=[]) (λ_ z=>nomatch z) (λb o _ a _ e n=>u.keep b o e n a<|by simp) (λb o _ a _ e n=>u.slot b o e n a<|by simp) (λb o _ e n=>u.free b o e n<|by simp) (λb o _ e=>u.there b o e<|by simp) u.mX u.lM u.mY (λl g=>by
  obtain⟨k,j,i,c,f⟩:=g;rw[d]at c;cases c;exact⟨_,j,i,h,f⟩) bC I.bare
def Inv.call(I:Inv X aa σ H s)(u:Un (nG X.stack) ch H H' s.heap h')(bC:j0 X.prog X.w H' h')(k:lb g')
  (h:∀b∈ch,(b∈X.ex\/X.s₀.heap.objs.size<=b)/\b≠X.env.locals/\(∀x c,X.env.cells.lookup x=U c->c≠b)/\∀p∈X.pn++aa,p.1≠b) :
  Inv X aa σ H' {s with heap:=h',gens:=g',drawn:=d',toks:=t'}:=by
 obtain⟨m,⟨o,es,A,g,r⟩,_⟩:=id I.loc;obtain⟨sl,d⟩:=u.any g I.free λz=>(h _ z).2.1 J;exact I.step (ch:=ch) h (λb o d l a e n=>u.keep b o e n (λz=>(cu.mp<|I.j4 b z).elim d l) a) (λb o _ _ a e n=>u.any e n a) (λb o a e n=>u.free b o e n a) (λb o a e=>u.there b o e a) u.mX u.lM u.mY (λy j=>by
  obtain⟨v,t,q,f,i⟩:=j;rw[g]at f;cases f;exact⟨_,t,q,d,i⟩) bC k
def Inv.turned(I:Inv X aa σ H s)(k:∀b o,b≠it->s.heap.get? b=U o->h'.get? b=U o)(g:H it=Y)(d:it≠X.env.locals)
  (t:it∈X.ex\/X.s₀.heap.objs.size<=it) (l:∀x c,X.env.cells.lookup x=U c->c≠it) (j:∀p∈X.pn++aa,p.1≠it):Inv X aa σ H {s with heap:=h',toks:=t'}:=by
 have ŝ:∀b u,H b=U u->b≠it:=λb u e z=>by rw[z,g]at e;cases e
 refine I.step (g':=s.gens) (d':=s.drawn) (ch:=[it]) (λb i=>?_) (λb o _ _ a e _=>k b o (λz=>a<|by simp[z]) e) (λb o _ _ a e _=>⟨o.slots,k b o (λz=>a<|by simp[z]) e⟩) (λ_ _ _ _ n=>n)
  (λb o a e=>⟨o,k b o (λz=>a<|by simp[z]) e⟩) (λ_ _ e=>e) (λ_ _ _ e=>e) (λb ps e=>⟨#[],by rw[e];simp⟩) (λm h=>?_) (λb u e=>?_) I.bare
 .have e:b=it:=by simpa using i
  subst e;exact⟨t,d,l,j⟩
 .obtain⟨o,es,w,f,r⟩:=h
  exact⟨o,es,w,k _ o (eL d) f,r⟩
 .refine(I.bC b u e).n_ (λc v a q=>k c v ?_ q) (λ_ q=>q) λ_ _ q=>q
  rcases a with z|z
  .rw[z];exact ŝ b u e
  .exact ŝ c _ z
def Inv.tok(I:Inv X aa σ H s)(t:Nat):Inv X aa σ H {s with toks:=t}:=I.un (h':=s.heap) (t':=t) Un.refl I.bC
theorem Inv.kept(I:Inv X aa σ H s)(k:∀b u,s.heap.get? b=U u->h'.get? b=U u):Inv X aa σ H {s with heap:=h',toks:=t'}:=I.un (Un.kept k)<|I.bC.kept k
theorem Inv.laid{o:HO}(I:Inv X aa σ H s)(k:∀b u,s.heap.get? b=U u->h'.get? b=U u)(c:s.heap.objs.size<=a)(new:cj X.prog X.w (upd H a o) h' a o) :
  Inv X aa σ (upd H a o) {s with heap:=h',toks:=t'}:=I.un (Un.laid k c<|I.bC.fresh c)<|I.bC.laid k c new
theorem Inv.write{x e:bt}{o:HO}(I:Inv X aa σ H s)(mu:Up<|H x)(he:e=x\/H e=U (.own x))(k:∀b u,b≠e->s.heap.get? b=U u->h'.get? b=U u)(a:∃u,h'.get? e=U u)
  (new:cj X.prog X.w (upd H x o) h' x o):Inv X aa σ (upd H x o) {s with heap:=h',toks:=t'}:=I.un (Un.write mu he k a)<|I.bC.write mu he k a new
def Inv.weak{a:List<|Option V}(I:Inv X aa σ H s)(hl:a.length=σ.length)(w:∀(i:Nat)v,a[i]?=U (U v)->σ[i]?=U (U v)):Inv X aa a H s:=
 ⟨I.ok,I.os,I.bare,I.base,let⟨m,hn,Cq⟩:=I.loc;⟨m,hn,λi x v d c b=>Cq i x v d (w i v c) b⟩,I.cell,I.free,I.freeC,I.pin,I.bC,hl.trans I.len⟩
def Inv.Aa{a:dD}(I:Inv X aa σ H s)(h:∀p∈a,s.heap.get? p.1=U p.2/\H p.1=Y/\p.1≠X.env.locals/\p.1∉X.fs/\∀v,p.2.data≠.cell v):Inv X a σ H s:=
 ⟨I.ok,I.os,I.bare,I.base,I.loc,I.cell,I.free,I.freeC,λp b=>(i6.mp b).elim (λz=>I.pin p<|zH _ z)<|h p,I.bC,I.len⟩
def oh{N:Bi}(c:N.Nodup){i j:Nat}{x:Str}(a:N[i]?=U x)(b:N[j]?=U x):i=j:=by
 obtain⟨g,e⟩:=bK.mp a;obtain⟨f,d⟩:=bK.mp b;exact(List.getElem_inj c).mp<|e.trans d.symm
abbrev Kx(X:Cx)(x:Str):Prop:=X.fn x=O\/X.env.scope.names.lookup x=U .local
def qN{x:Str}{Q:Kt}(I:Inv X aa σ H s)(hN:X.N.Nodup)(K:X.N[i]?=U x)(B:Loc X.env.scope x)(r:RelV v u)
  (h:∀s',Inv X aa (σ.set i<|U v) H s'->(∃a,og a s.heap s'.heap/\(a=X.env.locals\/X.env.cells.lookup x=U a))->Q () s') (hf:Kx X x:=by first|exact .inl J|exact .inr J|assumption):cq M A (storeName X.env x u) Q E s:=by
 obtain⟨m,hn,hl⟩:=id I.loc;have OX:(X.env.scope.kind == .class ||(X.env.scope.kind == .module&&X.env.locals != X.env.globals))=Zc:=by rw[I.ok.kind];rfl
 have F:i<σ.length:=by rw[I.len];exact(bK.mp K).1
 have Jp:=I.Jp;have g:∀{a:bt}{h':ey},(∃o,s.heap.get? a=U o/\H a=Y)->og a s.heap h'->j0 X.prog X.w H h':=λ{a h'} ha f b ob e=>by
  obtain⟨_,_,qO⟩:=ha;refine(I.bC b ob e).n_ (λc L t q=>(f.2 c ?_).trans q) (λ_ q=>q) λ_ _ q=>q
  rintro rfl
  rcases t with rfl|t
  .rw[qO]at e;cases e
  .rw[qO]at t;cases t
 rcases B with D|D
 .refine wpAny_storeName_local D hn (λh' Tu f=>?_) OX
  obtain⟨oL,_,_,Ş,_⟩:=id hn;refine h _ ⟨I.ok,I.os,I.bare,⟨λb o e n G B=>?_,λb o e n G B=>?_,I.base.free,λb o e B=>?_,I.base.mX,I.base.lM,I.base.mY⟩,⟨_,Tu,λj y R l C e3=>?_⟩,λy c e=>?_,I.free,I.freeC,λp Z=>?_,g ⟨oL,Ş,I.free⟩ f,by simpa using I.len⟩ ⟨_,f,.inl J⟩
  .exact(f.2 b<|dO<|dN (b7 e) I.ok.above).trans<|I.base.keep b o e n G B
  .obtain⟨sl,l⟩:=I.base.slot b o e n G B
   exact⟨sl,(f.2 b<|dO<|dN (b7 e) I.ok.above).trans l⟩
  .obtain⟨W,l⟩:=I.base.there b o e B
   exact⟨W,(f.2 b<|dO<|dN (b7 e) I.ok.above).trans l⟩
  .by_cases hj:j=i
   .subst hj
    rw[K]at l;cases l;rw[dG F]at C;cases C;exact⟨u,r,.inl ⟨D,by simp⟩⟩
   .rw[cW<|eL hj]at C
    obtain⟨S,T,q⟩:=hl j y R l C e3;refine⟨S,T,?_⟩;rcases q with⟨k,e⟩|⟨k,c,e,z⟩
    .refine .inl ⟨k,?_⟩
     have:y≠x:=λe=>hj<|oh hN l<|e▸K
     simp[this,e]
    .exact .inr ⟨k,c,e,z.sameBut f<|Jp y c e⟩
  .obtain⟨L,z⟩:=I.cell y c e
   exact⟨L,z.sameBut f<|Jp y c e⟩
  .obtain⟨e,n,ne,nf,d⟩:=I.pin p Z
   exact⟨(f.2 p.1 ne).trans e,n,ne,nf,d⟩
 .have Us:X.fn x=O:=by
   rcases hf with z|z
   .exact z
   .rw[z]at D;cases D
  obtain⟨c,t⟩:=I.ok.has x<|.inl D;obtain⟨L,z⟩:=I.cell x c t;refine wpAny_storeName_cell I.ok.kind D t z λh' ş f=>?_;obtain⟨oc,Š,ZT⟩:=id z;refine h {s with heap:=h'} ⟨I.ok,I.os,I.bare,⟨λb o e n G B=>?_,λb o e n G B=>?_,I.base.free,λb o e B=>?_,I.base.mX,I.base.lM,I.base.mY⟩,⟨m,hn.sameBut f<|eL<|Jp x c t,λj y R l C e3=>?_⟩,λy P e=>?_,I.free,I.freeC,λp Z=>?_,g ⟨oc,Š,I.freeC x c t⟩ f,by simpa using I.len⟩ ⟨c,f,.inr t⟩
  .exact(f.2 b<|dO<|dN (b7 e)<|I.ok.cab x c Us t).trans<|I.base.keep b o e n G B
  .obtain⟨sl,l⟩:=I.base.slot b o e n G B
   exact⟨sl,(f.2 b<|dO<|dN (b7 e)<|I.ok.cab x c Us t).trans l⟩
  .obtain⟨W,l⟩:=I.base.there b o e B
   exact⟨W,(f.2 b<|dO<|dN (b7 e)<|I.ok.cab x c Us t).trans l⟩
  .by_cases hj:j=i
   .subst hj
    rw[K]at l;cases l;rw[dG F]at C;cases C;exact⟨u,r,.inr ⟨.inl D,c,t,ş⟩⟩
   .rw[cW<|eL hj]at C
    obtain⟨S,T,q⟩:=hl j y R l C e3;refine⟨S,T,?_⟩;rcases q with q|⟨k,P,e,z'⟩
    .exact .inl q
    .refine .inr ⟨k,P,e,z'.sameBut f ?_⟩
     rintro rfl
     exact hj<|oh hN l<|I.ok.inj _ _ _ e t▸K
  .by_cases Ab:P=c
   .subst Ab;exact⟨_,ş⟩
   .obtain⟨w2,z2⟩:=I.cell y P e
    exact⟨w2,z2.sameBut f Ab⟩
  .obtain⟨e,n,ne,nf,d⟩:=I.pin p Z
   refine⟨(f.2 p.1 ?_).trans e,n,ne,nf,d⟩;intro q;rw[q,Š]at e;have q':oc=p.2:=kF.inj e;exact d L (by rw[<- q'];exact ZT)
def kJ{x:Str}{Q:Kt}(I:Inv X aa σ H s)(d:X.N.Nodup)(b:X.N[i]?=U x)(a:Loc X.env.scope x)(r:RelV v u)
  (h:∀s',Inv X aa (σ.set i<|U v) H s'->Q () s') (c:Kx X x:=by first|exact .inl J|exact .inr J|assumption):cq M A (storeName X.env x u) Q E s:=
 qN I d b a r (λs' e _=>h s' e) c
def Inv.ED(I:Inv X aa σ H s)(d:s'.os=s.os)(u:Un (nG X.stack) ch H H' s.heap s'.heap)(bC:j0 X.prog X.w H' s'.heap)(f:lb s'.gens)
  (g:∀b∈ch,(b∈X.ex\/X.s₀.heap.objs.size<=b)/\b≠X.env.locals/\(∀x c,X.env.cells.lookup x=U c->c≠b)/\∀p∈X.pn++aa,p.1≠b):Inv X aa σ H' s':=by
 obtain⟨h',g',d',t',a⟩:=s';have e:a=s.os:=d;subst e;exact I.call (g':=g') (t':=t') (d':=d') u bC f g
end
abbrev XK:=bj->Option bt->Hp->Prop
abbrev St:=List<|Option V
abbrev VK:=V->Hp->Prop
abbrev TE:=St->Hp->VK->Prop
abbrev TT:=St->Hp->(Bool->Hp->Prop)->Prop
abbrev TA:=St->Hp->(List V->Hp->Prop)->Prop
structure Ends where
 nx:St->Hp->Prop
 rt:VK
 bk:St->Hp->Prop:=λ_ _=>False
 ct:St->Hp->Prop:=λ_ _=>False
abbrev TS:=Ends->St->Hp->Prop
def EP(X:Cx)(aa:dD)(a:St)(Q:VK)(u:bj)(s':av):Prop:=∃v H',Inv X aa a H' s'/\RelV v u/\Q v H'
def TP(X:Cx)(aa:dD)(a:St)(Q:Bool->Hp->Prop)(b:Bool)(s':av):Prop:=∃H',Inv X aa a H' s'/\Q b H'
def AP(X:Cx)(aa:dD)(b:St)(Q:List V->Hp->Prop)(us:B2)(s':av):Prop:=∃a H',Inv X aa b H' s'/\Vals a us/\Q a H'
def SP(X:Cx)(aa:dD)(D:Ends)(f:Flow)(s':av):Prop:=
 match f with
 |.next=>∃a H',Inv X aa a H' s'/\D.nx a H'
 |.brk=>∃a H',Inv X aa a H' s'/\D.bk a H'
 |.cont=>∃a H',Inv X aa a H' s'/\D.ct a H'
 |.ret u=>∃v a H',Inv X aa a H' s'/\RelV v u/\D.rt v H'
abbrev L6{α:Type}(X:Cx)(p:PySem.Sem α):=cq (cv X.prog X.w) X.A p
def PE(X:Cx)(e:cw)(t:TE):Prop:=
 ∀(aa:dD)(s:av)(a:St)(H:Hp)(Q:VK),Inv X aa a H s->t a H Q->L6 X (eR e X.env) (EP X aa a Q) X.xe s
def PT(X:Cx)(e:cw)(t:TT):Prop:=
 ∀(aa:dD)(s:av)(a:St)(H:Hp)(Q:Bool->Hp->Prop),Inv X aa a H s->t a H Q->L6 X (z5 e X.env<|eR e X.env) (TP X aa a Q) X.xe s
def PW(X:Cx)(e:cw)(t:TT):Prop:=
 ∀(b:Sem bj)(aa:dD)(s:av)(a:St)(H:Hp)(Q:Bool->Hp->Prop),Inv X aa a H s->t a H Q->L6 X (z5 e X.env b) (TP X aa a Q) X.xe s
def PW.pt(h:PW X e t):PT X e t:=h _
def PA(X:Cx)(es:Bz)(t:TA):Prop:=
 ∀(pos:Pos)(aa:dD)(s:av)(a:St)(H:Hp)(Q:List V->Hp->Prop),Inv X aa a H s->t a H Q->L6 X (spliced<|hX pos<|dy es X.env) (AP X aa a Q) X.xe s
def PS(X:Cx)(st:gi)(t:TS):Prop:=
 ∀(aa:dD)(s:av)(a:St)(H:Hp)(D:Ends),Inv X aa a H s->t D a H->L6 X (exec st X.env) (SP X aa D) X.xe s
def gO(X:Cx)(st:Ee)(t:TS):Prop:=
 ∀(aa:dD)(s:av)(a:St)(H:Hp)(D:Ends),Inv X aa a H s->t D a H->L6 X (execs st X.env) (SP X aa D) X.xe s
def cA{Q b:α->av->Prop}(h:cq M A t Q E s)(c:∀a s,Q a s->b a s):cq M A t b E s:=eC h c λ_ _ x=>x
section
def Jq(i:Nat):TE:=λa H Q=>∃v,a[i]?=U (U v)/\Q v H
def tC(v:V):TE:=λ_ H Q=>Q v H
def cy{x:Str}(n:X.N[i]?=U x)(g:kI X.env.scope x)(hd:bA x:=by decide)(o:fF x:=by decide):PE X (.Name x pos)<|Jq i:=by
 intro aa s f H Q I h;obtain⟨v,e,h⟩:=h;obtain⟨m,j,hl⟩:=I.loc;obtain⟨u,r,l⟩:=hl i x v n e g;have fin:EP X aa f Q u s:=⟨v,H,I,r,h⟩;rcases l with⟨b,k⟩|⟨b,c,d,a⟩
 .exact wpAny_Name (wpAny_loadName_local I.ok.kind b j k fin) hd
 .rcases b with b|b
  .exact wpAny_Name (wpAny_loadName_cell I.ok.kind b d a fin) hd
  .exact wpAny_Name (wpAny_loadName_free I.ok.kind b d a fin o) hd
def xX{i j pos}:PE X (.Constant (.int i) j pos)<|tC<|.int i:=λ_ _ _ H _ I h=>sF ⟨.int i,H,I.tok _,⟨_,J⟩,h⟩
def Ut{b j pos}:PE X (.Constant (.bool b) j pos)<|tC<|.bl b:=λ_ _ _ H _ I h=>Constant_bool ⟨.bl b,H,I,J,h⟩
def OY{j pos}:PE X (.Constant .none j pos)<|tC .non:=λ_ _ _ H _ I h=>Constant_none ⟨.non,H,I,J,h⟩
def EE{x j pos}:PE X (.Constant (.str x) j pos)<|tC<|.str x:=λ_ _ _ H _ I h=>Calls.Constant_str ⟨.str x,H,I.tok _,⟨_,J⟩,h⟩
def Gl(X:Cx)(x:Str):Prop:=X.env.kindOf x=U .globalImplicit
def gC{a:St}{x:Str}(I:Inv X aa a H s)(c:Gl X x)(b:X.mg x=U u)(h:Q u s)
  (hd:bA x:=by decide):L6 X (eR (.Name x pos) X.env) Q E s:=
 ui I.ok.kind c (Calls.loadGlobal_global (by rw[I.ok.glob];exact I.mod.glob.keeps I.bk) b h) hd
def gP{a:St}{x:Str}(I:Inv X aa a H s)(e:Gl X x)(d:X.mg x=Y)(b:hM x=U u)(h:Q u s)
  (c:x ≠ "__name__" := by decide) (hd:bA x:=by decide):L6 X (eR (.Name x pos) X.env) Q E s:=by
 obtain⟨mb,g,f⟩:=I.mod.blt;exact ui I.ok.kind e (Calls.loadGlobal_builtin (by rw[I.ok.glob];exact I.mod.glob.keeps I.bk) d (by rw[I.ok.blt];exact g.keeps I.bk) ((f x c).trans b) h) hd
def nH{x:Str}(b:Gl X x)(a:X.mg x=U u)(r:RelV v u)(hd:bA x:=by decide):PE X (.Name x pos)<|tC v:=
 λ_ _ _ H _ I h=>gC I b a ⟨v,H,I,r,h⟩ hd
def Ac{x:Str}(d:Gl X x)(c:X.mg x=Y)(a:hM x=U u)(r:RelV v u)(b:x ≠ "__name__" := by decide)(hd:bA x:=by decide):PE X (.Name x pos)<|tC v:=
 λ_ _ _ H _ I h=>gP I d c a ⟨v,H,I,r,h⟩ b hd
variable{a:cw}
def tB(t:TE):TT:=λa H Q=>t a H λx H1=>∃c,x=.bl c/\Q c H1
def OZ(h:PE X e t)(he:∀a,z5 e X.env a=(do let v <- a;n7 e.pos;n8 [v] (truthy v)):=by intro _;rfl):PT X e<|tB t:=by
 intro aa s b H Q I g;refine isTrue_plain (cA (h aa s b H _ I g) λv j c=>?_)<|he _;obtain⟨x,H1,i,f,q1⟩:=c;obtain⟨d,rfl,q⟩:=q1;cases f;exact hG ⟨H1,i,q⟩
variable{rest:Bz}
def ZU(t u:TT):TT:=λa H Q=>t a H λc H1=>if c=O then u a H1 Q else Q Zc H1
def tOr(t u:TT):TT:=λa H Q=>t a H λc H1=>if c=O then Q O H1 else u a H1 Q
def ZV(t:TT):TT:=λa H Q=>t a H λc H1=>Q (!c) H1
def Jr(d:PT X a tA):PW X (.BoolOp .And [a] pos) tA:=by
 intro f aa s b H Q I h;refine isTrue_and<|cA (d aa s b H Q I h) λc g e=>?_;cases c with
 |true=>exact isTrue_and_nil e
 |false=>exact e
def O0(d:PT X a tA):PW X (.BoolOp .Or [a] pos) tA:=by
 intro f aa s b H Q I h;refine isTrue_or<|cA (d aa s b H Q I h) λc g e=>?_;cases c with
 |false=>exact isTrue_or_nil e
 |true=>exact e
def O1(k:PT X a tA)(j:PW X (.BoolOp .And (b::rest) pos) v):PW X (.BoolOp .And (a::b::rest) pos)<|ZU tA v:=by
 intro g aa s d H Q I h;refine isTrue_and<|cA (k aa s d H _ I h) λc i f=>?_;obtain⟨H1,e,q1⟩:=f;cases c with
 |true=>exact j g aa i d H1 Q e q1
 |false=>exact⟨H1,e,q1⟩
def Uu(k:PT X a tA)(j:PW X (.BoolOp .Or (b::rest) pos) v):PW X (.BoolOp .Or (a::b::rest) pos)<|tOr tA v:=by
 intro g aa s d H Q I h;refine isTrue_or<|cA (k aa s d H _ I h) λc i f=>?_;obtain⟨H1,e,q1⟩:=f;cases c with
 |true=>exact⟨H1,e,q1⟩
 |false=>exact j g aa i d H1 Q e q1
def O2(d:PT X a tA):PT X (.UnaryOp .Not a pos)<|ZV tA:=by
 intro aa s b H Q I h;exact isTrue_not<|d aa s b H (λc H1=>Q (!c) H1) I h
def Uv(u z:TE):TE:=λa H Q=>u a H λx H1=>∃c,x=.bl c/\if c=O then z a H1 Q else Q (.bl Zc) H1
def Uw(u:TE):TE:=λa H Q=>u a H λx H1=>∃c,x=.bl c/\Q (.bl<|!c) H1
def O3{op}(h:PE X a t):PE X (.BoolOp op [a] pos) t:=λaa s b H Q I c=>BoolOp_one<|h aa s b H Q I c
def O4(k:PE X a u)(j:PE X (.BoolOp .And (b::rest) pos) z):PE X (.BoolOp .And (a::b::rest) pos)<|Uv u z:=by
 intro aa s d H Q I h;refine BoolOp_and<|cA (k aa s d H _ I h) λv g f=>?_;obtain⟨x,H1,e,i,q1⟩:=f;obtain⟨c,rfl,q1⟩:=q1;cases i;apply hG;cases c with
 |true=>exact j aa g d H1 Q e q1
 |false=>exact⟨.bl Zc,H1,e,J,q1⟩
def O5(f:PE X a u):PE X (.UnaryOp .Not a pos)<|Uw u:=by
 intro aa s b H Q I h;refine UnaryOp_<|cA (f aa s b H _ I h) λv i d=>?_;obtain⟨x,H1,g,e,q1⟩:=d;obtain⟨c,rfl,q1⟩:=q1;cases e;exact not_of<|hG ⟨.bl<|!c,H1,g,J,q1⟩
def tIf(t:TT)(u z:TE):TE:=λa H Q=>t a H λc H1=>if c=O then u a H1 Q else z a H1 Q
def u4(j:PT X c tA)(l:PE X a u)(k:PE X b z):PE X (.IfExp c a b pos)<|tIf tA u z:=by
 intro aa s e H Q I h;refine wpAny_IfExp<|cA (j aa s e H _ I h) λd f i=>?_;obtain⟨H1,g,q1⟩:=i;cases d with
 |true=>exact l aa f e H1 Q g q1
 |false=>exact k aa f e H1 Q g q1
end
def dm(K:bq)(H:Hp)(a:bt)(xs:List V):Prop:=
 Rd H a (.lst xs) \/
  ∃(o:Obj)(b:Array bj)(n:Nat),K.lookup a=U o/\o.cls=.type "list" /\ o.dict=Y/\o.data=.seq b n/\b.size<=cC/\Vals xs b.toList
def mC(K:bq)(H:Hp)(a:bt)(xs:List V):Prop:=
 Rd H a (.tup xs) \/
  ∃(o:Obj)(b:Array bj)(n:Nat),K.lookup a=U o/\o.cls=.type "tuple" /\ o.data=.seq b n/\b.size<=cC/\Vals xs b.toList
def ZW:bj->Option V
 |.none=>U .non
 |.bool b=>U<|.bl b
 |.int i _=>U<|.int i
 |.str x _=>U<|.str x
 |.bytes b _=>U<|.byt b
 |.float b _=>U<|.flt b
 |.ref a=>U<|.ref a
 |.type n=>U<|.ty n
 |_=>Y
def RelV.abs{x:V}(r:RelV x u):ZW u=U x:=by
 cases x with
 |non=>cases r;rfl
 |bl _=>cases r;rfl
 |int _=>obtain⟨t,rfl⟩:=r;rfl
 |str _=>obtain⟨t,rfl⟩:=r;rfl
 |byt _=>obtain⟨t,rfl⟩:=r;rfl
 |flt _=>obtain⟨t,rfl⟩:=r;rfl
 |ref _=>cases r;rfl
 |ty _=>cases r;rfl
theorem RelV.inj{x y:V}(r:RelV x u)(q:RelV y u):x=y:=kF.inj<|r.abs.symm.trans q.abs
theorem Vals.inj:∀{xs ys:List V}{us:B2},Vals xs us->Vals ys us->xs=ys
 |_,_,_,.nil,.nil=>J
 |_,_,_,.cons r t,.cons b a=>by rw[r.inj b,Vals.inj t a]
def dm.of{K:bq}(h:H a=U (.lst xs)):dm K H a xs:=.inl<|.inl h
def mC.of{K:bq}(h:H a=U (.tup xs)):mC K H a xs:=.inl<|.inl h
def Inv.list(I:Inv X aa u H s)(h:dm X.K H a xs):∃its:B2,Vals xs its/\PlainL s.heap a its.toArray/\xs.length<=cC:=by
 rcases h with h|⟨o,its,n,c,d,hd,b,f,r⟩
 .obtain⟨z,its,n,r,e⟩:=h.ok I.bC
  exact⟨its,r,⟨_,n,e,J,J,J⟩,z⟩
 .refine⟨its.toList,r,⟨o,n,I.iE a o c,d,hd,by simpa using b⟩,?_⟩
  have e:=r.length;simp only[f5]at e
  lia
def Inv.tuple(I:Inv X aa u H s)(h:mC X.K H a xs):∃its:B2,Vals xs its/\IsTup s.heap a its.toArray/\xs.length<=cC:=by
 rcases h with h|⟨o,its,n,c,d,b,f,r⟩
 .obtain⟨z,its,r,p⟩:=h.ok I.bC
  exact⟨its,r,p,z⟩
 .refine⟨its.toList,r,⟨o,I.iE a o c,d,n,by simpa using b⟩,?_⟩
  have e:=r.length;simp only[f5]at e
  lia
def Inv.EF(I:Inv X aa u H s)(h:dm X.K H a xs)(h':dm X.K H a ys):xs=ys:=by
 obtain⟨c,r,⟨o,n,e,_,_,d⟩,_⟩:=I.list h;obtain⟨b,i,⟨j,k,f,_,_,g⟩,_⟩:=I.list h';rw[e]at f;cases f;rw[d]at g;injection g with d1 _
 have:c=b:=by simpa using ej yF d1
 subst this;exact r.inj i
def Inv.Cr(I:Inv X aa u H s)(h:mC X.K H a xs)(h':mC X.K H a ys):xs=ys:=by
 obtain⟨c,r,⟨o,e,_,n,d⟩,_⟩:=I.tuple h;obtain⟨b,i,⟨j,f,_,k,g⟩,_⟩:=I.tuple h';rw[e]at f;cases f;rw[d]at g;injection g with d1 _
 have:c=b:=by simpa using ej yF d1
 subst this;exact r.inj i
abbrev Cx.oi(X:Cx)(E:Kk):Cx:={X with xe:=E}
abbrev Cx.DC(X:Cx):Cx:=X.oi λ_ _=>False
theorem Cx.Ok.oi{X:Cx}(ok:X.Ok)(E:Kk):(X.oi E).Ok:=
 ⟨ok.mod,ok.kind,ok.glob,ok.blt,ok.above,ok.inj,ok.has,ok.cab,ok.hd,ok.frames,ok.stk,ok.exf,ok.bs,ok.bsz,ok.noex,ok.exfs,ok.j3,ok.frf⟩
def Cx.Ok.iH{X:Cx}(ok:(X.oi E).Ok):X.Ok:=
 ⟨ok.mod,ok.kind,ok.glob,ok.blt,ok.above,ok.inj,ok.has,ok.cab,ok.hd,ok.frames,ok.stk,ok.exf,ok.bs,ok.bsz,ok.noex,ok.exfs,ok.j3,ok.frf⟩
theorem Inv.oi(I:Inv X aa j H s)(E:Kk):Inv (X.oi E) aa j H s:=⟨I.ok.oi E,I.os,I.bare,I.base,I.loc,I.cell,I.free,I.freeC,I.pin,I.bC,I.len⟩
theorem Inv.iH(I:Inv (X.oi E) aa j H s):Inv X aa j H s:=⟨I.ok.iH,I.os,I.bare,I.base,I.loc,I.cell,I.free,I.freeC,I.pin,I.bC,I.len⟩
theorem SP.iH{f:Flow}(h:SP (X.oi E) aa D f s'):SP X aa D f s':=by
 cases f with
 |next=>obtain⟨a,H',I,q⟩:=h;exact⟨a,H',I.iH,q⟩
 |brk=>obtain⟨a,H',I,q⟩:=h;exact⟨a,H',I.iH,q⟩
 |cont=>obtain⟨a,H',I,q⟩:=h;exact⟨a,H',I.iH,q⟩
 |ret u=>obtain⟨v,a,H',I,r,q⟩:=h;exact⟨v,a,H',I.iH,r,q⟩
theorem gO.DC{st:Ee}(h:gO X.DC st t):gO X st t:=λaa s j H D I a=>
 eC (h aa s j H D (I.oi _) a) (λ_ _ q=>q.iH) λ_ _ z=>eI z
section
variable{st:gi}{rest:Ee}
def EG:TS:=λD a H=>D.nx a H
def Ux(t u:TS):TS:=λD a H=>t {D with nx:=u D} a H
def nI:gO X [] EG:=λ_ _ a H _ I h=>f6 ⟨a,H,I,h⟩
def hU(e:PS X st t)(d:gO X rest u):gO X (st::rest)<|Ux t u:=by
 intro aa s b H D I h;refine i0<|cA (e aa s b H {D with nx:=u D} I h) λf c q=>?_
 cases f with
 |next=>
  obtain⟨a,H',g,q⟩:=q;exact d aa c a H' D g q
 |ret v=>exact q
 |brk=>exact q
 |cont=>exact q
def jC(b:PS X st t):gO X [st] t:=by
 intro aa s a H D I h;refine i0<|cA (b aa s a H D I h) λf c q=>?_;cases f with
 |next=>exact f6 q
 |ret v=>exact q
 |brk=>exact q
 |cont=>exact q
def Js:PS X (.Pass pos) EG:=λ_ _ a H _ I h=>wpAny_Pass ⟨a,H,I,h⟩
def Inv.quiet{a:St}(I:Inv X aa a H s):interactive X.env=Zc:=by simp[interactive,I.ok.kind]
def Uy(j:TE):TS:=λD a H=>j a H λ_ H1=>D.nx a H1
def jD(he:PE X e j)(b:fC e Y pos.line X.env=pure Zc:=by rfl):PS X (.Expr e pos)<|Uy j:=by
 intro aa s a H D I h;exact z4 (cA (he aa s a H _ I h)<|by rintro v d ⟨x,H1,c,f,q1⟩;exact⟨a,H1,c,q1⟩) I.quiet b
def ZX(j:TE):TS:=λD a H=>j a H D.rt
def EH(he:PE X e j):PS X (.Return (U e) pos)<|ZX j:=by
 intro aa s a H D I h;exact wpAny_Return_some<|cA (he aa s a H _ I h)<|by rintro v d ⟨x,H1,c,b,q1⟩;exact⟨x,a,H1,c,b,q1⟩
def Uz:TS:=λD _ H=>D.rt .non H
def Jt:PS X (.Return Y pos) Uz:=λ_ _ a H _ I h=>wpAny_Return_none ⟨.non,a,H,I,J,h⟩
def ZY(c:TT)(t u:TS):TS:=λD a H=>c a H λb H1=>if b=O then t D a H1 else u D a H1
def EI{a b:Ee}{f:TT}(k:PT X c f)(m:gO X a t)(l:gO X b u):PS X (.If c a b pos)<|ZY f t u:=by
 intro aa s e H D I h;refine wpAny_If<|cA (k aa s e H _ I h) λd g j=>?_;obtain⟨H1,i,q1⟩:=j;cases d with
 |true=>exact m aa g e H1 D i q1
 |false=>exact l aa g e H1 D i q1
end
abbrev TG:=V->St->Hp->(St->Hp->Prop)->Prop
abbrev Nx:=List V->St->Hp->(St->Hp->Prop)->Prop
def PG(X:Cx)(a:cw)(t:TG):Prop:=
 ∀(aa:dD)(s:av)(c:St)(H:Hp)(v:V)(u:bj)(Q:St->Hp->Prop),Inv X aa c H s->RelV v u->t v c H Q ->
  L6 X (sT a X.env u) (λ_ d=>∃b H',Inv X aa b H' d/\Q b H') X.xe s
def UA(X:Cx)(ts:Bz)(t:Nx):Prop:=
 ∀(aa:dD)(s:av)(b:St)(H:Hp)(c:List V)(d:B2)(Q:St->Hp->Prop),Inv X aa b H s->Vals c d->t c b H Q ->
  L6 X (assignInOrder ((hZ ts X.env).map (·.2)) d) (λ_ e=>∃a H',Inv X aa a H' e/\Q a H') X.xe s
abbrev O6:=V->V->V->Hp->(Hp->Prop)->Prop
def UB(X:Cx)(t:O6):Prop:=
 ∀(aa:dD)(s:av)(a:St)(H:Hp)(o i v:V)(ov b u:bj)(Q:Hp->Prop),Inv X aa a H s->RelV o ov->RelV i b->RelV v u->t o i v H Q ->
  L6 X (setItem ov b u) (λ_ c=>∃H',Inv X aa a H' c/\Q H') X.xe s
abbrev YX:=V->V->Hp->VK->Prop
def š(X:Cx)(op:n3)(t:YX):Prop:=
 ∀(aa:dD)(s:av)(a:St)(H:Hp)(x y:V)(v u:bj)(Q:VK),Inv X aa a H s->RelV x v->RelV y u->t x y H Q ->
  L6 X (inplaceOp op v u) (EP X aa a Q) X.xe s
section
variable{X:Cx}
def Ad(i:Nat):TG:=λv a H Q=>Q (a.set i<|U v) H
def rY{x:Str}(d:X.N.Nodup)(b:X.N[i]?=U x)(a:Loc X.env.scope x)(c:Kx X x:=by first|exact .inl J|exact .inr J|assumption):PG X (.Name x pos)<|Ad i:=by
 intro aa s f H v u Q I r h;exact wpAny_assign_Name<|kJ I d b a r (λg e=>⟨_,H,e,h⟩) c
def UC:Nx:=λb a H Q=>b=[]/\Q a H
def Ny(t:TG)(u:Nx):Nx:=λc b H Q=>∃v r,c=v::r/\t v b H λa H'=>u r a H' Q
def Ju:UA X [] UC:=by
 intro aa s a H b c Q I r h;obtain⟨e,h⟩:=h;subst e;cases r;exact assignInOrder_nil ⟨a,H,I,h⟩
def EJ{e:cw}{es:Bz}{t:TG}{u:Nx}(j:PG X e t)(i:UA X es u)
  (g:(hZ (e::es) X.env).map (·.2)=sT e X.env::(hZ es X.env).map (·.2):=by rfl):UA X (e::es)<|Ny t u:=by
 intro aa s b H m o Q I r h;obtain⟨v,n,k,h⟩:=h;subst k;cases r with
 |cons r f=>
  rw[g];refine assignInOrder_cons<|cA (j aa s b H _ _ _ I r h) λ_ d c=>?_;obtain⟨a,H1,l,q1⟩:=c;exact i aa d a H1 _ _ Q l f q1
def O7(K:bq)(n:Nat)(t:Nx):TG:=λv c H Q=>∃a b,v=.ref a/\mC K H a b/\b.length=n/\t b c H Q
def EK{es:Bz}{k:Nat}{t:Nx}{n:Nat}(q:X.calm=O)(h:UA X es t)
  (p:(hZ es X.env).length=n:=by rfl) (x:(hZ es X.env).findIdx? (·.1)=Y:=by rfl):PG X (.Tuple es k pos)<|O7 X.K n t:=by
 intro aa s d H v u Q I r c;obtain⟨a,g,w,m,hl,c⟩:=c;subst w;cases r;obtain⟨i,f,l,z⟩:=I.tuple m;refine assign_Tuple_tuple (I.ok.hd q) l (by simp[p,<- hl,f.length]) x λh' j=>?_
 have y:Inv X aa d H {s with heap:=h'}:=I.kept (t':=s.toks) λb o e=>j b o (dO<|b7 e) e
 exact h aa _ d H g _ Q y (by simpa using f) c
def ZZ(b c:TE)(t:O6):TG:=λv a H Q=>b a H λo H1=>c a H1 λi e=>t o i v e λd=>Q a d
def O8{d e:TE}(m:PE X o d)(n:PE X i e)(l:UB X t)
  (p:∀v,sT (.Subscript o i pos) X.env v=(do
   let ov <- n8 [v] (eR o X.env)
   let b <- n8 [v,ov] (eR i X.env)
   n7 pos
   n8 [v,ov,b] (setItem ov b v)
   release [v,ov,b] []):=by intro _;rfl):PG X (.Subscript o i pos)<|ZZ d e t:=by
 intro aa s c H v u Q I r h;rw[p];refine ar<|gE<|cA (m aa s c H _ I h) λov f a=>?_;obtain⟨x,H1,z,j,q1⟩:=a;refine ar<|gE<|cA (n aa f c H1 _ z q1) λb s2 a=>?_;obtain⟨y,B,w,g,q2⟩:=a;refine ar<|j1<|ar<|gE<|cA (l aa s2 c B x y v ov b u _ w j g r q2) λ_ C a=>?_;obtain⟨A,q,k⟩:=a;exact wpAny_release ⟨c,A,q,k⟩
def UD(b:TE)(g:TG):TS:=λD a H=>b a H λx H1=>g x a H1 D.nx
def EL{tg e:cw}{b:TE}{g:TG}(he:PE X e b)(k:PG X tg g)(j:swapsWithSole [tg] e pos.line X.env=pure Zc:=by rfl)(i:sr [tg] e X.env=pure Y:=by rfl)
  (l:(hZ [tg] X.env).map (·.2)=[sT tg X.env]:=by rfl):PS X (.Assign [tg] e pos)<|UD b g:=by
 intro aa s a H D I h;refine wpAny_Assign_stores (cA (he aa s a H _ I h) λv d c=>?_) j i;obtain⟨x,H1,m,f,q1⟩:=c;rw[l];exact cA (k aa d a H1 x v _ m f q1) λ_ s2 q=>q
def j5{x:Str}{a:TE}{b:Pos}(m:X.N.Nodup)(k:X.N[i]?=U x)(g:Loc X.env.scope x)(he:PE X e a)(j:fC e (U<|.Name x b) pos.line X.env=pure Zc:=by rfl)(l:Kx X x:=by first|exact .inl J|exact .inr J|assumption) :
  PS X (.Assign [.Name x b] e pos)<|UD a<|Ad i:=by
 intro aa s c H D I h;refine wpAny_Assign_Name (cA (he aa s c H _ I h) λv p d=>?_) j;obtain⟨y,H1,o,f,q1⟩:=d;exact kJ o m k g f (λs2 n=>⟨_,H1,n,q1⟩) l
def Z3(i:Nat)(c:TE)(b:YX):TS:=λD a H=>∃x,a[i]?=U (U x)/\c a H λy H1=>b x y H1 λz d=>D.nx (a.set i<|U z) d
def O9{x:Str}{p:TE}{o:YX}(M:X.N.Nodup)(q:X.N[i]?=U x)(j:Loc X.env.scope x)(he:PE X e p)(E:š X op o)(K:Kx X x:=by first|exact .inl J|exact .inr J|assumption) :
  PS X (.AugAssign (.Name x Q) op e pos)<|Z3 i p o:=by
 intro aa s n H D I h;obtain⟨v,P,h⟩:=h;obtain⟨m,F,hl⟩:=I.loc;have R:kI X.env.scope x:=by rcases j with k|k;exact .inl k;exact .inr<|.inl k
 obtain⟨u,r,l⟩:=hl i x v q P R;apply wpAny_AugAssign_Name;have go:L6 X (eR e X.env) (λw f=>L6 X (inplaceOp op u w) (λr d=>L6 X (storeName X.env x r) (λ_=>SP X aa D .next) X.xe d) X.xe f) X.xe s:=by
  refine cA (he aa s n H _ I h) λw t g=>?_;obtain⟨y,H1,V,C,q1⟩:=g;refine cA (E aa t n H1 v y u w _ V r C q1) λz s2 g=>?_;obtain⟨Z,W,T,B,q2⟩:=g;exact kJ T M q j B (λs3 S=>⟨_,W,S,q2⟩) K
 rcases l with⟨a,G⟩|⟨a,c,L,b⟩
 .exact wpAny_loadName_local I.ok.kind a F G go
 .rcases a with a|a
  .exact wpAny_loadName_cell I.ok.kind a L b go
  .rcases j with k|k
   .have:X.env.scope.names.lookup x=U .free:=a
    rw[k]at this;cases this
   .have:X.env.scope.names.lookup x=U .free:=a
    rw[k]at this;cases this
def ipI(f:Int->Int->Int):YX:=λx y H Q=>∃i j,x=.int i/\y=.int j/\Q (.int<|f i j) H
def O_:š X .Add<|ipI λi j=>i+j:=by
 intro aa s e H x y v u Q I b a h;obtain⟨i,j,d,c,q⟩:=h;subst d;subst c;obtain⟨t,rfl⟩:=b;obtain⟨f,rfl⟩:=a;exact iadd_int ⟨.int _,H,I.tok _,⟨_,J⟩,q⟩
end
def Pa(c:TT)(f:TS):TS:=λD a H=>∃W:Nat->St->Hp->Prop,(∃m,W m a H)/\∀m a H,W m a H ->
 c a H λb H1=>if b=O then ∃N:St->Hp->Prop,(∀d H',N d H'->∃e,e<m/\W e d H')/\f {D with nx:=N,ct:=N,bk:=D.nx} a H1 else D.nx a H1
def u5{e:Ee}(t:nX (cv X.prog X.w) X.A X.env X.xe)(F:PT X c q)(G:gO X e r):PS X (.While c e [] pos)<|Pa q r:=by
 intro aa s z H D I h;obtain⟨W,⟨m0,w0⟩,i⟩:=h;refine wpAny_While<|codeAny_whileLoop (λn E=>∃g H',Inv X aa g H' E/\W n g H') ?_ m0 ⟨z,H,I,w0⟩
 rintro n C ⟨d,H1,K,w1⟩
 refine ij t<|cA (F aa C d H1 _ K<|i n d H1 w1) λb s2 B=>?_;obtain⟨y,x,q2⟩:=B;cases b with
 |true=>
  obtain⟨N,u,q2⟩:=q2;rw[bU J];refine ij t<|cA (G aa s2 d y _ x q2) λf L k=>?_;cases f with
  |next=>
   obtain⟨a,j,p,l⟩:=k;obtain⟨m,o,w3⟩:=u a j l;exact⟨m,o,a,j,p,w3⟩
  |cont=>
   obtain⟨a,j,p,l⟩:=k;obtain⟨m,o,w3⟩:=u a j l;exact⟨m,o,a,j,p,w3⟩
  |brk=>exact k
  |ret v=>exact k
 |false=>
  rw[bp dw];exact f6 ⟨d,y,x,q2⟩
structure It where
 go:Nat->Hp->Prop
 yld:Nat->Hp->V->Hp->Prop
 stop:Nat->Hp->Prop
def oj(X:Cx)(aa:dD)(H:Hp)(b:bt):Prop:=
 H b=Y/\b≠X.env.locals/\b∉X.fs/\(b∈X.ex\/X.s₀.heap.objs.size<=b)/\(∀x c,X.env.cells.lookup x=U c->c≠b)/\∀p∈X.pn++aa,p.1≠b
def Inv.rZ{b:bt}(I:Inv X aa d H s)(a:s.heap.objs.size<=b)(g:H' b=Y):oj X aa H' b:=by
 refine⟨g,xS<|dN I.lt a,I.ZQ a,.inr<|bG I.sz a,λx c e z=>?_,λp f z=>?_⟩
 .obtain⟨v,q⟩:=I.cell x c e
  exact ef (dN q.lt<|by rw[z];exact a)<|qp _
 .exact ef (dN (b7 (I.pin p f).1)<|by rw[z];exact a)<|qp _
structure Turn(P:dn)(w:dv)(K:bq)(tg:cw)(Zf:It)(fp:BM)(it:bt)(tn:Nat->ey->Prop):Prop where
 mem:it∈fp
 obj:∀i h,tn i h->∀b∈fp,∃o,h.get? b=U o/\∀v,o.data≠.cell v
 keep:∀i h h',tn i h->(∀b∈fp,∀o,h.get? b=U o->h'.get? b=U o)->tn i h'
 item:∀(X:Cx),X.prog=P->X.w=w->X.K=K->X.calm=O->∀(i:Nat)(aa:dD)(s:av)(σ:St)(H:Hp)(E:Kk),Inv X aa σ H s->(∀b∈fp,oj X aa H b)->tn i s.heap->Zf.go i H ->
  cq (cv P w) X.A (HI<|.ref it) (λr s1=>∃u,r=U u /\
   cq (cv P w) X.A (pB tg (.ref it) u) (λ_ s2=>∃x H',Inv X aa σ H' s2/\RelV x u/\Zf.yld i H x H'/\tn (i+1) s2.heap/\∀b∈fp,H' b=Y) E s1) E s
 done:∀(X:Cx),X.prog=P->X.w=w->X.K=K->X.calm=O->∀(i:Nat)(aa:dD)(s:av)(σ:St)(H:Hp)(E:Kk),Inv X aa σ H s->(∀b∈fp,oj X aa H b)->tn i s.heap->Zf.stop i H ->
  cq (cv P w) X.A (HI<|.ref it) (λr s1=>r=Y/\Inv X aa σ H s1) E s
 self:∀(A:ek)(i:Nat)(s:av)(Q:Kk)(E:Kk),tn i s.heap->Q (.ref it) s->cq (cv P w) A (pyIter<|.ref it) Q E s
abbrev TI:=St->Hp->(It->Hp->Prop)->Prop
def Ţ(X:Cx)(aa:dD)(d:St)(tg:cw)(R:It->Hp->Prop)(e:bj)(s2:av):Prop:=
 ∃(it:bt)(c:BM)(a:Nat->ey->Prop)(f:It)(H':Hp),e=.ref it/\Inv X aa d H' s2/\Turn X.prog X.w X.K tg f c it a/\a 0 s2.heap/\(∀b∈c,oj X aa H' b)/\R f H'
def PI(X:Cx)(tg a:cw)(c:TI):Prop:=
 ∀(aa:dD)(s:av)(b:St)(H:Hp)(R:It->Hp->Prop),Inv X aa b H s->c b H R ->
  L6 X (eR a X.env) (λv d=>L6 X (pyIter v) (Ţ X aa b tg R) X.xe d) X.xe s
def u6{o:Obj}(b:s.heap.get? it=U o)(d:o.cls=.type n)(hd:o.data=.fields vs)
  (c:["enumerate","zip","dict_itemiterator","dict_reverseitemiterator","odict_iterator","itertools.zip_longest","itertools.pairwise"].contains n=Zc) (a:Q () s):cq M A (pB tg (.ref it) u) Q E s:=by
 unfold pB;cases tg<;>first
  |exact dk a
  | (cases u<;>first
    |exact dk a
    | (refine ar<|wpAny_load b ?_
       rw[d,hd];show cq M A (if(["enumerate","zip","dict_itemiterator","dict_reverseitemiterator","odict_iterator","itertools.zip_longest","itertools.pairwise"].contains n&&vs[0]? == U (pb _))=O then _ else _) Q E s
       rw[bp (by intro h;rw[c,Et]at h;cases h)]
       exact dk a))
def YY(K:bq)(a:bt):It:=
 ⟨λi H=>∃b x,dm K H a b/\b[i]?=U x,λi H x H'=>H'=H/\∀b,dm K H a b->b[i]?=U x,λi H=>∃b,dm K H a b/\b.length<=i⟩
def Z5(K:bq)(a:bt):It:=
 ⟨λi H=>∃b x,mC K H a b/\b[i]?=U x,λi H x H'=>H'=H/\∀b,mC K H a b->b[i]?=U x,λi H=>∃b,mC K H a b/\b.length<=i⟩
def UG(lo:Int)(n:Nat):It:=⟨λi _=>i<n,λi H x H'=>H'=H/\x=.int (lo+i),λi _=>n<=i⟩
def Cs{K:bq}(a it:bt):Turn P w K tg (YY K a) [it] it λi h=>h.IsListIter it a i where
 mem:=by simp
 obj:=λi h st b f=>by
  have e:b=it:=by simpa using f
  subst e;obtain⟨o,e,c,d⟩:=st;exact⟨o,e,λv z=>by rw[d]at z;cases z⟩
 keep:=λi h h' st k=>st.at λo e=>k it (by simp) o e
 item:=by
  intro X t q y M i aa s G H E I j st r;subst t q y;obtain⟨N,x,g,n⟩:=r;obtain⟨m,l,p,S⟩:=I.list g;obtain⟨u,V,R⟩:=l.get n;obtain⟨F,D,W,C,B,A⟩:=j it (by simp)
  refine wpAny_pyNext_list_item st p.isList (x:=u) (by simpa using V) λh' L Q=>?_
  have I1:Inv X aa G H {s with heap:=h'}:=I.turned (t':=s.toks) (λb o f e=>(Q.2 b f).trans e) F D C B A
  obtain⟨o,e,c,d⟩:=id L;exact⟨u,J,u6 (s:={s with heap:=h'}) e c d (by decide) ⟨x,H,I1,R,⟨J,λys T=>by rw[I.EF T g];exact n⟩,L,λb f=>(j b f).1⟩⟩
 done:=by
  intro X t q y M i aa s G H E I j st r;subst t q y;obtain⟨N,g,n⟩:=r;obtain⟨m,l,p,S⟩:=I.list g;obtain⟨F,D,W,C,B,A⟩:=j it (by simp)
  have hl:=l.length;exact I0 (I.ok.hd M) st p.isList (by simp;lia) λh' Z=>⟨J,I.turned (t':=s.toks) (λb o f e=>Z b o f e) F D C B A⟩
 self:=λ_ _ _ _ _ st h=>wpAny_pyIter_listiter st h
def xY{K:bq}(a it:bt):Turn P w K tg (Z5 K a) [it] it λi h=>h.IsTupleIter it a i where
 mem:=by simp
 obj:=λi h st b g=>by
  have e:b=it:=by simpa using g
  subst e;obtain⟨o,e,c,d⟩:=st;exact⟨o,e,λv z=>by rw[d]at z;cases z⟩
 keep:=λi h h' st k=>st.at λo e=>k it (by simp) o e
 item:=by
  intro X t q y M i aa s G H E I l st r;subst t q y;obtain⟨N,x,j,n⟩:=r;obtain⟨f,m,p,S⟩:=I.tuple j;obtain⟨u,V,R⟩:=m.get n;obtain⟨F,D,W,C,B,A⟩:=l it (by simp)
  refine wpAny_pyNext_tuple_item st (show s.heap.IsTuple a f.toArray from p) (x:=u) (by simpa using V) λh' L Q=>?_
  have I1:Inv X aa G H {s with heap:=h'}:=I.turned (t':=s.toks) (λb o g e=>(Q.2 b g).trans e) F D C B A
  obtain⟨o,e,c,d⟩:=id L;exact⟨u,J,u6 (s:={s with heap:=h'}) e c d (by decide) ⟨x,H,I1,R,⟨J,λys T=>by rw[I.Cr T j];exact n⟩,L,λb g=>(l b g).1⟩⟩
 done:=by
  intro X t q y M i aa s G H E I l st r;subst t q y;obtain⟨N,j,n⟩:=r;obtain⟨f,m,p,S⟩:=I.tuple j;obtain⟨F,D,W,C,B,A⟩:=l it (by simp)
  have hl:=m.length;exact wpAny_pyNext_tuple_end (I.ok.hd M) st (show s.heap.IsTuple a f.toArray from p) (by simp;lia) λh' Z=>⟨J,I.turned (t':=s.toks) (λb o g e=>Z b o g e) F D C B A⟩
 self:=λ_ _ _ _ _ st h=>wpAny_pyIter_tupleiter st h
def xZ{K:bq}(it:bt)(lo:Int)(n:Nat):Turn P w K tg (UG lo n) [it] it λi h=>xa h it (lo+(i:Nat)*1) ((n:Int)-(i:Nat)) 1 where
 mem:=by simp
 obj:=λi h st b a=>by
  have e:b=it:=by simpa using a
  subst e;exact⟨_,st,λv z=>by
   have A:Data.fields _=Data.cell v:=z;cases A⟩
 keep:=λi h h' st k=>k it (by simp) _ st
 item:=by
  intro X j d l g i aa s x H E I c st f;subst j d l;obtain⟨u,r,C,q,p,m⟩:=c it (by simp)
  have W:=Walks.range (prog:=X.prog) (w:=X.w) (I.ok.hd g) it lo 1 n;refine W.item i s _ _ f st λv h' tk B y kk=>?_;obtain⟨t,rfl⟩:=B;have F:Inv X aa x H {s with heap:=h',toks:=tk}:=I.turned (λb o a e=>kk b o (by simpa using a) e) u r q p m
  refine⟨_,J,u6 (s:={s with heap:=h',toks:=tk}) (n := "range_iterator") y J J (by decide) ⟨.int<|lo+i,H,F,⟨t,?_⟩,⟨J,J⟩,y,λb a=>(c b a).1⟩⟩
  rw[Int.mul_one]
 done:=by
  intro X j d l g i aa s x H E I c st f;subst j d l;obtain⟨u,r,C,q,p,m⟩:=c it (by simp)
  exact FD (I.ok.hd g) st (by have:n<=i:=f;lia) λh' D=>⟨J,I.turned (t':=s.toks) (λb o a e=>D b o a e) u r q p m⟩
 self:=λ_ _ _ _ _ st h=>F7 st h
def UH(K:bq)(tl:TE):TI:=λb H R=>tl b H λx H1=>∃a,x=.ref a/\(∃c,dm K H1 a c)/\R (YY K a) H1
def Z6(K:bq)(tl:TE):TI:=λb H R=>tl b H λx H1=>∃a,x=.ref a/\(∃c,mC K H1 a c)/\R (Z5 K a) H1
def Jv(hl:PE X l tl):PI X tg l<|UH X.K tl:=by
 intro aa s d H R I h;refine cA (hl aa s d H _ I h) λv c f=>?_;obtain⟨x,H1,I1,g,q1⟩:=f;obtain⟨a,e,⟨m,j⟩,q⟩:=q1;subst e;cases g;obtain⟨i,n,p,r⟩:=I1.list j;refine hJ p.isList ?_;refine⟨c.heap.objs.size,[c.heap.objs.size],_,_,H1,J,I1.kept (t':=c.toks) λb o e=>ax _ e,Cs a _,⟨_,de _ J,J,J⟩,λb k=>?_,q⟩;have e:b=c.heap.objs.size:=by simpa using k
 subst e;exact I1.rZ (cV _)<|I1.bC.fresh<|cV _
def Pb(hl:PE X l tl):PI X tg l<|Z6 X.K tl:=by
 intro aa s f H R I h;refine cA (hl aa s f H _ I h) λv c g=>?_;obtain⟨x,H1,I1,i,q1⟩:=g;obtain⟨a,e,⟨m,j⟩,q⟩:=q1;subst e;cases i;obtain⟨d,n,p,r⟩:=I1.tuple j;refine wpAny_pyIter_tuple (show c.heap.IsTuple a d.toArray from p) ?_;refine⟨c.heap.objs.size,[c.heap.objs.size],_,_,H1,J,I1.kept (t':=c.toks) λb o e=>ax _ e,xY a _,⟨_,de _ J,J,J⟩,λb k=>?_,q⟩;have e:b=c.heap.objs.size:=by simpa using k
 subst e;exact I1.rZ (cV _)<|I1.bC.fresh<|cV _
def u7{lo a:Int}(I:Inv X aa c H s)(i:-(2^62)<=lo)(h:lo<2^62)(g:-(2^62)<=a)(f:a<2^62)
  (q:R (UG lo (a-lo).toNat) H):L6 X (pyIter<|.ref s.heap.objs.size) (Ţ X aa c tg R) E {s with heap:=s.heap.push {cls:=.type "range",data:=.fields #[.int lo t,.int a u,.int 1 v]},toks:=tk}:=by
 refine wpAny_pyIter_range (IsRange.new ..) (small_one i h g f) ?_;have I1:Inv X aa c H {s with heap:=s.heap.push {cls:=.type "range",data:=.fields #[.int lo t,.int a u,.int 1 v]},toks:=tk}:=I.kept λb o e=>ax _ e
 refine⟨(s.heap.push {cls:=.type "range",data:=.fields #[.int lo t,.int a u,.int 1 v]}).objs.size,[(s.heap.push {cls:=.type "range",data:=.fields #[.int lo t,.int a u,.int 1 v]}).objs.size],_,_,H,J,
  I1.kept (t':=tk) λb o e=>ax _ e,xZ _ lo (a-lo).toNat,?_,λb d=>?_,q⟩
 .have k:lo+((0:Nat):Int)*1=lo:=by simp
  have j:(((a-lo).toNat:Nat):Int)-((0:Nat):Int)=ip lo a 1:=by rw[rangeSize_one];split<;>lia
  show xa _ _ (lo+((0:Nat):Int)*1) ((((a-lo).toNat:Nat):Int)-((0:Nat):Int)) 1;rw[k,j];exact de _ J
 .have e:b=(s.heap.push {cls:=.type "range",data:=.fields #[.int lo t,.int a u,.int 1 v]}).objs.size:=by simpa using d
  subst e;exact I1.rZ (cV _)<|I1.bC.fresh<|cV _
def UI(c:TA):TI:=λa H R=>c a H λb H1=>∃j:Int,b=[.int j]/\-(2^62)<=j/\j<2^62/\R (UG 0 j.toNat) H1
def UJ(c:TA):TI:=λa H R=>c a H λb H1=>∃i j:Int,b=[.int i,.int j]/\(-(2^62)<=i/\i<2^62/\-(2^62)<=j/\j<2^62)/\R (UG i (j-i).toNat) H1
def Ct{a:cw}{b:TA}(l:Gl X "range")(k:X.mg "range" = Y)(m:PA X [a] b)(i:dy [a] X.env=[(Zc,eR a X.env)]:=by rfl):PI X tg (.Call (.Name "range" p) [a] [] pos)<|UI b:=by
 intro aa s c H R I h;refine Call_<|gP I l k boot_range<|Cm (cA (m pos aa s c H _ I h) λu v d=>?_) i J;obtain⟨o,H1,n,g,q1⟩:=d;obtain⟨j,e,q1,q2,q⟩:=q1;subst e;cases g with
 |cons r f=>
  cases f;obtain⟨t,rfl⟩:=r;exact call_range_1<|u7 n (by lia) (by lia) q1 q2<|by simpa using q
def Cu{a b:cw}(v:Gl X "range")(u:X.mg "range" = Y)(w:PA X [a,b] d)(o:dy [a,b] X.env=[(Zc,eR a X.env),(Zc,eR b X.env)]:=by rfl)(f:dy [b] X.env=[(Zc,eR b X.env)]:=by rfl) :
  PI X tg (.Call (.Name "range" p) [a,b] [] pos)<|UJ d:=by
 intro aa s g H R I h;refine Call_<|gP I v u boot_range<|Cm (cA (w pos aa s g H _ I h) λz B k=>?_) (by rw[o,f])<|by rw[f];rfl
 obtain⟨y,H1,x,l,q1⟩:=k;obtain⟨i,j,e,⟨q1,q2,n,q4⟩,q⟩:=q1;subst e;cases l with
 |cons r c=>
  cases c with
  |cons m c=>
   cases c;obtain⟨t,rfl⟩:=r;obtain⟨A,rfl⟩:=m;exact call_range_2<|u7 x q1 q2 n q4 q
def Z7(e:TI)(g:TG)(f:TS):TS:=λD a H=>e a H λj H1=>∃W:Nat->Nat->St->Hp->Prop,(∃m,W 0 m a H1)/\∀i m a H,W i m a H ->
 (j.stop i H/\D.nx a H)\/(j.go i H/\∃N:St->Hp->Prop,(∀b H',N b H'->∃d,d<m/\W (i+1) d b H')/\∀x H',j.yld i H x H'->g x a H' λc h=>f {D with nx:=N,ct:=N,bk:=D.nx} c h)
def om(a:BM)(h:ey):dD:=a.filterMap λb=>(h.get? b).map λo=>(b,o)
def iI{a:BM}{b:bt}{o:Obj}(c:b∈a)(e:h.get? b=U o):(b,o)∈om a h:=zJ.mpr ⟨b,c,by rw[e];rfl⟩
def Cv{a:BM}{p:bt×Obj}(c:p∈om a h):p.1∈a/\h.get? p.1=U p.2:=by
 obtain⟨b,d,e⟩:=zJ.mp c;cases q:h.get? b with
 |none=>rw[q]at e;cases e
 |some o=>
  rw[q]at e;have f:(b,o)=p:=kF.inj e;subst f;exact⟨d,q⟩
def Inv.pinned{a:BM}(I:Inv X aa c H s)(j:∀b∈a,oj X aa H b)(i:∀b∈a,∃o,s.heap.get? b=U o/\∀v,o.data≠.cell v):Inv X (aa++om a s.heap) c H s:=
 I.Aa λp h=>(i6.mp h).elim (λz=>I.pin p<|mU _ z) λz=>by
  obtain⟨f,e⟩:=Cv z;obtain⟨m,l,k,_⟩:=j p.1 f;obtain⟨o,g,d⟩:=i p.1 f;rw[e]at g;cases g;exact⟨e,m,l,k,d⟩
def Inv.kK{a:St}(I:Inv X (aa++pl) a H s):Inv X aa a H s:=I.Aa λp b=>I.pin p<|mU _<|zH _ b
def Pc{V:TI}(E:nX (cv X.prog X.w) X.A X.env X.xe)(hc:X.calm=O)(hi:PI X tg k V)(hg:PG X tg g)(l:gO X t tb)
  (hs:∀x,fv k X.env x=pure x:=by intro _;rfl):PS X (.For tg k t [] pos)<|Z7 V g tb:=by
 intro aa s S H D I h;refine wpAny_For (cA (hi aa s S H _ I h) λv s1 h1=>cA h1 λZ4 s2 h2=>?_) hs;obtain⟨it,G,Z,qd,H2,e,I2,T,Nz,f2,W,⟨m0,w0⟩,z⟩:=h2;subst e;have M:∀{H':Hp},(∀b∈G,H' b=Y)->∀b∈G,oj X aa H' b:=λhn b l=>⟨hn b l,(f2 b l).2⟩;refine codeAny_forLoop_any (λn s'=>∃i j H',Inv X aa j H' s'/\Z i s'.heap/\(∀b∈G,H' b=Y)/\W i n j H') ?_ m0 ⟨0,S,H2,I2,Nz,λb l=>(f2 b l).1,w0⟩
 rintro n s3 ⟨i,c,K,I3,B,F,w3⟩
 rcases z i n c K w3 with⟨stop,qn⟩|⟨go,N,hN,step⟩
 .refine ij E<|cA (T.done X J J J hc i aa s3 c K X.xe I3 (M F) B stop) λr s4 y=>?_
  obtain⟨hr,I4⟩:=y;subst hr;exact f6 ⟨c,K,I4,qn⟩
 .refine ij E<|cA (T.item X J J J hc i aa s3 c K X.xe I3 (M F) B go) λr s4 y=>?_
  obtain⟨u,hr,h4⟩:=y;subst hr;refine ij E<|cA h4 λ_ s5 y=>?_;obtain⟨x,H5,I5,r5,y5,Q,YZ⟩:=y;have R:=I5.pinned (M YZ)<|T.obj _ _ Q;refine ij E<|cA (hg _ s5 c H5 x u _ R r5<|step x H5 y5) λ_ s6 y=>?_;obtain⟨L,H6,I6,q6⟩:=y;refine ij E<|cA (l _ s6 L H6 _ I6 q6) λf P q7=>?_;have again:∀{a:St}{q:Hp},Inv X (aa++om G s5.heap) a q P->N a q->∃m,m<n/\∃i j H',Inv X aa j H' P/\Z i P.heap/\(∀b∈G,H' b=Y)/\W i m j H':=λ{a q} p C=>by
   obtain⟨m',hm,w7⟩:=hN a q C;refine⟨m',hm,i+1,a,q,p.kK,T.keep _ _ _ Q λb l o e=>(p.pin (b,o)<|mU _<|mU _<|iI l e).1,λb l=>?_,w7⟩;obtain⟨o,e,d⟩:=T.obj _ _ Q b l;exact(p.pin (b,o)<|mU _<|mU _<|iI l e).2.1
  cases f with
  |next=>obtain⟨a,q,p,C⟩:=q7;exact again p C
  |cont=>obtain⟨a,q,p,C⟩:=q7;exact again p C
  |brk=>obtain⟨a,q,p,q7⟩:=q7;exact⟨a,q,p.kK,q7⟩
  |ret v=>obtain⟨x7,a,q,p,r7,q7⟩:=q7;exact⟨x7,a,q,p.kK,r7,q7⟩
abbrev R2:=V->V->Hp->VK->Prop
def gQ(X:Cx)(f:bj->bj->Sem bj)(r:R2):Prop:=
 ∀(aa:dD)(s:av)(a:St)(H:Hp)(x y:V)(v u:bj)(Q:VK),Inv X aa a H s->RelV x v->RelV y u->r x y H Q ->
  L6 X (f v u) (EP X aa a Q) X.xe s
def Y0(X:Cx)(f:bj->Sem bj)(r:V->Hp->VK->Prop):Prop:=
 ∀(aa:dD)(s:av)(a:St)(H:Hp)(x:V)(v:bj)(Q:VK),Inv X aa a H s->RelV x v->r x H Q ->
  L6 X (f v) (EP X aa a Q) X.xe s
def fJ(X:Cx)(f:bj)(r:List V->Hp->VK->Prop):Prop:=
 ∀(aa:dD)(s:av)(a:St)(H:Hp)(b:List V)(c:B2)(Q:VK),Inv X aa a H s->Vals b c->r b H Q ->
  L6 X (call f c) (EP X aa a Q) X.xe s
def Z8(X:Cx)(r:V->Hp->(Bool->Hp->Prop)->Prop):Prop:=
 ∀(aa:dD)(s:av)(a:St)(H:Hp)(x:V)(v:bj)(Q:Bool->Hp->Prop),Inv X aa a H s->RelV x v->r x H Q ->
  L6 X (truthy v) (TP X aa a Q) X.xe s
def Pd(r:R2)(c b:TE):TE:=λa H Q=>c a H λx H1=>b a H1 λy d=>r x y d Q
def ţ(r:V->Hp->VK->Prop)(b:TE):TE:=λa H Q=>b a H λx H1=>r x H1 Q
def rI(C:Int->Int->Prop)(g:Int->Int->V):R2:=λx y H Q=>∃i j,x=.int i/\y=.int j/\C i j/\Q (g i j) H
def DE(g:Int->Int->V):R2:=λx y H Q=>∃i j,x=.int i/\y=.int j/\Q (g i j) H
def rU(g:Int->V):V->Hp->VK->Prop:=λx H Q=>∃i,x=.int i/\Q (g i) H
section
variable{a c:cw}
def Pe(o:PE X a z)(n:PE X b B){c:St}{R:V->V->Hp->Prop}(I:Inv X aa c H s)
  (h:z c H λx H1=>B c H1 λy d=>R x y d)  {f:bj->bj->Sem bj}
  (m:∀v u s2 x y d,Inv X aa c d s2->RelV x v->RelV y u->R x y d->L6 X (f v u) Q X.xe s2) :
  L6 X (eR a X.env) (λv g=>L6 X (eR b X.env) (λu e=>L6 X (f v u) Q X.xe e) X.xe g) X.xe s:=by
 refine cA (o aa s c H _ I h) λv j i=>?_;obtain⟨x,H1,q,l,q1⟩:=i;refine cA (n aa j c H1 _ q q1) λu s2 i=>?_;obtain⟨y,d,p,k,q2⟩:=i;exact m v u s2 x y d p l k q2
def kL(f:gQ X (ka op) r)(i:PE X a z)(g:PE X b B):PE X (.BinOp a op b pos)<|Pd r z B:=by
 intro aa s c H Q I h;exact wpAny_BinOp<|Pe i g I h λv u s2 x y k j e d q=>f aa s2 c k x y v u Q j e d q
def UK(e:Y0 X (unaryOp op) r)(f:PE X a z):PE X (.UnaryOp op a pos)<|ţ r z:=by
 intro aa s b H Q I h;exact UnaryOp_<|cA (f aa s b H _ I h)<|by rintro v c ⟨x,H1,g,d,q1⟩;exact e aa c b H1 x v Q g d q1
def Y3{f:bj->bj->Sem bj}{C:Int->Int->Prop}{g:Int->Int->Int}
  (rule:∀(i j:Int)(t u:Tok)(s:av)(Q:Kk)(E:Kk),C i j->Q (.int (g i j) s.toks) {s with toks:=s.toks+1}->L6 X (f (.int i t)<|.int j u) Q E s) :
  gQ X f<|rI C λi j=>.int<|g i j:=by
 intro aa s e H x y v u Q I c b h;obtain⟨i,j,rfl,rfl,d,q⟩:=h;obtain⟨t,rfl⟩:=c;obtain⟨a,rfl⟩:=b;exact rule i j t a s _ _ d ⟨.int<|g i j,H,I.tok _,⟨_,J⟩,q⟩
def UL{f:bj->bj->Sem bj}{g:Int->Int->Int}
  (rule:∀(i j:Int)(t u:Tok)(s:av)(Q:Kk)(E:Kk),Q (.int (g i j) s.toks) {s with toks:=s.toks+1}->L6 X (f (.int i t)<|.int j u) Q E s) :
  gQ X f<|DE λi j=>.int<|g i j:=by
 intro aa s d H x y v u Q I c b h;obtain⟨i,j,rfl,rfl,q⟩:=h;obtain⟨t,rfl⟩:=c;obtain⟨a,rfl⟩:=b;exact rule i j t a s _ _ ⟨.int<|g i j,H,I.tok _,⟨_,J⟩,q⟩
def Jx{f:bj->bj->Sem bj}{g:Int->Int->Bool}
  (rule:∀(i j:Int)(t u:Tok)(s:av)(Q:Kk)(E:Kk),Q (.bool<|g i j) s->L6 X (f (.int i t)<|.int j u) Q E s) :
  gQ X f<|DE λi j=>.bl<|g i j:=by
 intro aa s d H x y v u Q I c b h;obtain⟨i,j,rfl,rfl,q⟩:=h;obtain⟨t,rfl⟩:=c;obtain⟨a,rfl⟩:=b;exact rule i j t a s _ _ ⟨.bl<|g i j,H,I,J,q⟩
def UM(i j:Int):Prop:=0<j/\j<1073741824
def UN(i j:Int):Prop:=0<=j/\j<=1000000/\i.natAbs<2^64
def Ph(i j:Int):Prop:=(-(2^64)<i/\i<2^64)\/(-(2^64)<j/\j<2^64)
def Ph.ok{i j:Int}(h:Ph i j):IntMulOk i j:=by
 rcases h with⟨b,a⟩|⟨b,a⟩
 .exact .of_left<|intBits_le_64 b a
 .exact .of_right<|intBits_le_64 b a
def Pj:gQ X (ka .Add)<|DE λi j=>.int<|i+j:=UL λ_ _ _ _ _ _ _ q=>add_int q
def Pk:gQ X (ka .Sub)<|DE λi j=>.int<|i-j:=UL λ_ _ _ _ _ _ _ q=>sub_int q
def Jy:gQ X (ka .FloorDiv)<|rI UM λi j=>.int<|i/j:=Y3 λi j _ _ _ _ _ a q=>by
 have c:(0:Int)<j:=a.1;have b:j<1073741824:=a.2;exact floordiv_int (by lia) (by rw[Int.fdiv_eq_ediv_of_nonneg i<|by lia];exact q)<|.inl<|vl<|by lia
def Pn:gQ X (ka .Mod)<|rI (λ_ j=>0<j) λi j=>.int<|i % j:=Y3 λi j _ _ _ _ _ a q=>by
 have b:(0:Int)<j:=a;exact mod_int' (by lia) (by rw[Int.fmod_eq_emod_of_nonneg i<|by lia];exact q)
def Po:gQ X (ka .Pow)<|rI UN λi j=>.int<|i^j.toNat:=Y3 λ_ _ _ _ _ _ _ a q=>pow_int_small a.1 a.2.1 a.2.2 q
def Ť{f:bj->Sem bj}{g:Int->Int}
  (rule:∀(i:Int)(t:Tok)(s:av)(Q:Kk)(E:Kk),Q (.int (g i) s.toks) {s with toks:=s.toks+1}->L6 X (f<|.int i t) Q E s) :
  Y0 X f<|rU λi=>.int<|g i:=by
 intro aa s b H x v Q I a h;obtain⟨i,rfl,q⟩:=h;obtain⟨t,rfl⟩:=a;exact rule i t s _ _ ⟨.int<|g i,H,I.tok _,⟨_,J⟩,q⟩
def Pp:Y0 X (unaryOp .USub)<|rU λi=>.int<|-i:=Ť λ_ _ _ _ _ q=>neg_int q
def r8:Y0 X (unaryOp .Invert)<|rU λi=>.int<|Builtin.bitNot i:=Ť λ_ _ _ _ _ q=>invert_int q
end
section
variable{a c:cw}
def jg{a:St}{k b:Bool}(I:Inv X aa a H s)(q:Q (.bl k) H)(e:k=b):EP X aa a Q (.bool b) s:=by
 subst e;exact⟨.bl k,H,I,J,q⟩
def UO:gQ X (eQ .Lt)<|DE λi j=>.bl<|decide<|i<j:=Jx λ_ _ _ _ _ _ _ q=>lt_int q
def UP:gQ X (eQ .LtE)<|DE λi j=>.bl<|decide<|i<=j:=Jx λ_ _ _ _ _ _ _ q=>le_int q
def UQ:gQ X (eQ .Gt)<|DE λi j=>.bl<|decide<|j<i:=Jx λ_ _ _ _ _ _ _ q=>gt_int q
def UR:gQ X (eQ .GtE)<|DE λi j=>.bl<|decide<|j<=i:=Jx λ_ _ _ _ _ _ _ q=>ge_int q
def Cw:gQ X (eQ .In) λx y H Q=>∃i j,x=.str i/\y=.str j/\Q (.bl<|!(eg j i 0 j.length 1).isEmpty) H:=by
 intro aa s c H x y v u Q I b a h;obtain⟨i,j,rfl,rfl,q⟩:=h;obtain⟨t,rfl⟩:=b;obtain⟨d,rfl⟩:=a;exact in_str<|jg I q J
def Pq:gQ X (eQ .Is) λx y H Q=>y=.non/\Q (.bl<|decide<|x=.non) H:=by
 intro aa s c H x y v u Q I a b h;obtain⟨rfl,q⟩:=h;cases b;refine is_none_gen<|jg I q ?_;cases x<;>first
  |(cases a;rfl)
  |(obtain⟨t,rfl⟩:=a;rfl)
def Jz:gQ X (eQ .IsNot) λx y H Q=>y=.non/\Q (.bl<|!decide (x=.non)) H:=by
 intro aa s c H x y v u Q I a b h;obtain⟨rfl,q⟩:=h;cases b;refine isnot_none_gen<|jg I q ?_;cases x<;>first
  |(cases a;rfl)
  |(obtain⟨t,rfl⟩:=a;rfl)
def r9:gQ X (eQ .NotIn) λx y H Q=>∃i j,x=.str i/\y=.str j/\Q (.bl<|!(!(eg j i 0 j.length 1).isEmpty)) H:=by
 intro aa s c H x y v u Q I b a h;obtain⟨i,j,rfl,rfl,q⟩:=h;obtain⟨t,rfl⟩:=b;obtain⟨d,rfl⟩:=a;exact notIn_str<|jg I q J
def gQ.or{f:bj->bj->Sem bj}(h:gQ X f r)(h':gQ X f d):gQ X f λx y H Q=>r x y H Q\/d x y H Q:=by
 intro aa s a H x y v u Q I c b q;rcases q with q|q
 .exact h aa s a H x y v u Q I c b q
 .exact h' aa s a H x y v u Q I c b q
def r_(f:gQ X (eQ op) r)(j:PE X a F)(i:PE X b D)(g:fA op b=Zc):PE X (.Compare a [op] [b] pos)<|Pd r F D:=by
 intro aa s c H Q I h;exact wpAny_Compare1 (Pe j i I h λv u s2 x y l k e d q=>f aa s2 c l x y v u Q k e d q) g
def US(t:TE):TT:=λa H Q=>t a H λx H'=>∃k,x=.bl k/\Q k H'
def se(m:gQ X (eQ op) r)(p:PE X a F)(o:PE X b D)(n:fA op b=Zc):PT X (.Compare a [op] [b] pos)<|US<|Pd r F D:=by
 intro aa s d H Q I h;refine wpAny_isTrue_Compare1 (cA (p aa s d H _ I h) λv f ⟨x,H1,w,j,q1⟩=>cA (o aa f d H1 _ w q1) λu s2 ⟨y,B,t,i,q2⟩=>
  cA (m aa s2 d B x y v u _ t j i q2) λc C ⟨z,A,q,g,k,e,l⟩=>?_) n
 subst e;cases g;exact hG ⟨A,q,l⟩
def Pu(K:bq)(x:V)(H:Hp)(k:Bool):Prop:=
 match x with
 |.non=>k=Zc
 |.bl b=>k=b
 |.int i=>k=(i != 0)
 |.str y=>y.length<=cC/\k=((y.length:Int) != 0)
 |.byt y=>y.size<=cC/\k=((y.size:Int) != 0)
 |.ref p=>(∃a,dm K H p a/\k=!a.isEmpty)\/(∃a,mC K H p a/\k=!a.isEmpty)\/∃c,H p=U (.dK c)/\k=!c.isEmpty
 |_=>False
def x9{a:Type}{b:List<|a×V}{vs:List<|a×bj}(r:KV b vs):(!vs.isEmpty)=!b.isEmpty:=by
 cases r<;>rfl
def oq(r:Vals xs its):(!its.toArray.isEmpty)=!xs.isEmpty:=by
 cases r<;>simp
def lN:(cC:Nat)<2^63:=by rw[eJ];decide
def Pw:Z8 X λx H Q=>∃k,Pu X.K x H k/\Q k H:=by
 intro aa s A H x v Q I d h;obtain⟨k,e,q⟩:=h;have hl:=lN;have B:cC=16777216:=eJ;cases x with
 |non=>
  cases d;have a:k=Zc:=e;subst a;exact truthy_none ⟨H,I,q⟩
 |bl b=>
  cases d;have a:k=b:=e;subst a;exact hG ⟨H,I,q⟩
 |int i=>
  obtain⟨t,rfl⟩:=d;have a:k=(i != 0):=e;subst a;exact PySem.P.truthy_int ⟨H,I,q⟩
 |str y=>
  obtain⟨t,rfl⟩:=d;obtain⟨u,a⟩:y.length<=cC/\k=((y.length:Int) != 0):=e;subst a;exact PySem.P.truthy_str (by lia) ⟨H,I.tok _,q⟩
 |byt y=>
  obtain⟨t,rfl⟩:=d;obtain⟨u,a⟩:y.size<=cC/\k=((y.size:Int) != 0):=e;subst a;exact PySem.W.truthy_bytes (by lia) ⟨H,I.tok _,q⟩
 |ref p=>
  cases d;have a:(∃c,dm X.K H p c/\k=!c.isEmpty)\/(∃c,mC X.K H p c/\k=!c.isEmpty)\/∃f,H p=U (.dK f)/\k=!f.isEmpty:=e;rcases a with⟨c,g,a⟩|⟨c,g,a⟩|⟨f,g,a⟩
  .subst a
   obtain⟨l,r,pl,n⟩:=I.list g;have o:=r.length;exact wpAny_truthy_list pl.isList (by simp only[cZ];lia) ⟨H,I.tok _,by rw[oq r];exact q⟩
  .subst a
   obtain⟨l,r,pl,n⟩:=I.tuple g;have o:=r.length;exact truthy_tuple pl (by simp only[cZ];lia) ⟨H,I.tok _,by rw[oq r];exact q⟩
  .subst a
   obtain⟨n,z,j,r,m⟩:f.length<=cC/\(p == iq)=Zc/\∃j,KV f j/\s.heap.DictOf (dc X.prog X.w) p j:=I.bC p _ g;have o:f.length=j.length:=Paired.length r;exact wpAny_truthy_dict z m (by lia) ⟨H,I.tok _,by rw[x9 r];exact q⟩
 |_=>exact(show False from e).elim
def EM(f:PE X a F)(he:∀c,z5 a X.env c=(do let v <- c;n7 a.pos;n8 [v] (truthy v))) :
  PT X a λb H Q=>F b H λx H'=>∃k,Pu X.K x H' k/\Q k H':=by
 intro aa s b H Q I h;exact isTrue_plain (cA (f aa s b H _ I h)<|by rintro v d ⟨x,H1,g,e,q1⟩;exact Pw aa d b H1 x v Q g e q1)<|he _
def x_:gQ X (ka .Add) λx y H Q=>∃i j,x=.str i/\y=.str j/\i.length+j.length<=cC/\Q (.str<|i++j) H:=by
 intro aa s e H x y v u Q I c b h;obtain⟨i,j,rfl,rfl,d,q⟩:=h;obtain⟨t,rfl⟩:=c;obtain⟨a,rfl⟩:=b;exact add_str (λa tk=>⟨.str<|i++j,H,I.tok _,⟨_,J⟩,q⟩) d
def vals1{x:V}(r:Vals [x] us):∃u,us=[u]/\RelV x u:=by
 cases r with
 |cons b a=>cases a;exact⟨_,J,b⟩
def vals2{x y:V}(r:Vals [x,y] us):∃u a,us=[u,a]/\RelV x u/\RelV y a:=by
 cases r with
 |cons e d=>
  cases d with
  |cons c b=>cases b;exact⟨_,_,J,e,c⟩
def Cy(a:X.calm=O):fJ X (.builtin "min") λxs H Q=>∃i j,xs=[.int i,.int j]/\Q (.int<|if j<i then j else i) H:=by
 intro aa s b H xs d Q I r h;obtain⟨i,j,rfl,q⟩:=h;obtain⟨u,c,rfl,⟨t,rfl⟩,⟨e,rfl⟩⟩:=vals2 r;refine min_two_ints (I.ok.hd a) λh' tk k=>⟨_,H,I.kept k,?_,q⟩;by_cases hj:j<i
 .rw[bU hj,bU hj];exact⟨_,J⟩
 .rw[bp hj,bp hj];exact⟨_,J⟩
def UT(K:bq)(x:V)(H:Hp)(n:Nat):Prop:=
 match x with
 |.str y=>y.length<=cC/\n=y.length
 |.byt y=>y.size<=cC/\n=y.size
 |.ref p=>(∃a,dm K H p a/\n=a.length)\/∃a,mC K H p a/\n=a.length
 |_=>False
def u9:fJ X (.builtin "len") λxs H Q=>∃x n,xs=[x]/\UT X.K x H n/\Q (.int n) H:=by
 intro aa s k H xs l Q I r h;obtain⟨x,n,rfl,e,q⟩:=h;obtain⟨u,rfl,b⟩:=vals1 r;have hl:=lN;have m:cC=16777216:=eJ;cases x with
 |str y=>
  obtain⟨t,rfl⟩:=b;obtain⟨j,a⟩:y.length<=cC/\n=y.length:=e;subst a;exact len_str (by lia) ⟨.int _,H,I.tok _,⟨_,J⟩,q⟩
 |byt y=>
  obtain⟨t,rfl⟩:=b;obtain⟨j,a⟩:y.size<=cC/\n=y.size:=e;subst a;exact PySem.W.len_bytes (by lia) ⟨.int _,H,I.tok _,⟨_,J⟩,q⟩
 |ref p=>
  cases b;have a:(∃xs,dm X.K H p xs/\n=xs.length)\/∃xs,mC X.K H p xs/\n=xs.length:=e;rcases a with⟨xs,f,a⟩|⟨xs,f,a⟩
  .subst a
   obtain⟨d,c,pl,i⟩:=I.list f;have g:=c.length;exact Calls.call_len_list pl.isList (by simp only[cZ];lia) ⟨.int xs.length,H,I.tok _,⟨_,by simp only[cZ];rw[g]⟩,q⟩
  .subst a
   obtain⟨d,c,pl,i⟩:=I.tuple f;have g:=c.length;exact len_tuple pl (by simp only[cZ];lia) ⟨.int xs.length,H,I.tok _,⟨_,by simp only[cZ];rw[g]⟩,q⟩
 |_=>exact(show False from e).elim
end
structure ya(h:ey)(x dx C:bt)(mA:Str->D1):Prop where
 obj:h.get? x=U (uJ C dx)
 ns:h.Ns1 dx mA
 ne:dx≠x
def lO{b:Str->D1}(n:h.Ns1 dx b):∃od,h.get? dx=U od/\∀name,zr name od=U (b name):=by
 obtain⟨o,es,k,d,hd,g,_,f⟩:=n;refine⟨o,d,λname=>?_⟩;have e:=f name;unfold nsFind findBy at e;rw[<- DK]at e;unfold zr;rw[hd];dsimp only;split
 .rename_i y q
  rw[q]at e;exact ej U e
 .rename_i q
  rw[q]at e;have a:es.toList.any (·.refKey)=Zc:=by
   rw[List.any_eq_false];intro y c;obtain⟨z,t,j⟩:=g y<|Array.mem_toList_iff.mp c;simp[DictEntry.refKey,j]
  have i:¬ es.toList.any (·.refKey)=O:=by rw[a];exact dw
  rw[bp i];exact ej U e
def ya.look{a:Str->D1}(I:ya h x dx C a):∃od,PySem.W.InstAt h x (uJ C dx) C (U od)/\∀name,zr name od=U (a name):=
 let⟨od,ho,hl⟩:=lO I.ns
 ⟨od,⟨I.obj,J,J,ho⟩,hl⟩
section
variable{K:bq}
def get_map{a:Bool}(X:K.In s.heap)(I:ya s.heap x dx C u)(e:DT K C name=O)(d:DU K C=O)
  (f:eY K (.ref C) name=U Y) (c:u name=U v) (b:My v=O) (h:Q v {s with toks:=s.toks+1}) :
  cq (cv prog w) A (HY (.ref x) name a) Q E s:=by
 obtain⟨od,g,hl⟩:=I.look;exact PySem.W.get_value X g (DY e).1 (PySem.W.findObj_own d f J<|by rw[hl,c]) b h
def EN(X:K.In s.heap)(I:ya s.heap x dx C u)(a:DT K C name=O)
  (d:eY K (.ref C) name=U (U<|.ref f)) (c:Cb K (.ref f)=O) (b:u name=Y) (h:Q (.ref f,[.ref x]) s) :
  cq (cv prog w) A (u2 (.ref x) name pl) Q E s:=by
 obtain⟨od,e,hl⟩:=I.look;exact PySem.W.method_fn X e (DY a).1 (DY a).2 d (beq_iff_eq.mp c) (by show(zr name od).map (·.isSome)=U Zc;rw[hl,b];rfl) h
def JA{Q:Kt}(X:K.In s.heap)(I:ya s.heap x dx C u)
  (i:eY K (.ref C) "__setattr__" = U (U<|.builtin "object.__setattr__")) (j:DZ K C=O) (g:D0 K C name=U Y) (k:DU K C=O)
  (f:mq u ns) (hsz:ns.length<=cC)
  (h:∀h',ya h' x dx C (λy=>if y=name then U v else u y)->og dx s.heap h'->Q () {s with heap:=h',toks:=s.toks+2}) :
  cq (cv prog w) A (y0 (.ref x) name v) Q E s:=by
 obtain⟨od,t,hl⟩:=I.look;refine PySem.W.set_plain X t i<|PySem.W.osa_open (s:={s with toks:=s.toks+1}) (r:=Y) X t j g λb=>?_
 obtain⟨q,l,o⟩:=D3 k;have e:s.heap.get? x=U ⟨.ref C,U dx,.plain,#[]⟩:=I.obj;refine ar<|dk<|ar<|ar<|qB e<|ar<|D4.here (s:={s with toks:=s.toks+1}) (PySem.W.looks_clsIn X l) ?_
 rw[o];refine dk (a:=U dx)<|ar<|dk<|ar ?_;refine Gf (s:={s with toks:=s.toks+1}) I.ns λh' c d=>?_
 obtain⟨oD,ť,Ŧ,n,m,p⟩:=c.count<|PySem.Within.cons name v f;refine ar<|uj n (by rw[m];exact u1<|bG p<|by rw[dM];lia) ?_
 exact dk<|h _ ⟨(d.2 _<|eL I.ne).trans I.obj,c,I.ne⟩ d
def EO{a:List<|Str×bj}(X:K.In s.heap)(b:DV K C=O)
  (c:eY K (.ref C) "__init__" = U (U<|.ref f)) (e:PySem.W.typeIn K (.ref f)=U (.type "function"))
  (h:hW (cv prog w) (A.under<|.builtin "type.__call__" ⟨.ref C::vs,a⟩) (.call (.ref f) ⟨.ref (s.heap.objs.size+1)::vs,a⟩) (PySem.W.InitBack (s.heap.objs.size+1) R)
   {s with heap:=(s.heap.push rL).push (uJ C s.heap.objs.size)}) :
  hW (cv prog w) A (.call (.ref C) ⟨vs,a⟩) R s:=by
 obtain⟨i,g,d,t,os⟩:=s;exact PySem.W.make_core (PySem.W.makes_of X b) (PySem.W.looks_findIn X c) (λself=>PySem.W.bind_fn X self e) (.inl J) h
end
def dP(f:Str)(v:V):List (Str×V)->List (Str×V)
 |[]=>[(f,v)]
 |(g,x)::r=>if g=f then(g,v)::r else(g,x)::dP f v r
theorem mD(f g:Str)(v:V):∀fs:List<|Str×V,(dP f v fs).lookup g=if g=f then U v else fs.lookup g
 |[]=>by
  show fP g [(f,v)]=_;by_cases h:g=f
  .have a:(g == f)=O:=beq_iff_eq.mpr h
   simp only[fP,a,bU h]
  .have a:(g == f)=Zc:=beq_eq_false_iff_ne.mpr h
   simp only[fP,a,bp h]
 |(k,x)::r=>by
  have b:=mD f g v r;rw[show dP f v ((k,x)::r)=(if k=f then(k,v)::r else(k,x)::dP f v r)from J]
  by_cases hk:k=f
  .rw[bU hk]
   by_cases h:g=k
   .have a:(g == k)=O:=beq_iff_eq.mpr h
    simp only[fP,a,bU<|h.trans hk]
   .have a:(g == k)=Zc:=beq_eq_false_iff_ne.mpr h
    simp only[fP,a,bp λe:g=f=>h<|e.trans hk.symm]
  .rw[bp hk]
   by_cases h:g=k
   .have a:(g == k)=O:=beq_iff_eq.mpr h
    simp only[fP,a,bp λe:g=f=>hk<|h.symm.trans e]
   .have a:(g == k)=Zc:=beq_eq_false_iff_ne.mpr h
    simp only[fP,a];exact b
theorem lP(f:Str)(v:V):∀fs:List<|Str×V,f∈(dP f v fs).map (·.1)/\∀g,g∈fs.map (·.1)->g∈(dP f v fs).map (·.1)
 |[]=>⟨by simp[dP],λg h=>by simp at h⟩
 |(k,x)::r=>by
  obtain⟨b,a⟩:=lP f v r;rw[show dP f v ((k,x)::r)=(if k=f then(k,v)::r else(k,x)::dP f v r)from J]
  by_cases hk:k=f
  .rw[bU hk]
   subst hk;exact⟨by simp,λg h=>by simpa using h⟩
  .rw[bp hk]
   refine⟨?_,λg h=>?_⟩
   .rw[fq]
    exact ee _ b
   .rw[fq]at h ⊢
    rcases cu.mp h with e|e
    .exact cu.mpr<|.inl e
    .exact ee _<|a g e
theorem mF(f:Str)(v:V):∀fs:List<|Str×V,(dP f v fs).length<=fs.length+1
 |[]=>by simp[dP]
 |(k,x)::r=>by
  have a:=mF f v r;rw[show dP f v ((k,x)::r)=(if k=f then(k,v)::r else(k,x)::dP f v r)from J]
  by_cases hk:k=f
  .rw[bU hk,dM,dM];lia
  .rw[bp hk,dM,dM];lia
def g_.some_of{o:D1}(r:g_ (U v) o):∃u,o=U u/\RelV v u:=by
 cases o with
 |none=>exact(show False from r).elim
 |some u=>exact⟨u,J,r⟩
def g_.none_of{o:D1}(r:g_ Y o):o=Y:=by
 cases o with
 |none=>rfl
 |some u=>exact(show False from r).elim
def qP(r:RelV v u):My u=O:=by
 cases v with
 |non=>cases(show u=hQ from r);rfl
 |bl b=>cases(show u=pM b from r);rfl
 |int i=>obtain⟨t,e⟩:=(show ∃t,u=Value.int i t from r);cases e;rfl
 |str x=>obtain⟨t,e⟩:=(show ∃t,u=Value.str x t from r);cases e;rfl
 |byt b=>obtain⟨t,e⟩:=(show ∃t,u=Value.bytes b t from r);cases e;rfl
 |flt b=>obtain⟨t,e⟩:=(show ∃t,u=z7 b t from r);cases e;rfl
 |ref a=>cases(show u=Value.ref a from r);rfl
 |ty n=>cases(show u=n4 n from r);rfl
def kM(bC:j0 P w H h)(e:H a=U (.ins C dx fs)):∃b,ya h a dx C b/\(∀f,g_ (fs.lookup f)<|b f)/\mq b (fs.map (·.1))/\fs.length<=1000/\H dx=U (.own a):=by
 obtain⟨d,z,ne,ob,b,n,r,q⟩:=(show cj P w H h a (.ins C dx fs)from bC a _ e);exact⟨b,⟨ob,n,ne⟩,r,q,z,d⟩
structure qk(K:bq)(C:bt):Prop where
 pg:DT K C y6=O
 hd:DU K C=O
 po:DZ K C=O
 sa:eY K (.ref C) "__setattr__" = U (U<|.builtin "object.__setattr__")
def qk.get{K:bq}(c:qk K C)(f:Str):DT K C f=O:=c.pg
def bB(K:bq)(C:bt)(f:Str):Prop:=eY K (.ref C) f=U Y
def bB.UW{K:bq}{f:Str}(n:bB K C f):D0 K C f=U Y:=by
 unfold D0;rw[show eY K (.ref C) f=U Y from n];rfl
structure Meth(K:bq)(C:bt)(m:Str)(f:bt):Prop where
 at_:eY K (.ref C) m=U (U<|.ref f)
 fn:Cb K (.ref f)=O
 kp:lJ K (.ref f)=O
section
variable{f:Str}
def ou{b:Bool}{Q:Kk}(I:Inv X aa B H s)(e:H a=U (.ins C dx fs))(c:qk X.K C)(n:bB X.K C f)(l:fs.lookup f=U v)
  (h:∀u s',Inv X aa B H s'->RelV v u->Q u s'):cq (cv X.prog X.w) A (HY (.ref a) f b) Q E s:=by
 obtain⟨g,j,r,_,_,_⟩:=kM I.bC e;obtain⟨u,i,d⟩:=g_.some_of (v:=v) (o:=g f) (by rw[<- l];exact r f)
 exact get_map I.iE j (c.get f) c.hd n i (qP d)<|h u _ (I.tok _) d
def iJ(I:Inv X aa B H s)(e:H a=U (.ins C dx fs))(c:qk X.K C)(k:Meth X.K C m g)(l:fs.lookup m=Y)
  (h:Q (.ref g,[.ref a]) s):cq (cv X.prog X.w) A (u2 (.ref a) m pl) Q E s:=by
 obtain⟨b,f,r,_,_,_⟩:=kM I.bC e;have d:b m=Y:=g_.none_of (by rw[<- l];exact r m)
 exact EN I.iE f (c.get m) k.at_ k.fn d h
def ow{Q:Kt}(I:Inv X aa B H s)(e:H a=U (.ins C dx fs))(c:qk X.K C)(n:bB X.K C f)(hl:fs.length<1000)(m:RelV y u)
  (h:∀s',Inv X aa B (upd H a<|.ins C dx<|dP f y fs) s'->Q () s'):cq (cv X.prog X.w) A (y0 (.ref a) f u) Q E s:=by
 obtain⟨j,D,r,i,_,k⟩:=kM I.bC e;have p:(fs.map (·.1)).length<=cC:=by rw[cz,eJ];lia
 refine JA I.iE D c.sa c.po n.UW c.hd i p λh' d l=>h _ ?_;have hd:∃o,h'.get? dx=U o:=let⟨o,_,_,e',_⟩:=d.ns;⟨o,e'⟩;refine I.write (x:=a) (e:=dx) (by rw[e];exact gf) (.inr k) (λb q v z=>(l.2 b v).trans z) hd ?_
 refine⟨by rw[ak D.ne];exact k,?_,D.ne,d.obj,_,d.ns,λg=>?_,λg t=>?_⟩
 .have:=mF f y fs;lia
 .show g_ ((dP f y fs).lookup g)<|if g=f then U u else j g
  rw[mD];by_cases q:g=f
  .rw[bU q,bU q];exact m
  .rw[bp q,bp q];exact r g
 .by_cases q:g=f
  .rw[q];exact(lP f y fs).1
  .refine(lP f y fs).2 g<|i g λz=>t ?_
   show(if g=f then U u else j g)=Y
   rw[bp q];exact z
def Inv.made(I:Inv X aa B H s):Inv X aa B (upd (upd H s.heap.objs.size<|.own<|s.heap.objs.size+1) (s.heap.objs.size+1)<|.ins C s.heap.objs.size [])
  {s with heap:=(s.heap.push rL).push (uJ C s.heap.objs.size)}:=by
 have c:(s.heap.push rL).get? s.heap.objs.size=U rL:=de s.heap J;have h:((s.heap.push rL).push<|uJ C s.heap.objs.size).get? (s.heap.objs.size+1)=U (uJ C s.heap.objs.size):=by
  have:=de (s.heap.push rL) (o:=uJ C s.heap.objs.size) J
  rwa [kf]at this
 have g:(s.heap.push rL).Ns s.heap.objs.size λ_=>Y:=⟨rL,#[],_,c,J,(λe f=>ef f<|by simp),λ_=>J⟩
 have i:=I.laid (a:=s.heap.objs.size) (o:=.own<|s.heap.objs.size+1) (h':=s.heap.push rL) (t':=s.toks) (λb u q=>ax _ q) (cV _) ⟨_,c⟩;refine i.laid (a:=s.heap.objs.size+1) (o:=.ins C s.heap.objs.size []) (t':=s.toks) (λb u q=>ax _ q) (qq<|kf _ _) ?_;have ne:s.heap.objs.size≠s.heap.objs.size+1:=dO<|mT _;refine⟨by rw[ak ne,ai],jc _,ne,h,λ_=>Y,(Ae g).at λo q=>ax _ q,λ_=>gf,λy d=>ef J d⟩
def Af(b:ke e f env (eR e env)=eR e env)
  (h:cq (cv prog w) A (eR e env) (λo a=>cq (cv prog w) A (HY o f O) Q E a) E s):cq (cv prog w) A (eR (.Attribute e f pos) env) Q E s:=
 Attribute_any_ h (by rw[arm_eval_Attribute,b])
end
def Z_(K:bq)(c:TE)(f:Str):TE:=λb H Q=>c b H λx H1=>∃a C dx fs v,x=.ref a/\H1 a=U (.ins C dx fs)/\qk K C/\bB K C f/\fs.lookup f=U v/\Q v H1
def UX(K:bq)(e d:TE)(f:Str):TS:=λD b H=>d b H λy H1=>e b H1 λx c=>∃a C dx fs,x=.ref a/\c a=U (.ins C dx fs)/\qk K C/\bB K C f/\fs.length<1000 /\
 D.nx b (upd c a<|.ins C dx<|dP f y fs)
def UY(X:Cx)(op:n3)(b:V->V->Hp->VK->Prop):Prop:=
 ∀(aa:dD)(s:av)(a:St)(H:Hp)(x y:V)(u v:bj)(Q:VK),Inv X aa a H s->RelV x u->RelV y v->b x y H Q->L6 X (inplaceOp op u v) (EP X aa a Q) X.xe s
def JC(K:bq)(h g:TE)(i:V->V->Hp->VK->Prop)(f:Str):TS:=λD b H=>h b H λx H1=>∃a C dx fs v,x=.ref a/\H1 a=U (.ins C dx fs)/\qk K C/\bB K C f/\fs.lookup f=U v /\
 g b H1 λy j=>i v y j λz e=>∃d c,e a=U (.ins C d c)/\c.length<1000/\D.nx b (upd e a<|.ins C d<|dP f z c)
section
variable{f:Str}
def ER(he:PE X e ta)(j:ke e f X.env (eR e X.env)=eR e X.env):PE X (.Attribute e f pos)<|Z_ X.K ta f:=by
 intro aa s b H Q I h;refine Af j<|cA (he aa s b H _ I h) λu r d=>?_;obtain⟨x,H1,o,g,a,C,dx,fs,v,ex,k,c,n,l,q⟩:=d;subst ex
 obtain rfl:u=Value.ref a:=g
 exact ou o k c n l λp s2 m i=>⟨v,H1,m,i,q⟩
def yb(m:PE X o ta)(j:PE X value tv)(k:fC value (U<|.Attribute o f B) pos.line X.env=pure Zc):PS X (.Assign [.Attribute o f B] value pos)<|UX X.K ta tv f:=by
 intro aa s b H D I h;refine lp (cA (j aa s b H _ I h) λu e d=>?_) k;obtain⟨y,H1,v,g,q⟩:=d;refine cA (m aa e b H1 _ v q) λov s2 d=>?_;obtain⟨x,z,t,i,a,C,dx,fs,ex,p,c,n,l,q2⟩:=d;subst ex
 obtain rfl:ov=Value.ref a:=i
 exact ow t p c n l g λw r=>⟨b,_,r,q2⟩
def CA(B:PE X o ta)(A:PE X value tv)(e:UY X op i):PS X (.AugAssign (.Attribute o f kN) op value pos)<|JC X.K ta tv i f:=by
 intro aa s d H D I h;refine wpAny_AugAssign_AttributeAny<|cA (B aa s d H _ I h) λov S b=>?_;obtain⟨x,H1,N,p,a,C,dx,fs,v,ex,E,c,n,l,q⟩:=b;subst ex
 obtain rfl:ov=Value.ref a:=p
 refine ou N E c n l λu s2 M r=>cA (A aa s2 d H1 _ M q) λw3 j b=>?_;obtain⟨y,P,L,m,t⟩:=b;refine cA (e aa j d P v y u w3 _ L r m t) λw4 R b=>?_;obtain⟨z,Z,G,k,W,T,g,w,q4⟩:=b;exact ow G g c n w k λQ F=>⟨d,_,F,q4⟩
def À:V->V->Hp->VK->Prop:=λx y H Q=>∃i j,x=.int i/\y=.int j/\Q (.int<|i+j) H
def Py:UY X .Add À:=by
 rintro aa s d H x y u v Q I c b ⟨i,j,rfl,rfl,q⟩
 obtain⟨t,rfl⟩:=(show ∃t,u=Value.int i t from c);obtain⟨a,rfl⟩:=(show ∃a,v=Value.int j a from b);exact PyProof.Rows.iadd_int ⟨.int<|i+j,H,I.tok _,⟨_,J⟩,q⟩
end
section
variable{Q:Kk}{b:Bool}
inductive jM(K:bq)(H:Hp):V->bj->Prop where
 |non:jM K H .non<|.type "NoneType"
 |bl (x:Bool):jM K H (.bl x)<|.type "bool"
 |int (i:Int):jM K H (.int i)<|.type "int"
 |str (x:Str):jM K H (.str x)<|.type "str"
 |flt (x:UInt64):jM K H (.flt x)<|.type "float"
 |lst {a:bt} {xs:List V} (e:H a=U (.lst xs)):jM K H (.ref a)<|.type "list"
 |jf {a:bt} {o:Obj} {xs:List V} (e:H a=U (.jf o<|.lst xs)):jM K H (.ref a)<|.type "list"
 |tup {a:bt} {xs:List V} (e:mC K H a xs):jM K H (.ref a)<|.type "tuple"
 |dK {a:bt} {aW:List<|Key×V} (e:H a=U (.dK aW)):jM K H (.ref a)<|.type "dict"
 |dT {a:bt} {aW:List<|List Key×V} (e:H a=U (.dT aW)):jM K H (.ref a)<|.type "dict"
 |ins {a C dx:bt} {fs:List<|Str×V} (e:H a=U (.ins C dx fs)) (cl:qk K C) (ha:eY K (.ref C) "__class__" = U (U<|.builtin Md))
   (hn:zt K (.builtin Md) "__get__" = U (U<|.builtin "getset_descriptor.__get__")) (CD:zu K (.builtin Md)=U O)
   (hm:Cc K C (.type "object")=U O):jM K H (.ref a)<|.ref C
def qQ{x:V}(I:Inv X aa L H s)(d:RelV x u)(ty:jM X.K H x t)(e:nT X.K t c=U b)(h:∀tk,Q (.bool b) {s with toks:=tk}) :
  cq (cv X.prog X.w) A (call (.builtin "isinstance") [u,c]) Q E s:=by
 cases ty with
 |non=>cases(show u=hQ from d);exact nU PySem.W.kitx_none I.iE gf e (λz=>nomatch z) h
 |bl y=>cases(show u=pM y from d);exact nU PySem.W.kitx_bool I.iE gf e (λz=>nomatch z) h
 |int i=>obtain⟨t,q⟩:=(show ∃t,u=Value.int i t from d);cases q;exact nU PySem.W.kitx_int I.iE gf e (λz=>nomatch z) h
 |str y=>obtain⟨t,q⟩:=(show ∃t,u=Value.str y t from d);cases q;exact nU PySem.W.kitx_str I.iE gf e (λz=>nomatch z) h
 |flt y=>obtain⟨t,q⟩:=(show ∃t,u=z7 y t from d);cases q;exact nU PySem.W.kitx_float I.iE gf e (λz=>nomatch z) h
 | @lst a j f=>
  cases(show u=Value.ref a from d);obtain⟨_,_,n,_,g⟩:=(show cj X.prog X.w H s.heap a (.lst j)from I.bC a _ f);exact nU Mz I.iE ⟨_,g,J⟩ e (λz=>nomatch z) h
 | @jf a ob j f=>
  cases(show u=Value.ref a from d);obtain⟨_,_,_,n,_,g⟩:=(show cj X.prog X.w H s.heap a (.jf ob<|.lst j)from I.bC a _ f);exact nU Mz I.iE ⟨_,g,J⟩ e (λz=>nomatch z) h
 | @tup a j f=>
  cases(show u=Value.ref a from d);obtain⟨_,_,p,_⟩:=I.tuple f;obtain⟨o,g,k,_⟩:=p;exact nU PySem.W.kitx_tuple I.iE ⟨o,g,k⟩ e (λz=>nomatch z) h
 | @dK a l f=>
  cases(show u=Value.ref a from d);obtain⟨_,_,F,_,p⟩:=(show cj X.prog X.w H s.heap a (.dK l)from I.bC a _ f);obtain⟨o,es,B,g,k,_⟩:=p;exact nU MA I.iE ⟨o,g,k.1⟩ e (λz=>nomatch z) h
 | @dT a l f=>
  cases(show u=Value.ref a from d);obtain⟨_,_,j,_,o,es,B,g,k,_⟩:=(show cj X.prog X.w H s.heap a (.dT l)from I.bC a _ f);exact nU MA I.iE ⟨o,g,k.1⟩ e (λz=>nomatch z) h
 | @ins a C dx fs f cl v m D r=>
  cases(show u=Value.ref a from d);obtain⟨G,M,_⟩:=kM I.bC f;obtain⟨od,N,_⟩:=M.look;exact nU (MB (cl.get _) cl.hd v m D r) I.iE N e (λz=>nomatch z) h
end
structure bJ(k:Nat)(A:ek):Prop where
 hd:A.handled=Y
 dp:A.depth+3*k+5<kz
 un:A.units+16*k+200<lq
def bJ.mono(r:bJ k A)(h:j<=k):bJ j A:=⟨r.hd,by have:=r.dp;lia,by have:=r.un;lia⟩
theorem bJ.deeper(r:bJ (k+1) A)(env:Env):bJ k<|A.deeper env:=
 ⟨r.hd,by have:=r.dp;show A.depth+1+3*k+5<_;lia,by have:=r.un;show A.units+3+16*k+200<_;lia⟩
def yc{a:List<|Str×bj}:(A.under<|.builtin "type.__call__" ⟨.ref C::us,a⟩).depth=A.depth+1:=by
 first|rfl|simp[xi,Code.weight,Code.isCreation,Code.isGuard,Code.isCaller,Code.frames,y8,guardIds]
def yd{a:List<|Str×bj}:(A.under<|.builtin "type.__call__" ⟨.ref C::us,a⟩).units=A.units+1:=by
 first|rfl|simp[xi,Code.cUnits,Code.frames,y8]
def bJ.make(r:bJ (k+1) A)(C:bt)(us:B2)(a:List<|Str×bj):bJ k<|A.under<|.builtin "type.__call__" ⟨.ref C::us,a⟩:=
 ⟨r.hd,by have:=r.dp;rw[yc];lia,by have:=r.un;rw[yd];lia⟩
theorem bJ.depth(r:bJ k A):A.depth<kz:=by have:=r.dp;lia
theorem bJ.units(r:bJ k A):A.units+64<lq:=by have:=r.un;lia
def JD:TA:=λ_ H Q=>Q [] H
def UZ(c:TE)(tr:TA):TA:=λa H Q=>c a H λx H1=>tr a H1 λb d=>Q (x::b) d
def bP:PA X [] JD:=λ_ _ _ _ H Q I h=>Calls.spliced_nil ⟨[],H,I,.nil,h⟩
def aL(j:PE X e v)(hr:PA X es t)(i:dy (e::es) X.env=(Zc,eR e X.env)::dy es X.env:=by rfl):PA X (e::es)<|UZ v t:=by
 intro pos aa s a H Q I h;rw[i];show cq _ _ (spliced<|(Zc,eR e X.env)::hX pos (dy es X.env)) _ _ s;refine Calls.spliced_cons<|cA (j aa s a H _ I h) λu d b=>?_;obtain⟨x,H1,l,g,q1⟩:=b;exact cA (hr pos aa d a H1 _ l q1) (by rintro n s2 ⟨c,m,k,f,q2⟩;exact⟨x::c,m,k,.cons g f,q2⟩)
def Á(t:TA):TE:=λb H Q=>t b H λa H1=>a.length<=cC/\∀p,H1 p=Y->Q (.ref p) (upd H1 p<|.tup a)
def Â(t:TA):TE:=λb H Q=>t b H λa H1=>a.length<=cC/\∀p,H1 p=Y->Q (.ref p) (upd H1 p<|.lst a)
def ye{i}(h:PA X es t):PE X (.Tuple es i pos)<|Á t:=by
 intro aa s d H Q I k;refine wpAny_Tuple_spliced<|cA (h pos aa s d H _ I k) λj a f=>?_;obtain⟨g,H1,c,r,z,q⟩:=f;refine⟨by rw[<- r.length];exact z,?_⟩
 have l:H1 a.heap.objs.size=Y:=c.bC.fresh<|cV _;refine⟨.ref a.heap.objs.size,upd H1 a.heap.objs.size<|.tup g,c.laid (t':=a.toks) (λb u e=>ax _ e) (cV _) ?_,J,q _ l⟩;exact⟨z,j,r,⟨_,de _ J,J,_,J⟩⟩
def oz(h:PA X es t):PE X (.List es pos)<|Â t:=by
 intro aa s d H Q I j;refine wpAny_List_spliced<|cA (h pos aa s d H _ I j) λi a f=>?_;obtain⟨g,H1,c,r,z,q⟩:=f;refine⟨by rw[<- r.length];exact z,?_⟩
 have k:H1 a.heap.objs.size=Y:=c.bC.fresh<|cV _;refine⟨.ref a.heap.objs.size,upd H1 a.heap.objs.size<|.lst g,c.laid (t':=a.toks) (λb u e=>ax _ e) (cV _) ?_,J,q _ k⟩;exact⟨z,i,0,r,de _ J⟩
abbrev Sp:=List V->Hp->VK->XK->Prop
abbrev DF:=List Env->Hp->av->XK->Kk
structure qv(P:dn)(w:dv)(K:bq)(mg:Str->D1)(base:ey)(A:ek)(outer:List Env)(s:av)(H:Hp):Prop where
 frames:A.frames=U outer
 mod:Mod K mg base
 bs:∀b o,base.get? b=U o->s.heap.get? b=U o/\H b=Y
 bsz:base.objs.size<=s.heap.objs.size
 j3:s.heap.FunFrames base outer
 frf:∀b∈nG outer,H b=Y
 bC:j0 P w H s.heap
 bare:lb s.gens
def CE(outer:List Env)(P:dn)(w:dv)(H:Hp)(s:av)(Q:VK)(u:bj)(s':av):Prop:=
 ∃v H',s'.os=s.os/\lb s'.gens/\Un (nG outer) [] H H' s.heap s'.heap/\j0 P w H' s'.heap/\RelV v u/\Q v H'
def CR(CX:DF)(outer:List Env)(P:dn)(w:dv)(H:Hp)(s:av)(Q:VK)(E:XK)(r:Iy)(s':av):Prop:=
 match r with
 |.ok<|.ret u=>CE outer P w H s Q u s'
 |.ok _=>False
 |.error e=>CX outer H s E e s'
structure cT(P:dn)(w:dv)(K:bq)(mg:Str->D1)(base:ey)(CX:DF)(k:Nat)(f:bt)(fd:eh)(ps:Bi)(sp:Sp):Prop where
 len:∀vs H Q E,sp vs H Q E->vs.length=ps.length
 run:∀(A:ek)(outer:List Env)(s:av)(H:Hp)(args:Args)(us:B2)(vs:List V)(Q:VK)(E:XK),bJ k A->qv P w K mg base A outer s H->IZ s fd args (ps.zip us)->Vals vs us->sp vs H Q E ->
  hW (cv P w) A (.call (.ref f) args) (CR CX outer P w H s Q E) s
def cT.imp{K:bq}{sp ŧ:Sp}(F:cT P w K mg base CX k f fd ps sp)
  (h:∀vs H Q E,ŧ vs H Q E->sp vs H Q E):cT P w K mg base CX k f fd ps ŧ:=
 ⟨λvs H Q E q=>F.len vs H Q E<|h _ _ _ _ q,λA outer s H a b vs Q E hr e g c d=>F.run A outer s H a b vs Q E hr e g c<|h _ _ _ _ d⟩
def qv.make{K:bq}(e:qv P w K mg base A outer s H)(C:bt)(us:B2)(a:List<|Str×bj) :
  qv P w K mg base (A.under<|.builtin "type.__call__" ⟨.ref C::us,a⟩) outer s H:=⟨by first|exact e.frames|(simpa[xi,Code.envs,y8,pushEnvs]using e.frames),e.mod,e.bs,e.bsz,e.j3,e.frf,e.bC,e.bare⟩
def Inv.ES(I:Inv X aa j H s):qv X.prog X.w X.K X.mg X.base X.A X.stack s H:=
 ⟨I.ok.frames,I.ok.mod,I.bs,bG I.ok.bsz I.sz,I.stack,I.rW,I.bC,I.bare⟩
def Inv.after(I:Inv X aa j H s)(h:CE X.stack X.prog X.w H s Q u s'):EP X aa j Q u s':=by
 obtain⟨v,H',os,bare,un,bC,r,q⟩:=h;obtain⟨c,g,d,t,a⟩:=s'
 obtain rfl:a=s.os:=os
 exact⟨v,H',I.call (h':=c) (g':=g) (d':=d) (t':=t) (ch:=[]) un bC bare λb z=>ef z<|by simp,r,q⟩
def NB(sp:Sp)(c:List V)(E:XK)(t:TA):TE:=λa H Q=>t a H λb H1=>sp (b++c) H1 Q E
def u_(C:bt)(m:Str)(sp:Sp)(e:List V)(E:XK)(d:TE)(t:TA):TE:=λb H Q=>d b H λx H1=>∃a dx fs,x=.ref a/\H1 a=U (.ins C dx fs)/\fs.lookup m=Y /\
 t b H1 λc f=>sp (x::(c++e)) f Q E
def U0(C:bt)(sp:Sp)(c:List V)(E:XK)(t:TA):TE:=λa H Q=>t a H λb H1=>∀x dx,H1 x=Y->H1 dx=Y->dx≠x ->
 sp (.ref x::(b++c)) (upd (upd H1 dx<|.own x) x<|.ins C dx []) (λv d=>v=.non/\Q (.ref x) d) E
def Binds(K:bq)(fd:eh)(ps:Bi)(ds:B2):Prop:=
 ∀(s:av)(a:B2),K.In s.heap->(a++ds).length=ps.length->IZ s fd ⟨a,[]⟩ (ps.zip<|a++ds)
def Binds.all{K:bq}{ps:Bi}(h:∀us:B2,us.length=ps.length->bindArgs fd ⟨us,[]⟩=pure (ps.zip us)):Binds K fd ps []:=λs us _ hl=>by
 rw[bF]at hl ⊢;exact .of_eq<|h us hl
def Passes(CX:DF)(X:Cx)(E:XK):Prop:=∀(aa:dD)(b:St)(H:Hp)(s:av)(e:bj)(a:av),Inv X aa b H s->CX X.stack H s E e a->X.xe e a
section
variable{E:XK}{x m:Str}
def sf{b:St}(F:cT X.prog X.w X.K X.mg X.base CX k f fd ps sp)(hr:bJ k X.A)(i:Binds X.K fd ps ds)(hd:Vals N ds)(g:Passes CX X E)
  (I:Inv X aa b H s) (r:Vals vs us) (h:sp (vs++N) H Q E):L6 X (call (.ref f) us) (EP X aa b Q) X.xe s:=by
 have c:Vals (vs++N)<|us++ds:=r.append hd;have hl:(us++ds).length=ps.length:=by rw[<- c.length];exact F.len _ _ _ _ h
 refine f7<|gg (F.run X.A X.stack s H ⟨us,[]⟩ (us++ds) (vs++N) Q E hr I.ES (i s us I.iE hl) c h) λr d a=>?_;cases r with
 |error e=>exact g aa b H s e d I a
 |ok fl=>
  cases fl with
  |ret u=>exact I.after a
  |next=>exact eI a
  |brk=>exact eI a
  |cont=>exact eI a
def JE(F:cT X.prog X.w X.K X.mg X.base CX k f fd ps sp)(hr:bJ k X.A)(l:Gl X x)(i:X.mg x=U (.ref f))(j:lJ X.K (.ref f)=O)(m:Binds X.K fd ps ds)(hd:Vals N ds)(g:Passes CX X E)
  (n:PA X (e::es) t) (d:bA x:=by decide) (he:dy (e::es) X.env=(Zc,eR e X.env)::dy es X.env:=by rfl) (hpl:(hX pos<|dy es X.env).any (·.1)=Zc:=by rfl) :
  PE X (.Call (.Name x p) (e::es) [] pos)<|NB sp N E t:=by
 intro aa s b H Q I h;refine ff<|gC I l i ?_ d;refine DW (h₀:=X.base) I.ok.mod.kin j (cA (n pos aa s b H _ I h) λu v c=>?_) he hpl;obtain⟨o,H1,a,r,q⟩:=c;refine⟨a.iE,?_⟩;exact sf F hr m hd g a r q
def ET(F:cT X.prog X.w X.K X.mg X.base CX k f fd ps sp)(hr:bJ k X.A)(e:Gl X x)(c:X.mg x=U (.ref f))(d:lJ X.K (.ref f)=O)(g:Binds X.K fd ps ds)(hd:Vals N ds)(b:Passes CX X E)
  (a:bA x:=by decide):PE X (.Call (.Name x p) [] [] pos)<|NB sp N E JD:=by
 intro aa s i H Q I h;refine ff<|gC I e c ?_ a;exact zw I.iE d<|sf (us:=[]) F hr g hd b I .nil h
def Ag(he:PE X o S)(c:qk X.K C)(g:Meth X.K C m f)(F:cT X.prog X.w X.K X.mg X.base CX k f fd ps sp)(hr:bJ k X.A)(z:Binds X.K fd ps ds)(hd:Vals N ds)(v:Passes CX X E)(B:PA X (e::es) t)
  (G:dy (e::es) X.env=(Zc,eR e X.env)::dy es X.env:=by rfl) (hpl:(hX pos<|dy es X.env).any (·.1)=Zc:=by rfl)
  (y:eR (.Call (.Attribute o m R) (e::es) [] pos) X.env=(do
   let ov <- eR o X.env
   n7 R.atName
   let(f,first) <- n8 [ov] (u2 ov m pl)
   callWith pos f first (hX pos<|dy (e::es) X.env) (ri pos<|mM [] X.env)):=by rfl) :
  PE X (.Call (.Attribute o m R) (e::es) [] pos)<|u_ C m sp N E S t:=by
 intro aa s d H Q I h;refine zx (pl:=pl) (cA (he aa s d H _ I h) λu n b=>?_) y;obtain⟨x,H1,j,p,a,dx,fs,ex,D,l,q⟩:=b;subst ex
 obtain rfl:u=Value.ref a:=p
 refine iJ j D c g l ?_;refine DW (first:=[.ref a]) (h₀:=X.base) I.ok.mod.kin g.kp (cA (B pos aa n d H1 _ j q) λus s2 b=>?_) G hpl
 obtain⟨vs,L,i,r,q2⟩:=b;refine⟨i.iE,?_⟩;exact sf (us:=.ref a::us) (vs:=.ref a::vs) F hr z hd v i (.cons J r) q2
def vc(he:PE X o S)(c:qk X.K C)(d:Meth X.K C m f)(F:cT X.prog X.w X.K X.mg X.base CX k f fd ps sp)(hr:bJ k X.A)(p:Binds X.K fd ps ds)(hd:Vals N ds)(j:Passes CX X E)
  (n:eR (.Call (.Attribute o m R) [] [] pos) X.env=(do
   let ov <- eR o X.env
   n7 R.atName
   let(f,first) <- n8 [ov] (u2 ov m pl)
   callWith pos f first (hX pos<|dy [] X.env) (ri pos<|mM [] X.env)):=by rfl) :
  PE X (.Call (.Attribute o m R) [] [] pos)<|u_ C m sp N E S JD:=by
 intro aa s e H Q I h;refine zx (pl:=pl) (cA (he aa s e H _ I h) λu t g=>?_) n;obtain⟨x,H1,b,i,a,dx,fs,ex,r,l,q⟩:=g;subst ex
 obtain rfl:u=Value.ref a:=i
 refine iJ b r c d l ?_;exact zw (first:=[.ref a]) b.iE d.kp<|sf (us:=[.ref a]) (vs:=[.ref a]) F hr p hd j b (.cons J .nil) q
structure Mk(K:bq)(C f:bt):Prop where
 makes:DV K C=O
 init:eY K (.ref C) "__init__" = U (U<|.ref f)
 fn:Cb K (.ref f)=O
 kp:lJ K (.ref C)=O
def EU{Q:VK}(M:Mk X.K C f)(F:cT X.prog X.w X.K X.mg X.base CX k f fd ps sp)(hr:bJ (k+1) X.A)(n:Binds X.K fd ps ds)(hd:Vals N ds)
  (m:Passes CX X E) (I:Inv X aa c H s) (r:Vals vs us)
  (h:∀x dx,H x=Y->H dx=Y->dx≠x->sp (.ref x::(vs++N)) (upd (upd H dx<|.own x) x<|.ins C dx []) (λv p=>v=.non/\Q (.ref x) p) E) :
  L6 X (call (.ref C) us) (EP X aa c Q) X.xe s:=by
 have g:=h (s.heap.objs.size+1) s.heap.objs.size (I.bC.fresh<|Ce _) (I.bC.fresh<|cV _)<|dO<|mT _;have b:=Inv.made (C:=C) I;have d:Vals (V.ref (s.heap.objs.size+1)::(vs++N))<|Value.ref (s.heap.objs.size+1)::(us++ds):=.cons J<|r.append hd;have hl:(Value.ref (s.heap.objs.size+1)::us++ds).length=ps.length:=by
  have e:=d.length;rw[F.len _ _ _ _ g]at e;exact e.symm
 refine f7<|EO (f:=f) I.iE M.makes M.init (beq_iff_eq.mp M.fn)<|gg (F.run _ X.stack _ _ ⟨Value.ref (s.heap.objs.size+1)::us,[]⟩ (Value.ref (s.heap.objs.size+1)::(us++ds)) _ _ E (hr.make C us [])
  (b.ES.make C us []) (n _ (Value.ref (s.heap.objs.size+1)::us) b.iE hl) d g) λr i a=>?_
 cases r with
 |error e=>exact m aa c _ _ e i b a
 |ok fl=>
  cases fl with
  |ret u=>
   obtain⟨v,H',o,j,ev,l⟩:=b.after a;subst ev;exact⟨j,⟨V.ref<|s.heap.objs.size+1,H',o,J,l⟩⟩
  |next=>exact eI a
  |brk=>exact eI a
  |cont=>exact eI a
def sj(M:Mk X.K C f)(F:cT X.prog X.w X.K X.mg X.base CX k f fd ps sp)(hr:bJ (k+1) X.A)(j:Gl X x)(i:X.mg x=U (.ref C))(l:Binds X.K fd ps ds)(hd:Vals N ds)(g:Passes CX X E)
  (m:PA X (e::es) t) (d:bA x:=by decide) (he:dy (e::es) X.env=(Zc,eR e X.env)::dy es X.env:=by rfl) (hpl:(hX pos<|dy es X.env).any (·.1)=Zc:=by rfl) :
  PE X (.Call (.Name x p) (e::es) [] pos)<|U0 C sp N E t:=by
 intro aa s b H Q I h;refine ff<|gC I j i ?_ d;refine DW (h₀:=X.base) I.ok.mod.kin M.kp (cA (m pos aa s b H _ I h) λo u c=>?_) he hpl;obtain⟨n,H1,a,r,q⟩:=c;refine⟨a.iE,?_⟩;exact EU M F hr l hd g a r q
end
structure fR(N P:Bi)(sc:gL):Prop where
 kind:sc.kind=.function
 co:sc.isCoroutine=Zc
 gen:sc.isGenerator=Zc
 nd:N.Nodup
 pre:N.take P.length=P
 par:∀x∈P,sc.names.lookup x=U .local\/sc.names.lookup x=U .cell
 nofree:∀y∈sc.names,y.2≠.free
theorem qR{kindOf:Str->Option o6}{x:Str}:∀{a:List<|Str×bj}{m:Str->D1},(∀v,(x,v)∉a)->Fx kindOf a m x=m x
 |[],_,_=>J
 |(n,v)::r,m,h=>by
  unfold Fx;rw[qR λw b=>h w<|ee _ b];split
  .have:x≠n:=by rintro rfl;exact h v eO
   simp[this]
  .rfl
theorem qT{kindOf:Str->Option o6}{x:Str}:∀{a:List<|Str×bj}{m:Str->D1},(∀v,(x,v)∉a)->FC kindOf a m x=m x
 |[],_,_=>J
 |(n,v)::r,m,h=>by
  unfold FC;rw[qT λw b=>h w<|ee _ b];split
  .rfl
  .have:x≠n:=by rintro rfl;exact h v eO
   simp[this]
theorem qU{kindOf:Str->Option o6}{x:Str}:∀{P:Bi}{vs:B2}{i:Nat}{m:Str->D1},P.Nodup->P[i]?=U x->vs[i]?=U v->kindOf x=U .local ->
  Fx kindOf (P.zip vs) m x=U v
 |[],_,_,_,_,h,_,_=>by simp at h
 |_::_,[],_,_,_,_,h,_=>by simp at h
 |p::P,w::vs,0,m,nd,b,a,c=>by
  simp at b a;subst b;subst a;show Fx kindOf ((p,w)::P.zip vs) m p=_;unfold Fx;rw[qR λv d=>(nY.mp nd).1 (zK d).1,bU c];simp
 |p::P,w::vs,i+1,m,nd,b,a,c=>by
  show Fx kindOf ((p,w)::P.zip vs) m x=_;unfold Fx;exact qU (i:=i) (nY.mp nd).2 (by simpa using b) (by simpa using a) c
theorem qV{kindOf:Str->Option o6}{x:Str}:∀{P:Bi}{vs:B2}{i:Nat}{m:Str->D1},P.Nodup->P[i]?=U x->vs[i]?=U v->kindOf x≠U .local ->
  FC kindOf (P.zip vs) m x=U v
 |[],_,_,_,_,h,_,_=>by simp at h
 |_::_,[],_,_,_,_,h,_=>by simp at h
 |p::P,w::vs,0,m,nd,b,a,c=>by
  simp at b a;subst b;subst a;show FC kindOf ((p,w)::P.zip vs) m p=_;unfold FC;rw[qT λv d=>(nY.mp nd).1 (zK d).1,bp c];simp
 |p::P,w::vs,i+1,m,nd,b,a,c=>by
  show FC kindOf ((p,w)::P.zip vs) m x=_;unfold FC;exact qV (i:=i) (nY.mp nd).2 (by simpa using b) (by simpa using a) c
def start(N:Bi)(vs:List V):St:=vs.map U++bL (N.length-vs.length) Y
def i7(CX:DF)(P:dn)(w:dv)(K:bq)(mg:Str->D1)(base:ey)(N:Bi)(qual:Str)(scope:gL)(f:bt)(a:bj)(A:ek)(outer:List Env)(s:av)(H:Hp)(E:XK):Cx where
 prog:=P
 w:=w
 K:=K
 mg:=mg
 base:=base
 A:=A.deeper (va qual scope s.heap.objs.size f a)
 N:=N
 s₀:=s
 H₀:=H
 env:=va qual scope s.heap.objs.size f a
 outer:=outer
 stack:=va qual scope s.heap.objs.size f a::outer
 ex:=[]
 calm:=O
 fn:=λ_=>O
 pn:=[]
 xe:=λe c=>cq (cv P w) (A.deeper<|va qual scope s.heap.objs.size f a) (y1 (va qual scope s.heap.objs.size f a) e) (λ_ b=>CX outer H s E e b) (λd b=>CX outer H s E d b) c
def ve{sc:gL}{x:Str}(h:sc.names.lookup x=U .cell):∃c,(Fv n sc.names []).lookup x=U c:=by
 have q:=MC sc.names n []<|.inl h;exact Ef.mp q
def qW{K:bq}{E:XK}
  (S:fR N ps scope) (hd:A.handled=Y) (g:qv P w K mg base A outer s H) (hl:vs.length=ps.length) (r:Vals vs us)
  (x:InCallC s s.heap.objs.size (Fx (va qual scope s.heap.objs.size f t).kindOf (ps.zip us) λ_=>Y) (Fv (s.heap.objs.size+1) scope.names []) (FC (va qual scope s.heap.objs.size f t).kindOf (ps.zip us) λ_=>Y) s1) :
  Inv (i7 CX P w K mg base N qual scope f t A outer s H E) [] (start N vs) H s1:=by
 have F:ps.length<=N.length:=by have:=ej Cf S.pre;rw[rN]at this;lia
 obtain⟨o,tk,rfl,C⟩:=x.done;have U1:∀b:bt,b∉(i7 CX P w K mg base N qual scope f t A outer s H E).ex:=λb z=>ef (show b∈([]:BM)from z) (by simp)
 refine⟨⟨g.mod,S.kind,J,J,cV _,λy z c o d=>?_,λy j=>?_,λy c _ h=>?_,λ_=>hd,zi g.frames,.inr ⟨J,J⟩,λb z=>ef z<|U1 b,g.bs,g.bsz,λb _ _=>U1 b,λb z=>ef z<|U1 b,g.j3,g.frf⟩,
  J,g.bare,Un.kept C,⟨_,x.toInCall.ns,λi y v o d I=>?_⟩,λy c h=>⟨_,x.cell y c h⟩,g.bC.fresh<|cV _,λy c h=>?_,λp l=>ef (show p∈([]:dD)from l)<|by simp,g.bC.kept C,?_⟩
 .exact name_of_addr x.apart (hF o)<|hF d
 .have j:scope.names.lookup y=U .cell\/scope.names.lookup y=U .free:=j
  rcases j with j|j
  .exact ve j
  .exact ef J<|S.nofree _<|hF j
 .exact zy<|x.above y c<|hF h
 .have m:i<vs.length:=by
   unfold start at d;by_cases m:i<vs.length
   .exact m
   .rw[eZ<|by simpa using m]at d
    rw[xU]at d;split at d<;>cases d
  have G:vs[i]?=U v:=by
   unfold start at d;rw[gY<|by simpa using m,fQ]at d
   cases e:vs[i]? with
   |none=>rw[e]at d;cases d
   |some a=>rw[e]at d;cases d;rfl
  obtain⟨u,B,D⟩:=r.get G;have l:ps[i]?=U y:=by
   rw[<- S.pre,List.getElem?_take_of_lt<|by lia];exact o
  have Ũ:ps.Nodup:=by rw[<- S.pre];exact S.nd.sublist<|List.take_sublist _ _
  refine⟨u,D,?_⟩;rcases S.par y (gz l)with k|k
  .exact .inl ⟨k,qU Ũ l B k⟩
  .obtain⟨c,e⟩:=ve (n:=s.heap.objs.size+1) k
   refine .inr ⟨.inl k,c,e,?_⟩;have q:=x.cell y c e;rw[qV Ũ l B<|by show scope.names.lookup y≠_;rw[k];decide]at q
   exact q
 .exact g.bC.fresh<|zy<|x.above y c<|hF h
 .unfold start
  show _=N.length;rw[cQ,cz,kG]
  lia
def NC{K:bq}{a:Arguments}{C kV j B g ct R:bj}
    {sp:Sp} (T:K.lookup f=U ⟨R,od,.func<|Cd name qual a c scope C kV j B an g ct,M⟩) (gc:D5 K g qual=O) (S:fR N ps scope)
  (len:∀vs H Q E,sp vs H Q E->vs.length=ps.length)
  (EV:∀(A:ek)(outer:List Env)(s:av)(H:Hp)(vs:List V)(Q:VK)(E:XK),bJ k (A.deeper<|va qual scope s.heap.objs.size f g)->sp vs H Q E ->
   ∃t,gO (i7 CX P w K mg base N qual scope f g A outer s H E) c t/\t {nx:=λ_ H'=>Q .non H',rt:=Q} (start N vs) H) :
  cT P w K mg base CX (k+1) f (Cd name qual a c scope C kV j B an g ct) ps sp:=by
 refine⟨len,λA outer s H D L vs Q E hr i hb r F=>?_⟩;have hl:=len _ _ _ _ F;have G:K.In s.heap:=i.mod.kin.keeps λb o e=>(i.bs b o e).1;have p:s.heap.NoLimit:=i.mod.nolimit.keeps λb o e=>(i.bs b o e).1;have EY:∀y∈ps.zip L,scope.names.lookup y.1=U .local\/(scope.names.lookup y.1=U .cell/\((Fv (s.heap.objs.size+1) scope.names []).lookup y.1).isSome=O):=λ⟨n,v⟩ X=>by
  rcases S.par n (zK X).1 with q|q
  .exact .inl q
  .exact .inr ⟨q,MC _ _ _<|.inl q⟩
 refine I_ hr.depth (G _ _ T) J S.co S.gen J (PySem.W.codeRec_of G gc)<|hb _ _ _ _ ?_;refine z3 S.kind EY λenv he z x=>?_;subst he;refine⟨p.keeps x.toInCall.keep,codeAny_func ?_⟩;obtain⟨t,Z,hq⟩:=EV A outer s H vs Q E (hr.deeper _) F;have I:Inv (i7 CX P w K mg base N qual scope f g A outer s H E) [] (start N vs) H z:=qW S hr.hd i hl r x;refine eC (Z [] z (start N vs) H _ I hq) (λfl l h=>?_) λe l h=>h;have fin:∀{d:St}{H':Hp}{v:V}{u:bj},Inv (i7 CX P w K mg base N qual scope f g A outer s H E) [] d H' l->RelV v u->Q v H'->CE outer P w H s Q u l:=
  λ{d H' v u} qd m q=>⟨v,H',qd.os,qd.bare,qd.base,qd.bC,m,q⟩
 cases fl with
 |ret u=>
  obtain⟨v,d,H',qd,m,q⟩:=h;exact fin qd m q
 |next=>
  obtain⟨d,H',qd,q⟩:=h;exact fin (v:=V.non) (u:=hQ) qd J q
 |brk=>
  obtain⟨_,_,_,q⟩:=h;exact eI q
 |cont=>
  obtain⟨_,_,_,q⟩:=h;exact eI q
section
variable{x:Str}{id T:String}
def Ã(r:List V->Hp->VK->Prop)(t:TA):TE:=λa H Q=>t a H λb H1=>r b H1 Q
def gh(m:fJ X (.builtin id) r)(l:Gl X x)(k:X.mg x=Y)(i:hM x=U (.builtin id))(n:PA X (e::es) t)(j:x ≠ "__name__" := by decide)(g:bA x:=by decide)
  (he:dy (e::es) X.env=(Zc,eR e X.env)::dy es X.env:=by rfl) (hpl:(hX pos<|dy es X.env).any (·.1)=Zc:=by rfl):PE X (.Call (.Name x p) (e::es) [] pos)<|Ã r t:=by
 intro aa s a H Q I h;refine ff<|gP I l k i ?_ j g;exact PyProof.Rows.callWith_builtin1 (cA (n pos aa s a H _ I h)<|by rintro c d ⟨b,H1,o,f,q1⟩;exact m aa d a H1 b c Q o f q1) he hpl
def h_(m:fJ X (.type T) r)(l:Gl X x)(k:X.mg x=Y)(i:hM x=U (.type T))(n:PA X (e::es) t)(j:x ≠ "__name__" := by decide)(g:bA x:=by decide)
  (he:dy (e::es) X.env=(Zc,eR e X.env)::dy es X.env:=by rfl) (hpl:(hX pos<|dy es X.env).any (·.1)=Zc:=by rfl):PE X (.Call (.Name x p) (e::es) [] pos)<|Ã r t:=by
 intro aa s a H Q I h;refine ff<|gP I l k i ?_ j g;exact Cm (cA (n pos aa s a H _ I h)<|by rintro c d ⟨b,H1,o,f,q1⟩;exact m aa d a H1 b c Q o f q1) he hpl
end
end L2
namespace HT
open PySem PyProof.Rows
section
open PySem.SeqAt
open PySem.AutoSeq1 (wpAny_loadPart')
open PySem.MeetsSeq PySem.MeetsSeq2 PySem.MeetsSeq3
end
def ia(n d:Nat):D2->Nat
 |none=>d
 |some v=>if v<0 then(v+(n:Int)).toNat else min v.toNat n
end HT
namespace L2
open PySem PySem.Spec PyProof.Rows
abbrev TO:=St->Hp->(D2->Hp->Prop)->Prop
def PO(X:Cx)(e:Option cw)(t:TO):Prop:=
 ∀(b:dD)(s:av)(a:St)(H:Hp)(Q:D2->Hp->Prop),Inv X b a H s->t a H Q ->
  L6 X (evalPart e X.env) (λu d=>∃o c,Inv X b a c d/\IsPart u o/\Q o c) X.xe s
def JF:TO:=λ_ H Q=>Q Y H
def U3(t:TE):TO:=λa H Q=>t a H λx H1=>∃i,x=.int i/\Q (U i) H1
def intsAre_of:∀{us:B2},Vals (ns.map V.int) us->IU us ns:=by
 induction ns with
 |nil=>intro us r;rw[zL]at r;cases r;exact .nil
 |cons n ns c=>
  intro us r;rw[fq]at r;cases r with
  |cons b a=>
   obtain⟨t,e⟩:=b;subst e;exact .cons n t<|c a
variable{X:Cx}
section
variable{G K:Option cw}
def JG:PO X Y JF:=by
 intro b s a H Q I h;rw[evalPart_none];exact dk ⟨Y,H,I,.none,h⟩
def JH(h:PE X e L):PO X (U e)<|U3 L:=by
 intro f s a H Q I d;rw[evalPart_some];refine cA (h f s a H _ I d) λu j b=>?_;obtain⟨x,H1,g,c,q1⟩:=b;obtain⟨i,rfl,q⟩:=q1;obtain⟨t,rfl⟩:=c;exact⟨U i,H1,g,.int i t,q⟩
def ND(X:Cx)(r:V->D2->D2->Hp->VK->Prop):Prop:=
 ∀(d:dD)(s:av)(a:St)(H:Hp)(x:V)(v c b:bj)(G K:D2)(sl:bt)(Q:VK),Inv X d a H s->RelV x v->s.heap.IsSliceOf sl c b .none->IsPart c G->IsPart b K->r x G K H Q ->
  ∃T id,o8 (.type T) "__getitem__" = pure (U<|.builtin id)/\s.TypeIs v T/\L6 X (y3 v<|.ref sl) (EP X d a Q) X.xe s
def ND.or{r e:V->D2->D2->Hp->VK->Prop}(h:ND X r)(h':ND X e):ND X λx G K H Q=>r x G K H Q\/e x G K H Q:=by
 intro i s a H x v c b G K sl Q I d g pl f q;rcases q with q|q
 .exact h i s a H x v c b G K sl Q I d g pl f q
 .exact h' i s a H x v c b G K sl Q I d g pl f q
def tSl(r:V->D2->D2->Hp->VK->Prop)(L:TE)(tl M:TO):TE:=λa H Q=>L a H λx H1=>tl a H1 λl c=>M a c λu b=>r x l u b Q
def vf(hr:ND X r)(he:PE X e L)(hl:PO X G tl)(p:PO X K M):PE X (.Subscript e (.Slice G K Y N) pos)<|tSl r L tl M:=by
 intro d s c H Q I h;refine Subscript_<|cA (he d s c H _ I h) λv k f=>?_;obtain⟨x,H1,E,m,q1⟩:=f;refine wpAny_Slice<|cA (hl d k c H1 _ E q1) λi s2 f=>?_;obtain⟨l,F,D,pl,q2⟩:=f;refine cA (p d s2 c F _ D q2) λg a f=>?_;obtain⟨u,j,C,o,n⟩:=f;rw[evalPart_none];apply dk;have B:Inv X d c j {a with heap:=a.heap.push {cls:=.type "slice",data:=.fields #[i,g,.none]}}:=C.kept (t':=a.toks) λb ob q=>ax _ q
 obtain⟨T,id,z,t,y⟩:=hr d {a with heap:=a.heap.push {cls:=.type "slice",data:=.fields #[i,g,.none]}} c j x v i g l u a.heap.objs.size Q B m (Heap.IsSliceOf.new ..) pl o n
 show L6 X (CC e (.Slice G K Y N) v<|.ref a.heap.objs.size) (EP X d c Q) X.xe {a with heap:=a.heap.push {cls:=.type "slice",data:=.fields #[i,g,.none]}}
 exact tail_any (ops:=[.ref a.heap.objs.size,v]) t z y (by with_unfolding_all rfl)
def CG(xs:List V)(G K:D2):List V:=(xs.drop<|HT.ia xs.length 0 G).take<|HT.ia xs.length xs.length K-HT.ia xs.length 0 G
def vg(xs:List V)(G K:D2):(CG xs G K).length<=xs.length:=by
 unfold CG;rw[rN,kH]
 lia
end
def IW(n:Nat)(i:Int):Option Nat:=if 0<=i then(if i<n then U i.toNat else Y)else if -(n:Int)<=i then U (i+n).toNat else Y
def DG{α:Type}(xs:List α)(i:Int):Option α:=(IW xs.length i).bind λj=>xs[j]?
def Ah(h:IW n i=U j):E5 i n=U j/\j<n/\-(n:Int)<=i/\i<n:=by
 unfold IW at h;by_cases h0:0<=i
 .rw[bU h0]at h
  by_cases h1:i<n
  .rw[bU h1]at h
   have e:i.toNat=j:=kF.inj h;exact⟨by rw[seqIndex_of h0 h1,e],by lia,by lia,h1⟩
  .rw[bp h1]at h;cases h
 .rw[bp h0]at h
  by_cases h1:-(n:Int)<=i
  .rw[bU h1]at h
   have e:(i+n).toNat=j:=kF.inj h;exact⟨by rw[G2 (by lia) h1,e],by lia,h1,by lia⟩
  .rw[bp h1]at h;cases h
def sy{v:α}(h:DG xs i=U v):∃j,E5 i xs.length=U j/\xs[j]?=U v/\j<xs.length/\-(xs.length:Int)<=i/\i<xs.length:=by
 unfold DG at h;cases e:IW xs.length i with
 |none=>rw[e]at h;cases h
 |some j=>
  rw[e]at h;obtain⟨d,c,b,a⟩:=Ah e;exact⟨j,d,h,c,b,a⟩
def jE(b:cw):Prop:=∀o i,ra b Zc o i=operate [o,i] (y3 o i)
def JI(X:Cx)(r:R2):Prop:=
 ∀(b a:cw)(d:dD)(s:av)(c:St)(H:Hp)(x y:V)(v u:bj)(Q:VK),Inv X d c H s->RelV x v->RelV y u->r x y H Q ->
  ra a Zc v u=operate [v,u] (y3 v u)->L6 X (CC b a v u) (EP X d c Q) X.xe s
def yf(X:Cx)(id:String)(r:V->List V->Hp->VK->Prop):Prop:=
 ∀(d:dD)(s:av)(a:St)(H:Hp)(x:V)(b:List V)(v:bj)(c:B2)(Q:VK),Inv X d a H s->RelV x v->Vals b c->r x b H Q ->
  L6 X (call (.builtin id)<|v::c) (EP X d a Q) X.xe s
section
variable{a b:cw}{p z:TE}
def JI.or(h:JI X r)(h':JI X f):JI X λx y H Q=>r x y H Q\/f x y H Q:=by
 intro a b i s c H x y v u Q I e d q g;rcases q with q|q
 .exact h a b i s c H x y v u Q I e d q g
 .exact h' a b i s c H x y v u Q I e d q g
def EZ(hr:JI X r)(i:PE X a p)(g:PE X b z)(f:jE b):PE X (.Subscript a b pos)<|Pd r p z:=by
 intro j s c H Q I h;exact Subscript_<|Pe i g I h λv u s2 x y l k e d q=>hr a b j s2 c l x y v u Q k e d q<|f _ _
def U4(K:bq):R2:=λx y H Q=>∃p a i v,x=.ref p/\y=.int i/\dm K H p a/\DG a i=U v/\Q v H
def U5(K:bq):R2:=λx y H Q=>∃p a i v,x=.ref p/\y=.int i/\mC K H p a/\DG a i=U v/\Q v H
def U6:R2:=λx y H Q=>∃z i c,x=.str z/\y=.int i/\z.length<=cC/\DG z.cps.toList i=U c/\Q (.str ⟨#[c]⟩) H
def Ai:JI X<|U4 X.K:=by
 intro b c l s f H x y v u Q I A o h g;obtain⟨p,G,i,z,rfl,rfl,B,C,q⟩:=h;cases A;obtain⟨t,rfl⟩:=o;obtain⟨d,r,pl,L⟩:=I.list B;obtain⟨j,a,F,N,E,D⟩:=sy C;obtain⟨w,k,m⟩:=r.get F;have hl:=r.length;have M:=lN;have fin:EP X l f Q w s:=⟨z,H,I,m,q⟩;by_cases h0:0<=i
 .have e:i.toNat=j:=by
   rw[seqIndex_of h0 D]at a;exact kF.inj a
  exact item_listR pl.isList h0 (by lia) (by rw[e];simpa using k) fin g
 .have e:(i+(d.toArray.size:Int)).toNat=j:=by
   rw[G2 (by lia) E]at a
   rw[cZ,<- hl];exact kF.inj a
  exact GZ (x:=w) pl.isList.typeIs slot_list_getitem.lookup
   (wpAny_getItem_list_neg (Q:=λr n=>r=w/\EP X l f Q r n) pl.isList (by lia) (by rw[cZ]<;>lia) (by lia) (by rw[e];simpa using k) ⟨J,fin⟩) g
def Pz:JI X<|U5 X.K:=by
 intro a b d s c H x y v u Q I k g h m;obtain⟨p,D,i,z,rfl,rfl,n,o,q⟩:=h;cases k;obtain⟨t,rfl⟩:=g;obtain⟨l,r,pl,E⟩:=I.tuple n;obtain⟨j,B,A,M,L,G⟩:=sy o;obtain⟨w,C,e⟩:=r.get A;have hl:=r.length;have F:=lN;have fin:EP X d c Q w s:=⟨z,H,I,e,q⟩;exact GZ (x:=w) pl.typeIs slot_tuple_getitem.lookup
  (getItem_tuple (j:=j) (Q:=λr f=>r=w/\EP X d c Q r f) pl (by lia) (by lia) (by rw[cZ,<- hl];exact B) (by simpa using C) ⟨J,fin⟩) m
def PB:JI X U6:=by
 intro a b D s r H x y v u Q I f e h g;obtain⟨z,i,c,rfl,rfl,A,k,q⟩:=h;obtain⟨t,rfl⟩:=f;obtain⟨w,rfl⟩:=e;obtain⟨j,d,n,C,m,l⟩:=sy k;have hl:z.cps.toList.length=z.length:=by simp[Str.length]
 rw[hl]at d m l;have B:=lN;exact tail_any (pa s z t) slot_str_getitem.lookup (getItem_str (c:=c) (by
  have p:decide (i < -(2^63:Int))=Zc:=b0 (by lia)
  have o:decide (i ≥ 2^63)=Zc:=b0 (by lia)
  rw[p,o,Bool.or_false]) (by rw[d];simpa using n) ⟨.str ⟨#[c]⟩,H,I.tok _,⟨_,J⟩,q⟩) g
def ũ(K:bq):R2:=λx y H Q=>U4 K x y H Q\/U5 K x y H Q\/U6 x y H Q
def E1:JI X<|ũ X.K:=Ai.or<|Pz.or PB
def yh(its:B2)(n j:Nat)(u:bj):ro (·.setIfInBounds j u) {cls:=.type "list",data:=.seq its.toArray n}={cls:=.type "list",data:=.seq (its.set j u).toArray n}:=by
 simp[ro]
theorem Inv.lst{b:dD}{a:St}{H:Hp}{s:av}{p:bt}{xs:List V}(I:Inv X b a H s)(h:H p=U (.lst xs)) :
  ∃(its:B2)(n:Nat),Vals xs its/\s.heap.get? p=U {cls:=.type "list",data:=.seq its.toArray n}/\xs.length<=cC:=by
 obtain⟨z,its,n,r,e⟩:=I.bC p _ h;exact⟨its,n,r,e,z⟩
def Inv.PC{p:bt}{its its':B2}{n a:Nat}(I:Inv X g c H s)(h:H p=U (.lst xs))
  (j:s.heap.get? p=U {cls:=.type "list",data:=.seq its.toArray n}) (d:f {cls:=.type "list",data:=.seq its.toArray n}={cls:=.type "list",data:=.seq its'.toArray a}) (r:Vals ys its') (i:ys.length<=cC) (t:Nat) :
  Inv X g c (upd H p<|.lst ys) {s with heap:=s.heap.update p f,toks:=t}:=by
 have e:(s.heap.update p f).get? p=U {cls:=.type "list",data:=.seq its'.toArray a}:=by
  rw[gs f j<|by rw[d]<;>rfl,d]
 refine I.write (x:=p) (e:=p) (by rw[h];trivial) (.inl J) (λb u k q=>(eo _ _<|eL k).trans q) ⟨_,e⟩ ?_
 exact⟨i,its',a,r,e⟩
def U7:V->V->V->Hp->(Hp->Prop)->Prop:=λo i v H Q=>∃p a k j,o=.ref p/\i=.int k/\H p=U (.lst a)/\IW a.length k=U j/\Q (upd H p<|.lst<|a.set j v)
def set_list:UB X U7:=by
 intro C s m H o i v ov D u Q I y z x h;obtain⟨p,w,k,j,rfl,rfl,e,B,q⟩:=h;cases y;obtain⟨t,rfl⟩:=z;obtain⟨a,n,r,c,A⟩:=I.lst e;obtain⟨b,F,g,f⟩:=Ah B;have hl:=r.length;have E:=lN;have l:Inv X C m (upd H p<|.lst<|w.set j v) {s with heap:=s.heap.update p (ro (·.setIfInBounds j u))}:=
  I.PC e c (yh a n j u) (r.set x j) (by rw[eT];exact A) s.toks
 by_cases h0:0<=k
 .have d:k.toNat=j:=by
   rw[seqIndex_of h0 f]at b;exact kF.inj b
  exact PySem.W.ki_setAt c h0 (by lia) (by rw[cZ,<- hl];exact f) (by rw[d];exact⟨_,l,q⟩)
 .have d:(k+(a.toArray.size:Int)).toNat=j:=by
   rw[G2 (by lia) g]at b
   rw[cZ,<- hl];exact kF.inj b
  exact PySem.W.ki_setBack c (by lia) (by rw[cZ,<- hl];exact g) (by lia) (by rw[d];exact⟨_,l,q⟩)
def sC(lo a:D2)(n:Nat):(mI lo a Y n).1=((HT.ia n 0 lo:Nat):Int)/\(mI lo a Y n).2.1=((HT.ia n n a:Nat):Int)/\(mI lo a Y n).2.2=1:=by
 refine⟨?_,?_,J⟩
 .cases lo with
  |none=>simp[mI,HT.ia]
  |some i=>
   simp only[mI,HT.ia,MO,show(1:Int) > 0 by decide,s9]
   by_cases h:i<0
   .simp only[h,s9]<;>lia
   .simp only[h,xW]<;>lia
 .cases a with
  |none=>simp[mI,HT.ia]
  |some i=>
   simp only[mI,HT.ia,MO,show(1:Int) > 0 by decide,s9]
   by_cases h:i<0
   .simp only[h,s9]<;>lia
   .simp only[h,xW]<;>lia
def qw(its:B2)(lo a:D2):slicePick its.toArray lo a Y=((its.drop<|HT.ia its.length 0 lo).take<|HT.ia its.length its.length a-HT.ia its.length 0 lo).toArray:=by
 obtain⟨d,c,b⟩:=sC lo a its.toArray.size;unfold slicePick;rw[d,c,b];simp only[sliceRange_one,pick_run,cZ]<;>rfl
def U8(K:bq):V->D2->D2->Hp->VK->Prop:=λx lo c H Q=>∃a b,x=.ref a/\dm K H a b/\∀p,H p=Y->Q (.ref p) (upd H p<|.lst<|CG b lo c)
def JJ:ND X<|U8 X.K:=by
 intro u s n H x v t p lo d sl Q I f l pl g h;obtain⟨a,c,rfl,k,q⟩:=h;cases f;obtain⟨i,r,e,j⟩:=I.list k;have m:=r.length;refine⟨"list",_,slot_list_getitem.lookup,e.isList.typeIs,?_⟩;refine wpAny_getItem_list_slice e.isList l pl g .none (by simp) ?_ (by rw[cZ]<;>lia)
 rw[qw,<- m];refine⟨.ref s.heap.objs.size,_,I.laid (t':=s.toks) (o:=.lst<|CG c lo d) (λb ob q=>ax _ q) (cV _) ?_,J,q _<|I.bC.fresh<|cV _⟩;exact⟨bG (vg c lo d) j,_,0,(r.drop<|HT.ia c.length 0 lo).take<|HT.ia c.length c.length d-HT.ia c.length 0 lo,de _ J⟩
def e8:V->Bool
 |.non=>O
 |.bl _=>O
 |.int _=>O
 |.str _=>O
 |_=>Zc
def IX:V->V->Bool
 |.non,.non=>O
 |.bl a,.bl b=>a == b
 |.bl a,.int b=>(if a then 1 else 0) == b
 |.int a,.bl b=>a == (if b then 1 else 0)
 |.int a,.int b=>a == b
 |.str a,.str b=>a == b
 |_,_=>Zc
def E2{A:ek}(e:RelV y u)(c:RelV x v)(f:e8 y=O)(fx:e8 x=O):n5 A s u v<|IX y x:=by
 cases y with
 |non=>
  cases e;cases x with
  |non=>cases c;exact SeqAt.EqAt.same _
  |bl b=>cases c;exact SeqAt.EqAt.none_bool b
  |int b=>obtain⟨t,rfl⟩:=c;exact SeqAt.EqAt.none_int b t
  |str b=>obtain⟨t,rfl⟩:=c;exact SeqAt.EqAt.none_str b t
  |_=>exact ef (show Zc=O from fx) dw
 |bl a=>
  cases e;cases x with
  |non=>cases c;exact SeqAt.EqAt.bool_none a
  |bl b=>cases c;exact SeqAt.EqAt.bool_bool a b
  |int b=>obtain⟨t,rfl⟩:=c;exact SeqAt.EqAt.bool_int a b t
  |str b=>obtain⟨t,rfl⟩:=c;exact SeqAt.EqAt.bool_str a b t
  |_=>exact ef (show Zc=O from fx) dw
 |int a=>
  obtain⟨d,rfl⟩:=e;cases x with
  |non=>cases c;exact SeqAt.EqAt.int_none a d
  |bl b=>cases c;exact SeqAt.EqAt.int_bool a d b
  |int b=>obtain⟨t,rfl⟩:=c;exact SeqAt.EqAt.int_int a d b t
  |str b=>obtain⟨t,rfl⟩:=c;exact wh a d b t
  |_=>exact ef (show Zc=O from fx) dw
 |str a=>
  obtain⟨d,rfl⟩:=e;cases x with
  |non=>cases c;exact SeqAt.EqAt.str_none a d
  |bl b=>cases c;exact SeqAt.EqAt.str_bool a d b
  |int b=>obtain⟨t,rfl⟩:=c;exact vT a d b t
  |str b=>obtain⟨t,rfl⟩:=c;exact SeqAt.EqAt.str_str a d b t
  |_=>exact ef (show Zc=O from fx) dw
 |_=>exact ef (show Zc=O from f) dw
def yi(x:V)(u:bj):Bool:=match u with
 |.none=>IX .non x
 |.bool b=>IX (.bl b) x
 |.int i _=>IX (.int i) x
 |.str z _=>IX (.str z) x
 |_=>Zc
def E3(r:RelV y u)(f:e8 y=O):yi x u=IX y x:=by
 cases y with
 |non=>cases r;rfl
 |bl b=>cases r;rfl
 |int i=>obtain⟨t,rfl⟩:=r;rfl
 |str z=>obtain⟨t,rfl⟩:=r;rfl
 |_=>exact ef (show Zc=O from f) dw
theorem kO:∀{xs:List V}{us:B2},Vals xs us->xs.all e8=O->us.any (yi x)=xs.any λy=>IX y x
 |_,_,.nil,_=>J
 |y::xs,u::us,.cons r t,f=>by
  rw[e7,cL]at f;rw[rO,rO,E3 r f.1,kO t f.2]
theorem jh{A:ek}(b:RelV x v)(fx:e8 x=O):∀{xs:List V}{us:B2},Vals xs us->xs.all e8=O->∀u∈us,n5 A s u v (yi x u)
 |_,_,.nil,_=>λu a=>by cases a
 |y::xs,u::us,.cons r t,f=>λc a=>by
  rw[e7,cL]at f;rcases cu.mp a with rfl|a
  .rw[E3 r f.1];exact E2 r b f.1 fx
  .exact jh b fx t f.2 c a
def Ä(x:V)(xs:List V):Bool:=xs.any λy=>IX y x
def Y5(K:bq)(neg:Bool):R2:=λx y H Q=>∃p a,y=.ref p/\(dm K H p a\/mC K H p a)/\e8 x=O/\a.all e8=O/\Q (.bl<|if neg then !Ä x a else Ä x a) H
def CH:gQ X (eQ .In)<|Y5 X.K Zc:=by
 intro j s g H x y v u Q I d e h;obtain⟨p,i,rfl,b,fx,fs,q⟩:=h;cases e;rcases b with b|b
 .obtain⟨a,r,pl,f⟩:=I.list b
  refine SeqAt.in_listAt (yi x) pl.isList (λw c=>jh d fx r fs w<|by simpa using c) ⟨.bl _,H,I,J,?_⟩
  rw[show a.toArray.any (yi x)=a.any (yi x) by simp,kO r fs]
  exact q
 .obtain⟨a,r,pl,f⟩:=I.tuple b
  refine SeqAt.in_tupleAt (yi x) pl (λw c=>jh d fx r fs w<|by simpa using c) ⟨.bl _,H,I,J,?_⟩
  rw[show a.toArray.any (yi x)=a.any (yi x) by simp,kO r fs]
  exact q
def sD:gQ X (eQ .NotIn)<|Y5 X.K O:=by
 intro j s g H x y v u Q I d e h;obtain⟨p,i,rfl,b,fx,fs,q⟩:=h;cases e;rcases b with b|b
 .obtain⟨a,r,pl,f⟩:=I.list b
  refine SeqAt.notIn_listAt (yi x) pl.isList (λw c=>jh d fx r fs w<|by simpa using c) ⟨.bl _,H,I,J,?_⟩
  rw[show a.toArray.any (yi x)=a.any (yi x) by simp,kO r fs]
  exact q
 .obtain⟨a,r,pl,f⟩:=I.tuple b
  refine SeqAt.notIn_tupleAt (yi x) pl (λw c=>jh d fx r fs w<|by simpa using c) ⟨.bl _,H,I,J,?_⟩
  rw[show a.toArray.any (yi x)=a.any (yi x) by simp,kO r fs]
  exact q
def iK:fJ X (.type "list") λxs H Q=>∃p ys,xs=[.ref p]/\(dm X.K H p ys\/mC X.K H p ys)/\∀l,H l=Y->Q (.ref l) (upd H l<|.lst ys):=by
 intro y s t H xs z Q I r h;obtain⟨p,ys,rfl,i,q⟩:=h;obtain⟨u,rfl,v⟩:=vals1 r;cases v;have fin:∀(a:B2),Vals ys a->ys.length<=cC->∀(c:ey)(f:Nat),(∀b m,s.heap.get? b=U m->c.get? b=U m) ->
   c.get? s.heap.objs.size=U {cls:=.type "list",dict:=Y,data:=.seq a.toArray f,slots:=#[]}->EP X y t Q (.ref s.heap.objs.size) {s with heap:=c}:=λa d g c f kp e=>
  ⟨.ref s.heap.objs.size,_,I.laid (t':=s.toks) kp (cV _)<|show cj X.prog X.w _ c _ (.lst ys)from⟨g,a,f,d,e⟩,J,q _<|I.bC.fresh<|cV _⟩
 rcases i with i|i
 .obtain⟨a,d,pl,g⟩:=I.list i
  have x:=d.length;obtain⟨o,j,k,n,hd⟩:=pl.isList;exact call_list_seq p (.inl J) j k hd (λc f kp e=>fin a d g c f kp e) (by simp only[cZ]<;>lia)
 .obtain⟨a,d,pl,g⟩:=I.tuple i
  have x:=d.length;obtain⟨o,j,k,n,hd⟩:=pl;exact call_list_seq p (.inr J) j k hd (λc f kp e=>fin a d g c f kp e) (by simp only[cZ]<;>lia)
def Å(K:bq)(T:String)(x:V)(H:Hp):Prop:=match x with
 |.str _=>T = "str"
 |.int _=>T = "int"
 |.ref p=>(T = "list" /\ ∃b,dm K H p b)\/(T = "tuple" /\ ∃o,K.lookup p=U o/\o.cls=.type "tuple" /\ o.dict=Y) \/
   (T = "dict" /\ ((∃a,H p=U (.dK a))\/∃a,H p=U (.dT a)))\/(T = "set" /\ ∃S n,H p=U (.set S n))
 |_=>False
def E4(I:Inv X k f H s)(r:RelV x v)(ty:Å X.K T x H) :
  s.TypeIs v T/\∀a,v=.ref a->∃ob,s.heap.get? a=U ob/\ob.dict=Y:=by
 cases x with
 |str z=>
  obtain⟨t,rfl⟩:=r;cases(show T = "str"from ty);exact⟨pa s z t,λ_ e=>nomatch e⟩
 |int i=>
  obtain⟨t,rfl⟩:=r;cases(show T = "int"from ty);exact⟨typeIs_int s i t,λ_ e=>nomatch e⟩
 |ref p=>
  cases r;rcases ty with⟨rfl,m,h⟩|⟨rfl,o,b,j,hd⟩|⟨rfl,b⟩|⟨rfl,S,n,b⟩
  .obtain⟨g,_,pl,_⟩:=I.list h
   refine⟨pl.isList.typeIs,λa e=>?_⟩;cases e;obtain⟨o,n,e,c,hd,_⟩:=pl;exact⟨o,e,hd⟩
  .refine⟨⟨o,I.iE p o b,j⟩,λa e=>?_⟩
   cases e;exact⟨o,I.iE _ o b,hd⟩
  .have z:∃o,s.heap.get? p=U o/\o.ExactDict:=by
    rcases b with⟨l,b⟩|⟨l,b⟩
    .obtain⟨_,_,_,_,o,_,_,e,ex,_⟩:=I.bC p _ b
     exact⟨o,e,ex⟩
    .obtain⟨_,_,_,_,o,_,_,e,ex,_⟩:=I.bC p _ b
     exact⟨o,e,ex⟩
   obtain⟨o,e,ex⟩:=z;refine⟨⟨o,e,ex.1⟩,λa d=>?_⟩;cases d;exact⟨o,e,ex.2.1⟩
  .obtain⟨o,_,_,_,e,ex,_⟩:=I.bC p _ b
   refine⟨⟨o,e,ex.1⟩,λa d=>?_⟩;cases d;exact⟨o,e,ex.2.1⟩
 |_=>exact eI ty
def Æ(K:bq)(T:String)(r:V->List V->Hp->VK->Prop)(b:TE):TE:=λa H Q=>b a H λx H1=>Å K T x H1/\r x [] H1 Q
def Ū(K:bq)(T:String)(r:V->List V->Hp->VK->Prop)(c:TE)(t:TA):TE:=λa H Q=>c a H λx H1=>Å K T x H1/\t a H1 λb d=>r x b d Q
variable{T id:String}
def PD(g:PlainAttrs T)(slot:Slot T name id)(n:sG (.builtin id)=pure (.type "method_descriptor"))(j:yf X id r)(i:PE X o G)
  (p:ke o name X.env (eR o X.env)=eR o X.env:=by rfl) (m:(L.endLine == F.line)=O:=by rfl):PE X (.Call (.Attribute o name L) [] [] F)<|Æ X.K T r G:=by
 intro c s a H Q I h;refine wpAny_Call_method0_late p m<|cA (i c s a H _ I h) λv f e=>?_;obtain⟨x,H1,d,b,ty,q1⟩:=e;obtain⟨l,k⟩:=E4 d b ty;exact⟨T,id,g,slot,n,l,k,yB J<|PySem.evalArgs_none<|j c f a H1 x [] v [] Q d b .nil q1⟩
def vj(m:PlainAttrs T)(slot:Slot T name id)(B:sG (.builtin id)=pure (.type "method_descriptor"))(q:yf X id r)(p:PE X o G)(u:PA X (e::es) t)
  (E:ke o name X.env (eR o X.env)=eR o X.env:=by rfl)
  (Ç:((hX F<|dy (e::es) X.env).all (λx=>!x.1)&&(ri F<|mM [] X.env).all (λx=>x.1.isSome)
   && decide ((e::es).length+([]:List pq).length+(if([]:List pq).isEmpty then 0 else 1)<30))=O:=by rfl)
  (z:(L.endLine == F.line)=O:=by rfl) (n:dy (e::es) X.env=(Zc,eR e X.env)::dy es X.env:=by rfl) (A:(hX F<|dy es X.env).any (·.1)=Zc:=by rfl) :
  PE X (.Call (.Attribute o name L) (e::es) [] F)<|Ū X.K T r G t:=by
 intro b s a H Q I h;refine wpAny_Call_method_late E Ç z J<|cA (p b s a H _ I h) λv k g=>?_;obtain⟨x,H1,f,c,ty,q1⟩:=g;obtain⟨y,w⟩:=E4 f c ty;refine⟨T,id,m,slot,B,y,w,?_⟩;have d:=u F b k a H1 _ f q1;rw[n]at d ⊢;refine yB (by show(Zc ||(hX F<|dy es X.env).any (·.1))=Zc;rw[A]<;>rfl)<|Calls.evalArgs_plain ?_
 exact cA d (by rintro j s2 ⟨i,D,C,l,q2⟩;exact q b s2 a D x i v j Q C c l q2)
end
def È(X:Cx)(id:String)(r:V->List V->Hp->VK->Prop):Prop:=
 ∀(d:dD)(s:av)(a:St)(H:Hp)(x:V)(b:List V)(v:bj)(c:B2)(Q:VK),Inv X d a H s->RelV x v->Vals b c->r x b H Q ->
  L6 X (call (.builtin id)<|v::c) (EP X d a Q) X.xe s
def Vals.one:∀{x:V}{us:B2},Vals [x] us->∃u,us=[u]/\RelV x u:=by
 intro x us h;cases h with
 |cons r t=>cases t;exact⟨_,J,r⟩
def Vals.two:∀{x y:V}{us:B2},Vals [x,y] us->∃u v,us=[u,v]/\RelV x u/\RelV y v:=by
 intro x y us h;cases h with
 |cons r t=>
  obtain⟨v,rfl,q⟩:=Vals.one t;exact⟨_,_,J,r,q⟩
def Vals.zero:∀{us:B2},Vals [] us->us=[]
 |_,.nil=>J
theorem Vals.dropLast(h:Vals xs us):Vals xs.dropLast us.dropLast:=by
 induction h with
 |nil=>exact .nil
 |cons r t a=>
  cases t with
  |nil=>exact .nil
  |cons q b=>exact .cons r a
theorem Vals.eraseIdx:∀{xs:List V}{us:B2}(i:Nat),Vals xs us->Vals (xs.eraseIdx i) (us.eraseIdx i)
 |_,_,_,.nil=>.nil
 |_,_,0,.cons _ t=>t
 |_,_,i+1,.cons r t=>.cons r<|Vals.eraseIdx i t
theorem Vals.rep(h:Vals xs us):∀k:Nat,Vals (bL k xs).flatten (bL k us).flatten
 |0=>.nil
 |k+1=>by
  rw[rP,rP,rQ,rQ];exact Vals.append h<|Vals.rep h k
def yj{α:Type}(l:List α):l.eraseIdx (l.length-1)=l.dropLast:=by
 induction l with
 |nil=>rfl
 |cons a r c=>
  cases r with
  |nil=>rfl
  |cons b r=>
   have e:(a::b::r).length-1=((b::r).length-1)+1:=by
    have f:(a::b::r).length=r.length+2:=J;have d:(b::r).length=r.length+1:=J
    lia
   rw[e,List.eraseIdx_cons_succ,c]
   all_goals rfl
theorem qX{α:Type}:∀(l:List α)(i:Nat),(l.eraseIdx i).length<=l.length
 |[],_=>cV _
 |_::_,0=>Ce _
 |_::r,i+1=>Nat.succ_le_succ<|qX r i
theorem foldl_rep(its:B2):∀(k:Nat)(a:B2),
  Ei (λc b=>c++b) a.toArray (bL k its.toArray)=(a++(bL k its).flatten).toArray
 |0,a=>by simp
 |k+1,a=>by
  have e:a.toArray++its.toArray=(a++its).toArray:=by simp
  have d:(a++its)++(bL k its).flatten=a++(bL (k+1) its).flatten:=by
   rw[rP,rQ,fB]
  rw[<- d,<- foldl_rep its k<|a++its,<- e,rP,uN]
def Inv.PJ{its its':B2}(I:Inv X j p H s)(h:H l=U (.lst xs))
  (e:s.heap.get? l=U {cls:=.type "list",data:=.seq its.toArray n}) (d:f its.toArray=its'.toArray) (b:Vals ys its') (a:ys.length<=cC) :
  Inv X j p (upd H l<|.lst ys) {s with heap:=s.heap.update l (ro f),toks:=t'}:=by
 have q:=PySem.IsL.update e f;rw[d]at q;refine I.write (x:=l) (e:=l) (by rw[h];exact trivial) (.inl J) (λi u g c=>(eo s.heap (ro f)<|eL g).trans c) ⟨_,q⟩ ?_
 exact⟨a,its',_,b,q⟩
def Inv.CI(I:Inv X j p H s)(b:Vals ys its)(a:ys.length<=cC) :
  Inv X j p (upd H s.heap.objs.size<|.lst ys) {s with heap:=s.heap.push {cls:=.type "list",data:=.seq its.toArray},toks:=t'}:=
 I.laid (λ_ _ q=>ax _ q) (cV _) ⟨a,its,0,b,de _ J⟩
theorem Inv.fresh(I:Inv X j p H s):H s.heap.objs.size=Y:=I.bC.fresh<|cV _
def Inv.CJ(I:Inv X j p H s)(a:H l=U (.lst xs)):xs.length<=cC/\∃(its:B2)(n:Nat),Vals xs its/\xs.length=its.length/\s.heap.get? l=U {cls:=.type "list",data:=.seq its.toArray n}:=by
 obtain⟨z,its,n,r,e⟩:=I.bC l _ a;exact⟨z,its,n,r,r.length,e⟩
def E6(h:n<=cC):lD n=Zc:=by
 unfold lD;exact b0 (by lia)
def JK:V->List V->Hp->VK->Prop:=λx b H Q=>∃l a y,x=.ref l/\b=[y]/\H l=U (.lst a)/\a.length<cC/\Q .non (upd H l<|.lst<|a++[y])
def lQ:È X "list.append" JK:=by
 intro o s g H x j v k Q I c d h;obtain⟨l,i,y,rfl,rfl,b,m,q⟩:=h;cases c;obtain⟨u,rfl,f⟩:=d.one;obtain⟨z,a,n,r,hl,e⟩:=I.CJ b;refine me F.slot_list_append ⟨_,e,J⟩ F.entry_list_append (F.args_list_append_2 _ _) (PySem.list_append l a.toArray n u<|by rw[cZ];lia) ⟨e,?_⟩
 refine⟨.non,_,I.PJ (its':=a++[u]) b e (by simp) (r.append<|.cons f .nil) ?_,J,q⟩
 rw[cQ,Cg]
 lia
def É:V->List V->Hp->VK->Prop:=λx b H Q=>∃l a y,x=.ref l/\b=[]/\H l=U (.lst a)/\a[a.length-1]?=U y/\Q y (upd H l<|.lst a.dropLast)
def PK:È X "list.pop" É:=by
 intro w s m H x p v t Q I f g h;obtain⟨l,o,y,rfl,rfl,d,j,q⟩:=h;cases f;have c:=g.zero;subst c;obtain⟨z,a,n,r,hl,e⟩:=I.CJ d;obtain⟨u,k,i⟩:=r.get j;have b:a.toArray[a.toArray.size-1]?=U u:=by
  show a.toArray[a.length-1]?=U u;rw[<- oP,<- hl];exact k
 refine me F.slot_list_pop ⟨_,e,J⟩ F.entry_list_pop (F.args_list_pop_1 _) (MeetsSeq.list_pop_last l a.toArray n u b<|by rw[cZ];lia) ⟨e,?_⟩
 refine⟨y,_,I.PJ (its':=a.dropLast) d e ?_ r.dropLast ?_,i,q⟩
 .show a.toArray.eraseIdxIfInBounds (a.toArray.size-1)=a.dropLast.toArray
  rw[cZ,MT,yj]
 .rw[List.length_dropLast]
  lia
def PL:V->List V->Hp->VK->Prop:=λx b H Q=>∃l a i k y,x=.ref l/\b=[.int i]/\H l=U (.lst a)/\-(2^63)<=i/\i<2^63/\E5 i a.length=U k/\a[k]?=U y/\Q y (upd H l<|.lst<|a.eraseIdx k)
def E7:È X "list.pop" PL:=by
 intro G s C H x D v E Q I f g h;obtain⟨l,c,i,k,y,rfl,rfl,b,B,A,p,m,q⟩:=h;cases f;obtain⟨u,rfl,j⟩:=g.one;obtain⟨t,rfl⟩:=j;obtain⟨z,a,n,r,hl,e⟩:=I.CJ b;obtain⟨w,o,d⟩:=r.get m;refine me F.slot_list_pop ⟨_,e,J⟩ F.entry_list_pop (F.args_list_pop_2 _ _)
  (MeetsSeq.list_pop_at l a.toArray n i t k w (fitsIndex_both B A) (by rw[cZ,<- hl];exact p) (by rw[<- oP];exact o)<|by rw[cZ];lia) ⟨e,?_⟩
 refine⟨y,_,I.PJ (its':=a.eraseIdx k) b e ?_ (r.eraseIdx k) ?_,d,q⟩
 .show a.toArray.eraseIdxIfInBounds k=(a.eraseIdx k).toArray
  rw[MT]
 .have:=qX c k
  lia
def U9:R2:=λx y H Q=>∃l b c a,x=.ref l/\y=.ref b/\H l=U (.lst c)/\H b=U (.lst a)/\c.length+a.length<=cC/\∀p,H p=Y->Q (.ref p) (upd H p<|.lst<|c++a)
def yk:gQ X (ka .Add) U9:=by
 intro C s o H x y v u Q I f d h;obtain⟨l,b,w,p,rfl,rfl,i,j,B,q⟩:=h;cases f;cases d;obtain⟨z,a,n,r,hl,e⟩:=I.CJ i;obtain⟨t,c,A,g,D,m⟩:=I.CJ j;refine PySem.P.add_list e m ?_ (by rw[cZ,cZ];lia)
 have k:a.toArray++c.toArray=(a++c).toArray:=by simp
 rw[k];exact⟨.ref _,_,I.CI (t':=s.toks) (r.append g)<|by rw[cQ];lia,J,q _ I.fresh⟩
def Va:R2:=λx y H Q=>∃l k a,x=.ref l/\y=.int k/\H l=U (.lst a)/\-(2^63)<=k/\k<2^63/\a.length*k.toNat<=cC /\
 ∀p,H p=Y->Q (.ref p) (upd H p<|.lst (bL k.toNat a).flatten)
def len_rep{α:Type}(xs:List α)(k:Nat):(bL k xs).flatten.length=k*xs.length:=by
 induction k with
 |zero=>simp
 |succ k a=>rw[rP,rQ,cQ,a,MF,D8]
def E8:gQ X (ka .Mult) Va:=by
 intro K s D H x y v u Q I j i h;obtain⟨l,k,E,rfl,rfl,o,w,p,f,q⟩:=h;cases j;obtain⟨t,rfl⟩:=i;obtain⟨z,b,n,r,hl,e⟩:=I.CJ o;have B:b.toArray.size*k.toNat<=cC:=by rw[cZ,<- hl];exact f
 have Ê:¬ b.toArray.size*k.toNat > (2^63-1)/8:=by
  have:(cC:Nat)<=(2^63-1)/8:=by decide
  lia
 have Ë:¬ (!Builtin.List.listFitsIndex k)=O:=by
  rw[fitsIndex_both w p];exact dw
 have C:¬ lD (b.toArray.size*k.toNat)=O:=by
  rw[E6 B];exact dw
 have Ì:Ei (λd c=>d++c) #[] (bL (if b.toArray.isEmpty=O then 0 else k.toNat) b.toArray)=(bL k.toNat b).flatten.toArray:=by
  have A:∀m:Nat,Ei (λd c=>d++c) #[] (bL m b.toArray)=(bL m b).flatten.toArray:=λm=>by
   have:=foldl_rep b m []
   rw[lK]at this;exact this
  rw[A];cases b with
  |nil=>simp
  |cons a G=>rw[bp<|by simp]
 refine wpAny_binaryOp_repeat_ref (T := "list") (U := "int") (by decide) ⟨_,e,J⟩ (λg=>typeIs_int g k t) noFill_list_mul F.fills_int_mul F.slot_int_rmul repeat_list F.slot_int_index.lookup
 <|me F.slot_int_rmul (typeIs_int s k t) F.entry_int_rmul (F.args_int_rmul_2 _ _) (int___rmul___int_list k t l b.toArray n)
   ⟨e,J,⟨_,e,J⟩,me F.slot_list_mul ⟨_,e,J⟩ F.entry_list_mul (F.args_list_mul_2 _ _) (AutoListH.list___mul___list_int_3 l b.toArray n k t Ë Ê C) ⟨e,?_⟩⟩
 rw[Ì];exact⟨.ref _,_,I.CI (t':=s.toks) (r.rep k.toNat)<|by rw[len_rep,Nat.mul_comm];exact f,J,q _ I.fresh⟩
end L2
namespace Att
open PySem PySem.W PySem.Calls PyProof.Rows
def m_:∀(ns:Dx)(vs:B2),WellAll P h vs (ns.map WData.int)->IU vs ns:=by
 intro ns
 induction ns with
 |nil=>
  intro vs w;rw[zL]at w;cases w;exact .nil
 |cons n ns c=>
  intro vs w;rw[fq]at w;cases w with
  |cons a b=>
   cases a;exact .cons _ _<|c _ b
def CK{l:OpenLaw}(o:l.most=U n)
  (j:l.row.toRowW.claim.pre args=O) (v:WellAll P h b args) :
  ∃a vs ns,b=[Value.ref a]/\args=[WData.list<|ns.map WData.int]/\h.get? a=U {cls:=.type "list",data:=.seq vs.toArray}/\IU vs ns/\ns.length<=n:=by
 have g:WShape.hasAll [] args [.list .int]=O:=(pre_splitW j).1;have i:l.pre.holds [] {args:=args}=O:=(pre_splitW j).2;obtain⟨d,r,rfl,t,s⟩:=hasAllW_cons g
 obtain rfl:=hasAllW_nil s
 obtain⟨w,rfl,p⟩:=hasW_list t;obtain⟨ns,rfl⟩:=items_int p;have u:ns.length<=n:=by
  unfold OpenLaw.pre at i;have f:(WTm.not<|.lt (.lit<|.int (n:Int))<|.len<|.arg 0).holds [] {args:=[.list<|ns.map .int]}=O:=by
   have f:=(holds_andW i).1;rw[o]at f;exact f
  have e:=condW_of f<|w_not<|w_lt w_lit<|w_len_list<|w_arg J;rw[cz]at e;refine zE λq=>?_;have k:(n:Int)<((ns.length:Nat):Int):=by lia
  first
   |(rw[c4 k]at e;exact ef e<|by decide)
   |(simp at e;lia)
 cases v with
 |cons w1 w2=>
  cases w2;cases w1 with
  |list m c=>exact⟨_,_,ns,J,J,m,m_ ns _ c,u⟩
def CL(l:OpenLaw)(args:List WData):l.row.toRowW.claim.post args (.bool O) args=O:=
 postW_of (r:=l.row.toRowW) (X:=(O == O))
  (show WShape.has [] (.bool O) .bool=O by first|rfl|decide|simp[WShape.has,WShape.arms,WShape.armsAll])
  (show(WTm.eq .res<|.lit<|.bool O).value [] {args:=args,res:=U (.bool O),after:=args}=U (.bool<|O == O)from w_eq_bool (w_res J) w_lit) J
end Att
namespace L2
open PySem PySem.Spec PyProof.Rows
theorem qY:∀{vs:B2}{ns:Dx},IU vs ns->Vals (ns.map V.int) vs
 |_,_,.nil=>.nil
 |_,_,.cons n t h=>.cons ⟨t,J⟩<|qY h
def PM(H:Hp):Prop:=∀b,H b=Y\/∃o a,H b=U (.jf o<|.lst a)
def E9{K:bq}
  (N:K.In c.heap) (E:c.heap.Ns eP mg) (f:c.heap.Ns sI mb) (y:∀x:Str,x ≠ "__name__" -> mb x=hM x) (E_:c.heap.NoLimit) (W:c.gens=#[])
  (p:c.heap.get? a=U {cls:=.type "list",data:=.seq vs.toArray}) (G:IU vs ns) (hl:ns.length<=cC) (hr:bJ k tj)
  (F:∀base:ey,K.In base->base.Ns eP mg->cT P w K mg base CX k B fd [x] sp) (Vc:∀(s:av)(u:bj),IZ s fd ⟨[u],[]⟩ [(x,u)])
  (Tv:∀H:Hp,PM H->dm K H a (ns.map V.int)->sp [.ref a] H (λv _=>v=.bl O) λ_ _ _=>False)
  (A:∀H e g,CX [] H c (λ_ _ _=>False) e g->False) :
  hW (cv P w) tj (.call (.ref B) ⟨[.ref a],[]⟩) (λr g=>r=.ok (.ret<|.bool O)/\OldK c.heap g.heap/\g.os=c.os/\lb g.gens) c:=by
 have D:=qY G;have Í:=G.length;have i:∀H:Hp,PM H->dm K H a (ns.map V.int)->j0 P w H c.heap->(∀b,H b≠Y->b=a)->(H a≠Y->K.lookup a=Y) ->
   hW (cv P w) tj (.call (.ref B) ⟨[.ref a],[]⟩) (λr g=>r=.ok (.ret<|.bool O)/\OldK c.heap g.heap/\g.os=c.os/\lb g.gens) c:=by
  intro H I X bC L hK;have Q:∀{b:bt}{o:Obj},c.heap.get? b=U o->H b=Y->(rV c.heap H).get? b=U o:=λe n=>EC e n;have U1:∀{b:bt}{o:Obj}{es:Array DictEntry}{l:Nat},c.heap.get? b=U o->o.data=.dict es l->H b=Y:=λ{b o es l} e d=>by
   cases q:H b with
   |none=>rfl
   |some u=>
    have C:b=a:=L b (by rw[q];simp)
    subst C;rw[p]at e;cases e;have d':Data.seq vs.toArray _=Data.dict es l:=d;cases d'
  have Y6:∀{b:bt}{m:Str->D1},c.heap.Ns b m->(rV c.heap H).Ns b m:=λ{b m} ⟨o,es,l,e,d,r⟩=>⟨o,es,l,Q e<|U1 e d,d,r⟩;have ū:K.In<|rV c.heap H:=λb o e=>Q (N b o e) (by
   cases q:H b with
   |none=>rfl
   |some u=>
    have C:b=a:=L b (by rw[q];simp)
    subst C;rw[hK<|by rw[q];simp]at e;cases e)
  have Z:Mod K mg<|rV c.heap H:=⟨ū,Y6 E,⟨mb,Y6 f,y⟩,let⟨mc,h1,h2⟩:=E_;⟨mc,Y6 h1,h2⟩⟩;have e0:qv P w K mg (rV c.heap H) tj [] c H:=⟨J,Z,λb o e=>Jm e,qq<|Cp _ _,trivial,λb f=>ef (show b∈([]:BM)from f)<|by simp,bC,.of_eq W⟩
  refine gg ((F _ ū<|Y6 E).run tj [] c H ⟨[.ref a],[]⟩ [.ref a] [.ref a] _ _ hr e0 (Vc c<|.ref a) (.cons J .nil)<|Tv H I X) λr g h=>?_;cases r with
  |error e=>exact(A H e g h).elim
  |ok fl=>
   cases fl with
   |next=>exact eI h
   |brk=>exact eI h
   |cont=>exact eI h
   |ret u=>
    obtain⟨v,H',os,bare,un,Î,S,q⟩:=h;have T:v=.bl O:=q;subst T
    obtain rfl:u=pM O:=S
    refine⟨J,OldK.of_keep λb o e=>?_,os,bare⟩;cases q:H b with
    |none=>exact un.keep b o e q (by intro z;exact ef (show b∈([]:BM)from z)<|by simp) (by simp)
    |some u=>
     rcases I b with z|⟨ob,xs,z⟩
     .rw[q]at z;cases z
     .have R:=un.lM b ob _ z
      obtain⟨M,_⟩:=bC b _ z;obtain⟨e2,_⟩:=Î b _ R;rw[e]at M;cases M;exact e2
 cases t:K.lookup a with
 |some o=>
  have e:=N a o t;rw[p]at e;cases e;refine i (λ_=>Y) (λ_=>.inl J) (.inr ⟨_,vs.toArray,_,t,J,J,J,by rw[cZ,Í];exact hl,by simpa using D⟩) (λb u z=>by have j:(Y:Option HO)=U u:=z;cases j) (λb z=>ef J z) λz=>ef J z
 |none=>
  refine i (λb=>if b=a then U (.jf {cls:=.type "list",data:=.seq vs.toArray}<|.lst<|ns.map V.int)else Y) (λb=>?_) (.inl<|.inr ⟨{cls:=.type "list",data:=.seq vs.toArray},bU J⟩) (λb u z=>?_) (λb z=>?_) λ_=>t
  .by_cases f:b=a
   .exact .inr ⟨_,_,bU f⟩
   .exact .inl<|bp f
  .by_cases f:b=a
   .have j:=(bU f).symm.trans z
    cases j;subst f;exact⟨p,by rw[cz];exact hl,vs,_,D,p⟩
   .have j:=(bp f).symm.trans z
    cases j
  .by_cases f:b=a
   .exact f
   .exact ef (bp f) z
def inClass(s:gi)(j:Nat):gi:=match s with
 |.ClassDef _ _ _ a _ _ _ _ _ _ _=>a.getD j<|.Pass ⟨0,0,0,0⟩
 |_=>.Pass ⟨0,0,0,0⟩
def kP(s:gi):Arguments:=match s with
 |.FunctionDef _ a _ _ _ _ _ _ _ _=>a
 |_=>{posonlyargs:=[],args:=[],vararg:=Y,kwonlyargs:=[],kw_defaults:=[],kwarg:=Y,defaults:=[]}
def b8(s:gi):Ee:=match s with
 |.FunctionDef _ _ b _ _ _ _ _ _ _=>b
 |_=>[]
def az(s:gi):gL:=match s with
 |.FunctionDef _ _ _ _ _ _ sc _ _ _=>sc
 |_=>{kind:=.function,names:=[],isGenerator:=Zc,isCoroutine:=Zc}
abbrev i8:DF:=λ_ _ _ _ _ _=>False
abbrev E0:XK:=λ_ _ _=>False
def oB:Passes i8 X E0:=λ_ _ _ _ _ _ _ h=>h.elim
def oF{A B:Prop}(h:B):if Zc=O then A else B:=by
 rw[bp dw];exact h
def nh{A B:Prop}(h:A):if O=O then A else B:=by
 rw[bU J];exact h
def aM(H H':Hp):Prop:=∀b o,H b=U o->H' b=U o
def aM.refl(H:Hp):aM H H:=λ_ _ h=>h
def aM.trans(a:aM H H1)(b:aM H1 d):aM H d:=λc o h=>b c o<|a c o h
def aM.free(e:aM H H')(h:H' l=MP):H l=MP:=by
 cases q:H l with
 |none=>rfl
 |some o=>
  rw[e l o q]at h;cases h
def aM.seq{K:bq}(e:aM H H')(h:dm K H a xs):dm K H' a xs:=by
 rcases h with(h|⟨o,h⟩)|h
 .exact .inl<|.inl<|e _ _ h
 .exact .inl<|.inr ⟨o,e _ _ h⟩
 .exact .inr h
end L2
set_option maxHeartbeats 400000
namespace L2
open PySem PySem.Spec PyProof.Rows
def CM{prog:dn}{w:dv}{A:ek}{R:Iy->av->Prop}{s:av}{elt a j:cw}{o:Bz}{scope:gL}{pos:Pos}{it z:bj}{env:Env}(I:Nat->av->Prop)
  (p:∀n s,I n s->cq (cv prog w) A (HI it) (λr d=>match r with
   |none=>R (.ok .next) d
   |some v=>cq (cv prog w) A (pB a it v) (λ_ s₀=>cq (cv prog w) A (sT a env v) (λ_ i=>
     cq (cv prog w) A (forIn o O λc r=>if r=O then do let ok <- z5 c env (eR c env);pure (fX ok)else pure (fX r)) (λok b=>
      if ok=O then cq (cv prog w) A (eR elt env) (λx g=>
       cq (cv prog w) A (call (.builtin "list.append") [z,x]) (λ_ f=>∃m,m<n/\I m f) (λ_ _=>False) g) (λ_ _=>False) b
      else ∃m,m<n/\I m b) (λ_ _=>False) i) (λ_ _=>False) s₀) (λ_ _=>False) d) (λ_ _=>False) s)
  (n:Nat) (h:I n s):hW (cv prog w) A (.compLoop (.ListComp elt [⟨a,j,o,0⟩] scope pos) 0 it z env) R s:=by
 refine codeAny_loop J I (λn s B=>?_) n h;show cq _ A ((compTurn (.ListComp elt [⟨a,j,o,0⟩] scope pos) 0 it z env).onRaise λx=>do rr x env;theTreesLotGoes x) _ _ s
 apply wpAny_noted;rw[compTurn_list];refine ar<|j1<|ar<|eC (p n s B) (λr d l=>?_) λ_ _ e=>e.elim;cases r with
 |none=>exact dk l
 |some v=>
  refine ar<|eC l (λ_ s₀ y=>ar<|eC y (λ_ i u=>ar<|eC u (λok b k=>?_) λ_ _ e=>e.elim) λ_ _ e=>e.elim) λ_ _ e=>e.elim;cases ok with
  |false=>exact dk ⟨J,k⟩
  |true=>
   exact ar<|ar<|eC k (λx g t=>ar<|eC t (λ_ f q=>dk<|dk ⟨J,q⟩) λ_ _ e=>e.elim) λ_ _ e=>e.elim
theorem gT(env:Env):∀(names:List<|Str×o6)(b:List<|Str×bt),(∀p∈names,p.2=.free->∃c,env.cells.lookup p.1=U c)->(∀x c,b.lookup x=U c->env.cells.lookup x=U c) ->
  ∃cl,(forIn names b λ(p:Str×o6) (cs:List<|Str×bt)=>if p.2 == .free then do let c <- cellOf env p.1;pure (fX<|(p.1,c)::cs)else pure (fX cs):Sem<|List<|Str×bt)=pure cl /\
   (∀x c,cl.lookup x=U c->env.cells.lookup x=U c)/\(∀x c,b.lookup x=U c->∃c',cl.lookup x=U c')/\(∀p∈names,p.2=.free->∃c,cl.lookup p.1=U c)
 |[],b,_,j=>⟨b,J,j,λx c e=>⟨c,e⟩,λ_ h=>nomatch h⟩
 |(n,k)::r,b,m,j=>by
  by_cases hk:k=.free
  .subst hk
   obtain⟨c,s⟩:=m (n,.free) eO J;have u:∀x d,((n,c)::b).lookup x=U d->env.cells.lookup x=U d:=λx d e=>by
    rw[jZ]at e;cases f:x == n with
    |true=>rw[f]at e;have f:=eq_of_beq f;subst f;cases e;exact s
    |false=>rw[f]at e;exact j x d e
   obtain⟨cl,e,q,l,o⟩:=gT env r ((n,c)::b) (λp a=>m p<|ee _ a) u;have self:∃c',cl.lookup n=U c':=l n c (by rw[jZ];simp)
   refine⟨cl,?_,q,λx d f=>?_,λp a i=>?_⟩
   .rw[zM]
    show((do let c <- cellOf env n;pure (fX<|(n,c)::b)) >>= _)=_
    unfold cellOf;rw[s];exact e
   .cases g:x == n with
    |true=>have:=eq_of_beq g;subst this;exact self
    |false=>exact l x d (by rw[jZ,g];exact f)
   .rcases cu.mp a with rfl|a
    .exact self
    .exact o p a i
  .obtain⟨cl,e,q,l,o⟩:=gT env r b (λp a=>m p<|ee _ a) j
   refine⟨cl,?_,q,l,λp a i=>?_⟩
   .rw[zM]
    have t:(k == NameKind.free)=Zc:=by simpa using hk
    show((if(k == NameKind.free)=O then _ else pure (fX b)) >>= _)=_
    rw[t];exact e
   .rcases cu.mp a with rfl|a
    .exact ef i hk
    .exact o p a i
def qy(h:∀p∈scope.names,p.2=.free->∃c,env.cells.lookup p.1=U c) :
  ∃cl,closureFor scope env=pure cl/\(∀x c,cl.lookup x=U c->env.cells.lookup x=U c)/\∀p∈scope.names,p.2=.free->∃c,cl.lookup p.1=U c:=by
 obtain⟨cl,e,b,_,a⟩:=gT env scope.names [] h (λ_ _ e=>nomatch e);refine⟨cl,?_,b,a⟩;unfold closureFor;exact(ej (λz:Sem<|List<|Str×bt=>z >>= λcs=>pure cs) e)
abbrev Cx.block(X:Cx)(N:Bi)(scope:gL)(cl:List<|Str×bt)(C:bt)(a:BM)(s:av)(H:Hp):Cx where
 prog:=X.prog
 w:=X.w
 K:=X.K
 mg:=X.mg
 base:=X.base
 A:=X.A
 N:=N
 s₀:=s
 H₀:=H
 env:=compEnvC scope cl C X.env
 outer:=X.stack
 stack:=X.stack
 ex:=a
 fn:=λ_=>Zc
 calm:=X.calm
 pn:=[]
 xe:=λ_ _=>False
inductive gj(X:Cx)(scope:gL):B1->Bi->Prop where
 |nil:gj X scope [] []
 |cons {j:Nat} {x:Str} {js:B1} {xs:Bi}:X.N[j]?=U x->scope.names.lookup x=U .free->X.env.kindOf x=U .cell->gj X scope js xs->gj X scope (j::js) (x::xs)
theorem gj.get:∀{js:B1}{xs:Bi},gj X scope js xs->∀{i:Nat}{x:Str},xs[i]?=U x->∃j,js[i]?=U j/\X.N[j]?=U x/\scope.names.lookup x=U .free/\X.env.kindOf x=U .cell
 |_,_,.nil,_,_,e=>by simp at e
 |_,_,.cons f d c _,0,_,e=>by simp at e;subst e;exact⟨_,J,f,d,c⟩
 |_,_,.cons _ _ _ t,i+1,_,e=>by
  obtain⟨j,a,b⟩:=t.get (i:=i) (by simpa using e)
  exact⟨j,by simpa using a,b⟩
theorem gj.length:∀{js:B1}{xs:Bi},gj X scope js xs->js.length=xs.length
 |_,_,.nil=>J
 |_,_,.cons _ _ _ t=>by simp[t.length]
def df(k:Nat)(js:B1)(a:St):St:=bL k Y++js.map λj=>(a[j]?).join
theorem fK{env:Env}(d:env.scope.kind=.function):∀{names:List<|Str×o6}{x:Str},names.lookup x=U .free->env.kindOf x=U .cell ->
  (names.map λ(n,k)=>if(k == NameKind.free&&env.scope.kind == .function&&env.kindOf n == U .cell)then(n,NameKind.cell)else(n,k)).lookup x=U .cell
 |[],_,h,_=>by simp at h
 |(n,k)::r,x,h,b=>by
  have c:=@fK env d r x;show fP x ((if(k == NameKind.free&&env.scope.kind == .function&&env.kindOf n == U .cell)=O then(n,NameKind.cell)else(n,k))::_)=_
  cases a:x == n with
  |true=>
   have e:=eq_of_beq a;subst e;simp only[jZ,a]at h;cases h;rw[bU<|by rw[d,b];rfl]
   simp[jZ]
  |false=>
   simp only[jZ,a]at h;by_cases hq:(k == NameKind.free&&env.scope.kind == .function&&env.kindOf n == U .cell)=O
   .rw[bU hq];simp only[jZ,a];exact c h b
   .rw[bp hq];simp only[jZ,a];exact c h b
theorem gk{env:Env}:∀{names:List<|Str×o6}{x:Str},(∀p∈names,p.2≠.cell) ->
  ((names.map λ(n,k)=>if(k == NameKind.free&&env.scope.kind == .function&&env.kindOf n == U .cell)then(n,NameKind.cell)else(n,k)).lookup x=U .cell \/
   (names.map λ(n,k)=>if(k == NameKind.free&&env.scope.kind == .function&&env.kindOf n == U .cell)then(n,NameKind.cell)else(n,k)).lookup x=U .free)->∃p∈names,p.1=x/\p.2=.free
 |[],_,_,h=>by simp at h
 |(n,k)::r,x,c,h=>by
  have d:=@gk env r x λp b=>c p<|ee _ b;have h:fP x ((if(k == NameKind.free&&env.scope.kind == .function&&env.kindOf n == U .cell)=O then(n,NameKind.cell)else(n,k))::(r.map λ(n,k)=>if(k == NameKind.free&&env.scope.kind == .function&&env.kindOf n == U .cell)then(n,NameKind.cell)else(n,k)))=U .cell \/
   fP x ((if(k == NameKind.free&&env.scope.kind == .function&&env.kindOf n == U .cell)=O then(n,NameKind.cell)else(n,k))::(r.map λ(n,k)=>if(k == NameKind.free&&env.scope.kind == .function&&env.kindOf n == U .cell)then(n,NameKind.cell)else(n,k)))=U .free:=h
  cases a:x == n with
  |true=>
   have e:=eq_of_beq a;subst e;refine⟨(x,k),eO,J,?_⟩;by_cases hq:(k == NameKind.free&&env.scope.kind == .function&&env.kindOf x == U .cell)=O
   .cases k<;>first|rfl|(simp at hq)
   .rw[bp hq]at h
    simp only[jZ,pF]at h;rcases h with h|h
    .cases h;exact ef J<|c (x,.cell) eO
    .cases h;rfl
  |false=>
   have f:fP x (r.map λ(n,k)=>if(k == NameKind.free&&env.scope.kind == .function&&env.kindOf n == U .cell)then(n,NameKind.cell)else(n,k))=U .cell \/
    fP x (r.map λ(n,k)=>if(k == NameKind.free&&env.scope.kind == .function&&env.kindOf n == U .cell)then(n,NameKind.cell)else(n,k))=U .free:=by
    by_cases hq:(k == NameKind.free&&env.scope.kind == .function&&env.kindOf n == U .cell)=O
    .rw[bU hq]at h;simp only[jZ,a]at h;exact h
    .rw[bp hq]at h;simp only[jZ,a]at h;exact h
   obtain⟨p,b,i,g⟩:=d f;exact⟨p,ee _ b,i,g⟩
structure gD(X:Cx)(scope:gL):Prop where
 kind:scope.kind=.function
 nocell:∀p∈scope.names,p.2≠.cell
 names:∀p∈scope.names,p.2=.local->scope.names.lookup p.1=U .local
 frees:∀p∈scope.names,p.2=.free->X.env.kindOf p.1=U .cell
variable{X:Cx}
def Inv.enter{cl:List<|Str×bt}{h₁:ey}(I:Inv X aa σ H s)(S:gD X scope)(F:gj X scope js fs)
  (f:∀x c,cl.lookup x=U c->X.env.cells.lookup x=U c) (Ŭ:∀p∈scope.names,p.2=.free->∃c,cl.lookup p.1=U c)
  (t:∀b∈G,oj X aa H b) (E:∀b∈G,b<s.heap.objs.size) (Q:h₁.Ns s.heap.objs.size λ_=>Y) (k:∀b o,s.heap.get? b=U o->h₁.get? b=U o) :
  Inv (X.block (ls++fs) scope cl s.heap.objs.size G s H) [] (df ls.length js σ) H {s with heap:=h₁,toks:=tk}:=by
 have aac:∀x c,cl.lookup x=U c->c<s.heap.objs.size:=λx c e=>by
  obtain⟨v,q⟩:=I.cell x c<|f x c e;exact q.lt
 refine⟨⟨I.ok.mod,?_,I.ok.glob,I.ok.blt,cV _,λx y c W V=>I.ok.inj x y c (f x c W)<|f y c V,λx B=>?_,(λx c B=>by cases B),I.ok.hd,I.ok.frames,.inl J,λb g=>⟨dO<|E b g,λx c e=>(t b g).2.2.2.2.1 x c<|f x c e⟩,
  I.bs,bG I.ok.bsz I.sz,λb o e g=>?_,λb g z=>?_,I.stack,I.rW⟩,J,I.bare,Un.kept k,⟨_,Q,λi x v L d e3=>?_⟩,λx c e=>?_,I.bC.fresh<|cV _,λx c e=>I.freeC x c<|f x c e,λp C=>ef C<|by simp,I.bC.kept k,?_⟩
 .show(He scope X.env).kind=.function
  exact S.kind
 .obtain⟨p,C,L,d⟩:=gk (env:=X.env) S.nocell B
  obtain⟨c,e⟩:=Ŭ p C d;exact⟨c,by rw[<- L];exact e⟩
 .rcases(t b g).2.2.2.1 with z|z
  .exact I.ok.noex b o e z
  .exact ef (dN (b7 (I.ok.bs b o e).1) z)<|qp _
 .rcases cu.mp (I.j4 b z)with e|e
  .exact(t b g).2.1 e
  .exact(t b g).2.2.1 e
 .-- a name of the block that has a value: one from around
  have n:ls.length<=i:=by
   by_cases n:i<ls.length
   .unfold df at d
    rw[gY<|by simpa using n,xU]at d
    split at d<;>cases d
   .lia
  have K:fs[i-ls.length]?=U x:=by
   have q:(ls++fs)[i]?=U x:=L;rw[eZ n]at q;exact q
  obtain⟨j,R,T,P,Ï⟩:=F.get K;have h:(σ[j]?).join=U v:=by
   unfold df at d;rw[eZ<|by simpa using n,fQ]at d
   simp only[kG]at d;rw[R]at d;simpa using d
  have A:σ[j]?=U (U v):=by
   cases q:σ[j]? with
   |none=>rw[q]at h;cases h
   |some z=>rw[q]at h;have h:z=U v:=h;rw[h]
  obtain⟨m,_,hl⟩:=I.loc;obtain⟨u,r,l⟩:=hl j x v T A<|.inr<|.inl Ï;refine⟨u,r,.inr ⟨.inl<|fK I.ok.kind P Ï,?_⟩⟩;rcases l with⟨z,_⟩|⟨_,c,e,q⟩
  .have N:X.env.kindOf x=U .local:=z
   rw[Ï]at N;cases N
  .obtain⟨Z,M⟩:=Ŭ (x,.free) (hF P) J
   have w:=f x Z M;rw[e]at w;have w:=kF.inj w;rw[<- w]at M;obtain⟨o,D,hd⟩:=q;exact⟨c,M,o,k _ _ D,hd⟩
 .obtain⟨v,o,D,hd⟩:=I.cell x c<|f x c e
  exact⟨v,o,k _ _ D,hd⟩
 .unfold df
  show _=(ls++fs).length;rw[cQ,kG,cz,cQ,F.length]
def IY(X:Cx)(b:Bz)(t:TT):Prop:=
 ∀(d:dD)(s:av)(a:St)(H:Hp)(Q:Bool->Hp->Prop),Inv X d a H s->t a H Q ->
  L6 X (forIn b O λc r=>if r=O then do let ok <- z5 c X.env (eR c X.env);pure (fX ok)else pure (fX r)) (TP X d a Q) X.xe s
def Ð:TT:=λ_ H Q=>Q O H
def JM:IY X [] Ð:=λ_ _ _ H _ I h=>wpAny_tests_nil ⟨H,I,h⟩
def JN(h:PT X c t):IY X [c] t:=λd s a H Q I b=>wpAny_tests_one<|h d s a H Q I b
def dz:St->St->Prop
 |[],[]=>True
 |Y::a,_::b=>dz a b
 |U v::a,U w::b=>v=w/\dz a b
 |_,_=>False
theorem dz.len:∀{a b:St},dz a b->a.length=b.length
 |[],[],_=>J
 |[],_::_,h=>h.elim
 |Y::a,[],h=>h.elim
 |U _::a,[],h=>h.elim
 |Y::a,x::b,h=>by simp[dz.len (a:=a) (b:=b) h]
 |U _::a,Y::b,h=>h.elim
 |U _::a,U _::b,h=>by simp[dz.len (a:=a) (b:=b) h.2]
theorem dz.get:∀{a b:St},dz a b->∀(i:Nat)(v:V),a[i]?=U (U v)->b[i]?=U (U v)
 |[],[],_,_,_,e=>e
 |[],_::_,h,_,_,_=>h.elim
 |Y::a,[],h,_,_,_=>h.elim
 |U _::a,[],h,_,_,_=>h.elim
 |Y::a,x::b,h,0,v,e=>by simp at e
 |Y::a,x::b,h,i+1,v,e=>by
  have:=dz.get (a:=a) (b:=b) h i v (by simpa using e)
  simpa using this
 |U _::a,Y::b,h,_,_,_=>h.elim
 |U y::a,U z::b,h,0,v,e=>by have c:=h.1;subst c;simpa using e
 |U y::a,U z::b,h,i+1,v,e=>by
  have:=dz.get (a:=a) (b:=b) h.2 i v (by simpa using e)
  simpa using this
@[irreducible] def tComp(l:TI)(k:Nat)(js:B1)(g:TG)(n:TT)(o:TE):TE:=λe H Q=>l e H λq H1=>∀D,H1 D=Y->∃W:Nat->Nat->List V->Hp->Prop,(∃m,W 0 m []<|upd H1 D<|.lst []) /\
 ∀i m c H,W i m c H->(q.stop i H/\Q (.ref D) H)\/(q.go i H/\∀x j,q.yld i H x j->g x (df k js e) j λa p=>dz (df k js e) a/\n a p λb h=>
  if b=O then o a h λy f=>f D=U (.lst c)/\c.length<cC/\∃d,d<m/\W (i+1) d (c++[y]) (upd f D<|.lst<|c++[y])
  else ∃d,d<m/\W (i+1) d c h)
def qZ
  (hc:X.calm=O) (S:gD X scope) (F:gj X scope js fs) (hi:PI X tg l wi)
  (hg:∀cl C f s H,PG (X.block (ls++fs) scope cl C f s H) tg g) (ht:∀cl C f s H,IY (X.block (ls++fs) scope cl C f s H) N tt) (he:∀cl C f s H,PE (X.block (ls++fs) scope cl C f s H) elt te)
       (I:Inv X L G H s) (h:tComp wi ls.length js g tt te G H Q)
  (fin:∀D C s' H' m,Inv X L G H' s'->oj X L H' C->s'.heap.Ns C m->Q (.ref D) H'->compPost (cv X.prog X.w) X.A X.xe use Qo (.ref D) C (.ok .next) s')
  (hs:∀x,fv l X.env x=pure x) :
  L6 X (comprehension (.ListComp elt [⟨tg,l,N,0⟩] scope pos) scope X.env cO (newList []) Zc (eR l X.env) use) Qo X.xe s:=by
 unfold tComp at h;obtain⟨cl,ecl,h1,h2⟩:=qy (scope:=scope) (env:=X.env) λp hp hf=>I.ok.has p.1<|.inl<|S.frees p hp hf;refine wpAny_comprehension_free J hs ecl S.kind S.names<|cA (hi L s G H _ I h) λv s1 q1=>cA q1 λZ4 s2 q2=>?_;obtain⟨it,f,tn,qd,H2,e,I2,T,Nz,f2,q⟩:=q2;subst e;refine n6<|wpAny_newFunctionEnv S.nocell (by intro y hy;simp at hy) (λh₁ k j=>?_) S.kind
 have I3:Inv X L G (upd H2 s2.heap.objs.size<|.lst []) {s2 with heap:=s2.heap.push {cls:=.type "list",dict:=Y,data:=.seq ([]:B2).toArray}}:=I2.CI (t':=s2.toks) .nil<|jc _
 obtain⟨W,⟨m0,w0⟩,step⟩:=q s2.heap.objs.size I2.fresh;dsimp only at k j ⊢
 generalize hs3:({s2 with heap:=s2.heap.push {cls:=.type "list",dict:=Y,data:=.seq ([]:B2).toArray}}:av)=s3 at I3
 have PN:s3.heap=s2.heap.push {cls:=.type "list",dict:=Y,data:=.seq ([]:B2).toArray}:=by rw[<- hs3]
 rw[<- PN]at k j ⊢;have old:∀b o,s3.heap.get? b=U o->h₁.get? b=U o:=λb o e=>j.extBut b o (dO<|b7 e)<|ax _ e;have up:∀b o,s2.heap.get? b=U o->s3.heap.get? b=U o:=λb o e=>by rw[PN];exact ax _ e
 have fz2:∀b∈f,b<s2.heap.objs.size:=λb a=>by
  obtain⟨o,e,_⟩:=T.obj 0 _ Nz b a;exact b7 e
 have B:∀b∈f,oj X L (upd H2 s2.heap.objs.size<|.lst []) b:=λb a=>⟨by rw[ak<|dO<|fz2 b a];exact(f2 b a).1,(f2 b a).2⟩
 have ŭ:∀b∈f,b<s3.heap.objs.size:=λb a=>by
  obtain⟨o,e,_⟩:=T.obj 0 _ Nz b a;exact b7<|up b o e
 have I4:=I3.enter (ls:=ls) (h₁:=h₁) (tk:=s2.toks+([]:List<|Str×bj).length) S F h1 h2 B ŭ (by simpa using k) old
 have Y8:tn 0 h₁:=T.keep 0 _ _ Nz λb _ o e=>old b o<|up b o e
 generalize hC:s3.heap.objs.size=C at I4 k j ⊢
 generalize hH3:upd H2 s2.heap.objs.size (.lst [])=H3 at I3 I4 B w0
 have x8:∀{H':Hp},(∀b∈f,H' b=Y)->∀b∈f,oj (X.block (ls++fs) scope cl C f s3 H3) [] H' b:=λhn b a=>
  ⟨hn b a,by rw[<- hC];exact dO<|ŭ b a,λz=>(cu.mp<|I3.j4 b z).elim (B b a).2.1 (B b a).2.2.1,.inl a,λx c e=>(B b a).2.2.2.2.1 x c<|h1 x c e,λp hp=>ef hp<|by simp⟩
 have DB:∀b∈f,(b∈X.ex\/X.s₀.heap.objs.size<=b)/\b≠X.env.locals/\(∀x c,X.env.cells.lookup x=U c->c≠b)/\∀p∈X.pn++L,p.1≠b:=λb a=>⟨(B b a).2.2.2.1,(B b a).2.1,(B b a).2.2.2.2.1,(B b a).2.2.2.2.2⟩;have K:∀s4:av,s4={s3 with heap:=h₁,toks:=s2.toks+([]:List<|Str×bj).length} ->
   hW (cv X.prog X.w) X.A (.compLoop (.ListComp elt [⟨tg,l,N,0⟩] scope pos) 0 (.ref it) (.ref s2.heap.objs.size)<|compEnvC scope cl C X.env) (compPost (cv X.prog X.w) X.A X.xe use Qo (.ref s2.heap.objs.size) C) s4:=by
  rintro s4 rfl
  refine CM (λn s'=>∃i M H',Inv (X.block (ls++fs) scope cl C f s3 H3) [] (df ls.length js G) H' s'/\tn i s'.heap/\(∀b∈f,H' b=Y)/\W i n M H') ?_ m0 ⟨0,[],H3,I4,Y8,λb a=>(B b a).1,w0⟩
  rintro n s5 ⟨i,M,H5,I5,Jw,YZ,w5⟩
  rcases step i n M H5 w5 with⟨stop,qf⟩|⟨go,nxt⟩
  .refine cA (T.done (X.block (ls++fs) scope cl C f s3 H3) J J J hc i [] s5 _ H5 (λ_ _=>False) I5 (x8 YZ) Jw stop) λr s6 t=>?_
   obtain⟨hr,Z⟩:=t;subst hr;obtain⟨m,hm,_⟩:=id Z.loc;have J6:Inv X L G H5 s6:=I3.ED (ch:=f) Z.os Z.base Z.bC Z.bare DB;exact fin _ C s6 H5 m J6 (I3.rZ (qq hC) Z.free) hm qf
  .refine cA (T.item (X.block (ls++fs) scope cl C f s3 H3) J J J hc i [] s5 _ H5 (λ_ _=>False) I5 (x8 YZ) Jw go) λr s6 t=>?_
   obtain⟨u,hr,h6⟩:=t;subst hr;refine cA h6 λ_ s7 t=>?_;obtain⟨x,H7,I7,r7,y7,Ñ,fr7⟩:=t;have I7':=I7.pinned (x8 fr7)<|T.obj _ _ Ñ;refine cA (hg cl C f s3 H3 _ s7 _ H7 x u _ I7' r7<|nxt x H7 y7) λ_ s8 t=>?_;obtain⟨E,H8,I8,kp,q8⟩:=t;have again:∀{R:av}{P:Hp},Inv (X.block (ls++fs) scope cl C f s3 H3) ([]++om f s7.heap) E P R ->
     Inv (X.block (ls++fs) scope cl C f s3 H3) [] (df ls.length js G) P R/\tn (i+1) R.heap/\∀b∈f,P b=Y:=λ{R P} V=>by
    refine⟨V.kK.weak kp.len kp.get,T.keep _ _ _ Ñ λb a o e=>(V.pin (b,o)<|mU _<|mU _<|iI a e).1,λb a=>?_⟩;obtain⟨o,e,d⟩:=T.obj _ _ Ñ b a;exact(V.pin (b,o)<|mU _<|mU _<|iI a e).2.1
   refine cA (ht cl C f s3 H3 _ s8 E H8 _ I8 q8) λb R t=>?_;obtain⟨P,V,q9⟩:=t;cases b with
   |false=>
    obtain⟨m',hm,w9⟩:=q9;obtain⟨a1,a2,a3⟩:=again V;exact⟨m',hm,i+1,M,P,a1,a2,a3,w9⟩
   |true=>
    refine cA (he cl C f s3 H3 _ R E P _ V q9) λxv s10 t=>?_;obtain⟨y,Ů,I10,r10,hD,hz,m',hm,Ò⟩:=t;refine cA (lQ (X:=X.block (ls++fs) scope cl C f s3 H3) _ s10 E Ů (.ref s2.heap.objs.size) [y] (.ref s2.heap.objs.size) [xv] (λ_ ů=>ů=upd Ů s2.heap.objs.size (.lst<|M++[y])) I10 J (.cons r10 .nil)
     ⟨_,M,y,J,J,hD,hz,J⟩) λ_ s11 ⟨z,ů,I11,_,e11⟩=>?_
    subst e11;obtain⟨a1,a2,a3⟩:=again I11;exact⟨m',hm,i+1,M++[y],_,a1,a2,a3,Ò⟩
 have aad:({newEnv scope C X.env.globals cl X.env.qual Y .none (U X.env) sI with scope:=He scope X.env}:Env)=compEnvC scope cl C X.env:=J
 exact codeAny_compStart_list (K _<|by rw[<- hs3])<|T.self X.A 0 _ _ _ Y8<|K _<|by rw[<- hs3]
def JO(ls:Bi)(n:X.calm=O)(S:gD X scope)(F:gj X scope js fs)(k:PI X tg iter wi)
  (l:∀cl C a s H,PG (X.block (ls++fs) scope cl C a s H) tg g) (f:∀cl C a s H,IY (X.block (ls++fs) scope cl C a s H) ifs tt) (he:∀cl C a s H,PE (X.block (ls++fs) scope cl C a s H) elt te)
  (i:∀x,fv iter X.env x=pure x:=by intro _;rfl):PE X (.ListComp elt [⟨tg,iter,ifs,0⟩] scope pos)<|tComp wi ls.length js g tt te:=by
 intro w s u H Q I h;rw[eval_ListComp];refine qZ (use:=Y) n S F k l f he I h ?_ i;intro D C d t m y c j q;exact⟨m,j,λv r=>⟨.ref D,t,y.turned (t':=d.toks) (it:=C) (λb o p e=>(r.2 b p).trans e) c.1 c.2.1 c.2.2.2.1 c.2.2.2.2.1 c.2.2.2.2.2,J,q⟩⟩
def Ak(ls:Bi)(L:X.calm=O)(Q:X.N.Nodup)(n:X.N[i]?=U x)(u:Loc X.env.scope x)(S:gD X scope)(F:gj X scope js fs)(E:PI X tg iter wi)
  (G:∀cl C f s H,PG (X.block (ls++fs) scope cl C f s H) tg g) (w:∀cl C f s H,IY (X.block (ls++fs) scope cl C f s H) ifs tt) (he:∀cl C f s H,PE (X.block (ls++fs) scope cl C f s H) elt te)
  (y:∀x,fv iter X.env x=pure x:=by intro _;rfl) (K:Kx X x:=by first|exact .inl J|exact .inr J|assumption)
  (T:fC (.ListComp elt [⟨tg,iter,ifs,0⟩] scope pos) (U<|.Name x d) r.line X.env=pure O:=by rfl) :
  PS X (.Assign [.Name x d] (.ListComp elt [⟨tg,iter,ifs,0⟩] scope pos) r) λD j H=>tComp wi ls.length js g tt te j H λv H1=>D.nx (j.set i<|U v) H1:=by
 intro R s j H D I h;rw[exec_Assign_Name_used _ _ _ _ T];refine ar<|j1<|ar ?_;show cq _ X.A (do let _ <- comprehension (.ListComp elt [⟨tg,iter,ifs,0⟩] scope pos) scope X.env _ (newList []) Zc (eR iter X.env) (U<|sT (.Name x d) X.env)) _ _ s
 refine ar<|eC (qZ (use:=U<|sT (.Name x d) X.env) (Qo:=λ_ k=>SP X R D .next k) L S F E G w he I h ?_ y) (λ_ k z=>dk<|dk z) λ_ _ e=>e
 intro p C k Z m qd c B q;show cq _ X.A (sT (.Name x d) X.env<|.ref p) _ _ _;refine wpAny_assign_Name<|qN qd Q n u (show RelV (.ref p) (.ref p)from J) (λCF V t=>?_) K;obtain⟨a,l,P⟩:=t;have ne:C≠a:=by
  rcases P with e|e
  .rw[e];exact c.2.1
  .exact eL<|c.2.2.2.2.1 x a e
 refine⟨m,B.sameBut l ne,λh' W=>?_⟩;exact⟨_,Z,V.turned (t':=CF.toks) (it:=C) (λb o M e=>(W.2 b M).trans e) c.1 c.2.1 c.2.2.2.1 c.2.2.2.2.1 c.2.2.2.2.2,q⟩
def Fb{K:bq}{St:Nat->ey->Prop}(val:Nat->V->Prop)
  (W:∀A:ek,A.handled=Y->Walks P w A it [it] [it] n C St) (M:∀i v,C i v->∃y,RelV y v/\val i y)
  (N:∀i h,St i h->∃o,h.get? it=U o/\∀v,o.data≠.cell v) (R:∀i(h h':ey),St i h->(∀o,h.get? it=U o->h'.get? it=U o)->St i h')
  (T:∀(A:ek)(i:Nat)(s:av)(Q:Kk)(E:Kk),St i s.heap->Q (.ref it) s->cq (cv P w) A (pyIter<|.ref it) Q E s) :
  Turn P w K (.Name x G) ⟨λi _=>i<n,λi H y H'=>H'=H/\val i y,λi _=>i=n⟩ [it] it St where
 mem:=by simp
 obj:=λi h st b a=>by
  have e:b=it:=by simpa using a
  subst e;exact N i h st
 keep:=λi h h' st k=>R i h h' st<|k it<|by simp
 item:=by
  intro X l f m g i B s z H E I d st c;subst l f m;obtain⟨u,t,S,r,q,p⟩:=d it (by simp)
  refine(W X.A<|I.ok.hd g).item i s _ _ c st λv h' tk j L kk=>?_;obtain⟨y,F,D⟩:=M i v j;have Z:Inv X B z H {s with heap:=h',toks:=tk}:=I.turned (λb o a e=>kk b o (by simpa using a) e) u t r q p
  exact⟨v,J,dk ⟨y,H,Z,F,⟨J,D⟩,L,λb a=>(d b a).1⟩⟩
 done:=by
  intro X l f m g i B s z H E I d st c;subst l f m;obtain⟨u,t,S,r,q,p⟩:=d it (by simp)
  have c:i=n:=c;rw[c]at st;exact(W X.A<|I.ok.hd g).done s _ _ st λh' tk kk=>⟨J,I.turned (λb o a e=>kk b o (by simpa using a) e) u t r q p⟩
 self:=T
def Ű(z:Str):It:=⟨λi _=>i<z.cps.size,λi H y a=>a=H/\∃c,z.cps[i]?=U c/\y=.str ⟨#[c]⟩,λi _=>i=z.cps.size⟩
def Ó(tl:TE):TI:=λa H R=>tl a H λv H1=>∃z,v=.str z/\R (Ű z) H1
def PQ(hl:PE X l tl):PI X (.Name x D) l<|Ó tl:=by
 intro n s w H R I h;refine cA (hl n s w H _ I h) λv a B=>?_;obtain⟨y,H1,I1,C,q1⟩:=B;obtain⟨z,rfl,q⟩:=q1;obtain⟨t,rfl⟩:=C;have ű:∀b∈[a.heap.objs.size],oj X n H1 b:=λb E=>by
  have e:b=a.heap.objs.size:=by simpa using E
  subst e;exact I1.rZ (cV _)<|I1.bC.fresh<|cV _
 have j:∀i v,SignAt z i v->∃y,RelV y v/\∃c,z.cps[i]?=U c/\y=.str ⟨#[c]⟩:=by rintro i v ⟨c,u,e,ev⟩;exact⟨.str ⟨#[c]⟩,⟨u,ev⟩,c,e,J⟩
 have p:∀(ty:String)(i:Nat)(h:ey),h.IsStrIter a.heap.objs.size ty z t i->∃o,h.get? a.heap.objs.size=U o/\∀v,o.data≠.cell v:=λty i h ⟨o,e,_,d⟩=>⟨o,e,λv q=>by rw[d]at q;cases q⟩
 have kp:∀(ty:String)(i:Nat)(h g:ey),h.IsStrIter a.heap.objs.size ty z t i->(∀o,h.get? a.heap.objs.size=U o->g.get? a.heap.objs.size=U o)->g.IsStrIter a.heap.objs.size ty z t i:=by rintro ty i h g ⟨o,e,r⟩ k;exact⟨o,k o e,r⟩
 cases m:z.cps.all (· < 128)
 .refine wpAny_pyIter_wide m ?_
  exact⟨a.heap.objs.size,[a.heap.objs.size],_,_,H1,J,I1.kept (t':=a.toks) λb o e=>ax _ e,
   Fb (λi y=>∃c,z.cps[i]?=U c/\y=.str ⟨#[c]⟩) (λA f=>Walks.strWide f _ z t) j (p _) (kp _) λ_ _ _ _ _ st h=>wpAny_pyIter_striter_wide st h,⟨_,de _ J,J,J⟩,ű,q⟩
 .refine wpAny_pyIter_ascii m ?_
  exact⟨a.heap.objs.size,[a.heap.objs.size],_,_,H1,J,I1.kept (t':=a.toks) λb o e=>ax _ e,
   Fb (λi y=>∃c,z.cps[i]?=U c/\y=.str ⟨#[c]⟩) (λA f=>Walks.strAscii f _ z t) j (p _) (kp _) λ_ _ _ _ _ st h=>wpAny_pyIter_striter_ascii st h,⟨_,de _ J,J,J⟩,ű,q⟩
def Ô(a:Int)(n:Nat):It:=⟨λi _=>i<n,λi H x b=>b=H/\x=.int (a-i),λi _=>n<=i⟩
def CN{K:bq}(it:bt)(c:Int)(n:Nat):Turn P w K tg (Ô c n) [it] it λi h=>xa h it (c+(i:Nat)*(-1)) ((n:Int)-(i:Nat))<|-1 where
 mem:=by simp
 obj:=λi h st b a=>by
  have e:b=it:=by simpa using a
  subst e;exact⟨_,st,λv z=>by
   have D:Data.fields _=Data.cell v:=z;cases D⟩
 keep:=λi h f st k=>k it (by simp) _ st
 item:=by
  intro X m g p l i C s A H E I d st j;subst m g p;obtain⟨y,x,G,u,r,q⟩:=d it (by simp)
  have W:=Walks.range (prog:=X.prog) (w:=X.w) (I.ok.hd l) it c (-1) n;refine W.item i s _ _ j st λv f tk F B kk=>?_;obtain⟨t,rfl⟩:=F;have M:Inv X C A H {s with heap:=f,toks:=tk}:=I.turned (λb o a e=>kk b o (by simpa using a) e) y x u r q
  refine⟨_,J,u6 (s:={s with heap:=f,toks:=tk}) (n := "range_iterator") B J J (by decide) ⟨.int<|c-i,H,M,⟨t,?_⟩,⟨J,J⟩,B,λb a=>(d b a).1⟩⟩
  have e:c+(i:Int)*(-1)=c-i:=by lia
  rw[e]
 done:=by
  intro X m g p l i C s A H E I d st j;subst m g p;obtain⟨y,x,G,u,r,q⟩:=d it (by simp)
  exact FD (I.ok.hd l) st (by have:n<=i:=j;lia) λf L=>⟨J,I.turned (t':=s.toks) (λb o a e=>L b o a e) y x u r q⟩
 self:=λ_ _ _ _ _ st h=>F7 st h
def Ve(c:TA):TI:=λa H R=>c a H λb H1=>∃i:Int,b=[.int i,.int<|-1,.int<|-1]/\-1<=i/\i<2^30/\R (Ô i (i+1).toNat) H1
def JP(z:Gl X "range")(y:X.mg "range" = Y)(B:PA X [a,b,c] l)(x:dy [a,b,c] X.env=[(Zc,eR a X.env),(Zc,eR b X.env),(Zc,eR c X.env)]:=by rfl)
  (n:dy [b,c] X.env=[(Zc,eR b X.env),(Zc,eR c X.env)]:=by rfl):PI X tg (.Call (.Name "range" p) [a,b,c] [] pos)<|Ve l:=by
 intro m s k H R I h;refine Call_<|gP I z y boot_range<|Cm (cA (B pos m s k H _ I h) λG f u=>?_) (by rw[x,n])<|by rw[n];rfl
 obtain⟨F,H1,E,v,q1⟩:=u;obtain⟨i,e,q1,q2,q⟩:=q1;subst e;cases v with
 |cons r d=>
  cases d with
  |cons w d=>
   cases d with
   |cons g d=>
    cases d;obtain⟨t,rfl⟩:=r;obtain⟨t',rfl⟩:=w;obtain⟨Ų,rfl⟩:=g;refine call_range_3 (by decide) ?_<|.inl<|vl<|by decide
    have ų:ip i (-1) (-1)=i+1:=by
     unfold ip;rw[bp<|by decide]
     split
     .have e:-(-1:Int)=1:=J
      rw[e,Int.ediv_one];lia
     .lia
    have j:tc i (-1) (-1)=O:=by
     unfold tc;rw[ų];simp[Builtin.Range.rangeFitsLong]
     lia
    refine wpAny_pyIter_range (IsRange.new ..) j ?_
    generalize hh:f.heap.push {cls:=.type "range",data:=.fields #[.int i t,.int (-1) t',.int (-1) Ų]}=h2
    have I2:Inv X m k H1 {f with heap:=h2}:=E.kept (t':=f.toks) λb o e=>by rw[<- hh];exact ax _ e
    refine⟨h2.objs.size,[h2.objs.size],_,_,H1,J,I2.kept (t':=f.toks) λb o e=>ax _ e,CN _ i (i+1).toNat,?_,λb A=>?_,q⟩
    .have D:i+((0:Nat):Int)*(-1)=i:=by lia
     have C:(((i+1).toNat:Nat):Int)-((0:Nat):Int)=ip i (-1) (-1):=by
      rw[ų]
      lia
     show xa _ _ (i+((0:Nat):Int)*(-1)) ((((i+1).toNat:Nat):Int)-((0:Nat):Int))<|-1;rw[D,C];exact de _ J
    .have e:b=h2.objs.size:=by simpa using A
     subst e;exact I2.rZ (cV _)<|I2.bC.fresh<|cV _
structure Y_(Zf:It)(src:List V)(I:Hp->Prop):Prop where
 go:∀i H,I H->i<src.length->Zf.go i H
 yld:∀i H x H',I H->i<src.length->Zf.yld i H x H'->H'=H/\src[i]?=U x
 stop:∀i H,I H->i=src.length->Zf.stop i H
def JQ(z:Str):Y_ (Ű z) (z.cps.toList.map λc=>V.str ⟨#[c]⟩) λ_=>True:=
 ⟨λi H _ h=>by have h:i<(z.cps.toList.map λc=>V.str ⟨#[c]⟩).length:=h;rw[cz,f5]at h;exact h,
  λi H x b _ _ y=>by
  obtain⟨e,c,a,ex⟩:=y;refine⟨e,?_⟩;rw[fQ,oP,a,ex];rfl,
  λi H _ h=>by rw[cz,f5]at h;exact h⟩
def q_(lo:Int)(n:Nat):Y_ (UG lo n) ((cK n).map λk=>V.int<|lo+(k:Nat)) λ_=>True:=
 ⟨λi H _ h=>by have h:i<((cK n).map λk=>V.int<|lo+(k:Nat)).length:=h;rw[cz,rR]at h;exact h,
  λi H x b _ a y=>by
  obtain⟨e,ex⟩:=y;refine⟨e,?_⟩;have a:i<n:=by rw[cz,rR]at a;exact a
  rw[fQ,zN a,ex];rfl,
  λi H _ h=>by rw[cz,rR]at h;exact qq h.symm⟩
def Ŵ(K:bq)(a:bt)(xs:List V):It:=⟨λi H=>i<xs.length/\dm K H a xs,λi H y b=>b=H/\xs[xs.length-1-i]?=U y,λi _=>i=xs.length⟩
def Fd{K:bq}(a it:bt)(xs:List V):Turn P w K tg (Ŵ K a xs) [it] it λi h=>h.IsRevIter it a<|(xs.length:Int)-1-(i:Int) where
 mem:=by simp
 obj:=λi h st b f=>by
  have e:b=it:=by simpa using f
  subst e;obtain⟨o,e,c,d⟩:=st;exact⟨o,e,λv z=>by rw[d]at z;cases z⟩
 keep:=λi h l st k=>st.at λo e=>k it (by simp) o e
 item:=by
  intro X q n r G i L s D H E I j st g;subst q n r;obtain⟨hi,T⟩:=g;obtain⟨R,N,p,hz⟩:=I.list T;have F:xs[xs.length-1-i]?=U (xs[xs.length-1-i]'(by lia)):=c5 (by lia)
  obtain⟨u,S,Q⟩:=N.get F;obtain⟨C,B,W,A,y,t⟩:=j it (by simp)
  have e:(xs.length:Int)-1-(i:Int)=((xs.length-1-i:Nat):Int):=by lia
  rw[e]at st;refine wpAny_pyNext_rev_item st p.isList (x:=u) (by simpa using S) λl m M=>?_
  have I1:Inv X L D H {s with heap:=l}:=I.turned (t':=s.toks) (λb o f e=>(M.2 b f).trans e) C B A y t
  have e2:((xs.length-1-i:Nat):Int)-1=(xs.length:Int)-1-((i+1:Nat):Int):=by lia
  rw[e2]at m;obtain⟨o,Z,c,d⟩:=id m;exact⟨u,J,u6 (s:={s with heap:=l}) Z c d (by decide) ⟨_,H,I1,Q,⟨J,F⟩,m,λb f=>(j b f).1⟩⟩
 done:=by
  intro X q n r G i L s D H E I j st g;subst q n r;obtain⟨C,B,W,A,y,t⟩:=j it (by simp)
  have g:i=xs.length:=g;have e:(xs.length:Int)-1-(i:Int)=-1:=by lia
  rw[e]at st;exact wpAny_pyNext_rev_end (I.ok.hd G) st λl eb=>⟨J,I.turned (t':=s.toks) (λb o f e=>eb b o f e) C B A y t⟩
 self:=λ_ _ _ _ _ st h=>wpAny_pyIter_revIter st h
def Õ(K:bq)(e:TA):TI:=λc H R=>e c H λd H1=>∃a b,d=[.ref a]/\dm K H1 a b/\R (Ŵ K a b) H1
def PR(w:Gl X "reversed")(v:X.mg "reversed" = Y)(y:PA X [a] g)(t:dy [a] X.env=[(Zc,eR a X.env)]:=by rfl):PI X tg (.Call (.Name "reversed" p) [a] [] pos)<|Õ X.K g:=by
 intro A s i H R I h;refine Call_<|gP I w v PyProof.Rows.boot_reversed<|Cm (cA (y pos A s i H _ I h) λC c j=>?_) t J;obtain⟨B,H1,I1,n,q1⟩:=j;obtain⟨l,f,e,u,q⟩:=q1;subst e;cases n with
 |cons r m=>
  cases m;cases r;obtain⟨d,k,pl,D⟩:=I1.list u;have z:=k.length;refine call_reversed_list pl.isList<|wpAny_pyIter_revIter ⟨_,de _ J,J,J⟩ ?_;refine⟨c.heap.objs.size,[c.heap.objs.size],_,_,H1,J,I1.kept (t':=c.toks) λb o e=>ax _ e,Fd l _ f,?_,λb x=>?_,q⟩
  .refine⟨_,de _ J,J,?_⟩
   have e:((d.toArray.size:Nat):Int)-1=(f.length:Int)-1-((0:Nat):Int):=by rw[cZ,<- z];lia
   rw[<- e];rfl
  .have e:b=c.heap.objs.size:=by simpa using x
   subst e;exact I1.rZ (cV _)<|I1.bC.fresh<|cV _
def qz:yf X "str.startswith" λx vs H Q=>∃a b,x=.str a/\vs=[.str b]/\Q (.bl<|pk a b) H:=by
 intro i s e H x vs v f Q I c d h;obtain⟨a,b,rfl,rfl,q⟩:=h;obtain⟨t,rfl⟩:=c;obtain⟨u,rfl,⟨g,rfl⟩⟩:=d.one;exact SC.startswith ⟨.bl _,H,I,J,q⟩
def vm:yf X "str.endswith" λx vs H Q=>∃a b,x=.str a/\vs=[.str b]/\Q (.bl<|r0 a b) H:=by
 intro i s e H x vs v f Q I c d h;obtain⟨a,b,rfl,rfl,q⟩:=h;obtain⟨t,rfl⟩:=c;obtain⟨u,rfl,⟨g,rfl⟩⟩:=d.one;exact SC.endswith ⟨.bl _,H,I,J,q⟩
def Ff:yf X "str.find" λx vs H Q=>∃a b i,x=.str a/\vs=[.str b,.int i]/\Q (.int<|Txt.find3 a b i) H:=by
 intro k s e H x vs v f Q I c d h;obtain⟨a,b,i,rfl,rfl,q⟩:=h;obtain⟨t,rfl⟩:=c;obtain⟨u,g,rfl,⟨j,rfl⟩,⟨Ų,rfl⟩⟩:=d.two;exact SC.find3 ⟨.int _,H,I.tok _,⟨_,J⟩,q⟩
theorem oG:∀{ys:Bi}{us:B2},Vals (ys.map V.str) us->StrsAre us ys
 |[],_,.nil=>.nil
 |y::ys,_,.cons ⟨t,e⟩ r=>by
  subst e;exact .cons y t<|oG (ys:=ys) r
def JR:yf X "str.join" λx vs H Q=>∃a l ys,x=.str a/\vs=[.ref l]/\dm X.K H l (ys.map V.str)/\(ys.map (·.length)).sum+ys.length*a.length<=16777216/\Q (.str<|vd a ys) H:=by
 intro n s i H x vs v j Q I b c h;obtain⟨a,l,ys,rfl,rfl,hl,g,q⟩:=h;obtain⟨t,rfl⟩:=b;obtain⟨u,rfl,d⟩:=c.one;cases d;obtain⟨f,r,p,_⟩:=I.list hl;refine join_list p.isList (ys:=ys) (by simpa using oG r) g λm k=>?_
 have e:Txt.join a ys=vd a ys:=StrLaws.glued_eq_join a ys;rw[e];exact⟨.str _,H,I.tok _,⟨_,J⟩,q⟩
def PU:ND X λx lo m H Q=>∃z,x=.str z/\z.length<=cC/\Q (.str<|y4 z lo m) H:=by
 intro A s r H x v y w lo m sl Q I n p pl g h;obtain⟨z,rfl,a,q⟩:=h;obtain⟨t,rfl⟩:=n;refine⟨"str",_,F.slot_str_getitem.lookup,pa _ _ _,?_⟩;obtain⟨o,b,c,hd⟩:=p;cases pl with
 |none=>
  cases g with
  |none=>exact kv (l:=Y) (u:=Y) (st:=Y) ⟨o,b,c,hd⟩ J<|pz ⟨bG (rX z _ _) a,λe k=>⟨.str _,H,I.tok _,⟨_,J⟩,q⟩⟩
  |int j d=>exact kv (l:=Y) (u:=U (j,d)) (st:=Y) ⟨o,b,c,hd⟩ J<|pz ⟨bG (rX z _ _) a,λe k=>⟨.str _,H,I.tok _,⟨_,J⟩,q⟩⟩
 |int i f=>
  cases g with
  |none=>exact kv (l:=U (i,f)) (u:=Y) (st:=Y) ⟨o,b,c,hd⟩ J<|pz ⟨bG (rX z _ _) a,λe k=>⟨.str _,H,I.tok _,⟨_,J⟩,q⟩⟩
  |int j d=>exact kv (l:=U (i,f)) (u:=U (j,d)) (st:=Y) ⟨o,b,c,hd⟩ J<|pz ⟨bG (rX z _ _) a,λe k=>⟨.str _,H,I.tok _,⟨_,J⟩,q⟩⟩
def vo:gQ X (eQ .IsNot) λx y H Q=>∃a b,x=.bl a/\y=.bl b/\Q (.bl<|a != b) H:=by
 intro f s e H x y v u Q I d c h;obtain⟨a,b,rfl,rfl,q⟩:=h;cases d;cases c;exact isnot_bool<|jg I q J
def vp:fJ X (.builtin "isinstance") λxs H Q=>∃x T t b,xs=[x,.ty T]/\jM X.K H x t/\nT X.K t (.type T)=U b/\Q (.bl b) H:=by
 intro i s d H xs f Q I r h;obtain⟨x,T,t,b,rfl,ty,e,q⟩:=h;obtain⟨u,g,rfl,a,c⟩:=vals2 r;cases c;exact qQ I a ty e λtk=>⟨.bl b,H,I.tok _,J,q⟩
def oH{ks:Fh}(r:Vals (ks.map V.bl) its)(A:ek):TruthOf X.prog X.w A (λi v=>its.toArray[i]?=U v) λi=>ks.getD i O:=by
 intro i v s Q E a b;have a:its[i]?=U v:=by simpa using a
 have c:i<ks.length:=by
  have h:=(bK.mp a).1;have f:=r.length;rw[cz]at f
  lia
 obtain⟨u,e,d⟩:=r.get (i:=i) (x:=.bl ks[i]) (by rw[fQ,c5 c];rfl)
 rw[a]at e;cases e;cases d;have g:ks.getD i O=ks[i]:=by rw[gZ,c5 c];rfl
 have b:Q (ks.getD i O) s:=b;rw[g]at b;exact hG b
def range_all(ks:Fh):(cK ks.length).all (λi=>ks.getD i O)=ks.all id:=by
 induction ks with
 |nil=>rfl
 |cons k ks a=>
  rw[dM,zP,e7,MU,e7,<- a];rfl
def range_any(ks:Fh):(cK ks.length).any (λi=>ks.getD i O)=ks.any id:=by
 induction ks with
 |nil=>rfl
 |cons k ks a=>
  rw[dM,zP,rO,uS,rO,<- a];rfl
def Fg(k:X.calm=O):fJ X (.builtin "all") λxs H Q=>∃(p:bt)(ks:Fh),xs=[.ref p]/\dm X.K H p (ks.map V.bl)/\Q (.bl<|ks.all id) H:=by
 intro w s m H xs n Q I r h;obtain⟨p,ks,rfl,j,q⟩:=h;obtain⟨u,rfl,f⟩:=vals1 r;cases f;obtain⟨a,c,pl,t⟩:=I.list j;have d:=c.length;rw[cz]at d;refine call_all_walk<|hJ pl.isList ?_;have g:p≠s.heap.objs.size:=let⟨_,e,_⟩:=pl.isList;dO<|b7 e;refine⟨s.heap.objs.size,_,[s.heap.objs.size],a.toArray.size,_,_,λi=>ks.getD i O,J,Walks.list (show X.A.in1.handled=Y from I.ok.hd k) s.heap.objs.size p g a.toArray,⟨⟨_,de _ J,J,J⟩,yA pl.isList _⟩,oH c _,λv tk kk=>?_⟩;rw[cZ,<- d,range_all];refine⟨.bl _,H,?_,J,q⟩;refine I.kept λb o e=>kk b o (λz=>?_)<|ax _ e;have l:b=s.heap.objs.size:=by simpa using z
 rw[l]at e;exact qp _<|b7 e
def Fi(k:X.calm=O):fJ X (.builtin "any") λxs H Q=>∃(p:bt)(ks:Fh),xs=[.ref p]/\dm X.K H p (ks.map V.bl)/\Q (.bl<|ks.any id) H:=by
 intro w s m H xs n Q I r h;obtain⟨p,ks,rfl,j,q⟩:=h;obtain⟨u,rfl,f⟩:=vals1 r;cases f;obtain⟨a,c,pl,t⟩:=I.list j;have d:=c.length;rw[cz]at d;refine call_any_walk<|hJ pl.isList ?_;have g:p≠s.heap.objs.size:=let⟨_,e,_⟩:=pl.isList;dO<|b7 e;refine⟨s.heap.objs.size,_,[s.heap.objs.size],a.toArray.size,_,_,λi=>ks.getD i O,J,Walks.list (show X.A.in1.handled=Y from I.ok.hd k) s.heap.objs.size p g a.toArray,⟨⟨_,de _ J,J,J⟩,yA pl.isList _⟩,oH c _,λv tk kk=>?_⟩;rw[cZ,<- d,range_any];refine⟨.bl _,H,?_,J,q⟩;refine I.kept λb o e=>kk b o (λz=>?_)<|ax _ e;have l:b=s.heap.objs.size:=by simpa using z
 rw[l]at e;exact qp _<|b7 e
theorem mG:∀{xs:List V}{us:B2},xs.length=us.length->(∀(i:Nat)x u,xs[i]?=U x->us[i]?=U u->RelV x u)->Vals xs us
 |[],[],_,_=>.nil
 |[],_::_,h,_=>by simp at h
 |_::_,[],h,_=>by simp at h
 |x::xs,u::us,h,k=>.cons (k 0 x u J J)<|mG (by simpa using h) λi y w b a=>k (i+1) y w (by simpa using b)<|by simpa using a
def CO:fJ X (.type "range") λxs H Q=>∃j,xs=[.int j]/\∀p,H p=Y->Q (.ref p) (upd H p<|.mz 0 j):=by
 intro d s a H xs c Q I r h;obtain⟨j,rfl,q⟩:=h;obtain⟨u,rfl,⟨t,rfl⟩⟩:=vals1 r;refine call_range_1 ⟨.ref s.heap.objs.size,_,I.laid (o:=.mz 0 j) (λb o e=>ax _ e) (cV _) ⟨_,_,_,de _ J⟩,J,q _ I.fresh⟩
def qA(z:X.calm=O):fJ X (.type "list") λxs H Q=>∃p d,xs=[.ref p]/\H p=U (.mz 0 d)/\0<=d/\d<=2^20/\∀l,H l=Y->Q (.ref l) (upd H l<|.lst<|(cK d.toNat).map λk=>V.int (k:Nat)):=by
 intro K s C H xs D Q I r h;obtain⟨p,d,rfl,w,F,E,q⟩:=h;obtain⟨u,rfl,j⟩:=vals1 r;cases j;obtain⟨t,u,v,e⟩:=I.bC p _ w;refine call_list_range (I.ok.hd z) (a:=0) (b:=d) (c:=1) (n:=d.toNat) e (small_one (by lia) (by lia) (by lia)<|by lia) (by rw[rangeSize_one];split<;>lia) (by lia) λG tk B A y hl hit=>?_
 obtain⟨g,hit⟩:=hit;refine⟨.ref s.heap.objs.size,_,I.laid (o:=.lst<|(cK d.toNat).map λk=>V.int (k:Nat)) (λb o e=>y b o e) (cV _) ⟨?_,B.toList,A,?_,by simpa using hl⟩,J,q _ I.fresh⟩
 .rw[cz,rR,eJ];lia
 .refine mG (by rw[cz,rR,f5,g]) λi x u f m=>?_
  have Ö:i<d.toNat:=by
   have:=(bK.mp f).1
   rw[cz,rR]at this;exact this
  rw[fQ,zN Ö]at f;cases f;obtain⟨t,rfl⟩:=hit i u (by simpa using m)
  exact⟨t,by congr 1;lia⟩
end L2
namespace K45
open PySem L2
abbrev top(i:Nat):gi:=PySem.Challenge.pw_rowblade_k45_endless_at_its_piece.main.body.getD i<|.Pass ⟨0,0,0,0⟩
end K45
noncomputable section
namespace KH
open PySem PySem.W PySem.Calls PyProof.Rows L2 K45
abbrev pw:dn:=PySem.Challenge.pw_rowblade_k45_endless_at_its_piece
abbrev r(a:Nat):bj:=.ref a
abbrev Zd(c:bj)(d:Option bt)(x:Data)(s:List D1):Obj:=⟨c,d,x,⟨s⟩⟩
abbrev W:=mr->Obj
abbrev Z:=Str×Nat×bj
abbrev D(P:mr)(e:Z):DictEntry:=⟨PyData.keyHash P e.1,.str e.1 e.2.1,e.2.2⟩
abbrev fN(n q:Str)(s:gi)(g:bt)(cl:List<|Str×bt)(e d a c:bj)(an:Option bt)(f ct:bj)(b:bt):eh:=⟨n,q,kP s,.stmts<|b8 s,az s,g,cl,e,d,a,c,an,f,ct,b⟩
abbrev C(n q:Str)(t u L a b c g:Nat)(x:bt)(B:Bool)(y:bt)(k l m o:bj):W:=λ_=>Zd (.type "code") Y (.fields ⟨[.str n t,.str q<|t+1,.str "/claim/cut.py"<|t+2,.int (mW L) 0,.int (mW a) 0,.int (mW b) 0,.int (mW c) 0,.int (mW g) 0,r x,.bool B,.int (mW 181) 0,r y,k,l,m,o,.int (mW u) 0,.int (mW L) 0,.str "/claim/cut.py"<|u+1]⟩) []
abbrev cf(n q:Str)(t u L a x:Nat):W:=C n q t u L a 0 0 3 x O (x+1) .none (r<|x+2) (r<|x+3)<|r<|x+4
abbrev cg(n:Str)(t u L a x:Nat):W:=cf n n t u L a x
abbrev cc(n:Str)(t L x:Nat):W:=C n n t (t+3) L 0 0 0 0 x Zc (x+1) .none .none .none .none
abbrev lt(b:Nat)(l:List<|Nat×Nat):W:=λ_=>Zd .none Y (.fields ⟨(l.map λp=>[.int (mW p.1) 0,.int (mW b) 0,r p.2]).flatten⟩) []
abbrev fO(n q:Str)(s:gi)(m:bj)(c:Nat):W:=λ_=>Zd (.type "function") Y (.func<|fN n q s 3 [] .none .none .none m Y (r c) .none 0) []
abbrev fn(n q:Str)(s:gi):W:=λ_=>Zd .none Y (.func<|fN n q s 0 [] .none .none .none .none Y .none .none 0) []
def sS:Nat->Bi->B2
 |_,[]=>[]
 |k,x::l=>.str x k::sS (k+1) l
abbrev tS(k:Nat)(l:Bi):W:=λ_=>Zd (.type "tuple") Y (.seq ⟨sS k l⟩ 0) []
abbrev tV(l:B2):W:=λ_=>Zd (.type "tuple") Y (.seq ⟨l⟩ 0) []
abbrev di(n:Nat)(l:List Z):W:=λP=>Zd (.type "dict") Y (.dict ⟨l.map<|D P⟩ n) []
abbrev c1(m:bj)(b:Nat)(q:Str)(L:Nat)(xs:List Z)(st a n:Nat):W:=di n<|("__module__",b,m)::("__qualname__",b+2,.str q<|b+1)::("__firstlineno__",b+4,.int (mW L)<|b+3)::(xs.append [("__static_attributes__",st,r a)])
abbrev c2(m:bj)(b L:Nat)(xs:List Z)(st a:Nat)(ys:List Z)(c n:Nat):W:=di n<|("__module__",b,m)::("__firstlineno__",b+4,.int (mW L)<|b+3)::(xs.append<|("__static_attributes__",st,r a)::(ys.append [("__doc__",c,.none)]))
abbrev cG(n:Str)(bs a:B2)(d:Nat)(su:B2)(h:D1)(t:Nat)(nw:String):W:=λ_=>Zd (.type "type") Y (.cls ⟨n,bs,a,d,n,O,[],su,Zc,Y,Zc⟩) [h,Y,U<|.str n t,U<|.str n<|t+8,U<|.builtin nw,U<|.bool O]
abbrev ob:bj:=.type "object"
abbrev cB(n:Str)(d b:Nat)(su:B2)(h t:Nat):W:=cG n [r b] [r<|d+1,r b,ob] d su (U<|r h) t "object.__new__"
abbrev c0(n:Str)(d:Nat)(su:B2)(t:Nat):W:=cG n [ob] [r<|d+1,ob] d su Y t "object.__new__"
abbrev fr(c l:Nat)(m:bj):W:=λ_=>Zd (.type "frame") Y .plain [U<|r c,U<|r 3,U<|r l,Y,U m,Y,U<|r 0]
abbrev is(c:Nat):W:=λ_=>Zd (.type "builtin_function_or_method") Y (.fields ⟨[.builtin "object.__init_subclass__",r c]⟩) []
abbrev su(c:Nat):W:=λ_=>Zd (.type "super") Y (.fields ⟨[r c,r c,r c]⟩) []
abbrev gd(t c:Nat):W:=λ_=>Zd (.type "getset_descriptor") Y (.fields ⟨[.str "__dict__" t,r c,.builtin "function.__dict__",.builtin "function.__dict__#set"]⟩) []
abbrev gw(t c:Nat):W:=λ_=>Zd (.type "getset_descriptor") Y (.fields ⟨[.str "__weakref__" t,r c,.builtin "ExceptionGroup.__weakref__",.none]⟩) []
abbrev N(o:mr->Obj)(l r:mr->BT):mr->BT:=λP=>.node (o P) (l P)<|r P
abbrev E:mr->BT:=λ_=>.nil
abbrev L(o:mr->Obj):mr->BT:=N o E E
abbrev m0:bj:=.str "__main__" 164
abbrev m1:bj:=.str "rowblade.errors" 194
abbrev m2:bj:=.str "rowblade.lines" 380
abbrev m3:bj:=.str "rowblade.signs" 931
abbrev m4:bj:=.str "rowblade.patterns" 954
abbrev m5:bj:=.str "rowblade.stretches" 1082
abbrev m6:bj:=.str "rowblade.truths" 1140
abbrev m7:bj:=.str "rowblade.pieces" 1255
abbrev m8:bj:=.str "rowblade.walker" 1305
abbrev m9:bj:=.str "rowblade.blade" 1530
abbrev nJ:bj:=.str "rowblade.linereading" 1641
abbrev m11:bj:=.str "rowblade.rows" 1859
abbrev Za:bj:=.str "rowblade.reading" 1869
abbrev CP:bj:=.str "law_rowblade_k45_endless_at_its_piece" 1912
abbrev d0:List Z:=[("__doc__",166,.none),("__package__",167,.none),("__loader__",168,.builtin "__main__.__loader__#opaque"),("__spec__",169,.none),("__annotations__",170,r 6),("__builtins__",171,r 4),("__file__",173,.str "/claim/cut.py" 172),("__cached__",174,.none),("_wall",193,r 21),("BladeError",213,r 31),("NoPattern",229,r 44),("NotThat",245,r 56),("NotWoven",261,r 68),("Finished",277,r 80)]
abbrev l0:List<|Nat×Nat:=[(1,20),(5,27),(7,40),(9,52),(11,64),(13,76)]
abbrev d1:=d0.append [("NoLine",302,r 99),("TwoMarks",327,r 118),("NoMark",352,r 137),("Endless",379,r 156)]
abbrev l1:=l0++[(15,88),(19,107),(23,126),(27,145)]
abbrev d2:=d1.append [("Program",410,r 175),("Line",441,r 196),("Cond",461,r 210),("Always",477,r 224),("RowIs",502,r 243)]
abbrev l2:=l1++[(33,164),(37,185),(42,206),(44,220),(46,232)]
abbrev d3:=d2.append [("Last",518,r 255),("Like",543,r 274),("Soon",570,r 293),("FromTo",597,r 312),("Not",622,r 331)]
abbrev l3:=l2++[(50,251),(52,263),(56,282),(61,301),(66,320)]
abbrev d4:=d3.append [("End",638,r 343),("Deed",658,r 355),("Mark",683,r 376),("Drop",699,r 388),("Print",715,r 400)]
abbrev l4:=l3++[(70,339),(72,351),(74,365),(78,384),(80,396)]
abbrev d5:=d4.append [("Done",731,r 412),("Say",756,r 431),("Swap",785,r 450),("Join",810,r 469),("Pile",837,r 488)]
abbrev l5:=l4++[(82,408),(84,420),(88,439),(94,458),(98,477)]
abbrev d6:=d5.append [("Bring",862,r 507),("Go",887,r 526),("Add",914,r 545),("Tell",930,r 557),("SIGNS",934,(.str "abcdefghijklmnopqrstuvwxyzABCDEFGHIJKLMNOPQRSTUVWXYZ0123456789 !\"#$&'()*+,-./:;<=>?\x40[\\]^_`{|}~" 933)),("SMALL_LETTERS",936,.str "abcdefghijklmnopqrstuvwxyz" 935),("FIGURES",938,.str "0123456789" 937),("made_of",944,r 564),("beginning_of",953,r 571),("MOST_ITEMS",957,.int 8 956),("MOST_SIGNS",959,.int 12 958),("NEVER_PLAIN",961,.str "^$.[]*+?/" 960),("NEVER_IN_A_SET",963,.str "]^/" 962),("ONCE",965,.str "1" 964),("HOW_MANY",967,.str "*+?" 966),("may_stand_plain",974,r 578),("pattern",985,r 585)]
abbrev l6:=l5++[(103,496),(107,515),(111,534),(116,553),(122,563),(124,570),(136,577),(138,584)]
abbrev d7:=d6.append [("items_of",996,r 592),("place_behind_core",1005,r 599),("many_at",1013,r 606),("item_of",1021,r 613),("set_item",1027,r 618),("is_written_plain",1035,r 625),("written",1046,r 632),("written_core",1054,r 639),("may_be_empty",1061,r 646),("least_length",1067,r 651),("may_be_left_out",1074,r 658),("may_come_again",1081,r 665),("NOWHERE",1086,(.int (-1) 1085)),("stretch",1098,r 673),("found",1106,r 680),("greatest_ends",1116,r 687),("ends_behind_items",1124,r 694),("ends_with_item",1139,r 701),("TextRow",1182,r 725),("Truths",1238,r 763),("holds",1246,r 774),("is_row_up_to",1254,r 781)]
abbrev l7:=l6++[(150,591),(159,598),(166,605),(170,612),(178,617),(190,624),(192,631),(199,638),(207,645),(209,650),(211,657),(213,664),(217,672),(223,679),(225,686),(230,693),(234,700),(248,707),(260,735),(291,773),(297,780)]
abbrev d8:=d7.append [("MOST_FIGURES_pieces",1258,.int 60 1257),("first_swapped",1268,r 788),("every_swapped",1281,r 795),("words_of",1287,r 800),("word_of",1296,r 807),("number_of",1304,r 814),("Walker",1513,r 971),("given_in",1519,r 980),("numbers_of_marks",1529,r 987),("ahead",1537,r 992),("rows_seen_by",1544,r 999)]
abbrev l8:=l7++[(301,787),(306,794),(319,799),(321,806),(326,813),(332,820),(483,979),(485,986),(492,991),(494,998)]
abbrev d9:=d8.append [("Blade",1640,r 1072),("COND_BEGINNINGS",1650,r 1077),("MOST_ROW",1652,.int 999 1651),("MOST_FIGURES_linereading",1654,.int 3 1653),("MOST_SOON",1656,.int 3 1655),("LEAST_JOIN",1658,.int 2 1657),("MOST_SMALL",1660,.int 9 1659),("MOST_LETTERS",1662,.int 8 1661),("MOST_TEXT",1664,.int 40 1663),("Scan",1737,r 1129),("line_of",1747,r 1140),("line_next",1753,r 1145),("cond_next",1760,r 1152),("plain_cond_next",1769,r 1159),("row_or_pattern_next",1776,r 1166),("deed_next",1783,r 1173),("swap_next",1792,r 1180),("pile_next",1800,r 1187)]
abbrev l9:=l8++[(502,1005),(560,1083),(592,1139),(598,1144),(606,1151),(612,1158),(624,1165),(628,1172),(653,1179),(657,1186)]
abbrev d10:=(d9.append [("add_next",1808,r 1194),("number_next",1819,r 1201),("name_next",1827,r 1208),("words_next",1835,r 1215),("pattern_next",1843,r 1222),("may_stand",1851,r 1229),("may_swap",1858,r 1236),("cut",1868,r 1243),("MOST_LINES",1872,.int 24 1871),("read",1881,r 1250),("lines_of",1891,r 1257),("marks_of",1901,r 1264),("refuse_go_without_mark",1911,r 1271),("_law_cell_at",1921,r 1278),("_law_whole",1928,r 1285),("_law_plain",1936,r 1292),("_law_word",1946,r 1299),("_law_sign",1955,r 1306),("_law_pieces",1969,r 1313),("_law_rows",1977,r 1320),("_law_given",1983,r 1325),("_law_lines",1993,r 1332),("_law_kinds",2001,r 1339),("_law_refused",2015,r 1346),("_law_alike",2021,r 1351)]).append [("law",2027,r 1356)]
abbrev l10:=l9++[(662,1193),(666,1200),(674,1207),(679,1214),(684,1221),(690,1228),(696,1235),(701,1242),(708,1249),(713,1256),(720,1263),(728,1270),(733,1277),(737,1284),(739,1291),(742,1298),(751,1305),(759,1312),(774,1319),(779,1324),(794,1331),(807,1338),(811,1345),(826,1350),(828,1355)]
abbrev cU:=tV []
abbrev ku:W:=λP=>Zd .none Y (.fields ⟨[]⟩) []
abbrev iV:W:=λP=>Zd (.type "builtin_function_or_method") Y (.fields ⟨[(.builtin "type.__prepare__"),.type "type"]⟩) []
abbrev NG:=tV [r 31]
abbrev vq:=tV [r 210]
abbrev ni:=tV [r 355]
abbrev Ø:W:=λP=>Zd (.type "function") Y (.func<|fN "stretch" "stretch" (top 65) 3 [] (r 666) .none .none (.str "rowblade.stretches" 1082) Y (r 672) .none 0) []
def od:List W->List W
 |[]=>[]
 |x::r=>x::(match r with
  |[]=>[]
  |_::r=>od r)
def br:Nat->List W->mr->BT
 |0,_,_=>.nil
 |n+1,l,P=>(match l with
  |[]=>.nil
  |x::r=>.node (x P) (br n (od r) P)<|br n (od r.tail) P)
def ov:List W->Nat->Nat->List (Nat×W)->List W
 |[],_,_,_=>[]
 |x::l,i,n,q=>(match n.beq i with
  |true=>[]
  |false=>(match q with
   |[]=>x::ov l (i+1) n []
   |y::r=>(match y.1.beq i with
    |true=>y.2::ov l (i+1) n r
    |false=>x::ov l (i+1) n q)))
abbrev ŵ:List Z:=[("__init__",1162,r 715),("has",1171,r 722)]
abbrev Ŷ:List Z:=[("__init__",1200,r 741),("told_of",1212,r 748),("truth",1218,r 753),("truth_of_stretch",1228,r 760)]
abbrev ŷ:List Z:=[("__init__",1326,r 828),("want",1333,r 835),("take",1342,r 842),("take_with",1351,r 849),("go_on",1358,r 856),("meet",1368,r 863),("hand_over",1376,r 870),("finish",1384,r 877),("find_none",1391,r 884),("give",1399,r 891),("end_turn",1406,r 898),("give_hand_and_end",1413,r 905),("do",1422,r 912),("do_giving",1430,r 919),("do_swap",1438,r 926),("do_join",1446,r 933),("do_pile",1455,r 940),("do_bring",1464,r 947),("rows_on_shelves",1471,r 954),("do_add",1483,r 961),("do_tell",1491,r 968)]
abbrev Ÿ:List Z:=[("__init__",1564,r 1013),("feed",1574,r 1020),("finish",1581,r 1027),("refuse_once_finished",1588,r 1034),("come",1596,r 1041),("take_all_but",1605,r 1048),("boxes",1612,r 1055),("faults",1619,r 1062),("kept",1626,r 1069)]
abbrev Ź:List Z:=[("__init__",1685,r 1091),("refuse",1692,r 1098),("passes",1700,r 1105),("must_pass",1708,r 1112),("while_made_of",1717,r 1119),("between",1727,r 1126)]
abbrev eU(s1:Str)(e c d b a:Nat)(l0:Bi)(m2:bj):List W:=[cU,ku,tS (a+3) l0,cU,fn s1 s1<|top c,cg s1 a (a+l0.length+3) d e b,fO s1 s1 (top c) m2<|b+5]
abbrev NH(b:Str)(d a c:Nat):List W:=[cG b [r 31] [(r<|a+1),r 31,.type "ValueError",.type "Exception",.type "BaseException",.type "object"] a [] (U<|r d) c "ValueError.__new__",su<|a+1,is<|a+1]
abbrev eu(s1 s2:Str)(e c b d a n9:Nat)(l0:Bi)(m3:bj):List W:=[cU,ku,tS (n9+3) l0,cU,fn s1 s2<|inClass (top b) c,cf s1 s2 n9 (n9+l0.length+3) d e a,fO s1 s2 (inClass (top b) c) m3<|a+5]
abbrev PV(c:Str)(a d b:Nat):List W:=[c0 c a [] d,gd b<|a+1,gw (b+2)<|a+1,su<|a+1,is<|a+1]
abbrev rf(b:Str)(e d a c:Nat):List W:=[cB b a e [] d c,su<|a+1,is<|a+1]
abbrev a0:List W:=lL [[boot_o_0,boot_o_1,boot_o_2,di 133<|("__name__",165,.str "law_rowblade_k45_endless_at_its_piece" 1912)::d10,boot_o_4,boot_o_5,boot_o_6,boot_o_7,boot_o_8,boot_o_9,boot_o_10,cU,lt 0 l10,cc "<module>" 182 1 11,fr 13 3 m0],eU "_wall" 1 0 1 15 187 ["k"] m0,[tV [.type "ValueError"],iV,c1 m1 203 "BladeError" 5 [] 208 29 4,cU,ku,cc "BladeError" 198 5 25,fr 27 24 m1,cU,c2 m1 203 5 [] 208 29 [("__weakref__",210,r 32)] 211 3,cG "BladeError" [.type "ValueError"] [r 31,.type "ValueError",.type "Exception",.type "BaseException",.type "object"] 30 [r 44,r 56,r 68,r 80,r 99,r 118,r 137,r 156] (U<|r 22) 196 "ValueError.__new__",gw 209 31,su 31,is 31,NG,iV,c1 m1 221 "NoPattern" 7 [] 226 42 4,cU,ku,cc "NoPattern" 216 7 38,fr 40 37 m1,cU,c2 m1 221 7 [] 226 42 [] 227 2],NH "NoPattern" 35 43 214,[NG,iV,c1 m1 237 "NotThat" 9 [] 242 54 4,cU,ku,cc "NotThat" 232 9 50,fr 52 49 m1,cU,c2 m1 237 9 [] 242 54 [] 243 2],NH "NotThat" 47 55 230,[NG,iV,c1 m1 253 "NotWoven" 11 [] 258 66 4,cU,ku,cc "NotWoven" 248 11 62,fr 64 61 m1,cU,c2 m1 253 11 [] 258 66 [] 259 2],NH "NotWoven" 59 67 246,[NG,iV,c1 m1 269 "Finished" 13 [] 274 78 4,cU,ku,cc "Finished" 264 13 74,fr 76 73 m1,cU,c2 m1 269 13 [] 274 78 [] 275 2],NH "Finished" 71 79 262,[NG,iV,c1 m1 285 "NoLine" 15 [("__init__",297,r 96)] 299 97 5,cU,lt 4 [(17,95)],cc "NoLine" 280 15 86,fr 88 85 m1],eu "__init__" "NoLine.__init__" 2 0 7 17 90 290 ["self","row"] m1,[tS 298 ["row"],c2 m1 285 15 [("__init__",297,r 96)] 299 97 [] 300 2],NH "NoLine" 83 98 278,[NG,iV,c1 m1 310 "TwoMarks" 19 [("__init__",322,r 115)] 324 116 5,cU,lt 4 [(21,114)],cc "TwoMarks" 305 19 105,fr 107 104 m1],eu "__init__" "TwoMarks.__init__" 2 0 8 21 109 315 ["self","row"] m1]
abbrev a1:List W:=lL [[tS 323 ["row"],c2 m1 310 19 [("__init__",322,r 115)] 324 116 [] 325 2],NH "TwoMarks" 102 117 303,[NG,iV,c1 m1 335 "NoMark" 23 [("__init__",347,r 134)] 349 135 5,cU,lt 4 [(25,133)],cc "NoMark" 330 23 124,fr 126 123 m1],eu "__init__" "NoMark.__init__" 2 0 9 25 128 340 ["self","row"] m1,[tS 348 ["row"],c2 m1 335 23 [("__init__",347,r 134)] 349 135 [] 350 2],NH "NoMark" 121 136 328,[NG,iV,c1 m1 360 "Endless" 27 [("__init__",373,r 153)] 376 154 5,cU,lt 4 [(29,152)],cc "Endless" 355 27 143,fr 145 142 m1],eu "__init__" "Endless.__init__" 3 0 10 29 147 365 ["self","row","line"] m1,[tS 374 ["line","row"],c2 m1 360 27 [("__init__",373,r 153)] 376 154 [] 377 2],NH "Endless" 140 155 353,[cU,iV,c1 m2 389 "Program" 33 [("__init__",401,r 172)] 403 173 5,cU,lt 4 [(35,171)],cc "Program" 384 33 162,fr 164 161 m2],eu "__init__" "Program.__init__" 2 0 12 35 166 394 ["self","lines"] m2,[tS 402 ["lines"],c2 m2 389 33 [("__init__",401,r 172)] 403 173 [("__dict__",405,r 176),("__weakref__",407,r 177)] 408 4],PV "Program" 174 382 404,[cU,iV,c1 m2 418 "Line" 37 [("__init__",431,r 193)] 434 194 5,cU,lt 4 [(39,192)],cc "Line" 413 37 183,fr 185 182 m2],eu "__init__" "Line.__init__" 3 0 13 39 187 423 ["self","cond","deed"] m2,[tS 432 ["cond","deed"],c2 m2 418 37 [("__init__",431,r 193)] 434 194 [("__dict__",436,r 197),("__weakref__",438,r 198)] 439 4],PV "Line" 195 411 435,[cU,iV,c1 m2 449 "Cond" 42 [] 454 208 4,cU,ku,cc "Cond" 444 42 204,fr 206 203 m2,cU,c2 m2 449 42 [] 454 208 [("__dict__",456,r 211),("__weakref__",458,r 212)] 459 4,c0 "Cond" 209 [r 224,r 243,r 255,r 274,r 293,r 312,r 331,r 343] 442,gd 455 210,gw 457 210,su 210,is 210,vq,iV,c1 m2 469 "Always" 44 [] 474 222 4,cU,ku,cc "Always" 464 44 218,fr 220 217 m2,cU,c2 m2 469 44 [] 474 222 [] 475 2],rf "Always" 210 215 223 462]
abbrev a2:List W:=lL [[vq,iV,c1 m2 485 "RowIs" 46 [("__init__",497,r 240)] 499 241 5,cU,lt 4 [(48,239)],cc "RowIs" 480 46 230,fr 232 229 m2],eu "__init__" "RowIs.__init__" 2 0 16 48 234 490 ["self","number"] m2,[tS 498 ["number"],c2 m2 485 46 [("__init__",497,r 240)] 499 241 [] 500 2],rf "RowIs" 210 227 242 478,[vq,iV,c1 m2 510 "Last" 50 [] 515 253 4,cU,ku,cc "Last" 505 50 249,fr 251 248 m2,cU,c2 m2 510 50 [] 515 253 [] 516 2],rf "Last" 210 246 254 503,[vq,iV,c1 m2 526 "Like" 52 [("__init__",538,r 271)] 540 272 5,cU,lt 4 [(54,270)],cc "Like" 521 52 261,fr 263 260 m2],eu "__init__" "Like.__init__" 2 0 18 54 265 531 ["self","pattern"] m2,[tS 539 ["pattern"],c2 m2 526 52 [("__init__",538,r 271)] 540 272 [] 541 2],rf "Like" 210 258 273 519,[vq,iV,c1 m2 551 "Soon" 56 [("__init__",564,r 290)] 567 291 5,cU,lt 4 [(58,289)],cc "Soon" 546 56 280,fr 282 279 m2],eu "__init__" "Soon.__init__" 3 0 19 58 284 556 ["self","many","pattern"] m2,[tS 565 ["many","pattern"],c2 m2 551 56 [("__init__",564,r 290)] 567 291 [] 568 2],rf "Soon" 210 277 292 544,[vq,iV,c1 m2 578 "FromTo" 61 [("__init__",591,r 309)] 594 310 5,cU,lt 4 [(63,308)],cc "FromTo" 573 61 299,fr 301 298 m2],eu "__init__" "FromTo.__init__" 3 0 20 63 303 583 ["self","first","second"] m2,[tS 592 ["first","second"],c2 m2 578 61 [("__init__",591,r 309)] 594 310 [] 595 2],rf "FromTo" 210 296 311 571,[vq,iV,c1 m2 605 "Not" 66 [("__init__",617,r 328)] 619 329 5,cU,lt 4 [(68,327)],cc "Not" 600 66 318,fr 320 317 m2],eu "__init__" "Not.__init__" 2 0 21 68 322 610 ["self","inner"] m2,[tS 618 ["inner"],c2 m2 605 66 [("__init__",617,r 328)] 619 329 [] 620 2],rf "Not" 210 315 330 598,[vq,iV,c1 m2 630 "End" 70 [] 635 341 4]]
abbrev a3:List W:=lL [[cU,ku,cc "End" 625 70 337,fr 339 336 m2,cU,c2 m2 630 70 [] 635 341 [] 636 2],rf "End" 210 334 342 623,[cU,iV,c1 m2 646 "Deed" 72 [] 651 353 4,cU,ku,cc "Deed" 641 72 349,fr 351 348 m2,cU,c2 m2 646 72 [] 651 353 [("__dict__",653,r 356),("__weakref__",655,r 357)] 656 4,c0 "Deed" 354 [r 376,r 388,r 400,r 412,r 431,r 450,r 469,r 488,r 507,r 526,r 545,r 557] 639,gd 652 355,gw 654 355,su 355,is 355,ni,iV,c1 m2 666 "Mark" 74 [("__init__",678,r 373)] 680 374 5,cU,lt 4 [(76,372)],cc "Mark" 661 74 363,fr 365 362 m2],eu "__init__" "Mark.__init__" 2 0 24 76 367 671 ["self","name"] m2,[tS 679 ["name"],c2 m2 666 74 [("__init__",678,r 373)] 680 374 [] 681 2],rf "Mark" 355 360 375 659,[ni,iV,c1 m2 691 "Drop" 78 [] 696 386 4,cU,ku,cc "Drop" 686 78 382,fr 384 381 m2,cU,c2 m2 691 78 [] 696 386 [] 697 2],rf "Drop" 355 379 387 684,[ni,iV,c1 m2 707 "Print" 80 [] 712 398 4,cU,ku,cc "Print" 702 80 394,fr 396 393 m2,cU,c2 m2 707 80 [] 712 398 [] 713 2],rf "Print" 355 391 399 700,[ni,iV,c1 m2 723 "Done" 82 [] 728 410 4,cU,ku,cc "Done" 718 82 406,fr 408 405 m2,cU,c2 m2 723 82 [] 728 410 [] 729 2],rf "Done" 355 403 411 716,[ni,iV,c1 m2 739 "Say" 84 [("__init__",751,r 428)] 753 429 5,cU,lt 4 [(86,427)],cc "Say" 734 84 418,fr 420 417 m2],eu "__init__" "Say.__init__" 2 0 28 86 422 744 ["self","words"] m2,[tS 752 ["words"],c2 m2 739 84 [("__init__",751,r 428)] 753 429 [] 754 2],rf "Say" 355 415 430 732,[ni,iV,c1 m2 764 "Swap" 88 [("__init__",778,r 447)] 782 448 5,cU,lt 4 [(90,446)],cc "Swap" 759 88 437,fr 439 436 m2],eu "__init__" "Swap.__init__" 4 0 29 90 441 769 ["self","pattern","words","every"] m2]
abbrev a4:List W:=lL [[tS 779 ["every","pattern","words"],c2 m2 764 88 [("__init__",778,r 447)] 782 448 [] 783 2],rf "Swap" 355 434 449 757,[ni,iV,c1 m2 793 "Join" 94 [("__init__",805,r 466)] 807 467 5,cU,lt 4 [(96,465)],cc "Join" 788 94 456,fr 458 455 m2],eu "__init__" "Join.__init__" 2 0 30 96 460 798 ["self","most"] m2,[tS 806 ["most"],c2 m2 793 94 [("__init__",805,r 466)] 807 467 [] 808 2],rf "Join" 355 453 468 786,[ni,iV,c1 m2 818 "Pile" 98 [("__init__",831,r 485)] 834 486 5,cU,lt 4 [(100,484)],cc "Pile" 813 98 475,fr 477 474 m2],eu "__init__" "Pile.__init__" 3 0 31 100 479 823 ["self","shelf","most"] m2,[tS 832 ["most","shelf"],c2 m2 818 98 [("__init__",831,r 485)] 834 486 [] 835 2],rf "Pile" 355 472 487 811,[ni,iV,c1 m2 845 "Bring" 103 [("__init__",857,r 504)] 859 505 5,cU,lt 4 [(105,503)],cc "Bring" 840 103 494,fr 496 493 m2],eu "__init__" "Bring.__init__" 2 0 32 105 498 850 ["self","shelf"] m2,[tS 858 ["shelf"],c2 m2 845 103 [("__init__",857,r 504)] 859 505 [] 860 2],rf "Bring" 355 491 506 838,[ni,iV,c1 m2 870 "Go" 107 [("__init__",882,r 523)] 884 524 5,cU,lt 4 [(109,522)],cc "Go" 865 107 513,fr 515 512 m2],eu "__init__" "Go.__init__" 2 0 33 109 517 875 ["self","name"] m2,[tS 883 ["name"],c2 m2 870 107 [("__init__",882,r 523)] 884 524 [] 885 2],rf "Go" 355 510 525 863,[ni,iV,c1 m2 895 "Add" 111 [("__init__",908,r 542)] 911 543 5,cU,lt 4 [(113,541)],cc "Add" 890 111 532,fr 534 531 m2],eu "__init__" "Add.__init__" 3 0 34 113 536 900 ["self","first","second"] m2,[tS 909 ["first","second"],c2 m2 895 111 [("__init__",908,r 542)] 911 543 [] 912 2],rf "Add" 355 529 544 888,[ni,iV,c1 m2 922 "Tell" 116 [] 927 555 4,cU,ku,cc "Tell" 917 116 551,fr 553 550 m2,cU,c2 m2 922 116 [] 927 555 [] 928 2],rf "Tell" 355 548 556 915]
abbrev a5:List W:=lL [[cU,ku,fn "made_of" "made_of"<|top 40,C "made_of" "made_of" 939 942 122 2 0 0 3 560 O 561 .none .none .none<|r 562,fO "made_of" "made_of" (top 40) m3 563],eU "beginning_of" 2 41 124 565 945 ["text","signs","many"] m3,eU "may_stand_plain" 1 49 136 572 968 ["sign"] m4,eU "pattern" 1 50 138 579 975 ["text","front","body","back","items"] m4,eU "items_of" 1 51 150 586 986 ["body","items","place","behind","many"] m4,eU "place_behind_core" 2 52 159 593 997 ["body","place","bracket"] m4,eU "many_at" 2 53 166 600 1006 ["body","place"] m4,eU "item_of" 2 54 170 607 1014 ["core","many"] m4,[cU,ku,fn "set_item" "set_item"<|top 55,C "set_item" "set_item" 1022 1025 178 2 0 0 3 614 O 615 .none .none .none<|r 616,fO "set_item" "set_item" (top 55) m4 617],eU "is_written_plain" 2 56 190 619 1028 ["signs","others"] m4,eU "written" 1 57 192 626 1036 ["one","parts","signs","others","many"] m4,eU "written_core" 2 58 199 633 1047 ["signs","others"] m4,eU "may_be_empty" 1 59 207 640 1055 ["one"] m4,[cU,ku,fn "least_length" "least_length"<|top 60,C "least_length" "least_length" 1062 1065 209 1 0 0 3 647 O 648 .none .none .none<|r 649,fO "least_length" "least_length" (top 60) m4 650],eU "may_be_left_out" 1 61 211 652 1068 ["item"] m4,eU "may_come_again" 1 62 213 659 1075 ["item"] m4,[tV [(.int (0) 1087)],cU,ku,tS 1091 ["one","row","start","ends","begin"]]]
abbrev a6:List W:=lL [[cU,fn "stretch" "stretch"<|top 65,cg "stretch" 1088 1096 217 3 667,Ø],eU "found" 2 66 223 674 1099 ["one","row"] m5,eU "greatest_ends" 2 67 225 681 1107 ["one","row","ends","item"] m5,eU "ends_behind_items" 2 68 230 688 1117 ["row","back"] m5,eU "ends_with_item" 3 69 234 695 1125 ["item","row","behind","signs","others","again","ends","place","end"] m5,[cU,iV,c1 m6 1149 "TextRow" 248 ŵ 1175 723 6,cU,lt 4 [(250,714),(255,721)],cc "TextRow" 1144 248 705,fr 707 704 m6],eu "__init__" "TextRow.__init__" 3 0 71 250 709 1154 ["self","text","number"] m6,eu "has" "TextRow.has" 2 1 71 255 716 1163 ["self","one","name"] m6,[tS 1172 ["known","number","text"],c2 m6 1149 248 ŵ 1175 723 [("__dict__",1177,r 726),("__weakref__",1179,r 727)] 1180 4],PV "TextRow" 724 1142 1176,[cU,iV,c1 m6 1190 "Truths" 260 Ŷ 1231 761 8,cU,lt 4 [(262,740),(266,747),(272,752),(283,759)],cc "Truths" 1185 260 733,fr 735 732 m6,cU,ku,fn "__init__" "Truths.__init__"<|inClass (top 72) 0,C "__init__" "Truths.__init__" 1195 1198 262 2 0 0 3 737 O 738 .none .none .none<|r 739,fO "__init__" "Truths.__init__" (inClass (top 72) 0) m6 740],eu "told_of" "Truths.told_of" 3 1 72 266 742 1201 ["self","row","behind","truths","place","cond"] m6,[cU,ku,fn "truth" "Truths.truth"<|inClass (top 72) 2,C "truth" "Truths.truth" 1213 1216 272 5 0 0 3 749 O 750 .none .none .none<|r 751,fO "truth" "Truths.truth" (inClass (top 72) 2) m6 752],eu "truth_of_stretch" "Truths.truth_of_stretch" 4 3 72 283 754 1219 ["self","place","cond","row"] m6,[tS 1229 ["conds","up"],c2 m6 1190 260 Ŷ 1231 761 [("__dict__",1233,r 764),("__weakref__",1235,r 765)] 1236 4],PV "Truths" 762 1183 1232,eU "holds" 2 73 291 768 1239 ["cond","row"] m6,eU "is_row_up_to" 2 74 297 775 1247 ["cond","number"] m6]
abbrev a7:List W:=lL [eU "first_swapped" 3 77 301 782 1259 ["hand","one","words","place"] m7,eU "every_swapped" 3 78 306 789 1269 ["hand","one","words","ends","parts","kept_to","place"] m7,[cU,ku,fn "words_of" "words_of"<|top 79,C "words_of" "words_of" 1282 1285 319 1 0 0 3 796 O 797 .none .none .none<|r 798,fO "words_of" "words_of" (top 79) m7 799],eU "word_of" 2 80 321 801 1288 ["hand","number","words"] m7,eU "number_of" 1 81 326 808 1297 ["word","figures"] m7,[cU,iV,c1 m8 1314 "Walker" 332 ŷ 1506 969 25,cU,lt 4 [(334,827),(351,834),(355,841),(358,848),(369,855),(376,862),(387,869),(392,876),(402,883),(405,890),(408,897),(415,904),(419,911),(439,918),(447,925),(453,932),(459,939),(463,946),(468,953),(471,960),(480,967)],cc "Walker" 1309 332 818,fr 820 817 m8],eu "__init__" "Walker.__init__" 2 0 83 334 822 1319 ["self","program"] m8,eu "want" "Walker.want" 1 1 83 351 829 1327 ["self"] m8,eu "take" "Walker.take" 3 2 83 355 836 1334 ["self","row","behind"] m8,eu "take_with" "Walker.take_with" 3 3 83 358 843 1343 ["self","text","truths"] m8,eu "go_on" "Walker.go_on" 1 4 83 369 850 1352 ["self"] m8,eu "meet" "Walker.meet" 3 5 83 376 857 1359 ["self","line","number","truth"] m8,eu "hand_over" "Walker.hand_over" 1 6 83 387 864 1369 ["self","rows"] m8,eu "finish" "Walker.finish" 1 7 83 392 871 1377 ["self","line"] m8,eu "find_none" "Walker.find_none" 1 8 83 402 878 1385 ["self"] m8,eu "give" "Walker.give" 2 9 83 405 885 1392 ["self","row"] m8]
abbrev a8:List W:=lL [eu "end_turn" "Walker.end_turn" 1 10 83 408 892 1400 ["self"] m8,eu "give_hand_and_end" "Walker.give_hand_and_end" 1 11 83 415 899 1407 ["self"] m8,eu "do" "Walker.do" 3 12 83 419 906 1414 ["self","deed","number"] m8,eu "do_giving" "Walker.do_giving" 2 13 83 439 913 1423 ["self","deed"] m8,eu "do_swap" "Walker.do_swap" 2 14 83 447 920 1431 ["self","deed"] m8,eu "do_join" "Walker.do_join" 2 15 83 453 927 1439 ["self","deed"] m8,eu "do_pile" "Walker.do_pile" 2 16 83 459 934 1447 ["self","deed","things"] m8,eu "do_bring" "Walker.do_bring" 2 17 83 463 941 1456 ["self","deed","thing"] m8,eu "rows_on_shelves" "Walker.rows_on_shelves" 1 18 83 468 948 1465 ["self"] m8,eu "do_add" "Walker.do_add" 3 19 83 471 955 1472 ["self","deed","number","name","word","amount"] m8,eu "do_tell" "Walker.do_tell" 1 20 83 480 962 1484 ["self","name"] m8,[tS 1492 ["behind_marks","hand","hand_rows","lines","log","met","noted","passed","shelves","sums","taken","teller","truths","wanting"],c2 m8 1314 332 ŷ 1506 969 [("__dict__",1508,r 972),("__weakref__",1510,r 973)] 1511 4],PV "Walker" 970 1307 1507,[cU,ku,fn "given_in" "given_in"<|top 84,C "given_in" "given_in" 1514 1517 483 1 0 0 3 976 O 977 .none .none .none<|r 978,fO "given_in" "given_in" (top 84) m8 979],eU "numbers_of_marks" 1 85 485 981 1520 ["lines","numbers","number","line"] m8,[cU,ku,fn "ahead" "ahead"<|top 87,C "ahead" "ahead" 1532 1535 492 1 0 0 3 988 O 989 .none .none .none<|r 990,fO "ahead" "ahead" (top 87) m9 991],eU "rows_seen_by" 1 88 494 993 1538 ["cond"] m9,[cU,iV]]
abbrev a9:List W:=lL [[c1 m9 1552 "Blade" 502 Ÿ 1633 1070 13,cU,lt 4 [(504,1012),(512,1019),(521,1026),(530,1033),(534,1040),(538,1047),(543,1054),(546,1061),(549,1068)],cc "Blade" 1547 502 1003,fr 1005 1002 m9],eu "__init__" "Blade.__init__" 2 0 89 504 1007 1557 ["self","program"] m9,eu "feed" "Blade.feed" 2 1 89 512 1014 1565 ["self","piece","parts","part"] m9,eu "finish" "Blade.finish" 1 2 89 521 1021 1575 ["self"] m9,eu "refuse_once_finished" "Blade.refuse_once_finished" 1 3 89 530 1028 1582 ["self"] m9,eu "come" "Blade.come" 2 4 89 534 1035 1589 ["self","text"] m9,eu "take_all_but" "Blade.take_all_but" 2 5 89 538 1042 1597 ["self","many","row"] m9,eu "boxes" "Blade.boxes" 1 6 89 543 1049 1606 ["self"] m9,eu "faults" "Blade.faults" 1 7 89 546 1056 1613 ["self"] m9,eu "kept" "Blade.kept" 1 8 89 549 1063 1620 ["self"] m9,[tS 1627 ["came","finished","rest","seen","waiting","walker"],c2 m9 1552 502 Ÿ 1633 1070 [("__dict__",1635,r 1073),("__weakref__",1637,r 1074)] 1638 4],PV "Blade" 1071 1545 1634,[tS 1643 ["row ","last","/","soon ","from ","not ","end"],cU,iV,c1 nJ 1672 "Scan" 560 Ź 1730 1127 10,cU,lt 4 [(562,1090),(566,1097),(569,1104),(575,1111),(579,1118),(584,1125)],cc "Scan" 1667 560 1081,fr 1083 1080 nJ],eu "__init__" "Scan.__init__" 3 0 99 562 1085 1677 ["self","row","number"] nJ,eu "refuse" "Scan.refuse" 1 1 99 566 1092 1686 ["self"] nJ,eu "passes" "Scan.passes" 2 2 99 569 1099 1693 ["self","words"] nJ,eu "must_pass" "Scan.must_pass" 2 3 99 575 1106 1701 ["self","words"] nJ]
abbrev kB:List W:=lL [eu "while_made_of" "Scan.while_made_of" 2 4 99 579 1113 1709 ["self","signs","taken"] nJ,eu "between" "Scan.between" 2 5 99 584 1120 1718 ["self","sign","place","inside"] nJ,[tS 1728 ["number","rest"],c2 nJ 1672 560 Ź 1730 1127 [("__dict__",1732,r 1130),("__weakref__",1734,r 1131)] 1735 4],PV "Scan" 1128 1665 1731,eU "line_of" 2 100 592 1134 1738 ["row","number","scan","line"] nJ,[cU,ku,fn "line_next" "line_next"<|top 101,C "line_next" "line_next" 1748 1751 598 1 0 0 3 1141 O 1142 .none .none .none<|r 1143,fO "line_next" "line_next" (top 101) nJ 1144],eU "cond_next" 1 102 606 1146 1754 ["scan"] nJ,eU "plain_cond_next" 1 103 612 1153 1761 ["scan","many","first"] nJ,eU "row_or_pattern_next" 1 104 624 1160 1770 ["scan"] nJ,eU "deed_next" 1 105 628 1167 1777 ["scan"] nJ,eU "swap_next" 2 106 653 1174 1784 ["scan","every","one"] nJ,eU "pile_next" 1 107 657 1181 1793 ["scan","shelf"] nJ,eU "add_next" 1 108 662 1188 1801 ["scan","first"] nJ,eU "number_next" 3 109 666 1195 1809 ["scan","least","most","figures","number"] nJ,eU "name_next" 1 110 674 1202 1820 ["scan","name"] nJ,eU "words_next" 1 111 679 1209 1828 ["scan","words"] nJ,eU "pattern_next" 1 112 684 1216 1836 ["scan","text"] nJ]
abbrev lU:List W:=lL [eU "may_stand" 2 113 690 1223 1844 ["cond","deed"] nJ,eU "may_swap" 1 114 696 1230 1852 ["deed"] nJ,eU "cut" 1 116 701 1237 1861 ["text","rows"] m11,eU "read" 1 119 708 1244 1873 ["text","lines","marks"] Za,eU "lines_of" 1 120 713 1251 1882 ["rows","lines","number","row"] Za,eU "marks_of" 1 121 720 1258 1892 ["lines","marks","number","line"] Za,eU "refuse_go_without_mark" 2 122 728 1265 1902 ["lines","marks","number","line"] Za,eU "_law_cell_at" 2 124 733 1272 1914 ["_law_script","_law_k"] CP,eU "_law_whole" 1 125 737 1279 1922 ["_law_answer"] CP,eU "_law_plain" 1 126 739 1286 1929 ["_law_number","_law_some"] CP,eU "_law_word" 1 127 742 1293 1937 ["_law_number","_law_signs","_law_k","_law_way"] CP,eU "_law_sign" 1 128 751 1300 1947 ["_law_number","_law_some","_law_spot"] CP,eU "_law_pieces" 1 129 759 1307 1956 ["_law_cells","_law_room","_law_pieces_here","_law_cell","_law_many","_law_number","_law_signs","_law_k"] CP,eU "_law_rows" 1 130 774 1314 1970 ["_law_text","_law_rows_here"] CP,[cU,ku,fn "_law_given" "_law_given"<|top 131,C "_law_given" "_law_given" 1978 1981 779 4 0 0 3 1321 O 1322 .none .none .none<|r 1323,fO "_law_given" "_law_given" (top 131) CP 1324],eU "_law_lines" 2 132 794 1326 1984 ["_law_ways","_law_words","_law_lines_here","_law_spot"] CP]
abbrev a12:List W:=lL [eU "_law_kinds" 1 133 807 1333 1994 ["_law_e","_law_sorts"] CP,eU "_law_refused" 5 134 811 1340 2002 ["_law_blade","_law_piece","_law_finished","_law_row","_law_line","_law_sorts","_law_place","_law_e"] CP,[cU,ku,fn "_law_alike" "_law_alike"<|top 135,C "_law_alike" "_law_alike" 2016 2019 826 2 0 0 3 1347 O 1348 .none .none .none<|r 1349,fO "_law_alike" "_law_alike" (top 135) CP 1350,cU,ku,fn "law" "law"<|top 136,C "law" "law" 2022 2025 828 1 0 0 3 1352 O 1353 .none .none .none<|r 1354,fO "law" "law" (top 136) CP 1355]]
abbrev os:List W:=a0++(a1++(a2++(a3++(a4++(a5++(a6++(a7++(a8++(a9++(kB++(lU++(a12))))))))))))
abbrev tr(n:Nat)(q:List<|Nat×W):mr->BT:=br 12<|ov os 0 n q
abbrev lf:Life:=⟨[],[],[],0,[],[],Zc,#[],[],0,Zc,Zc,Zc,0,[2000,10,10],Zc,0,O,[],[],0,Zc⟩
abbrev TA(w:dv)(os:h7):mB:=⟨tr 15 [(3,boot_o_3),(12,ku)] w.params,15,lf,⟨[]⟩,⟨0,0,0,0⟩,187,os⟩
abbrev T0(w:dv)(os:h7):mB:=⟨tr 83 [(3,di 15<|("__name__",165,.str "rowblade.errors" 194)::d0),(12,lt 0 l0),(31,cG "BladeError" [.type "ValueError"] [r 31,.type "ValueError",.type "Exception",.type "BaseException",.type "object"] 30 [r 44,r 56,r 68,r 80] (U<|r 22) 196 "ValueError.__new__")] w.params,83,lf,⟨[]⟩,⟨0,0,0,0⟩,278,os⟩
abbrev T1(w:dv)(os:h7):mB:=⟨tr 159 [(3,di 19<|("__name__",165,.str "rowblade.lines" 380)::d1),(12,lt 0 l1)] w.params,159,lf,⟨[]⟩,⟨0,0,0,0⟩,382,os⟩
abbrev T2(w:dv)(os:h7):mB:=⟨tr 246 [(3,di 24<|("__name__",165,.str "rowblade.lines" 380)::d2),(12,lt 0 l2),(210,c0 "Cond" 209 [r 224,r 243] 442)] w.params,246,lf,⟨[]⟩,⟨0,0,0,0⟩,503,os⟩
abbrev T3(w:dv)(os:h7):mB:=⟨tr 334 [(3,di 29<|("__name__",165,.str "rowblade.lines" 380)::d3),(12,lt 0 l3),(210,c0 "Cond" 209 [r 224,r 243,r 255,r 274,r 293,r 312,r 331] 442)] w.params,334,lf,⟨[]⟩,⟨0,0,0,0⟩,623,os⟩
abbrev T4(w:dv)(os:h7):mB:=⟨tr 403 [(3,di 34<|("__name__",165,.str "rowblade.lines" 380)::d4),(12,lt 0 l4),(355,c0 "Deed" 354 [r 376,r 388,r 400] 639)] w.params,403,lf,⟨[]⟩,⟨0,0,0,0⟩,716,os⟩
abbrev T5(w:dv)(os:h7):mB:=⟨tr 491 [(3,di 39<|("__name__",165,.str "rowblade.lines" 380)::d5),(12,lt 0 l5),(355,c0 "Deed" 354 [r 376,r 388,r 400,r 412,r 431,r 450,r 469,r 488] 639)] w.params,491,lf,⟨[]⟩,⟨0,0,0,0⟩,838,os⟩
abbrev T6(w:dv)(os:h7):mB:=⟨tr 586 [(3,di 56<|("__name__",165,.str "rowblade.patterns" 954)::d6),(12,lt 0 l6)] w.params,586,lf,⟨[]⟩,⟨0,0,0,0⟩,986,os⟩
abbrev T7(w:dv)(os:h7):mB:=⟨tr 782 [(3,di 78<|("__name__",165,.str "rowblade.pieces" 1255)::d7),(12,lt 0 l7)] w.params,782,lf,⟨[]⟩,⟨0,0,0,0⟩,1257,os⟩
abbrev T8(w:dv)(os:h7):mB:=⟨tr 1000 [(3,di 89<|("__name__",165,.str "rowblade.blade" 1530)::d8),(12,lt 0 l8)] w.params,1000,lf,⟨[]⟩,⟨0,0,0,0⟩,1545,os⟩
abbrev T9(w:dv)(os:h7):mB:=⟨tr 1188 [(3,di 107<|("__name__",165,.str "rowblade.linereading" 1641)::d9),(12,lt 0 l9)] w.params,1188,lf,⟨[]⟩,⟨0,0,0,0⟩,1801,os⟩
abbrev Vg(w:dv)(os:h7):mB:=⟨tr 1357 [] w.params,1357,lf,⟨[]⟩,⟨0,0,0,0⟩,2028,os⟩
abbrev bE:Ee:=behindTheImports pw
abbrev nv:Env:={scope:=pw.main.scope,locals:=mainNs,globals:=mainNs,cells:=[],code:=(r 13),frame:=U 14}
abbrev cE:Code:=.body bE nv
abbrev BF:List Frame:=[topFrame ⟨0,0,0,0⟩]
abbrev an:D1:=(U<|r 6)
abbrev Vh:Ee:=(bE.drop 0).take 7
abbrev Vi:Ee:=(bE.drop 7).take 5
abbrev Vj:Ee:=(bE.drop 12).take 5
abbrev Vk:Ee:=(bE.drop 17).take 5
abbrev Vl:Ee:=(bE.drop 22).take 5
abbrev Vm:Ee:=(bE.drop 27).take 5
abbrev Vn:Ee:=(bE.drop 32).take 19
abbrev Vo:Ee:=(bE.drop 51).take 25
abbrev Vp:Ee:=(bE.drop 76).take 13
abbrev Vq:Ee:=(bE.drop 89).take 19
abbrev NI:Ee:=(bE.drop 108).take 29
abbrev S0(w:dv)(os:h7):av:=⟨o4 w.params,Array.mk [],boot_drawn,boot_toks,os⟩
abbrev th0:nr:=kA Vh nv cE ⟨0,0,0,0⟩ BF
abbrev th1:nr:=kA Vi nv cE ⟨13,0,14,8⟩ BF
abbrev th2:nr:=kA Vj nv cE ⟨32,0,32,8⟩ BF
abbrev th3:nr:=kA Vk nv cE ⟨46,0,49,28⟩ BF
abbrev th4:nr:=kA Vl nv cE ⟨66,0,69,26⟩ BF
abbrev th5:nr:=kA Vm nv cE ⟨80,0,81,8⟩ BF
abbrev th6:nr:=kA Vn nv cE ⟨98,0,102,24⟩ BF
abbrev th7:nr:=kA Vo nv cE ⟨138,0,149,31⟩ BF
abbrev th8:nr:=kA Vp nv cE ⟨299,0,299,8⟩ BF
abbrev th9:nr:=kA Vq nv cE ⟨494,0,501,12⟩ BF
abbrev Ù:nr:=kA NI nv cE ⟨657,0,661,56⟩ BF
abbrev thA:nr:=⟨denote fE cE,cE,⟨0,0,0,0⟩,BF⟩
abbrev thB:nr:=blockOf bE nv cE ⟨0,0,0,0⟩ BF
abbrev thF:nr:=⟨doneF .next,cE,⟨828,0,857,84⟩,BF⟩
def ź:Nat->Nat->Nat->B1
 |0,a,_=>[a]
 |k+1,a,n=>a::ź k (a+n % 16) (n/16)
abbrev as:BM:=ź 776 2 0x13113112121121211212113112121121211212112121121211212112121121211212112121121211212112121121211212112121121211212112121121211212112121121211212112121131121231111112121121211212112121121211212831111112121121211212112121121211212112121121211212812121131121211331111112121121211212112121121211212112121121211212112121121211212112121121211212112121121211212112121121211212812121121211311212112121121211212311111121211311212113a111111212112128121211212112121121211212111212112121131121211212112121121211311212112121121211212112121121211212113311731111212731111212731111212731111212731111212731111212731111212731173117311731111212731111a1173111121273111121273111121273111121273117311112127311731111a111111212a111111212a1111212731111212731111212731111212731173117311731173111711212c1
def sl:List W->Nat->B1->List W
 |[],_,_=>[]
 |x::l,i,q=>(match q with
  |[]=>[]
  |y::r=>(match y.beq i with
   |true=>x::sl l (i+1) r
   |false=>sl l (i+1) q))
abbrev K(P:mr):C9:=as.zip<|(sl os 0 as).map λo=>o P
abbrev vw:dn:={pw with main:={pw.main with body:=([0,2,3,4,5,6,7,8,9,10,12,13,14,15,16,17,18,19,20,21,22,23,24,25,26,27,28,29,30,31,32,33,34,35,37,38,39,40,41,43,44,45,46,47,48,49,50,51,52,53,54,55,56,57,58,59,60,61,62,64,66,67,68,69,71,72,73,74,76,77,78,79,80,81,83,84,85,87,88,89,91,92,93,94,95,96,97,98,99,100,101,102,103,104,105,106,107,108,109,110,111,112,113,114,116,118,119,120,121,122,124,125,126,127,128,129,130,131,132,133,134,135,136]:B1).map top}}
abbrev lz:Bi:=["stretch"]
def pre:∀w:dv,(λos=>topGo fE pw w 11 an 12 (S0 w os)<|topStub pw)=λos=>U ((TA w os).abs,thA):=by
 exact λw=>by kernel_rfl
def Zb:∀w:dv,(λos=>segRun fE pw w 11 an 1 1 (TA w os).abs thB)=λos=>U (hV,(TA w os).abs,cE,(⟨0,0,0,0⟩:Pos)):=by
 exact λw=>by kernel_rfl
def g0:∀w:dv,(λos=>nL fE pw w 11 an 1 1077 (TA w os) th0)=λos=>U (hV,T0 w os,cE,(⟨13,0,14,8⟩:Pos)):=by
 rewrite [dA]
 exact λw=>by kernel_rfl
def g1:∀w:dv,(λos=>nL fE pw w 11 an 1 992 (T0 w os) th1)=λos=>U (hV,T1 w os,cE,(⟨32,0,32,8⟩:Pos)):=by
 rewrite [dA]
 exact λw=>by kernel_rfl
def g2:∀w:dv,(λos=>nL fE pw w 11 an 1 1095 (T1 w os) th2)=λos=>U (hV,T2 w os,cE,(⟨46,0,49,28⟩:Pos)):=by
 rewrite [dA]
 exact λw=>by kernel_rfl
def g3:∀w:dv,(λos=>nL fE pw w 11 an 1 1198 (T2 w os) th3)=λos=>U (hV,T3 w os,cE,(⟨66,0,69,26⟩:Pos)):=by
 rewrite [dA]
 exact λw=>by kernel_rfl
def g4:∀w:dv,(λos=>nL fE pw w 11 an 1 1075 (T3 w os) th4)=λos=>U (hV,T4 w os,cE,(⟨80,0,81,8⟩:Pos)):=by
 rewrite [dA]
 exact λw=>by kernel_rfl
def g5:∀w:dv,(λos=>nL fE pw w 11 an 1 1200 (T4 w os) th5)=λos=>U (hV,T5 w os,cE,(⟨98,0,102,24⟩:Pos)):=by
 rewrite [dA]
 exact λw=>by kernel_rfl
def g6:∀w:dv,(λos=>nL fE pw w 11 an 1 1169 (T5 w os) th6)=λos=>U (hV,T6 w os,cE,(⟨138,0,149,31⟩:Pos)):=by
 rewrite [dA]
 exact λw=>by kernel_rfl
def g7:∀w:dv,(λos=>nL fE pw w 11 an 1 1197 (T6 w os) th7)=λos=>U (hV,T7 w os,cE,(⟨299,0,299,8⟩:Pos)):=by
 rewrite [dA]
 exact λw=>by kernel_rfl
def g8:∀w:dv,(λos=>nL fE pw w 11 an 1 1175 (T7 w os) th8)=λos=>U (hV,T8 w os,cE,(⟨494,0,501,12⟩:Pos)):=by
 rewrite [dA]
 exact λw=>by kernel_rfl
def g9:∀w:dv,(λos=>nL fE pw w 11 an 1 1194 (T8 w os) th9)=λos=>U (hV,T9 w os,cE,(⟨657,0,661,56⟩:Pos)):=by
 rewrite [dA]
 exact λw=>by kernel_rfl
def g10:∀w:dv,(λos=>nL fE pw w 11 an 1 800 (T9 w os) Ù)=λos=>U (hV,Vg w os,cE,(⟨828,0,857,84⟩:Pos)):=by
 rewrite [dA]
 exact λw=>by kernel_rfl
def fin:∀w:dv,(λos=>topRun fE pw w 11 an 2 (Vg w os).abs thF)=λos=>U (Vg w os).abs:=by
 exact λw=>by kernel_rfl
def chn(w:dv)(os:h7):∀l,l=(Vh++(Vi++(Vj++(Vk++(Vl++(Vm++(Vn++(Vo++(Vp++(Vq++(NI++[])))))))))))->topRun fE pw w 11 an (1077+(992+(1095+(1198+(1075+(1200+(1169+(1197+(1175+(1194+(800+2))))))))))) (TA w os).abs (restOf l nv cE ⟨0,0,0,0⟩ BF)=U (Vg w os).abs:=λl e=>by
 rw[e];exact i3 (i1<|ew (g0 w) os)<|i3 (i1<|ew (g1 w) os)<|i3 (i1<|ew (g2 w) os)<|i3 (i1<|ew (g3 w) os)<|i3 (i1<|ew (g4 w) os)<|i3 (i1<|ew (g5 w) os)<|i3 (i1<|ew (g6 w) os)<|i3 (i1<|ew (g7 w) os)<|i3 (i1<|ew (g8 w) os)<|i3 (i1<|ew (g9 w) os)<|i3 (i1<|ew (g10 w) os)<|ew (fin w) os
def run(w:dv)(os:h7):topRun fE pw w 11 an (12+(1+(1077+(992+(1095+(1198+(1075+(1200+(1169+(1197+(1175+(1194+(800+2))))))))))))) (S0 w os) (topStub pw)=U (Vg w os).abs:=go_top (ew (pre w) os)<|piece_block (ew (Zb w) os)<|chn w os bE<|by kernel_rfl
def TH:∀P,as=(K P).map (·.1):=λ_=>by kernel_rfl
abbrev H:Hook:=kHook K as TH
abbrev H1(P:mr):ey:=absHeap ((tr 1357 []) P) 1357 lf
abbrev SF(w:dv)(os:h7):av:=⟨H1 w.params,Array.mk [],⟨0,0,0,0⟩,2028,os⟩
abbrev Xt(s:av):Bool:=xlAt vw [] s&&recOk (RowW.records<|OpenRow.toRowW<|OpenLaw.row PySem.Challenge.rw_rowblade_k45_endless_at_its_piece) s
def opn:∀w:dv,(fencedOpening fE pw w 24448).map (λs=>(s.heap,s.gens,s.drawn,s.toks))=U (o4 w.params,Array.mk [],boot_drawn,boot_toks):=boot_open (by kernel_rfl) (by decide) λs=>by kernel_rfl
def siz:∀w:dv,((o4 w.params).isNs eP&&(Array.mk []:Array tJ).size == 0,(o4 w.params).objs.size,(o4 w.params).nsMap eP "__annotations__")=(O,11,an):=λw=>by kernel_rfl
def PX:∀w:dv,(λos=>(staticsOk (xI pw.main.body) (o4 w.params) (H1 w.params)&&namesBound pw (H1 w.params)&&gensDone (SF w os)&&laidKept (o4 w.params) (H1 w.params)))=λ_=>O:=λw=>by kernel_rfl
def q1:∀w:dv,(λos=>PyProof.Rows.seen (uT (λx=>x.name)<|Nn vw) (PyProof.Rows.ownsOf vw) [] {heap:=(SF w os).heap,drawn:=(SF w os).drawn,toks:=(SF w os).toks,os:=(SF w os).os})=λ_=>PyProof.Rows.expectedOf vw:=λw=>by kernel_rfl
def q2:∀w:dv,(λos=>(SF w os).heap.bltView)=λ_=>bltViewBooted:=λw=>by kernel_rfl
def b1:∀w:dv,(λos=>(SF w os).heap.keysOk (looseW vw lz) (uT (λx=>x.name)<|Nn vw) (uT (λx=>x.fst)<|PyProof.Rows.litsOf vw)<|uT (λx=>x.name)<|PyProof.Rows.clssOf vw<|looseW vw lz)=λ_=>O:=λw=>by kernel_rfl
def b2:∀w:dv,(λos=>(SF w os).heap.accountedOkI<|xI pw.main.body)=λ_=>O:=λw=>by kernel_rfl
def b3:∀w:dv,(λos=>(SF w os).heap.isNs eP)=λ_=>O:=λw=>by kernel_rfl
def b4:∀w:dv,(λos=>(SF w os).heap.isNs sI)=λ_=>O:=λw=>by kernel_rfl
def b5:∀w:dv,(λos=>PyProof.Rows.tablesOk vw (SF w os).heap)=λ_=>O:=λw=>by kernel_rfl
def b6:∀w:dv,(λos=>Xt<|SF w os)=λ_=>O:=λw=>by kernel_rfl
def q4:∀w:dv,(λos=>PyProof.Rows.tabsOk vw<|SF w os)=λ_=>O:=λw=>by kernel_rfl
def q5:∀w:dv,(λos=>pinSeenD vw (Np vw)<|SF w os)=λ_=>pinGoodD<|Np vw:=λw=>by kernel_rfl
def q6:∀w:dv,(λos=>PyProof.Rows.plainSeenE vw (looseW vw lz)<|SF w os)=λ_=>PyProof.Rows.plainGoodE vw<|looseW vw lz:=λw=>by kernel_rfl
def q7:∀w:dv,(λos=>PyProof.Rows.plainSeenD vw lz<|SF w os)=λ_=>PyProof.Rows.plainGoodD vw lz:=λw=>by kernel_rfl
def q8:∀w:dv,(λos=>wideSeen vw<|SF w os)=λ_=>wideGood vw:=λw=>by kernel_rfl
def q9:∀w:dv,(λos=>clsSeenW vw lz<|SF w os)=λ_=>clsGoodW vw lz:=λw=>by kernel_rfl
def Ú:∀w:dv,(λos=>openSeen vw lz (xI pw.main.body) Xt O<|SF w os)=λ_=>openGood vw lz:=λw=>funext λos=>iv (ew (q1 w) os)<|iv (ew (q2 w) os)<|iv (by
 show(_&&_&&_&&_&&_&&_&&_)=O;rw[ew (b1 w) os,ew (b2 w) os,ew (b3 w) os,ew (b4 w) os,ew (b5 w) os,ew (b6 w) os];rfl)<|iv (ew (q4 w) os)<|iv (ew (q5 w) os)<|iv (ew (q6 w) os)<|iv (ew (q7 w) os)<|iv (ew (q8 w) os)<|ew (q9 w) os
def sp{α b γ:Type}{f:α->γ}{g:b->γ}(n:Nat){a:List α}{k:List b}(d:(a.take n).map f=(k.take n).map g)(c:(a.drop n).map f=(k.drop n).map g):a.map f=k.map g:=by
 rw[<- MV n a,<- MV n k,eF,eF,d,c]
def l3a:∀w:dv,(λos=>(as.take 260).map (SF w os).heap.get?)=λ_=>((K w.params).take 260).map λp=>U p.2:=λw=>by kernel_rfl
def l3b:∀w:dv,(λos=>((as.drop 260).take 260).map (SF w os).heap.get?)=λ_=>(((K w.params).drop 260).take 260).map λp=>U p.2:=λw=>by kernel_rfl
def l3c:∀w:dv,(λos=>((as.drop 260).drop 260).map (SF w os).heap.get?)=λ_=>(((K w.params).drop 260).drop 260).map λp=>U p.2:=λw=>by kernel_rfl
def lk3:∀w:dv,(λos=>Hook.obs H<|SF w os)=λ_=>Hook.val H w:=λw=>funext λos=>sp 260 (ew (l3a w) os)<|sp 260 (ew (l3b w) os)<|ew (l3c w) os
def left:LeftO pw vw lz Xt (Hook.obs H) (Hook.val H) 24448:=LeftO.of_pieces (H₁:=H1) (gs₁:=Array.mk []) (d₁:=⟨0,0,0,0⟩) (k₁:=2028) opn siz run (by decide) λw=>funext λos=>iv (ew (PX w) os)<|iv (ew (Ú w) os)<|ew (lk3 w) os
end KH
end
namespace L2
open PySem
def Fj(f:Array bj->Array bj)(o:Obj):(i5 f o).dict=o.dict:=by
 unfold i5;split<;>rfl
def TJ(h:ey)(e:bt)(d:Option bt):Prop:=∃o,h.get? e=U o/\o.dict=d
variable{A:ek}{s:av}
def Fo
  (t:A.frames=U (env::outer)) (hl:s.heap.FunFrames base<|env::outer) (w:env.frame=U L)
  (he:s.heap.get? e=U f) (Fp:base.StaysIn s.heap) (u:base.get? e=Y) (hd:f.data=.fields vs) (hsz:1<vs.size) (y:vs[0]?=U a0)
  (h:∀h',Heap.NotedW base (env::outer) e f.cls a0 (pb L) s.heap h'->TJ h' e f.dict->Q () {s with heap:=h'}) :
  cq M A (do let a <- frameOf env;let pl <- entryPlaceOf L v;let b <- vr c a .none (pb L) .none pl;setField (.ref e) 1 b) Q E s:=by
 have ne:e∉(env::outer).filterMap (·.frame):=λz=>by
  obtain⟨_,o,q,n⟩:=hl.mem z;rw[he]at q;cases q;exact n vs hd
 refine ar<|wpAny_frameOf_fun t hl w λg j=>ar<|wpAny_entryPlaceOf λpl i=>?_;unfold vr newFields;refine ar<|n6 ?_<|i.sizeOk5 _ _ _ _ _;have p:g.get? e=U f:=(j.2.1 e ne).trans he;have b1:base.StaysIn g:=λb o q=>(j.2.1 b λz=>by rw[(hl.mem z).1]at q;cases q).trans<|Fp b o q
 obtain⟨d,Û⟩:∃d:Obj,d={cls:=.type "traceback",dict:=Y,data:=.fields ([c,.ref L,.none,pb L,.none]++(if pl.isEmpty then bL 6 hQ else pl)).toArray}:=⟨_,J⟩
 rw[<- Û];have m:=ax (h:=g) d p;have r:g.objs.size≠e:=xS<|b7 p;have d3:=rp hd (·.setIfInBounds 1<|Value.ref g.objs.size)
 have l:=gs (i5 (·.setIfInBounds 1<|Value.ref g.objs.size)) m<|Aj d3
 have t3:=(eo (g.push d) (i5 (·.setIfInBounds 1<|Value.ref g.objs.size))<|eL r).trans<|de g<|by rw[Û];rfl
 have keep:∀b o,b≠e->g.get? b=U o->((g.push d).update e<|i5 (·.setIfInBounds 1<|Value.ref g.objs.size)).get? b=U o:=λb o x q=>(eo _ _<|eL x).trans<|ax _ q
 have k:∀b o,s.heap.get? b=U o->(∀vs,o.data≠.fields vs)->b≠e:=λb o q n z=>by
  rw[z,he]at q;cases q;exact n vs hd
 refine zk m hd hsz<|h _ ⟨λb o q=>keep b o (λz=>by rw[z,u]at q;cases q)<|b1 b o q,hl.of_keeps λb o q n=>?_,?_,λb o q n=>?_⟩ ⟨_,l,Fj _ _⟩
 .obtain⟨sl,z⟩:=j.2.2 b o q
  exact⟨_,keep b _ (k b o q n) z,J⟩
 .refine⟨_,_,g.objs.size,_,_,l,⟨Obj.cls_mapFields _ _,by rw[Array.getElem?_setIfInBounds_ne<|by decide];exact y⟩,d3,by simp[hsz],b1.fresh,r,t3,by rw[Û],?_⟩
  first|(simp;done)|(rcases i with rfl|⟨_,_,_,_,_,_,_,rfl⟩<;>simp)
 .obtain⟨sl,z⟩:=j.2.2 b o q
  exact⟨sl,keep b _ (k b o q n) z⟩
def Al
  (Fp:base.StaysIn s.heap) (hl:s.heap.FunFrames base l) (v:s.heap.TracedAtW base e cls a0 fl) (g:TJ s.heap e d)
  (h:∀h',base.StaysIn h'->h'.FunFrames base l->h'.TracedW base e cls a0->TJ h' e d->(∀b o,s.heap.get? b=U o->(∀vs,o.data≠.fields vs)->h'.get? b=U o)->Q () {s with heap:=h'}) :
  cq M A (uG (.ref e) Y) Q E s:=by
 obtain⟨t,vs,T,y,ts,k,w,hd,m,p,i,c,a,x⟩:=v;obtain⟨u,r,g⟩:=g;have sz:3<ts.size:=(Array.getElem?_eq_some_iff.mp x).1;have ot:∀b,b≠T->(s.heap.update T<|i5 (·.setIfInBounds 3<|(Y:Option bt).elim hQ λf=>pb f)).get? b=s.heap.get? b:=λb z=>eo _ _<|eL z
 have j:∀b o,s.heap.get? b=U o->(∀vs,o.data≠.fields vs)->b≠T:=λb o q n z=>by
  rw[z,c]at q;cases q;exact n ts a
 unfold uG;refine ar<|vv k hd m ?_;rw[bU<|show(Value.ref T != hQ)=O by simp]
 exact zk c a sz<|h _ (λb o q=>(ot b λz=>by rw[z,p]at q;cases q).trans<|Fp b o q) (hl.of_keeps λb o q n=>⟨o,(ot b<|j b o q n).trans q,J⟩)
  ⟨t,vs,T,_,_,(ot e<|eL i).trans k,w,hd,m,p,i,gs _ c<|Aj<|rp a _,rp a _,by simp[sz]⟩
  ⟨u,(ot e<|eL i).trans r,g⟩ λb o q n=>(ot b<|j b o q n).trans q
def kQ(base:ey)(l:List Env)(e:bt)(cls a0:bj)(d:Option bt)(h:ey):Prop:=Heap.FlyingW base l e cls a0 h/\TJ h e d
section
variable{Q:Kt}
def nOn(p:A.frames=U (env::outer))(k:env.frame=U L)(F:kQ base (env::outer) e cls a0 d s.heap)
  (h:∀h',Heap.NotedW base (env::outer) e cls a0 (pb L) s.heap h'->TJ h' e d->Q () {s with heap:=h'}):cq M A (rr (.ref e) env) Q E s:=by
 obtain⟨⟨Fp,w,hl,H,g,T,I,ts,a,⟨x,B⟩,hd,m,C,G,c,f,l⟩,K,i,y⟩:=F;rw[a]at i;cases i;subst x y;unfold rr;simp only[k];refine ar<|vv a hd m ?_;rw[bU<|show(Value.ref T != hQ)=O by simp]
 refine ar<|vv c f l ?_;rw[bp<|show ¬ ((hQ == pb L)=O) by simp[pb]]
 refine ar<|zk c f (Array.getElem?_eq_some_iff.mp l).1 ?_;have ot:∀b,b≠T->(s.heap.update T<|i5 (·.setIfInBounds 3 hQ)).get? b=s.heap.get? b:=λb z=>eo _ _<|eL z
 have j:∀b o,s.heap.get? b=U o->(∀g,o.data≠.fields g)->b≠T:=λb o q n z=>by
  rw[z,c]at q;cases q;exact n ts f
 exact Fo p (hl.of_keeps λb o q n=>⟨o,(ot b<|j b o q n).trans q,J⟩) k ((ot e<|eL G).trans a)
  (λb o q=>(ot b λz=>by rw[z,C]at q;cases q).trans<|Fp b o q) w hd (Array.getElem?_eq_some_iff.mp m).1 B
  λh' ⟨v,u,t,r⟩ D=>h h' ⟨v,u,t,λb o q n=>r b o ((ot b<|j b o q n).trans q) n⟩ D
def Vr(base:ey)(l:List Env)(e:bt)(cls a0:bj)(d:Option bt)(L:bt)(h:ey):Prop:=Heap.HeldW base l e cls a0 L h/\TJ h e d
def NL(a:A.frames=U (env::outer))(c:env.frame=U L)(F:kQ base (env::outer) e cls a0 d s.heap)
  (h:∀h',Vr base (env::outer) e cls a0 d L h'->s.heap.UpToSlots h'->Q () {s with heap:=h'}):cq M A (rr (.ref e) env) Q E s:=
 nOn a c F λh' ⟨k1,k2,k3,b⟩ D=>h h' ⟨⟨k1,F.1.2.1,k2,k3⟩,D⟩ b
def Fq(H:Vr base l e cls a0 d L s.heap)(h:∀h',kQ base l e cls a0 d h'->s.heap.UpToSlots h'->Q () {s with heap:=h'}):cq M A (uG (.ref e) Y) Q E s:=by
 obtain⟨⟨j,i,g,f⟩,D⟩:=H;exact Al j g f D λh' k1 k2 k3 c a=>h h' ⟨⟨k1,i,k2,k3⟩,c⟩ λb o q n=>⟨o.slots,a b o q n⟩
def upTo{h f e:ey}(a:h.UpToSlots f)(b:f.UpToSlots e):h.UpToSlots e:=λc o q n=>by
 obtain⟨sl,q1⟩:=a c o q n;obtain⟨d,q2⟩:=b c _ q1 n;exact⟨d,q2⟩
def PY(b:A.frames=U (env::outer))(g:env.frame=U L)(F:kQ base (env::outer) e cls a0 d s.heap)
  (h:∀h',kQ base outer e cls a0 d h'->s.heap.UpToSlots h'->Q () {s with heap:=h'}):cq M A (y1 env<|.ref e) Q E s:=by
 unfold y1;refine ar<|NL b g F λj H1 f=>Fq H1 λi a c=>h i ⟨⟨a.1.1,a.1.2.1,?_,a.1.2.2.2⟩,a.2⟩<|upTo f c;obtain⟨_,_,k⟩:=a.1.2.2.1;exact k
def PZ(g:A.frames=U (env::outer))(d:env.frame=U L)(Fp:base.StaysIn h)(hl:h.FunFrames base<|env::outer)(kp:∀b o,h.get? b=U o->s.heap.get? b=U o)(new:h.get? e=Y)
  (he:s.heap.get? e=U c) (hd:c.data=.fields #[.ref t,.none,.none,.none,.bool Zc,.none])
  (r:∀h',kQ base outer e c.cls (.ref t) c.dict h'->s.heap.UpToSlots h'->Q () {s with heap:=h'}):cq M A (y1 env<|.ref e) Q E s:=by
 have fr:base.get? e=Y:=by
  cases q:base.get? e with
  |none=>rfl
  |some p=>have:=Fp e p q;rw[new]at this;cases this
 unfold y1;apply ar;unfold rr;simp only[d];refine ar<|vv he hd (x:=.none) J ?_;rw[bp<|by decide]
 refine Fo (a0:=.ref t) g (hl.of_keeps λb o q _=>⟨o,kp b o q,J⟩) d he (λb o q=>kp b o<|Fp b o q) fr hd (by simp) J λv f D=>?_
 obtain⟨m,l,j,i⟩:=f;refine Fq (L:=L) ⟨⟨m,fr,l,j⟩,D⟩ λu a n=>r u ⟨⟨a.1.1,a.1.2.1,?_,a.1.2.2.2⟩,a.2⟩<|upTo i n;obtain⟨_,_,k⟩:=a.1.2.2.1;exact k
end
section
variable{os:h7}
variable{bs bm G sub rest:B2}
def CQ(F:ExcBaseFacts B newId H G)(T:OwnTail h G bm){Q:Fin->av->Prop}
  (c:h.get? C=U (oa nm q C N bs bm hdct sn sub ab col dd k0 k1 k2 k3 k5 newId)) (p:h.Ns N D) (s:D "__init__" = U (.ref y)) (Ü:h.get? y=U oI) (Ý:oI.cls=.type "function")
  (n:∀h' e,Heap.MadeExcOf h h' e (.ref C) rest->h.objs.size<=e->cq (cv prog w) A (call (.ref y)<|.ref e::rest) (λr s'=>r=.none/\Q (.done<|.ret<|.ref e) s') E ⟨h',g,d,t,os⟩) (hr:rest.length<=cC) :
  cq (cv prog w) A (Builtin.«type.__call__» ⟨.ref C::rest,[]⟩) Q E ⟨h,g,d,t,os⟩:=by
 repeat (first|with_reducible refine kx c ?_|with_reducible refine wpAny_madeBy_exc c ?_|wp_step)
 refine codeAny_call_builtin_code (mN _ F.quiet)<|wpAny_check_new_subT F T c<|codeAny_exc_new_subT F T c ?_ hr;show cq _ _ _ _ _ _;obtain⟨f,j⟩:∃f:Obj,f={cls:=.ref C,data:=.fields #[.ref h.objs.size,.none,.none,.none,.bool Zc,.none]}:=⟨_,J⟩;obtain⟨a,i⟩:∃a,a=(h.push {cls:=.type "tuple",data:=.seq rest.toArray}).push f:=⟨_,J⟩;have kp:∀b o,h.get? b=U o->a.get? b=U o:=λb o z=>by rw[i];exact ax _<|ax _ z
 have k:a.get? (h.objs.size+1)=U f:=by rw[i];exact rS (by simp only[kf]) (by rw[j];rfl)
 have m:a.get? h.objs.size=U {cls:=.type "tuple",data:=.seq rest.toArray}:=by rw[i];exact ax _<|rS J J
 rw[<- j,<- i];have l:a.Ns N D:=let⟨o,es,ep,z,r⟩:=p;⟨o,es,ep,kp _ _ z,r⟩;have v:(Value.ref C::bm).contains (.ref C)=O:=by simp
 have u:f.cls=.ref C:=by rw[j]
 unfold pd
 repeat (first|(with_reducible refine kx k ?_;rw[u])|(with_reducible refine wpAny_isSubtype_exc (kp _ _ c) ?_;rw[v])|wp_step)
 show cq _ _ (o8 (.ref C) _) _ _ _;refine wpAny_typeLookup_tail (kp _ _ c) l (T.keeps kp) F.mroIs F.init.lookup ?_;rw[s];refine gE<|ar ?_;unfold bindSpecial;refine ar<|wpAny_typeOf (T := "function") ⟨_,kp _ _ Ü,Ý⟩ ?_;rw[bU<|by decide]
 refine dk<|ar<|eC (n a (h.objs.size+1) ⟨kp,ll<|Ce _,h.objs.size,by rw[k,j],ll<|cV _,m⟩<|Ce _) (λr s' z=>?_) λ_ _ x=>x
 obtain⟨rfl,z⟩:=z
 wp_walk
 exact z
def CU(F:ExcBaseFacts B newId H G)(T:OwnTail h G bm){Q:Kk}
  (a:h.get? C=U (oa nm q C N bs bm hdct sn sub ab col dd k0 k1 k2 k3 k5 newId)) (c:h.Ns N D) (f:D "__init__" = U (.ref y)) (Ü:h.get? y=U oI) (Ý:oI.cls=.type "function")
  (b:∀h' e,Heap.MadeExcOf h h' e (.ref C) rest->h.objs.size<=e->cq (cv prog w) (A.under<|.builtin "type.__call__" ⟨.ref C::rest,[]⟩) (call (.ref y)<|.ref e::rest) (λr s'=>r=.none/\Q (.ref e) s') E ⟨h',g,d,t,os⟩) (hr:rest.length<=cC) :
  cq (cv prog w) A (call (.ref C) rest) Q E ⟨h,g,d,t,os⟩:=by
 have k:=tc_lookup;have j:=tc_bind<|.ref C;have i:(⟨h,g,d,t,os⟩:av).TypeIs (.ref C) "type" := ⟨_,a,J⟩;refine f7<|codeAny_of_tree ?_;show cq _ _ (callAny (.ref C) _) _ _ _
 repeat (any_goals (first|assumption|with_reducible refine kx a ?_|wp_step))
 exact⟨J,codeAny_call_builtin_at (mN _<|by decide +kernel) entry_typeCall<|wpAny_check_type_call_sub a<|CQ F T a c f Ü Ý b hr⟩
end
def P0(j:bm.contains (.type "BaseException")=O)(c:A.handled=Y)
  (h:cq M A x (λv s1=>∃e a t,v=.ref e/\s1.heap.get? C=U (oa nm q C N bs bm hdct sn sub ab col dd k0 k1 k2 k3 k5 newId)/\s1.heap.get? e=U a/\a.cls=.ref C/\a.data=.fields #[.ref t,.none,.none,.none,.bool Zc,.none]/\E (.ref e) s1) E s) :
  cq M A (raiseStmt env (U x) Y) Q E s:=by
 have cB:(Value.ref C::bm).contains (.type "BaseException")=O:=by rw[List.contains_cons,j,Bool.or_true]
 unfold raiseStmt;refine ar<|eC h (λv s1 z=>?_) λ_ _ x=>x;obtain⟨e,a,t,rfl,b,f,i,hd,k⟩:=z;obtain⟨l,g,d,tk,os⟩:=s1
 repeat (first|(with_reducible refine kx f ?_;first|rw[i]|simp only[hd])|with_reducible refine kx b ?_|(with_reducible refine wpAny_isSubtype_exc b ?_;rw[cB])|simp only[hd]|wp_step)
 exact wpAny_raiseNew_none c k
end L2
namespace L2
open PySem PySem.W PyProof.Rows Builtin Builtin.ObjectAttr
abbrev Ze:B2:=[.type "ValueError",.type "Exception",.type "BaseException",.type "object"]
def Am:B2->Bool
 |.ref _::.ref _::r=>r == Ze
 |_=>Zc
def vt(h:Am l=O):∃a b,l=.ref a::.ref b::Ze:=by
 unfold Am at h;split at h
 .exact⟨_,_,by rw[beq_iff_eq.mp h]⟩
 .cases h
structure lV(K:C9)(C:bt):Prop where
 ga:pf K (.ref C) "__getattribute__" = U (U<|.builtin L9)
 gn:pf K (.ref C) "__getattr__" = U Y
 sa:pf K (.ref C) "__setattr__" = U (U<|.builtin "object.__setattr__")
 hd:hasDictIn K C=O
 ov:(clsIn K C).any (λcd=>Am cd.mro)=O
section
variable{prog:dn}{w:dv}{A:ek}{E:Kk}{s:av}{K:C9}{x C d:bt}{L:Obj}{od:Option Obj}{name:Str}{v:bj}{B:Str->D1}{N:Array bj}
def NN{tk:Tok}{R:Iy->av->Prop}(X:K.In s.heap)(I:InstAt s.heap x L C od)(Z:lV K C)(c:pf K (.ref C) name=U Y)
  (h:cq (cv prog w) A.in1 (storeInOwnDict (.ref x) (.ref C) (.str name tk) name v Zc)
   (λfin s'=>match fin with|.done f=>R (.ok f) s'|.again c'=>c'.quiet=O/\hW (cv prog w) A c' R s') (λe s'=>R (.error e) s') s) :
  hW (cv prog w) A (.call (.builtin "object.__setattr__") ⟨[.ref x,.str name tk,v],[]⟩) R s:=by
 have SF:=PySem.F.store_object;obtain⟨i,a,d⟩:=tm Z.ov;obtain⟨p,q,b⟩:=vt d;have sub:sx (cv prog w) s.heap (pd (.ref x)<|.type "object") O:=I.type.andThen<|rb X<|by unfold mroIn;rw[a,MQ,b];rfl
 refine fu SF.slot.plain SF.entry<|@check_slot (cv prog w) _ _ s "object.__setattr__" "object" "__setattr__" (.ref x) [.str name tk,v] [] _ SF.kind SF.split sub (SF.args (.ref x) (.str name tk) v) ?_;have g:sx (cv prog w) s.heap (mroOf<|.ref C) i.mro:=(looks_clsIn X a).andThen .now;have L3:sx (cv prog w) s.heap (storeTaker? Y) Y:=.now;rw[osa_eq,refuse_eq];refine ar<|ar<|I.type.here<|ar<|g.here ?_;rw[b,refuseLoop_ref,refuseLoop_ref,PySem.F.store_ValueError.passes];exact dk<|ar<|I.type.here<|ar<|(kS X c).here<|ar<|L3.here h
def Vs{Q:Kt}(X:K.In s.heap)(Z:lV K C)(p:pf K (.ref C) name=U Y)(d:s.heap.get? x=U L)(f:L.cls=.ref C)(k:L.data=.fields N)(m:L.dict=Y)
  (h:∀h' t',h'.get? x=U {L with dict:=U s.heap.objs.size}->h'.Ns1 s.heap.objs.size (λy=>if y=name then U v else Y)->(∀b o,b≠x->s.heap.get? b=U o->h'.get? b=U o)->Q () {s with heap:=h',toks:=t'}) :
  cq (cv prog w) A (y0 (.ref x) name v) Q E s:=by
 obtain⟨G,Ż,ż,j⟩:=L;dsimp only at f k m;subst f k m;have I:InstAt s.heap x ⟨.ref C,Y,.fields N,j⟩ C Y:=⟨d,J,J,trivial⟩;refine set_plain X I Z.sa<|NN (s:={s with toks:=s.toks+1}) X I Z p ?_
 obtain⟨H,f,D⟩:=tm Z.hd;obtain⟨c,g,dr,t,os⟩:=s;dsimp only at d h ⊢;refine ar<|dk<|ar<|ar<|qB d<|ar<|D4.here (s:=⟨c,g,dr,t+1,os⟩) (looks_clsIn X f) ?_;rw[D];have a:(c.push {cls:=.type "dict",data:=.dict #[]}).get? x=U ⟨.ref C,Y,.fields N,j⟩:=ax _ d;have Ž:x≠c.objs.size:=dO<|b7 d;refine ar<|wpAny_alloc' ?_;refine ar<|wpAny_update' a ?_;apply dk;have i:((c.push {cls:=.type "dict",data:=.dict #[]}).update x λo=>{cls:=o.cls,dict:=U c.objs.size,data:=o.data,slots:=o.slots}).get? c.objs.size=U {cls:=.type "dict",data:=.dict #[]}:=
  (CT _ _ _ _ Ž.symm).trans<|rS J J
 have u:((c.push {cls:=.type "dict",data:=.dict #[]}).update x λo=>{cls:=o.cls,dict:=U c.objs.size,data:=o.data,slots:=o.slots}).Ns c.objs.size λ_=>Y:=
  ⟨_,#[],_,i,J,λe q=>ef q<|by simp,λ_=>J⟩
 show cq _ _ (storeInDict c.objs.size (.str name t) name v) _ _ _;unfold storeInDict newKeyGuard;refine ar<|dk<|ar<|Gf (Ae u) λh' n l=>?_;obtain⟨oD,ť,Ŧ,B,z,F⟩:=n.count<|Within.cons name v Within.nil;refine ar<|uj B (by rw[z];exact u1<|bG F<|by rw[dM,qt,eJ];exact uK ..) ?_
 refine dk<|h h' _ ((l.2 x Ž).trans<|gs _ a J) n λb o r e=>(l.2 b<|dO<|b7 e).trans<|(CT _ _ _ _ r).trans<|ax _ e
def Vu{Q:Kt}{ns:Bi}(X:K.In s.heap)(Z:lV K C)(m:pf K (.ref C) name=U Y)(e:s.heap.get? x=U L)(b:L.cls=.ref C)(f:L.data=.fields N)(g:L.dict=U d)(c:s.heap.Ns1 d B)(j:mq B ns)(l:ns.length<=cC)
  (h:∀h' t',h'.Ns1 d (λy=>if y=name then U v else B y)->og d s.heap h'->Q () {s with heap:=h',toks:=t'}) :
  cq (cv prog w) A (y0 (.ref x) name v) Q E s:=by
 obtain⟨u,Ż,ż,k⟩:=L;dsimp only at b f g;subst b f g;obtain⟨od,n,_⟩:=lO c;have D:InstAt s.heap x ⟨.ref C,U d,.fields N,k⟩ C<|U od:=⟨e,J,J,n⟩;refine set_plain X D Z.sa<|NN (s:={s with toks:=s.toks+1}) X D Z m ?_
 obtain⟨z,b,q⟩:=tm Z.hd;refine ar<|dk<|ar<|ar<|qB e<|ar<|D4.here (s:={s with toks:=s.toks+1}) (looks_clsIn X b) ?_
 rw[q];refine dk (a:=U d)<|ar<|dk<|ar ?_;refine Gf (s:={s with toks:=s.toks+1}) c λh' i t=>?_
 obtain⟨oD,ť,Ŧ,p,o,r⟩:=i.count<|PySem.Within.cons name v j;refine ar<|uj p (by rw[o];exact u1<|bG r<|by rw[dM];exact xT l _) ?_
 exact dk<|h _ _ i t
def yl(Z:lV K C)(X:K.In s.heap)(he:s.heap.get? x=U L)(i:L.cls=.ref C)(c:Q () s) :
  cq M A (i4 L9 ⟨[.ref x,a],[]⟩) Q E s:=by
 obtain⟨h,g,d,t,os⟩:=s;obtain⟨m,j,e⟩:=tm Z.ov;obtain⟨p,q,k⟩:=vt e;have L0:sx M h (sG<|.ref x)<|.ref C:=i▸(o7 he).andThen .now;have L4:=rb (M:=M) (base:=.type "BaseException") (r:=O) X (by unfold mroIn;rw[j,MQ,k];rfl)
 have f:builtinKind L9 = U .slot:=by decide +kernel
 have b:splitId L9 = U ("BaseException","__getattribute__"):=by decide +kernel
 have l:=F.args_bexc_ga (.ref x) a;simp only[i4,f,b];apply ar;unfold pd;refine ar<|L0.at<|L4.at ?_
 repeat (first|wp_step)
 exact c
def Þ(X:K.In s.heap)(Z:lV K C)(m:pf K (.ref C) name=U Y)(c:s.heap.get? x=U L)(i:L.cls=.ref C)(e:L.data=.fields N)(f:L.dict=U d)(k:s.heap.Ns1 d B)(l:B name=U v)(o:handedIn v=O)
  (h:Q v {s with toks:=s.toks+1}):cq (cv prog w) A (HY (.ref x) name a) Q E s:=by
 obtain⟨q,Ż,ż,j⟩:=L;dsimp only at i e f;subst i e f;obtain⟨od,n,hl⟩:=lO k;have z:InstAt s.heap x ⟨.ref C,U d,.fields N,j⟩ C<|U od:=⟨c,J,J,n⟩;obtain⟨u,g,dr,t,os⟩:=s;have L0:=z.type (M:=cv prog w);have L1:=kS (M:=cv prog w) X Z.ga;have L2:=kS (M:=cv prog w) X Z.gn;have y:=looks_find (M:=cv prog w) (name:=name) (r:=.value v) X z<|findObj_own Z.hd m J<|by rw[hl,l]
 have p:=F.excAttr_ValueError.ga.bind<|.ref x;have b:(a&&onTheHeap (gV L9))=Zc:=by cases a<;>rfl
 have ß:(gV L9 == gV "object.__getattribute__")=Zc:=by decide +kernel
 have à:(onTheHeap (Value.ref C)&&gV L9 == gV "object.__getattribute__")=Zc:=by rw[ß];rfl
 unfold HY getAttrBy;refine ar<|wpAny_mkText<|gE<|ar<|L0.at<|ar<|L1.at ?_;dsimp only;rw[à,bp<|by decide]
 unfold getAttrByItsOwn;apply ar;show cq _ _ (o8 (.ref C) "__getattr__") _ _ _;refine L2.at ?_;refine ar<|Cz<|gE ?_;unfold callGetattribute;rw[b];show cq _ _ (rd _ _ _) _ _ _;unfold rd;rw[p];refine ar<|dk ?_;refine f7<|fu F.excAttr_ValueError.ga.plain F.entry_bexc_ga ?_;refine yl Z X c J ?_;unfold «object.__getattribute__»
 repeat lk
 show cq _ _ (handedOut v) _ _ _;rw[handedOut_of o];exact dk h
end
end L2
namespace L2
open PySem PyProof.Rows
def EX(a:bt)(b:Obj):HO:=.ext λh=>h.get? a=U b
def XD(d:bt)(fs:List<|Str×V):HO:=.ext λh=>∃a,h.Ns1 d a/\mq a (fs.map (·.1))/\∀f,g_ (fs.lookup f)<|a f
section
variable{P:dn}{w:dv}{H:Hp}{h:ey}{a d:bt}{fs:List<|Str×V}
def EX.mk(e:h.get? a=U j):cj P w H h a<|EX a j:=⟨e,⟨_,e⟩,λ_ _ p k=>k _ p⟩
def EX.at_(x:cj P w H h a<|EX a j):h.get? a=U j:=x.1
def XD.mk{a:Str->D1}(n:h.Ns1 d a)(b:mq a<|fs.map (·.1))(r:∀f,g_ (fs.lookup f)<|a f):cj P w H h d<|XD d fs:=
 ⟨⟨a,n,b,r⟩,(let⟨o,_,_,e,_⟩:=n;⟨o,e⟩),by rintro _ _ ⟨a,n,b,r⟩ k;exact⟨a,n.at k,b,r⟩⟩
end
section
variable{A:ek}{u y:V}
def PX(x:Str):fP x [(f,u)]=if x=f then U u else Y:=by
 by_cases h:x=f
 .have a:(x == f)=O:=beq_iff_eq.mpr h
  simp only[fP,a,bU h]
 .have a:(x == f)=Zc:=beq_eq_false_iff_ne.mpr h
  simp only[fP,a,bp h]
def JS{Q:Kt}(I:Inv X P R H s)(Z:lV X.K C)(nf:bB X.K C f)(i:H a=U (EX a M))(p:M.cls=.ref C)(l:M.data=.fields S)(n:M.dict=Y)(k:RelV u N)
  (h:∀d s',H d=Y->d≠a->Inv X P R (upd (upd H d<|XD d [(f,u)]) a<|EX a {M with dict:=U d}) s'->Q () s'):cq (cv X.prog X.w) A (y0 (.ref a) f N) Q E s:=by
 have c:=EX.at_<|I.bC a _ i;refine Vs I.iE Z nf c p l n λh' t' j ns keep=>h s.heap.objs.size _ (I.bC.fresh<|cV _) (xS<|b7 c) ?_;obtain⟨oD,es,y,g,r⟩:=id ns;have m:(s.heap.push oD).get? s.heap.objs.size=U oD:=de _ (Heap.get?_some_iff.mp g).2;have v:=I.laid (a:=s.heap.objs.size) (o:=XD s.heap.objs.size [(f,u)]) (h':=s.heap.push oD) (t':=s.toks) (λb u q=>ax _ q) (cV _)
 <|XD.mk (ns.at λo q=>by rw[g]at q;cases q;exact m) (λx c=>?_) λx=>?_
 .refine v.write (x:=a) (e:=a) (t':=t') (by rw[ak<|dO<|b7 c,i];exact gf) (.inl J) (λb o t q=>?_) ⟨_,j⟩<|EX.mk j
  rcases Heap.get?_push_cases q with⟨rfl,rfl⟩|q
  .exact g
  .exact keep b o t q
 .by_cases q:x=f
  .rw[q];simp
  .exact ef (bp q) c
 .rw[PX]
  by_cases q:x=f
  .rw[bU q,bU q];exact k
  .rw[bp q,bp q];trivial
def JT(I:Inv X P R H s)(Z:lV X.K C)(nf:bB X.K C f)(F:H a=U (EX a M))(D:M.cls=.ref C)(v:M.data=.fields S)(B:M.dict=U d)(n:H d=U (XD d [(g,y)]))(ne:d≠a)(fg:f≠g)(t:RelV u N)
  (h:∀s',Inv X P R (upd H d<|XD d [(g,y),(f,u)]) s'->Q () s'):cq (cv X.prog X.w) A (y0 (.ref a) f N) Q E s:=by
 have j:=EX.at_<|I.bC a _ F;obtain⟨⟨m,ns,k,r⟩,_⟩:=(show cj X.prog X.w H s.heap d (XD d [(g,y)])from I.bC d _ n);refine Vu (ns:=[g]) I.iE Z nf j D v B ns k (by show 1<=cC;decide) λL G l p=>h _ ?_
 refine I.write (x:=d) (e:=d) (by rw[n];exact gf) (.inl J) (λb o i q=>(p.2 b i).trans q) (let⟨o,_,_,e,_⟩:=l;⟨o,e⟩)<|XD.mk l (λx j=>?_) λx=>?_
 .by_cases q:x=f
  .rw[q];simp
  .have:=k x λz=>j (by show(if x=f then U N else m x)=Y;rw[bp q];exact z)
   simp only[fq,zL,cu,nZ,ma]at this ⊢;exact .inl this
 .have c:=r x
  rw[PX]at c;show g_ (fP x [(g,y),(f,u)])<|if x=f then U N else m x
  by_cases q:x=g
  .have i:(x == g)=O:=beq_iff_eq.mpr q
   have nf:x≠f:=λz=>fg<|z▸q;rw[bp nf];rw[bU q]at c;simp only[fP,i];exact c
  .have i:(x == g)=Zc:=beq_eq_false_iff_ne.mpr q
   rw[bp q]at c;have e:fP x [(g,y),(f,u)]=fP x [(f,u)]:=by simp only[fP,i]
   rw[e,PX];by_cases q2:x=f
   .rw[bU q2,bU q2];exact t
   .rw[bp q2,bp q2];exact c
def Fw{x y z:HO}(ne:d≠a):upd (upd (upd H d x) a y) d z=upd (upd H d z) a y:=by
 funext b
 unfold upd;by_cases h1:b=d
 .subst h1;rw[bU J,bp ne,bU J]
 .rw[bp h1,bp h1]
  by_cases h2:b=a
  .rw[bU h2,bU h2]
  .rw[bp h2,bp h2,bp h1]
end
def Vv(C:bt)(f g:Str):Sp:=λe H Q _=>∃a u v b c,e=[.ref a,u,v]/\H a=U (EX a b)/\b.cls=.ref C/\b.data=.fields c/\b.dict=Y/\∀d,H d=Y->d≠a->Q .non (upd (upd H d<|XD d [(f,u),(g,v)]) a<|EX a {b with dict:=U d})
def P1(Z:lV X.K C)(nf:bB X.K C f)(ng:bB X.K C g)(fg:g≠f)(n:X.N=[sn,p,q])(t:kI X.env.scope sn)(M:kI X.env.scope p)(L:kI X.env.scope q)
  (d1:bA sn/\fF sn) (d2:bA p/\fF p) (d3:bA q/\fF q) :
  gO X [.Assign [.Attribute (.Name sn a1) f a2] (.Name p a3) a4,.Assign [.Attribute (.Name sn b1) g b2] (.Name q b3) b4] λD j H=>∃vs,j=vs.map U/\Vv C f g vs H (λ_ H'=>D.nx j H') λ_ _ _=>False:=by
 intro i s j H D I h;obtain⟨vs,m,a,u,v,oe,ws,rfl,W,A,w,V,k⟩:=h;subst m;have B:X.N[0]?=U sn:=by rw[n];rfl
 have e1:X.N[1]?=U p:=by rw[n];rfl
 have e2:X.N[2]?=U q:=by rw[n];rfl
 refine i0<|lp (cA (cy e1 M d2.1 d2.2 i s _ H (λy H1=>y=u/\H1=H) I ⟨u,J,J,J⟩) λu' R b=>?_) J;obtain⟨y,H1,I1,S,o,c⟩:=b;subst o c;refine cA (cy B t d1.1 d1.2 i R _ _ (λx F=>x=.ref a/\F=H1) I1 ⟨.ref a,J,J,J⟩) λr s2 b=>?_;obtain⟨x,F,I2,l,ex,c⟩:=b;subst ex c
 obtain rfl:r=Value.ref a:=l
 refine JS I2 Z nf W A w V S λd Q T e I3=>?_;refine i0<|lp (cA (cy e2 L d3.1 d3.2 i Q _ _ (λy H1=>y=v/\H1=_) I3 ⟨v,J,J,J⟩) λw' P b=>?_) J;obtain⟨z,H4,I4,G,o,c⟩:=b;subst o c;refine cA (cy B t d1.1 d1.2 i P _ _ (λx E=>x=.ref a/\E=_) I4 ⟨.ref a,J,J,J⟩) λr s5 b=>?_;obtain⟨x,E,I5,l,ex,c⟩:=b;subst ex c
 obtain rfl:r=Value.ref a:=l
 refine JT I5 Z ng ai A w J (by rw[ak e,ai]) e fg G λs6 I6=>f6 ⟨_,_,I6,?_⟩
 rw[Fw e];exact k d T e
end L2
namespace L2
open PySem PySem.W PyProof.Rows
structure Lies(P:dn)(w:dv)(stack:List Env)(H:Hp)(s:av)(H':Hp)(B h:ey):Prop where
 un:Un (nG stack) [] H H' s.heap h
 bC:j0 P w H' h
 IS:∀c u,H' c=U u->∃o,B.get? c=U o
 old:∀b o,s.heap.get? b=U o->b∉nG stack->∃o',B.get? b=U o'
variable{C:bt}{X:Cx}{B:ey}{H H':Hp}{s:av}
section
variable{stack outer:List Env}
def Lies.on(L:Lies P w stack H s H' B h)(st:B.StaysIn h)(t:B.StaysIn h')(up:h.UpToSlots h')(v:h.FunFrames B stack):Lies P w stack H s H' B h':=by
 have g:∀b o,b∈nG stack->h.get? b=U o->∃sl,h'.get? b=U {o with slots:=sl}:=λb o i e=>by
  obtain⟨_,j,r,d⟩:=v.mem i;rw[e]at r;cases r;exact up b o e d
 have f:∀b o,(∃j,B.get? b=U j)->h.get? b=U o->h'.get? b=U o:=λb o ⟨j,q⟩ e=>by
  have:=st b j q
  rw[e]at this;cases this;exact t b _ q
 refine⟨⟨λb o e n i k=>f b o (L.old b o e i)<|L.un.keep b o e n i k,λb o e n i k=>?_,L.un.free,λb o e k=>?_,L.un.mX,L.un.lM,L.un.mY⟩,λa o e=>?_,L.IS,L.old⟩
 .obtain⟨sl,l⟩:=L.un.slot b o e n i k
  obtain⟨x,p⟩:=g b _ i l;exact⟨x,p⟩
 .obtain⟨j,l⟩:=L.un.there b o e k
  by_cases i:b∈nG stack
  .obtain⟨sl,p⟩:=g b _ i l
   exact⟨_,p⟩
  .exact⟨j,f b j (L.old b o e i) l⟩
 .refine(L.bC a o e).n_ (λc u m q=>f c u ?_ q) (λ_ q=>q) λ_ _ q=>q
  rcases m with rfl|m
  .exact L.IS _ _ e
  .exact L.IS _ _ m
end
def An(P:dn)(w:dv)(C:bt):DF:=λstack H s E e b=>∃a t d H' B,e=.ref a/\b.os=s.os/\lb b.gens/\Lies P w stack H s H' B b.heap/\kQ B stack a (.ref C) (.ref t) (U d) b.heap/\E (.ref C) (U d) H'
def vz(x:cj P w H h a o):∃ob,h.get? a=U ob:=by
 induction o with
 |lst b=>obtain⟨_,_,_,_,e⟩:=x;exact⟨_,e⟩
 |tup b=>obtain⟨_,_,_,ob,e,_⟩:=x;exact⟨ob,e⟩
 |dK c=>obtain⟨_,_,_,_,ob,_,_,e,_⟩:=x;exact⟨ob,e⟩
 |dT c=>obtain⟨_,_,_,_,ob,_,_,e,_⟩:=x;exact⟨ob,e⟩
 |set S n=>obtain⟨ob,_,_,_,e,_⟩:=x;exact⟨ob,e⟩
 |ins C i fs=>obtain⟨_,_,_,e,_⟩:=x;exact⟨_,e⟩
 |own y=>exact x
 |xd fs=>obtain⟨_,⟨ob,_,_,e,_⟩,_⟩:=x;exact⟨ob,e⟩
 |mz lo g=>obtain⟨_,_,_,e⟩:=x;exact⟨_,e⟩
 |jf o u _=>exact⟨o,x.1⟩
 |tbl ps=>exact⟨_,x⟩
 |met f y=>exact⟨_,x⟩
 |ext d=>exact x.2.1
structure NO(X:Cx)(C:bt)(E:XK):Prop where
 lv:∀e s',L6 X (y1 X.env e) (λ_ CF=>An X.prog X.w C X.outer X.H₀ X.s₀ E e CF) (λe' CF=>An X.prog X.w C X.outer X.H₀ X.s₀ E e' CF) s'->X.xe e s'
 st:X.stack=X.env::X.outer
 ex:X.ex=[]
 fr:X.env.frame=U X.env.locals
 cm:X.calm=O
def JU(Z:NO X C E)(I:Inv X Q M H s)(old:∀b o,s.heap.get? b=U o->b∉nG X.stack->∃a,B.get? b=U a) :
  ∀b o,X.s₀.heap.get? b=U o->b∉nG X.outer->∃a,B.get? b=U a:=λb o e c=>by
 obtain⟨a,d⟩:=I.base.there b o e (by rw[Z.ex];simp)
 refine old b a d λz=>?_;rcases cu.mp (I.j4 b z)with q|q
 .exact ef q<|dO<|dN (b7 e) I.ok.above
 .exact c q
def NP(Z:NO X C E):Passes (An X.prog X.w C) X E:=by
 rintro Q M H s e f I ⟨a,t,d,H',B,rfl,i,g,L,F,q⟩
 apply Z.lv;have c:Inv X Q M H' f:=I.ED i L.un L.bC g λb z=>ef z<|by simp
 rw[Z.st]at F;refine PY (L:=X.env.locals) (by rw[I.ok.frames,Z.st]) Z.fr F λj h up=>?_
 refine⟨a,t,d,H',B,J,c.os,g,?_,h,q⟩;have L2:Lies X.prog X.w X.outer X.H₀ X.s₀ H' B f.heap:=⟨by have:=c.base;rw[Z.ex]at this;exact this,c.bC,L.IS,JU Z I L.old⟩
 exact L2.on F.1.1 h.1.1 up F.1.2.2.1.2.2
def qC(H:Hp)(e:bt):Hp:=λb=>if b=e then Y else H b
def P4(Z:NO X C E)(I:Inv X Q M H s)(v:H e=U (EX e i))(F:i.cls=.ref C)(hd:i.data=.fields #[.ref t,.none,.none,.none,.bool Zc,.none])(D:i.dict=U d)(G:X.s₀.heap.get? e=Y)
  (q:E (.ref C) (U d)<|qC H e):X.xe (.ref e) s:=by
 apply Z.lv;have j:=EX.at_<|I.bC e _ v;have l:s.heap.FunFrames (ti s.heap<|e::nG X.stack) X.stack:=funFrames_hide I.stack λenv j b k=>ee _<|zJ.mpr ⟨env,j,k⟩;have P5:(ti s.heap<|e::nG X.stack).StaysIn s.heap:=λb o q=>of_hideAll _ q;have ž:(ti s.heap [e]).FunFrames (ti s.heap<|e::nG X.stack) X.stack:=l.of_keeps λb o q n=>⟨o,vy _ q λz=>by
  have z:b=e:=by simpa using z
  rw[z,j]at q;cases q;exact n _ hd,J⟩
 rw[Z.st]at ž;refine PZ (L:=X.env.locals) (base:=ti s.heap<|e::nG X.stack) (h:=ti s.heap [e]) (by rw[I.ok.frames,Z.st]) Z.fr (λb o q=>?_) (by rw[Z.st];exact ž) (λb o q=>of_hideAll _ q) (hideAll_none _<|by simp) j hd λK p up=>?_
 .refine vy _ (of_hideAll _ q) λz=>?_
  have z:b=e:=by simpa using z
  rw[z,hideAll_none _<|eO]at q;cases q
 rw[F,D]at p;refine⟨e,t,d,qC H e,_,J,I.os,I.bare,?_,p,q⟩;have off:∀{b u},H b=U u->(∀x,u≠.ext x)->qC H e b=U u:=λ{b u} z n=>by
  unfold qC;rw[bp λy=>by rw[y,v]at z;exact n _ (kF.inj z).symm]
  exact z
 have g:∀{b u},qC H e b=U u->b≠e/\H b=U u:=λ{b u} z=>by
  unfold qC at z;split at z
  .cases z
  .rename_i n;exact⟨n,z⟩
 have a:=I.base;rw[Z.ex]at a;have L2:Lies X.prog X.w X.outer X.H₀ X.s₀ (qC H e) (ti s.heap<|e::nG X.stack) s.heap:=by
  refine⟨⟨a.keep,a.slot,λb o z n B=>?_,a.there,λb r z=>off (a.mX b r z) (λ_ y=>nomatch y),λb o u z=>off (a.lM b o u z) (λ_ y=>nomatch y),λb ps z=>?_⟩,λb u z=>?_,λc u z=>?_,λb o z k=>?_⟩
  .unfold qC
   split
   .rfl
   .exact a.free b o z n B
  .obtain⟨f,z⟩:=a.mY b ps z
   exact⟨f,off z λ_ y=>nomatch y⟩
  .obtain⟨n,z⟩:=g z
   exact(I.bC b u z).n_ (λ_ _ _ q=>q) (λc q=>off q λ_ y=>nomatch y) λc r q=>off q λ_ y=>nomatch y
  .obtain⟨n,z⟩:=g z
   obtain⟨ob,m⟩:=vz<|I.bC c u z;refine⟨ob,vy _ m λy=>?_⟩;rcases cu.mp y with y|y
   .exact n y
   .rw[I.rW c y]at z;cases z
  .obtain⟨A,m⟩:=a.there b o z (by simp)
   refine⟨A,vy _ m λy=>?_⟩;rcases cu.mp y with y|y
   .rw[y,G]at z;cases z
   .rcases cu.mp (I.j4 b y)with q|q
    .exact ef q<|dO<|dN (b7 z) I.ok.above
    .exact k q
 rw[Z.st]at l;exact L2.on P5 p.1.1 up (by rw[Z.st];exact l.2.2)
def NQ:Data->Option ClassData
 |.cls c=>U c
 |_=>Y
def CW(h:NQ d=U c):d=.cls c:=by
 cases d<;>cases h;rfl
def JV(K:C9)(C b:bt):Bool:=(K.lookup C).any λo=>(NQ o.data).any λa=>o.cls == .type "type" && a.mro == .ref C::a.mro.tail&&o.slots == #[o.slots.getD 0 Y,o.slots.getD 1 Y,o.slots.getD 2 Y,o.slots.getD 3 Y,U (.builtin "ValueError.__new__"),o.slots.getD 5 Y]&&a.hasDel == Zc&&tailIn K Ze a.mro.tail&&nsOkIn K a.ns&&nsIn K a.ns "__init__" == U (U<|.ref b)
def ym{K:C9}(X:K.In h)(G:h.Ns N mg)(e:nsIn K N n=U (U v)):mg n=U v:=by
 obtain⟨o,es,i,b,hd,_,d⟩:=G;unfold nsIn at e;split at e
 .rename_i c1 d1 á g a c
  have:=X _ _ c
  rw[b]at this;cases this;cases hd;split at e
  .rename_i en f
   cases e
   have:=d n
   unfold nsFind findBy at this;rw[<- DK,f]at this;exact this.symm
  .split at e<;>cases e
 .cases e
def Fy{K:C9}(X:K.In h)(q:JV K C f=O) :
  ∃bm N nm i bs hd sn sub ab col dd k0 k1 k2 k3 k5,h.get? C=U (oa nm i C N bs bm hd sn sub ab col dd k0 k1 k2 k3 k5 "ValueError.__new__")/\h.Ns N (h.nsMap N)/\h.nsMap N "__init__" = U (.ref f)/\OwnTail h Ze bm:=by
 obtain⟨o,lo,q⟩:=tm q;obtain⟨a,k,q⟩:=tm q;simp only[cL,H9]at q;obtain⟨⟨⟨⟨⟨⟨ct,j⟩,g⟩,l⟩,c⟩,b⟩,d⟩:=q;have e:o=oa a.name a.qualname C a.ns a.bases a.mro.tail a.hasDict a.slotNames a.subclasses a.abstract a.collection o.dict (o.slots.getD 0 Y) (o.slots.getD 1 Y) (o.slots.getD 2 Y) (o.slots.getD 3 Y) (o.slots.getD 5 Y) "ValueError.__new__" := by
  unfold oa;rw[<- ct,<- j,<- g,<- l,<- CW k]
 exact⟨_,_,_,_,_,_,_,_,_,_,_,_,_,_,_,_,(X _ _ lo).trans<|ej U e,.of_isNs<|isNs_of_in X b,ym X (.of_isNs<|isNs_of_in X b) d,tail_of_in X c⟩
def CY(Z:NO X C E)(q:JV X.K C fI=O)(kp:keepIn X.K (.ref C)=O)(L:isFn X.K (.ref fI)=O)(F:cT X.prog X.w X.K X.mg X.base i8 1 fI fd ps<|Vv C f g)(hb:Binds X.K fd ps [])(hr:bJ 2 X.A)(hm:X.mg x=U (.ref C))(ha:PA X (e::es) t)(hg:Gl X x)(jN:bA x)
  (he:dy (e::es) X.env=(Zc,eR e X.env)::dy es X.env) (hpl:(hX bZ<|dy es X.env).any (·.1)=Zc) :
  PS X (.Raise (U<|.Call (.Name x np) (e::es) [] bZ) Y pos) λ_ y H=>t y H λvs H1=>∃u v,vs=[u,v]/\∀d,H1 d=Y->E (.ref C) (U d) (upd H1 d<|XD d [(f,u),(g,v)]):=by
 intro aa s y H D I h;obtain⟨bm,N,nm,qn,bs,hd,sn,sub,ab,col,dd,k0,k1,k2,k3,k5,hC,hN,P,T⟩:=Fy I.mod.kin q;have FB:=PySem.F.excBase_ValueError;have hf:∃oI,X.base.get? fI=U oI/\oI.cls=.type "function" := by
  have L:=beq_iff_eq.mp L;obtain⟨o,ho,e⟩:=ck.mp<|show(X.K.lookup fI).map (·.cls)=U (.type "function")from L
  exact⟨o,I.mod.kin _ _ ho,e⟩
 obtain⟨oI,M,Q⟩:=hf;rw[arm_exec_Raise];refine ar<|j1<|P0 (C:=C) (nm:=nm) (q:=qn) (N:=N) (bs:=bs) (bm:=bm) (hdct:=hd) (sn:=sn) (sub:=sub) (ab:=ab) (col:=col) (dd:=dd) (k0:=k0) (k1:=k1) (k2:=k2) (k3:=k3) (k5:=k5) (newId := "ValueError.__new__")
  (T.hasType FB.hasBase) (I.ok.hd Z.cm)<|ar<|eC (ff<|gC I hg hm ?_ jN) (λv W m=>ar<|j1<|dk m) λ_ _ x=>x
 refine callWith_K (h₀:=X.base) I.ok.mod.kin kp (cA (ha bZ aa s y H _ I h) λc s1 zz=>?_) he hpl;obtain⟨vs,H1,j,r,u,v,ev,q1⟩:=zz;refine⟨j.iE,?_⟩;subst ev;obtain⟨hp,gn,dr,tk,os⟩:=s1;refine CU (rest:=c) FB (T.keeps j.bk) (j.bk _ _ hC) (hN.keeps j.bk) P (j.bk _ _ M) Q (λh' e p R=>?_) (by rw[<- r.length];show 2<=cC;decide)
 obtain⟨G,n,_,_⟩:=p.there;obtain⟨i,k⟩:∃i:Obj,i={cls:=.ref C,data:=.fields #[.ref G,.none,.none,.none,.bool Zc,.none]}:=⟨_,J⟩;rw[<- k]at n;have S:Inv X aa y (upd H1 e<|EX e i) ⟨h',gn,dr,tk,os⟩:=j.laid (a:=e) (h':=h') (t':=tk) p.keeps R<|EX.mk n;have fr:=j.bC.fresh R;have r2:Vals (V.ref e::[u,v])<|Value.ref e::c:=.cons J r;have sp:Vv C f g (V.ref e::[u,v]) (upd H1 e<|EX e i) (λw H'=>w=.non/\∃d,H1 d=Y/\d≠e/\H'=upd (upd (upd H1 e<|EX e i) d<|XD d [(f,u),(g,v)]) e (EX e {i with dict:=U d})) λ_ _ _=>False:=
  ⟨e,u,v,i,_,J,ai,by rw[k],by rw[k],by rw[k],λd B z=>⟨J,d,by rw[ak z]at B;exact B,z,J⟩⟩
 have hl:(Value.ref e::c).length=ps.length:=by rw[<- r2.length];exact F.len _ _ _ _ sp
 have CZ:=hb ⟨h',gn,dr,tk,os⟩ (Value.ref e::c) S.iE (by rw[bF];exact hl)
 rw[bF]at CZ;refine f7<|gg (F.run _ X.stack _ _ ⟨Value.ref e::c,[]⟩ (Value.ref e::c) _ _ _ (hr.make C c []) (S.ES.make C c []) CZ r2 sp) λr s' l=>?_;cases r with
 |error e=>exact l.elim
 |ok fl=>
  cases fl with
  |next=>exact l.elim
  |brk=>exact l.elim
  |cont=>exact l.elim
  |ret u'=>
   obtain⟨v',H',I3,rv,ev,d,B,z,eH⟩:=S.after l;subst ev;have h3:H' e=U (EX e {i with dict:=U d}):=by rw[eH];exact ai
   refine⟨rv,e,_,G,J,I3.bk _ _ hC,EX.at_<|I3.bC e _ h3,by rw[k],by rw[k],P4 (t:=G) (d:=d) Z I3 h3 (by rw[k]) (by rw[k]) J (ll<|bG j.sz R) ?_⟩
   have e1:qC H' e=upd H1 d (XD d [(f,u),(g,v)]):=by
    rw[eH]
    funext b
    unfold qC upd;by_cases h1:b=e
    .subst h1;rw[bU J,bp<|eL z];exact fr.symm
    .rw[bp h1,bp h1]
     by_cases h2:b=d
     .rw[bU h2,bU h2]
     .rw[bp h2,bp h2,bp h1]
   rw[e1];exact q1 d B
abbrev DH(X:Cx)(a:bt):Cx:={X with A:=X.A.mark (U<|.ref a),calm:=Zc,xe:=λ_ _=>False}
section
variable{aa:dD}{σ:L2.St}{s':av}{a t CB d:bt}{oe:Obj}
def Inv.Vx(I:Inv X aa σ H s):Inv (DH X a) aa σ H s:=
 ⟨⟨I.ok.mod,I.ok.kind,I.ok.glob,I.ok.blt,I.ok.above,I.ok.inj,I.ok.has,I.ok.cab,(λz=>nomatch z),I.ok.frames,I.ok.stk,I.ok.exf,I.ok.bs,I.ok.bsz,I.ok.noex,I.ok.exfs,I.ok.j3,I.ok.frf⟩,I.os,I.bare,I.base,I.loc,I.cell,I.free,I.freeC,I.pin,I.bC,I.len⟩
def Inv.â(ok:X.Ok)(I:Inv (DH X a) aa σ H s):Inv X aa σ H s:=⟨ok,I.os,I.bare,I.base,I.loc,I.cell,I.free,I.freeC,I.pin,I.bC,I.len⟩
def name_goes{A:ek}{Q:Kt}(I:Inv X aa σ H s)(S:X.N.Nodup)(P:X.N[i]?=U x)(L:X.env.scope.names.lookup x=U .local)
  (h:∀s',Inv X aa (σ.set i Y) H s'->Q () s'):cq M A (do bindName X.env x .none;q0 X.env x pos) Q E s:=by
 obtain⟨m,w,hl⟩:=id I.loc;have OX:(X.env.scope.kind == .class ||(X.env.scope.kind == .module&&X.env.locals != X.env.globals))=Zc:=by rw[I.ok.kind];rfl
 refine wpAny_nameGoes_keeps L w OX λh' v Z a=>h _ ?_;obtain⟨oL,T,V,Ş,R,_⟩:=id w;have ã:∀b o,X.s₀.heap.get? b=U o->b≠X.env.locals:=λb o e=>dO<|dN (b7 e) I.ok.above;refine⟨I.ok,I.os,I.bare,⟨λb o e n t l=>(a.2 b<|ã b o e).trans<|I.base.keep b o e n t l,λb o e n t l=>?_,I.base.free,λb o e l=>?_,I.base.mX,I.base.lM,I.base.mY⟩,⟨_,Z,λj y C g f W=>?_⟩,λy c e=>?_,I.free,I.freeC,λp K=>?_,λb ob e=>?_,by simpa using I.len⟩
 .obtain⟨sl,g⟩:=I.base.slot b o e n t l
  exact⟨sl,(a.2 b<|ã b o e).trans g⟩
 .obtain⟨G,g⟩:=I.base.there b o e l
  exact⟨G,(a.2 b<|ã b o e).trans g⟩
 .have B:j≠i:=by
   rintro rfl
   by_cases iL:j<σ.length
   .rw[dG iL]at f;cases f
   .rw[zQ<|by simpa using iL]at f;cases f
  rw[cW<|eL B]at f;obtain⟨D,F,q⟩:=hl j y C g f W;refine⟨D,F,?_⟩;rcases q with⟨k,e⟩|⟨k,c,e,z⟩
  .refine .inl ⟨k,?_⟩
   have:y≠x:=λe=>B<|oh S g<|e▸P
   simp[this,e]
  .exact .inr ⟨k,c,e,z.sameBut a<|I.Jp y c e⟩
 .obtain⟨u,z⟩:=I.cell y c e
  exact⟨u,z.sameBut a<|I.Jp y c e⟩
 .obtain⟨e,n,ne,nf,d⟩:=I.pin p K
  exact⟨(a.2 p.1 ne).trans e,n,ne,nf,d⟩
 .refine(I.bC b ob e).n_ (λc u r q=>(a.2 c ?_).trans q) (λ_ q=>q) λ_ _ q=>q
  rintro rfl
  rcases r with z|r
  .have:=I.free;rw[z,e]at this;cases this
  .have:=I.free;rw[r]at this;cases this
def Ao(I:Inv X aa σ H s)(R:s'.os=s.os)(S:lb s'.gens)(L:Lies X.prog X.w X.stack H s H' B g)(F:kQ B X.stack a (.ref C) (.ref t) (U d) g) :
  ∃oe l,oe.cls=.ref C/\oe.data=.fields l/\oe.dict=U d/\g.get? a=U oe/\H' a=Y/\Inv X aa σ (upd H' a<|EX a oe) {s' with heap:=g}:=by
 have f:Inv X aa σ H' {s' with heap:=g}:=I.ED (s':={s' with heap:=g}) R L.un L.bC S λb z=>ef z<|by simp
 obtain⟨oe,l,i,ä,r,_⟩:=F.1.first
 obtain⟨h,G,T⟩:=F.2;rw[i]at G;cases G;have new:H' a=Y:=by
  cases e:H' a with
  |none=>rfl
  |some u=>
   obtain⟨o,q⟩:=L.IS a u e;rw[F.1.2.1]at q;cases q
 have D:a∉nG X.stack:=λz=>by
  obtain⟨_,h,N,d'⟩:=F.1.2.2.1.mem z;rw[i]at N;cases N;exact d' l r
 have Vy:∀b o,s.heap.get? b=U o->b∉nG X.stack->b≠a:=λb o e n z=>by
  obtain⟨h,q⟩:=L.old b o e n;rw[z,F.1.2.1]at q;cases q
 have Q:X.env.locals≠a:=λz=>by
  obtain⟨m,⟨h,es,ep,k,P,_⟩,_⟩:=f.loc;have k:g.get? X.env.locals=U h:=k;rw[z,i]at k;cases k;rw[r]at P;cases P
 refine⟨oe,l,ä,r,T,i,new,⟨f.ok,f.os,f.bare,⟨f.base.keep,f.base.slot,λb o e n K=>?_,f.base.there,λb E z=>?_,λb o u z=>?_,λb ps z=>?_⟩,f.loc,f.cell,?_,λx c e=>?_,λp M=>?_,λb u z=>?_,f.len⟩⟩
 .rw[ak λz=>?_]
  .exact f.base.free b o e n K
  .subst z
   obtain⟨h,V⟩:=I.base.there b o e K;exact Vy b h V D J
 .have q:=f.base.mX b E z
  rw[ak λy=>by rw[y,new]at q;cases q];exact q
 .have q:=f.base.lM b o u z
  rw[ak λy=>by rw[y,new]at q;cases q];exact q
 .obtain⟨j,q⟩:=f.base.mY b ps z
  exact⟨j,by rw[ak λy=>by rw[y,new]at q;cases q];exact q⟩
 .rw[ak Q];exact f.free
 .rw[ak λz=>?_]
  .exact f.freeC x c e
  .obtain⟨v,o,q,hd⟩:=f.cell x c e
   have q:g.get? c=U o:=q;rw[z,i]at q;cases q;rw[r]at hd;cases hd
 .obtain⟨e,n,ne,nf,Z⟩:=f.pin p M
  obtain⟨W,_,_,_,_⟩:=I.pin p M;refine⟨e,?_,ne,nf,Z⟩;rw[ak<|Vy p.1 p.2 W λz=>?_]
  .exact n
  .rcases cu.mp (I.j4 p.1 z)with q|q
   .exact ne q
   .exact nf q
 .by_cases q:b=a
  .subst q
   rw[ai]at z;cases z;exact EX.mk i
  .rw[ak q]at z
   exact(f.bC b u z).n_ (λ_ _ _ y=>y) (λc y=>by rw[ak λA=>by rw[A,new]at y;cases y];exact y) λc E y=>by rw[ak λA=>by rw[A,new]at y;cases y];exact y
def sH{A:ek}{d:Option bt}{Q:Kt}(F:kQ base l e cls a0 d s.heap)
  (h:∀h',kQ base l e cls a0 d h'->s.heap.UpToSlots h'->Q () {s with heap:=h'}):cq M A (uG (.ref e) Y) Q E s:=by
 obtain⟨⟨m,k,j,i⟩,D⟩:=F;exact Al m j i.at D λh' k1 k2 k3 c a=>h h' ⟨⟨k1,k,k2,k3⟩,c⟩ λb o g f=>⟨o.slots,a b o g f⟩
def P6{Q:Flow->av->Prop}{y:Str}{E pos:Pos}{n:Str}{p:Ee}{rest:List oC}(I:Inv X aa σ H s)(j:X.stack=X.env::X.outer)(D:X.env.frame=U X.env.locals)(P:s'.os=s.os)(T:lb s'.gens)
  (L:Lies X.prog X.w X.stack H s H' B s'.heap) (F:kQ B X.stack a (.ref C) (.ref t) (U d) s'.heap) (R:X.mg y=U (.ref CB)) (N:exmOne X.K (.ref C) (.ref CB)=U O)
  (k:∀i,Lies X.prog X.w X.stack H s H' B i->kQ B X.stack a (.ref C) (.ref t) (U d) i ->
   hW (cv X.prog X.w) (X.A.mark<|U<|.ref a) (.handlers (.ref a) [.ExceptHandler Y (U n) p pos] X.env) (λr b=>match r with
     |.ok f=>L6 X (do bindName X.env n .none;q0 X.env n pos) (λ_ g=>Q f g) (λ_ _=>False) b
     |.error x=>cameBackBy (cv X.prog X.w) X.A X.env (λ_ _=>False) x b) {s' with heap:=i})
  (S:Gl X y) (G:bA y) :
  L6 X (rr (.ref a) X.env) (λ_ b=>L6 X (uG (.ref a) Y) (λ_ g=>
   L6 X (handleBy (.ref a) X.env<|.ExceptHandler (U<|.Name y E) (U n) p pos::rest) Q (λ_ _=>False) g) (λ_ _=>False) b) (λ_ _=>False) s':=by
 have z:=F;rw[j]at z;refine NL (L:=X.env.locals) (by rw[I.ok.frames,j]) D z λh4 c o=>?_
 have V:=L.on F.1.1 c.1.1 o F.1.2.2.1;refine Fq c λi l m=>?_;have u:=V.on c.1.1 l.1.1 m (by rw[j];exact c.1.2.2.1)
 rw[<- j]at l;obtain⟨oe,Z,ä,_,_,W,_,v⟩:=Ao (s':=s') I P T u l;refine wpAny_handleBy_cons (codeAny_handlers_test ?_) (by intro q;cases q)
 refine gC (X:=DH X a) (Inv.Vx v) S R ?_ G;have LT:sx (cv X.prog X.w) i (sG<|.ref a)<|.ref C:=ä▸(o7 W).andThen .now;refine exm_one (M:=cv X.prog X.w) (h:=i) v.iE LT N _ _ _ _ (λ_ _ e=>e) ?_;exact k i u l
def JW{Q:Flow->av->Prop}{pos:Pos}{n:Str}{i:Nat}{st:gi}{y:Ee}{l:ey}(I:Inv X aa σ H s)(R:s'.os=s.os)(T:lb s'.gens)(E:X.N.Nodup)(D:X.N[i]?=U n)(j:X.env.scope.names.lookup n=U .local)
  (L:Lies X.prog X.w X.stack H s H' B l) (F:kQ B X.stack a (.ref C) (.ref t) (U d) l)
  (k:∀oe g u,oe.cls=.ref C->oe.data=.fields g->oe.dict=U d->H' a=Y->Inv (DH X a) aa (σ.set i<|U<|.ref a) (upd H' a<|EX a oe) u->cq (cv X.prog X.w) (X.A.mark<|U<|.ref a) (execs (st::y) X.env) (λf p=>∃c m,Inv (DH X a) aa c m p/\∀o,Inv X aa (c.set i Y) m o->Q f o) (λ_ _=>False) u) :
  hW (cv X.prog X.w) (X.A.mark<|U<|.ref a) (.handlers (.ref a) [.ExceptHandler Y (U n) (st::y) pos] X.env) (λr b=>match r with
     |.ok f=>L6 X (do bindName X.env n .none;q0 X.env n pos) (λ_ e=>Q f e) (λ_ _=>False) b
     |.error x=>cameBackBy (cv X.prog X.w) X.A X.env (λ_ _=>False) x b) {s' with heap:=l}:=by
 refine codeAny_handlers_suite_as<|sH F λh6 G h=>?_;have V:=L.on F.1.1 G.1.1 h F.1.2.2.1;obtain⟨oe,g,S,P,hd,he,new,I6⟩:=Ao (s':=s') I R T V G;refine kJ I6 E D (Or.inl j) (v:=.ref a) J (λM Z=>?_)<|Or.inr j;refine eC (k oe g M S P hd new<|Inv.Vx Z) (λf p K=>?_) λ_ _ z=>z.elim;obtain⟨c,m,W,q⟩:=K;exact name_goes (Inv.â I.ok W) E D j q
end
section
variable{K:C9}{dV kV doc pm Z ct oc:bj}
def JX{A:ek}(p:K.lookup f=U ⟨oc,od,.func<|fnOf name qual T W scope dV kV doc pm an Z ct,ql⟩)(G:codeIn K Z qual=O)(S:fR N ps scope)
  (M:A.depth<kz) (c:qv P w K mg base A outer s H) (F:IZ s (fnOf name qual T W scope dV kV doc pm an Z ct) g<|ps.zip us) (r:Vals vs us) (hl:vs.length=ps.length)
  (C:gO {i7 i8 P w K mg base N qual scope f Z A outer s H (λ_ _ _=>False)with calm:=Zc,xe:=λ_ _=>False} W t) (D:t {nx:=λ_ H'=>Q .non H',rt:=Q} (start N vs) H) :
  hW (cv P w) A (.call (.ref f) g) (CR i8 outer P w H s Q λ_ _ _=>False) s:=by
 have m:K.In s.heap:=c.mod.kin.keeps λb o e=>(c.bs b o e).1;have l:s.heap.NoLimit:=c.mod.nolimit.keeps λb o e=>(c.bs b o e).1;have R:∀y∈ps.zip us,scope.names.lookup y.1=U .local\/(scope.names.lookup y.1=U .cell/\((Fv (s.heap.objs.size+1) scope.names []).lookup y.1).isSome=O):=λ⟨n,v⟩ B=>by
  rcases S.par n (zK B).1 with q|q
  .exact .inl q
  .exact .inr ⟨q,cellsFrom_some _ _ _<|.inl q⟩
 refine I_ M (m _ _ p) J S.co S.gen J (codeRec_of m G)<|F _ _ _ _ ?_;refine z3 S.kind R λenv E i x=>?_;subst E;refine⟨l.keeps x.toInCall.keep,codeAny_func ?_⟩;have L:qv P w K mg base {A with handled:=Y} outer s H:=⟨c.frames,c.mod,c.bs,c.bsz,c.j3,c.frf,c.bC,c.bare⟩
 have a:Inv (i7 i8 P w K mg base N qual scope f Z {A with handled:=Y} outer s H λ_ _ _=>False) [] (start N vs) H i:=qW S J L hl r x
 have I:Inv {i7 i8 P w K mg base N qual scope f Z A outer s H (λ_ _ _=>False)with calm:=Zc,xe:=λ_ _=>False} [] (start N vs) H i:=
  ⟨⟨a.ok.mod,a.ok.kind,a.ok.glob,a.ok.blt,a.ok.above,a.ok.inj,a.ok.has,a.ok.cab,(λz=>nomatch z),zi c.frames,a.ok.stk,a.ok.exf,a.ok.bs,a.ok.bsz,a.ok.noex,a.ok.exfs,a.ok.j3,a.ok.frf⟩,a.os,a.bare,a.base,a.loc,a.cell,a.free,a.freeC,a.pin,a.bC,a.len⟩
 refine eC (C [] i (start N vs) H _ I D) (λfl j h=>?_) λe j h=>h.elim;have fin:∀{d:St}{H':Hp}{v:V}{u:bj},Inv {i7 i8 P w K mg base N qual scope f Z A outer s H (λ_ _ _=>False)with calm:=Zc,xe:=λ_ _=>False} [] d H' j->RelV v u->Q v H'->CE outer P w H s Q u j:=
  λ{d H' v u} X k q=>⟨v,H',X.os,X.bare,X.base,X.bC,k,q⟩
 cases fl with
 |ret u=>
  obtain⟨v,d,H',X,k,q⟩:=h;exact fin X k q
 |next=>
  obtain⟨d,H',X,q⟩:=h;exact fin (v:=V.non) (u:=hQ) X J q
 |brk=>
  obtain⟨_,_,_,q⟩:=h;exact eI q
 |cont=>
  obtain⟨_,_,_,q⟩:=h;exact eI q
end
end L2
namespace L2
open PySem PySem.Spec PyProof.Rows
section
variable{j:Type}[DecidableEq j]
def j6(b:List<|j×V)(k:j):Option V:=(b.find? λa=>decide<|a.1=k).map (·.2)
def putK(b:List<|j×V)(k:j)(v:V):List<|j×V:=
 if(b.any λa=>decide<|a.1=k)=O then b.map (λa=>if a.1=k then(a.1,v)else a)else b++[(k,v)]
def ji{k:j}(e:p.1=k):j6 (p::r) k=U p.2:=by simp[j6,Ci,e]
def jj{k:j}(e:¬ p.1=k):j6 (p::r) k=j6 r k:=by simp[j6,Ci,e]
theorem oJ(k:j):∀a:List<|j×V,(a.any λb=>decide<|b.1=k)=(j6 a k).isSome
 |[]=>J
 |p::r=>by
  rw[rO];by_cases e:p.1=k
  .simp only[ji e,c4 e,Bool.true_or,Option.isSome_some]
  .rw[jj e,b0 e,Bool.false_or];exact oJ k r
def mJ(a:List<|j×V)(k:j)(v:V):(putK a k v).length<=a.length+1:=by
 unfold putK;split
 .rw[cz];lia
 .rw[cQ,dM,qt];lia
def g_.ib(r:g_ o u):o.isSome=u.isSome:=by
 cases o with
 |none=>cases u with
  |none=>rfl
  |some _=>exact(show False from r).elim
 |some _=>cases u with
  |none=>exact(show False from r).elim
  |some _=>rfl
def KV.val(r:KV f vs)(k:j):g_ (j6 f k)<|tf vs k:=by
 unfold KV at r
 induction r with
 |nil=>exact gf
 | @cons p q ps a h t g=>
  obtain⟨d,i⟩:=h;by_cases e:p.1=k
  .have c:q.1=k:=d.symm.trans e
   have b:tf (q::a) k=U q.2:=by simp[tf,Ci,c]
   rw[ji e,b];exact i
  .have c:¬ q.1=k:=λz=>e<|d.trans z
   have b:tf (q::a) k=tf a k:=by simp[tf,Ci,c]
   rw[jj e,b];exact g
theorem KV.any(r:KV b vs)(k:j):(b.any λa=>decide<|a.1=k)=vs.any λa=>decide<|a.1=k:=by
 unfold KV at r
 induction r with
 |nil=>rfl
 |cons h t c=>rw[rO,rO,c,h.1]
def KV.P8(r:KV c vs)(k:j)(d:RelV y u) :
  KV (c.map λa=>if a.1=k then(a.1,y)else a)<|vs.map λa=>if a.1=k then(a.1,u)else a:=by
 unfold KV at r ⊢
 induction r with
 |nil=>exact .nil
 | @cons p q ps i h t f=>
  rw[fq,fq];refine .cons ?_ f;obtain⟨b,g⟩:=h;by_cases e:p.1=k
  .rw[bU e,bU<|b.symm.trans e];exact⟨b,d⟩
  .rw[bp e,bp λz=>e<|b.trans z];exact⟨b,g⟩
def KV.put(r:KV b vs)(k:j)(a:RelV y u):KV (putK b k y)<|stored vs k u:=by
 unfold putK stored;rw[r.any k];by_cases e:(vs.any λc=>decide<|c.1=k)=O
 .rw[bU e,bU e];exact r.P8 k a
 .rw[bp e,bp e];exact Paired.snoc r ⟨J,a⟩
theorem KV.length{vs:List<|j×bj}(r:KV a vs):a.length=vs.length:=Paired.length r
end
def vA(r:RelV (kV k) u):(dc P w).is k u=O:=by
 cases k with
 |inl i=>obtain⟨t,e⟩:=(show ∃t,u=Value.int i t from r);subst e;exact u0 P w i t
 |inr x=>obtain⟨t,e⟩:=(show ∃t,u=Value.str x t from r);subst e;exact u3 P w x t
theorem rh:∀{ks:List Key}{us:B2},Vals (ks.map kV) us->ItemsAre (dc P w) ks us
 |[],_,r=>by rw[zL]at r;cases r;exact .nil
 |k::ks,_,r=>by
  rw[fq]at r;cases r with
  |cons h t=>exact .cons (vA h)<|rh t
abbrev KT(H:Hp):List (List Key×V)->List (List Key×bt×bj)->Prop:=IH λp q=>p.1=q.1/\H q.2.1=U (.tup<|p.1.map kV)/\RelV p.2 q.2.2
def KT.val(r:KT H f xs)(k:List Key):g_ (j6 f k)<|(z6 xs k).map (·.2):=by
 induction r with
 |nil=>exact gf
 | @cons p q ps a h t g=>
  obtain⟨d,_,i⟩:=h;by_cases e:p.1=k
  .have c:q.1=k:=d.symm.trans e
   have b:z6 (q::a) k=U q.2:=by simp[z6,Ci,c]
   rw[ji e,b];exact i
  .have c:¬ q.1=k:=λz=>e<|d.trans z
   have b:z6 (q::a) k=z6 a k:=by simp[z6,Ci,c]
   rw[jj e,b];exact g
def KT.P8(r:KT H d xs)(k:List Key)(f:RelV y u) :
  KT H (d.map λb=>if b.1=k then(b.1,y)else b)<|xs.map<|putAt k u:=by
 induction r with
 |nil=>exact .nil
 | @cons p q ps j h t g=>
  rw[fq,fq];refine .cons ?_ g;obtain⟨a,c,i⟩:=h;unfold putAt;by_cases e:p.1=k
  .rw[bU e,bU<|a.symm.trans e];exact⟨a,c,f⟩
  .rw[bp e,bp λz=>e<|a.trans z];exact⟨a,c,i⟩
def KT.put(r:KT H a xs)(k:List Key)(f:H b=U (.tup<|k.map kV))(c:RelV y u) :
  KT H (putK a k y)<|storedH xs k b u:=by
 have e:(a.any λd=>decide<|d.1=k)=(z6 xs k).isSome:=by
  rw[oJ,(r.val k).ib,Eg]
 unfold putK storedH;rw[e];by_cases q:(z6 xs k).isSome=O
 .rw[bU q,bU q];exact r.P8 k c
 .rw[bp q,bp q];exact Paired.snoc r ⟨J,f,c⟩
def KT.keeps(r:KT H a xs)(c:∀b ys,H b=U (.tup ys)->H' b=U (.tup ys)):KT H' a xs:=
 Paired.OW r λ_ _ z=>⟨z.1,c _ _ z.2.1,z.2.2⟩
variable{A:ek}
def NR{u:HO}(ok:j0 P w H h)(e:Rd H a u):cj P w H h a u:=e.ok ok
def vB(ok:j0 P w H h)(e:Rd H a<|.dK b):b.length<=cC/\(a == iq)=Zc/\∃vs,KV b vs/\h.DictOf (dc P w) a vs:=
 show cj P w H h a (.dK b)from NR ok e
def Vz(ok:j0 P w H h)(e:H a=U (.dK b)):b.length<=cC/\(a == iq)=Zc/\∃vs,KV b vs/\h.DictOf (dc P w) a vs:=vB ok<|.inl e
def oK(ok:j0 P w H h)(e:H a=U (.tup<|ks.map kV)):(uk<|dc P w).is h ks a:=by
 obtain⟨_,b,r,o,f,d,n,c⟩:=(show cj P w H h a (.tup<|ks.map kV)from ok a _ e);exact⟨o,b.toArray,n,f,d,c,by simpa using rh r⟩
def vC(ok:j0 P w H h)(e:Rd H a<|.dT c):c.length<=cC/\(a == iq)=Zc /\
  ∃xs,KT H c xs/\h.DictOfH (uk<|dc P w) a xs:=by
 obtain⟨z,y,xs,r,o,es,s,n,k,j,i,g⟩:=(show cj P w H h a (.dT c)from NR ok e);refine⟨z,y,xs,r,o,es,s,n,k,j,i,λx b=>?_,g⟩;have all:∀{l:List<|List Key×V}{m:List<|List Key×bt×bj},KT H l m->∀x∈m,(uk<|dc P w).is h x.1 x.2.1:=by
  intro l m q
  induction q with
  |nil=>intro x b;exact nomatch b
  | @cons p q ps u d t f=>
   intro x b;rcases cu.mp b with e|b
   .subst e
    exact oK ok (by rw[<- d.1];exact d.2.1)
   .exact f x b
 exact all r x b
def VA(ok:j0 P w H h)(e:H a=U (.dT b)):b.length<=cC/\(a == iq)=Zc /\
  ∃xs,KT H b xs/\h.DictOfH (uk<|dc P w) a xs:=vC ok<|.inl e
def vD(H:Hp)(a:bt)(y:V)(r:Option V):Prop:=
 (∃c k,Rd H a (.dK c)/\y=kV k/\r=j6 c k)\/∃c k b,Rd H a (.dT c)/\y=.ref b/\H b=U (.tup<|k.map kV)/\r=j6 c k
def JY(H:Hp)(a:bt)(y v:V)(H':Hp):Prop:=
 (∃c k,H a=U (.dK c)/\y=kV k/\c.length<cC/\H'=upd H a (.dK<|putK c k v)) \/
 ∃c k b,H a=U (.dT c)/\y=.ref b/\H b=U (.tup<|k.map kV)/\c.length<cC/\H'=upd H a (.dT<|putK c k v)
theorem vD.k{k:Key}(e:H a=U (.dK b)):vD H a (kV k)<|j6 b k:=.inl ⟨b,k,.inl e,J,J⟩
theorem JY.k{k:Key}(e:H a=U (.dK b))(hl:b.length<cC):JY H a (kV k) v<|upd H a<|.dK<|putK b k v:=.inl ⟨b,k,e,J,hl,J⟩
def Inv.big(I:Inv X Z W H s):iq<s.heap.objs.size:=by
 have h:eP<s.heap.objs.size:=(I.mod.glob.keeps I.bk).lt;exact Nat.lt_trans (by decide) h
def C0{Q:Kk}(x:A.units+1<lq)(I:Inv X Z W H s)(g:vD H a y<|U v)(q:RelV y u)(h:∀d s',Inv X Z W H s'->RelV v d->Q d s') :
  cq (cv X.prog X.w) A (y3 (.ref a) u) Q E s:=by
 rcases g with⟨D,k,e,m,l⟩|⟨D,k,b,e,m,C,l⟩
 .subst m
  obtain⟨z,hd,t,c,n⟩:=vB I.bC e;obtain⟨d,i,f⟩:=g_.some_of (v:=v) (o:=tf t k) (by rw[l];exact c.val k)
  exact wpAny_getItem_of (vA q) n.mapOf i<|h d _ (I.tok _) f
 .subst m
  cases(show u=Value.ref b from q);obtain⟨z,hd,r,c,n⟩:=vC I.bC e;obtain⟨d,i,f⟩:=g_.some_of (v:=v) (o:=(z6 r k).map (·.2)) (by rw[l];exact c.val k)
  obtain⟨p,B,j⟩:=ck.mp i;refine wpAny_getItem_heap (n2 x) (oK I.bC C) n B ?_;rw[j];exact h d _ (I.tok _) f
def å{Q:Kk}(j:A.units+1<lq)(I:Inv X Z W H s)(g:vD H a y o)(i:RelV y u)(h:∀s',Inv X Z W H s'->Q (.bool o.isSome) s') :
  cq (cv X.prog X.w) A (eQ .In u<|.ref a) Q E s:=by
 rcases g with⟨n,k,e,d,l⟩|⟨n,k,b,e,d,m,l⟩
 .subst d
  obtain⟨z,hd,r,c,f⟩:=vB I.bC e;refine wpAny_in_of (vA i) hd f.mapOf ?_;rw[<- (c.val k).ib,<- l];exact h _<|I.tok _
 .subst d
  cases(show u=Value.ref b from i);obtain⟨z,hd,p,c,f⟩:=vC I.bC e;refine wpAny_in_heap (n2 j) (oK I.bC m) hd f ?_;have q:=(c.val k).ib;rw[Eg]at q;rw[<- q,<- l];exact h _<|I.tok _
def JZ{Q:Kk}(j:A.units+1<lq)(I:Inv X Z W H s)(g:vD H a y o)(i:RelV y u)(h:∀s',Inv X Z W H s'->Q (.bool<|!o.isSome) s') :
  cq (cv X.prog X.w) A (eQ .NotIn u<|.ref a) Q E s:=by
 rcases g with⟨n,k,e,d,l⟩|⟨n,k,b,e,d,m,l⟩
 .subst d
  obtain⟨z,hd,r,c,f⟩:=vB I.bC e;refine wpAny_notIn_of (vA i) hd f.mapOf ?_;rw[<- (c.val k).ib,<- l];exact h _<|I.tok _
 .subst d
  cases(show u=Value.ref b from i);obtain⟨z,hd,p,c,f⟩:=vC I.bC e;refine wpAny_notIn_heap (n2 j) (oK I.bC m) hd f ?_;have q:=(c.val k).ib;rw[Eg]at q;rw[<- q,<- l];exact h _<|I.tok _
def Aq(I:Inv X Z W H s)(mu:Up<|H a)(c:og a s.heap h')(he:∃q,h'.get? a=U q)(new:cj X.prog X.w (upd H a ob) h' a ob) :
  Inv X Z W (upd H a ob) {s with heap:=h',toks:=t'}:=
 I.write (x:=a) (e:=a) mu (.inl J) (λb q d z=>(c.2 b d).trans z) he new
def P9(z:c.length<=cC)(hd:(a == iq)=Zc)(b:KV c vs)(dd:h'.DictOf (dc P w) a vs) :
  cj P w H' h' a<|.dK c:=⟨z,hd,vs,b,dd⟩
def C1{Q:Kt}(L:A.units+1<lq)(I:Inv X Z W H s)(g:JY H a y v H')(x:RelV y u)(B:RelV v r)(h:∀s',Inv X Z W H' s'->Q () s') :
  cq (cv X.prog X.w) A (setItem (.ref a) u r) Q E s:=by
 rcases g with⟨f,k,e,o,l,p⟩|⟨f,k,b,e,o,F,l,p⟩
 .subst o p
  obtain⟨z,hd,K,d,t⟩:=Vz I.bC e;have m:K.length<=cC:=by rw[<- d.length];exact z
  have hl:(putK f k v).length<=cC:=by have:=mJ f k v;lia
  refine wpAny_setItem_pairs (hsz:=m) (vA x) t λC j n=>h _ ?_;have M:∃q,C.get? a=U q:=let⟨q,_,_,i,_⟩:=j;⟨q,i⟩;exact Aq I (by rw[e];exact gf) n M<|P9 hl hd (d.put k B) j
 .subst o p
  cases(show u=Value.ref b from x);obtain⟨z,hd,G,d,t⟩:=VA I.bC e;have m:G.length<=cC:=by rw[<- Paired.length d];exact z
  have hl:(putK f k v).length<=cC:=by have:=mJ f k v;lia
  refine wpAny_setItem_heap (hsz:=m) (n2 L) (oK I.bC F) t λC j n=>h _ ?_;obtain⟨q,es,T,i,S,R,P,_,N⟩:=j;refine Aq I (by rw[e];exact gf) n ⟨q,i⟩ ⟨hl,hd,_,(d.put k F B).keeps λc V D=>?_,q,es,T,i,S,R,P,N⟩
  rw[ak (Uo D e (λz=>nomatch z))];exact D
def P_(i:cw):Prop:=∀ov a,ra i Zc ov a=operate [ov,a] (y3 ov a)
def J0{b a:cw}{T id:String}
  (hl:o8 (.type T) "__getitem__" = pure (U<|.builtin id)) (l:P_ a)
  (h:cq (cv prog w) A (eR b env) (λo f=>cq (cv prog w) A (eR a env) (λi c=>c.TypeIs o T/\cq (cv prog w) A (y3 o i) Q E c) E f) E s) :
  cq (cv prog w) A (eR (.Subscript b a pos) env) Q E s:=by
 refine Subscript_<|eC h (λo f j=>eC j (λi c d=>?_) λ_ _ x=>x) λ_ _ x=>x;obtain⟨k,d⟩:=d;unfold CC;apply ar;rw[getitemInPython_of_ne k.not_modules];refine ar<|wpAny_specialOf k hl ?_;have fin:cq (cv prog w) A (ra a Zc o i) (λr e=>cq (cv prog w) A (letTemporaryGo b o r >>= λ_=>pure r) Q E e) E c:=by
  rw[l o i];exact wpAny_operating<|eC d (λr e g=>ar<|wpAny_letTemporaryGo<|dk g) λ_ _ x=>x
 first
  |exact dk<|ar fin
  |exact ar<|dk<|ar fin
  |exact ar fin
def vE(I:Inv X Z W H s)(g:vD H a y o):s.TypeIs (.ref a) "dict" := by
 rcases g with⟨d,k,e,_,_⟩|⟨d,k,b,e,_,_,_⟩
 .obtain⟨_,_,h,_,c⟩:=vB I.bC e
  exact c.typeIs
 .obtain⟨_,_,f,_,c⟩:=vC I.bC e
  exact c.typeIs
def VB(c ty:TE):TE:=λW H Q=>c W H λx H1=>ty W H1 λy b=>∃a v,x=.ref a/\vD b a y (U v)/\Q v b
def VC(d ty c:TE):TS:=λD W H=>c W H λv H1=>d W H1 λx f=>ty W f λy e=>∃a b,x=.ref a/\JY e a y v b/\D.nx W b
def Ar(k:X.A.units+1<lq)(m:PE X o L)(n:PE X i ty)(l:P_ i):PE X (.Subscript o i pos)<|VB L ty:=by
 intro Z s W H Q I h;refine J0 PySem.F.slot_dict_getitem.lookup l<|cA (m Z s W H _ I h) λu e b=>?_;obtain⟨x,H1,q,j,q1⟩:=b;refine cA (n Z e W H1 _ q q1) λz s2 b=>?_;obtain⟨y,r,c,f,a,v,ex,g,q2⟩:=b;subst ex
 obtain rfl:u=Value.ref a:=j
 exact⟨vE c g,C0 k c g f λt w p d=>⟨v,r,p,d,q2⟩⟩
def As(l:X.A.units+1<lq)(n:PE X o L)(p:PE X i ty)(k:PE X Q N)(m:fC Q (U<|.Subscript o i M) pos.line X.env=pure Zc) :
  PS X (.Assign [.Subscript o i M] Q pos)<|VC L ty N:=by
 intro Z s W H D I h;refine wpAny_Assign_Subscript (cA (k Z s W H _ I h) λr c b=>?_) m;obtain⟨v,H1,z,f,q1⟩:=b;refine cA (n Z c W H1 _ z q1) λu s2 b=>?_;obtain⟨x,C,w,e,q2⟩:=b;refine cA (p Z s2 W C _ w q2) λG F b=>?_;obtain⟨y,K,t,d,a,B,ex,g,j⟩:=b;subst ex
 obtain rfl:u=Value.ref a:=e
 exact C1 l t g d f λE q=>⟨W,B,q,j⟩
def Fz(h:ey)(a:iq<h.objs.size):cj P w H (h.push {cls:=.type "dict",data:=.dict #[]}) h.objs.size<|.dK []:=
 ⟨jc _,beq_eq_false_iff_ne.mpr<|eL<|dO a,[],.nil,Heap.DictOf.new h⟩
def Qa:TE:=λ_ H Q=>∀p,H p=Y->Q (.ref p) (upd H p<|.dK [])
def vG:PE X (.Dict [] [] pos) Qa:=λZ s W H Q I h=>
 wpAny_Dict_empty ⟨.ref s.heap.objs.size,_,I.laid (a:=s.heap.objs.size) (o:=.dK []) (t':=s.toks) (λ_ _ q=>ax _ q) (cV _)<|Fz s.heap I.big,J,h _<|I.bC.fresh<|cV _⟩
end L2
namespace Pf
end Pf
namespace L2
open PySem PySem.Spec PyProof.Rows
end L2
namespace PySem
open Sem (wp)
open AutoSeq1 (wpAny_loadPart')
section
variable{prog:dn}{w:dv}{A:ek}{E:Kk}{s:av}
set_option maxHeartbeats 4000000 in
def jk(l:bt)(items:Array bj)(n:Nat)(kC:Option bt)(sl:Array D1)(t:Tok) :
  Meets (Builtin.«enumerate.__new__» ⟨[.type "enumerate",.ref l],[(et "start",.int 1 t)]⟩) λ_ R s=>s.heap.get? l=U {cls:=.type "list",dict:=kC,data:=.seq items n,slots:=sl} /\
   R (.ok<|.ret<|.ref (s.heap.push {cls:=.type "list_iterator",data:=.fields #[.ref l,.int 0 0]}).objs.size)
    {s with heap:=(s.heap.push {cls:=.type "list_iterator",data:=.fields #[.ref l,.int 0 0]}).push {cls:=.type "enumerate",data:=.fields #[.none,.bool Zc,.ref s.heap.objs.size,pb 1,.none,.none]}}:=
 .of_wp λprog w A R s h=>by
  obtain⟨hp,g,d,tk,os⟩:=s;obtain⟨hl,h⟩:=h;have æ:=sub_enumerate;have hL:Heap.IsList (Shared.heap ⟨hp,g,d,tk,os⟩) l items:=⟨_,hl,J,n,J⟩
  wp_walk using pv hl
  refine wpAny_stack_any λst=>dk ?_;split
  .rename_i c _ _ _ _ _
   cases(c == n4 "enumerate")
   .wp_walk using pv hl,hJ hL
    exact⟨_,J,h⟩
   .wp_walk using pv hl,hJ hL
    exact⟨_,J,h⟩
  .wp_walk using pv hl,hJ hL
   exact⟨_,J,h⟩
def j7(hl:o8 (.type T) "__init__" = pure (U<|.builtin "object.__init__"))
  (f:Bind.madeBy (.type T)=pure (U newId)) (e:(U newId != U "object.__new__")=O) :
  Meets (Builtin.«object.__init__» ⟨self::rest,b⟩) λ_ R s=>s.TypeIs self T/\R (.ok<|.ret .none) s:=by
 refine Meets.of_wp λprog w A R s d=>?_;obtain⟨g,c⟩:=d;cases rest with
 |nil=>
  cases b with
  |nil=>exact dk ⟨_,J,c⟩
  |cons a b=>
   repeat (any_goals (first|assumption|wp_step))
   exact⟨_,J,c⟩
 |cons a rest=>
  repeat (any_goals (first|assumption|wp_step))
  exact⟨_,J,c⟩
def jl(a b:bj):checkTypeCall "enumerate" ⟨[a],[(et "start",b)]⟩=pure ():=by kernel_rfl
def jO(a b:bj):i4 "enumerate.__new__" ⟨[.type "enumerate",a],[(et "start",b)]⟩=pure ():=by kernel_rfl
def vH(o a b:bj):argsOk "object.__init__" ⟨[o,a],[(et "start",b)]⟩:=by
 unfold argsOk;rw[signature?_of (id := "object.__init__") (n:=['_','_','t','i','n','i','_','_']) (o:=['t','c','e','j','b','o']) (by kernel_rfl) F.owner_object];kernel_rfl
set_option maxHeartbeats 4000000 in
def lW{l:bt}{items:Array bj}{t:Tok}{Q:Kk}(hL:s.heap.IsList l items)
  (h:∀h',IsEnum h' (s.heap.objs.size+1) s.heap.objs.size 1 .none->h'.IsListIter s.heap.objs.size l 0->h'.objs.size=s.heap.objs.size+2 ->
   (∀b o,s.heap.get? b=U o->h'.get? b=U o)->Q (.ref<|s.heap.objs.size+1) {s with heap:=h'}) :
  cq (cv prog w) A (call (.type "enumerate") [.ref l] [(et "start",.int 1 t)]) Q E s:=by
 obtain⟨⟨c,kC,dt,sl⟩,hl,hc,n,hd⟩:=hL
 replace hc:c=.type "list" := hc
 replace hd:dt=.seq items n:=hd
 subst hc hd;have ft:=F.called_enumerate;obtain⟨c,tl,aae⟩:=ft.mro;have aaa:=ft.made;have æ:=ft.sub;have hct:=jl (.ref l)<|.int 1 t;have hcn:=jO (.ref l)<|.int 1 t;refine f7<|codeAny_of_tree ?_;show cq _ _ (callAny (.type "enumerate") _) _ _ _;refine dk ⟨mN _<|by decide +kernel,mZ F.entry_type_call ?_⟩
 rw[Around.under_plain (weight_type_call_type "enumerate" _ _)<|units_type_call_type "enumerate" _ _];have h1:=ft.notType;have h2:=ft.canCreate
 repeat (any_goals (first|assumption|wp_step))
 have hz:(s.heap.push {cls:=.type "list_iterator",data:=.fields #[.ref l,.int 0 0]}).objs.size=s.heap.objs.size+1:=kf ..;have he:IsEnum ((s.heap.push {cls:=.type "list_iterator",data:=.fields #[.ref l,.int 0 0]}).push
   {cls:=.type "enumerate",data:=.fields #[.none,.bool Zc,.ref s.heap.objs.size,pb 1,.none,.none]}) (s.heap.objs.size+1) s.heap.objs.size 1 .none:=by
  have:=de (s.heap.push {cls:=.type "list_iterator",data:=.fields #[.ref l,.int 0 0]})
   (o:={cls:=.type "enumerate",data:=.fields #[.none,.bool Zc,.ref s.heap.objs.size,pb 1,.none,.none]}) J
  rw[hz]at this;exact this
 have fin:=h _ he ⟨_,ax _<|de _ J,J,J⟩ (by rw[kf,hz]) λb o x=>ax _<|ax _ x
 refine gg (fu ft.plain F.entry_enumerate_new<|qx hcn<|jk l items n kC sl t prog w A.in1 (wants (λobj s₁=>s₁.TypeIs obj "enumerate" /\ Q obj s₁) E) s ⟨hl,?_⟩) λr s₁ hr=>?_
 .show _/\_
  rw[hz];exact⟨⟨_,he,J⟩,fin⟩
 cases r with
 |error e=>exact hr
 |ok fl=>
  cases fl with
  |ret obj=>
   obtain⟨hT,hq⟩:=hr;have ç:=ft.init.lookup;have hbi:=ft.init.bind obj
   repeat (any_goals (first|assumption|wp_step))
   refine gg (fu ft.init.plain F.entry_object_init<|ft.init.check _ _ _ _ _ _ _ _ hT (vH _ _ _)<|j7 ft.init.lookup ft.made (by decide) prog w A.in1 (wants (λr s₂=>r=.none/\Q obj s₂) E) s₁ ⟨hT,J,hq⟩) λr₂ s₂ hr₂=>?_
   cases r₂ with
   |error e=>exact hr₂
   |ok fl₂=>
    cases fl₂ with
    |ret r=>
     obtain⟨rfl,hq⟩:=hr₂
     repeat (any_goals (first|assumption|wp_step))
    |_=>exact hr₂.elim
  |_=>exact hr.elim
end
end PySem
namespace L2
open PySem PySem.Spec PyProof.Rows
def FA{A:ek}{St:Nat->ey->Prop}(D:Draws prog w A it b n P St)(m:Nat):Draws prog w A it b (m+n) (λj x=>∃i,j=m+i/\P i x) λj h=>∃i,j=m+i/\St i h where
 live:=λ_ h ⟨i,_,st⟩=>D.live i h st
 frame:=λ_ h a ⟨i,e,st⟩ k=>⟨i,e,D.frame i h a st k⟩
 item:=λj s Q E l ⟨i,e,st⟩ f=>D.item i s Q E (by lia) st λx a tk p d c=>f x a tk ⟨i,e,p⟩ ⟨i+1,by lia,d⟩ c
 done:=λs Q E ⟨i,e,st⟩ g=>by
  have:i=n:=by lia
  subst this;exact D.done s Q E st g
def VD(K:bq)(m:Nat)(l:bt)(xs:List V):It:=
 ⟨λi H=>i<xs.length/\dm K H l xs,λi H v a=>∃p x,H p=Y/\xs[i]?=U x/\v=.ref p/\a=upd H p (.tup [.int ((m+i:Nat):Int),x]),λi H=>i=xs.length/\dm K H l xs⟩
def oN{K:bq}(è:e≠it)(Z:l≠e)(ç:l≠it) :
  Turn P w K (.Tuple B x1 pos) (VD K m l xs) [e,it] e λi h=>(∃old,IsEnum h e it ((m+i:Nat):Int) old)/\h.IsListIter it l i where
 mem:=by simp
 obj:=λi h st b a=>by
  obtain⟨⟨old,j⟩,o1,e1,_,d1⟩:=st;simp only[cu,nZ,ma]at a;rcases a with rfl|rfl
  .exact⟨_,j,λv q=>by cases q⟩
  .exact⟨o1,e1,λv q=>by rw[d1]at q;cases q⟩
 keep:=λi h M st k=>by
  obtain⟨⟨old,j⟩,z⟩:=st;exact⟨⟨old,k e (by simp) _ j⟩,z.at λo q=>k it (by simp) o q⟩
 item:=by
  intro X hP Q hK p i aa s σ H E I f st hg;subst hP Q hK;obtain⟨L,S⟩:=hg;obtain⟨⟨old,j⟩,z⟩:=st;obtain⟨g,F,pl,R⟩:=I.list S;obtain⟨u,hu,ru⟩:=F.get<|c5 L;have hil:i<g.toArray.size:=by rw[cZ,<- F.length];exact L
  have D:=FA (Draws.list (prog:=X.prog) (w:=X.w) (A:=X.A.in1) (I.ok.hd p) it l ç g.toArray) m;refine wpAny_pyNext_enum_itemD (n:=m+g.toArray.size) D j ⟨i,J,z,pl.isList⟩ (by lia) è (by simp only[cu,nZ,ma,not_or];exact⟨è,eL Z⟩) λx M tk G a1 a2 a3 a4 kk=>?_
  obtain⟨t,ei,G⟩:=G
  have:t=i:=by lia
  subst this;have hx:x=u:=by
   rw[List.getElem?_toArray,hu]at G;exact(kF.inj G).symm
  subst hx;obtain⟨i2,ei2,a2,_⟩:=a2
  have:i2=t+1:=by lia
  subst this;refine⟨.ref s.heap.objs.size,J,?_⟩;refine wpAny_letOwnedTupleGo_enum (s:={s with heap:=M,toks:=tk+1}) a1 λN b1 b2=>?_
  have lt:∀{d o},s.heap.get? d=U o->s.heap.objs.size≠d:=λe=>xS<|b7 e;have fpn:∀b∈[e,it],s.heap.objs.size≠b:=λb a=>by
   obtain⟨o1,e1,_⟩:=z;simp only[cu,nZ,ma]at a;rcases a with rfl|rfl
   .exact lt j
   .exact lt e1
  have keep:∀b o,b∉[e,it]->s.heap.get? b=U o->N.get? b=U o:=λb o a q=>by
   simp only[cu,nZ,ma,not_or]at a;exact(b2.2 b a.1).trans<|kk b o a.1 a.2 q
  have y:H s.heap.objs.size=Y:=I.bC.fresh<|cV _;have hT:N.get? s.heap.objs.size=U {cls:=.type "tuple",data:=.seq #[.int ((m+t:Nat):Int) tk,x]}:=(b2.2 _<|lt j).trans a3;have VE:IsTup N s.heap.objs.size ([.int ((m+t:Nat):Int) tk,x]:B2).toArray:=⟨_,hT,J,0,J⟩;have C:∀b v,H b=U v->b∉[e,it]:=λb v q a=>by rw[(f b a).1]at q;cases q
  have I1:Inv X aa σ (upd H s.heap.objs.size<|.tup [.int ((m+t:Nat):Int),xs[t]]) {s with heap:=N,toks:=tk+1}:=by
   refine I.step (g':=s.gens) (d':=s.drawn) (t':=tk+1) (ch:=[e,it]) (λb a=>⟨(f b a).2.2.2.1,(f b a).2.1,(f b a).2.2.2.2.1,(f b a).2.2.2.2.2⟩) (λb o _ _ a e _=>keep b o a e) (λb o _ _ a e _=>⟨o.slots,keep b o a e⟩)
    (λb o a e n=>by rw[ak<|eL<|lt e];exact n) (λb o a e=>⟨o,keep b o a e⟩) (λb ys e=>by rw[ak<|aK e y];exact e) (λb o v e=>by rw[ak<|aK e y];exact e)
    (λb ps e=>⟨#[],by rw[ak<|aK e y,e];simp⟩) (λm W=>?_) ?_ I.bare
   .obtain⟨o,es,ep,T,r⟩:=W
    exact⟨o,es,ep,keep _ o (λa=>(f _ a).2.1 J) T,r⟩
   .intro b v e
    by_cases a:b=s.heap.objs.size
    .subst a
     rw[ai]at e;cases e;exact⟨by show 2<=cC;decide,_,.cons ⟨_,J⟩<|.cons ru .nil,VE⟩
    .rw[ak a]at e
     refine(I.bC b v e).n_ (λc o p q=>keep c o ?_ q) (λc q=>by rw[ak<|aK q y];exact q) λc ys q=>by rw[ak<|aK q y];exact q
     rcases p with rfl|p
     .exact C c v e
     .exact C c _ p
  have eN:((m+t:Nat):Int)+1=((m+(t+1):Nat):Int):=by lia
  refine⟨.ref s.heap.objs.size,_,I1,J,⟨_,_,y,c5 L,J,J⟩,⟨⟨x,eN▸b1⟩,a2.at λo q=>(b2.2 it è.symm).trans q⟩,λb a=>?_⟩;rw[ak<|eL<|fpn b a];exact(f b a).1
 done:=by
  intro X hP Q hK p i aa s σ H E I f st hg;subst hP Q hK;obtain⟨L,S⟩:=hg;obtain⟨⟨old,j⟩,z⟩:=st;obtain⟨g,F,pl,R⟩:=I.list S;have hl:=F.length;have D:=FA (Draws.list (prog:=X.prog) (w:=X.w) (A:=X.A.in1) (I.ok.hd p) it l ç g.toArray) m;refine wpAny_pyNext_enum_endD (n:=m+g.toArray.size) D j ⟨i,by rw[cZ];lia,z,pl.isList⟩ λM kk=>⟨J,?_⟩
  have C:∀b v,H b=U v->b∉[e,it]:=λb v q a=>by rw[(f b a).1]at q;cases q
  have keep:∀b o,b∉[e,it]->s.heap.get? b=U o->M.get? b=U o:=λb o a q=>by
   simp only[cu,nZ,ma,not_or]at a;exact kk b o a.2 q
  refine I.step (g':=s.gens) (d':=s.drawn) (t':=s.toks) (ch:=[e,it]) (λb a=>⟨(f b a).2.2.2.1,(f b a).2.1,(f b a).2.2.2.2.1,(f b a).2.2.2.2.2⟩) (λb o _ _ a e _=>keep b o a e) (λb o _ _ a e _=>⟨o.slots,keep b o a e⟩)
   (λb o a e n=>n) (λb o a e=>⟨o,keep b o a e⟩) (λ_ _ e=>e) (λ_ _ _ e=>e) (λb ps e=>⟨#[],by rw[e];simp⟩) (λm W=>?_) (λb v e=>?_) I.bare
  .obtain⟨o,es,ep,T,r⟩:=W
   exact⟨o,es,ep,keep _ o (λa=>(f _ a).2.1 J) T,r⟩
  .refine(I.bC b v e).n_ (λc o p q=>keep c o ?_ q) (λ_ q=>q) λ_ _ q=>q
   rcases p with rfl|p
   .exact C c v e
   .exact C c _ p
 self:=λ_ _ _ _ _ st h=>by obtain⟨⟨old,j⟩,_⟩:=st;exact td j h
def Qc(K:bq)(m:Nat)(d:TA):TI:=λb H R=>d b H λc H1=>∃l a,c=[.ref l]/\dm K H1 l a/\R (VD K m l a) H1
def VG(z:Gl X "enumerate")(y:X.mg "enumerate" = Y)(A:PA X [a] f)(w:dy [a] X.env=[(Zc,eR a X.env)]) :
  PI X (.Tuple d n t) (.Call (.Name "enumerate" p) [a] [] pos)<|Qc X.K 0 f:=by
 intro C s k H R I h;refine Call_<|gP I z y Nq<|Cm (cA (A pos C s k H _ I h) λF c m=>?_) (by rw[w];rfl) J
 obtain⟨E,H1,I1,r,q1⟩:=m;obtain⟨l,D,e,x,q⟩:=q1;subst e;obtain⟨u,rfl,o⟩:=vals1 r;cases o;obtain⟨v,G,pl,L⟩:=I1.list x;refine call_enumerate_list pl.isList λB a1 a2 _ kk=>td (s:={c with heap:=B}) a1 ?_
 have g:l<c.heap.objs.size:=let⟨_,e,_⟩:=pl.isList;b7 e;refine⟨c.heap.objs.size+1,_,_,_,H1,J,I1.kept (t':=c.toks) kk,oN (l:=l) (it:=c.heap.objs.size) (xS<|mT _) (dO<|MG g)<|dO g,⟨⟨_,a1⟩,a2⟩,λb i=>?_,q⟩;have j:c.heap.objs.size<=b:=by
  simp only[cu,nZ,ma]at i;rcases i with rfl|rfl
  .exact bD _ _
  .exact cV _
 exact I1.rZ j<|I1.bC.fresh j
def Qd(D:Gl X "enumerate")(C:X.mg "enumerate" = Y)(E:PA X [a] g)(k:dy [a] X.env=[(Zc,eR a X.env)]) :
  PI X (.Tuple d w z) (.Call (.Name "enumerate" p) [a] [⟨U<|et "start",.Constant (.int 1) k1 i,kp⟩] pos)<|Qc X.K 1 g:=by
 intro o s f H R I h;refine ff<|gP I D C Nq ?_;refine MD (P:=λ_=>True) (by rw[k];rfl) (λh _=>⟨.machine,.inr<|.inl J,.now⟩) ?_
 refine Nr J (cA (E pos o s f H _ I h) λN c t=>?_) k;obtain⟨M,H1,G,y,q1⟩:=t;show cq _ _ (evalAll [(do let v <- eR (.Constant (.int 1) k1 i) X.env;n7 pos;pure v)]) _ _ c
 refine wpAny_evalAll_cons<|ar<|sF<|ar<|j1<|dk<|wpAny_evalAll_nil ⟨trivial,?_⟩;obtain⟨l,L,e,B,q⟩:=q1;subst e;obtain⟨u,rfl,x⟩:=vals1 y;cases x;have I2:Inv X o f H1 {c with toks:=c.toks+1}:=G.tok _
 obtain⟨A,Q,pl,S⟩:=I2.list B;show cq _ _ (call (.type "enumerate") [.ref l] [(et "start",.int 1 c.toks)]) _ _ {c with toks:=c.toks+1}
 refine lW pl.isList λF a1 a2 _ kk=>td (s:={c with heap:=F,toks:=c.toks+1}) a1 ?_
 have j:l<c.heap.objs.size:=let⟨_,e,_⟩:=pl.isList;b7 e;refine⟨c.heap.objs.size+1,_,_,_,H1,J,I2.kept (t':=c.toks+1) kk,oN (m:=1) (l:=l) (it:=c.heap.objs.size) (xS<|mT _) (dO<|MG j)<|dO j,⟨⟨_,a1⟩,a2⟩,λb n=>?_,q⟩;have r:c.heap.objs.size<=b:=by
  simp only[cu,nZ,ma]at n;rcases n with rfl|rfl
  .exact bD _ _
  .exact cV _
 exact I2.rZ r<|I2.bC.fresh r
end L2
namespace D
inductive Ky where
 |i (n:Int)|s (l:B1)
 deriving DecidableEq
inductive T where
 |non|bl (b:Bool)|int (i:Int)|str (l:B1)|tup (xs:List T)|lst (xs:List T)
 |scr (ns:Dx)
 |obj (c:Nat) (fs:List T)
 |own (k:Nat)
 |kC (ks:List Ky) (vs:List T)
inductive C where
 |val (t:T)|ol (ts:List T)|od (ks:List Ky) (vs:List T)
 |yg (t:T)
structure Ob where
 c:Nat
 fs:List C
structure S where
 r:List<|Option C
 m:List Ob
abbrev Fs:=List<|Option C
abbrev FK:=Option<|List T
abbrev FR:=List T
abbrev FV:=Option T
abbrev FX:=List Ob
inductive Res(α:Type) where
 |ok (a:α)|bad
 |exc (c:Nat) (fs:FR) (s:S)
def Res.bind(x:Res α)(f:α->Res b):Res b:=match x with
 |.ok a=>f a
 |.bad=>.bad
 |.exc c fs s=>.exc c fs s
def ae{x:Res α}{b:d}(h:x.bind f=.ok b):∃a,x=.ok a/\f a=.ok b:=by
 cases x with
 |ok a=>exact⟨a,J,h⟩
 |bad=>cases h
 |exc c fs s=>cases h
def aZ:Option α->Res α
 |some a=>.ok a
 |none=>.bad
def ao{a:α}(h:aZ o=.ok a):o=U a:=by
 cases o with
 |none=>cases h
 |some b=>cases h;rfl
def gd{α:Type}(p:Prop)[Decidable p](x:α):Option α:=if p then U x else Y
def bu[Decidable p]{x a:α}(h:gd p x=U a):p/\x=a:=by
 unfold gd at h;split at h
 .rename_i q;cases h;exact⟨q,J⟩
 .cases h
abbrev FE:=S->Res (T×S)
abbrev FT:=S->Res (Bool×S)
abbrev FL:=S->Res (FR×S)
inductive Out where
 |nx|rt (t:T)|bk|ct
abbrev FS:=S->Res (Out×S)
abbrev Fn:=FR->FX->Res (T×FX)
def VH:T->T->FV
 |.int i,.int j=>U<|.int<|i+j
 |.str a,.str b=>gd (Mo a+Mo b<=1000000)<|.str<|a++b
 |.lst a,.lst b=>gd (Mo a+Mo b<=1000000)<|.lst<|a++b
 |_,_=>Y
def VI:T->T->FV
 |.int i,.int j=>U<|.int<|i-j
 |_,_=>Y
def VJ:T->T->FV
 |.int i,.int j=>gd (((-(2^64)<i/\i<2^64)\/(-(2^64)<j/\j<2^64))\/(i.natAbs.log2<2000000/\j.natAbs.log2<2000000))<|.int<|i*j
 |.lst a,.int k=>gd (k<1000000/\-1000000<k/\a.length*k.toNat<=1000000)<|.lst (bL k.toNat a).flatten
 |.str a,.int k=>gd (2<=k/\k<1000000/\a≠[]/\a.length*k.toNat<=1000000)<|.str (bL k.toNat a).flatten
 |_,_=>Y
def VL:T->T->FV
 |.int i,.int j=>gd (0<j/\j<1073741824)<|.int<|i/j
 |_,_=>Y
def VM:T->T->FV
 |.int i,.int j=>gd (0<j)<|.int<|i % j
 |_,_=>Y
def VN:T->T->FV
 |.int i,.int j=>gd (0<=j/\j<=1000000/\i.natAbs<2^64)<|.int<|i^j.toNat
 |_,_=>Y
def jP:T->FV
 |.int i=>U<|.int<|-i
 |_=>Y
def FH(f:Int->Int->Bool):T->T->FV
 |.int i,.int j=>U<|.bl<|f i j
 |_,_=>Y
mutual
def eqT:T->T->Bool
 |.non,.non=>O
 |.bl a,.bl b=>a == b
 |.int a,.int b=>decide<|a=b
 |.bl a,.int b=>decide<|(if a then 1 else 0:Int)=b
 |.int a,.bl b=>decide<|a=(if b then 1 else 0:Int)
 |.str a,.str b=>decide<|a=b
 |.tup a,.tup b=>j8 a b
 |.lst a,.lst b=>j8 a b
 |.scr a,.scr b=>decide<|a=b
 |.obj c a,.obj d b=>decide (c=d)&&j8 a b
 |.own a,.own b=>decide<|a=b
 |.kC ks a,.kC ls b=>decide (ks=ls)&&j8 a b
 |_,_=>Zc
def j8:FR->FR->Bool
 |[],[]=>O
 |a::as,b::bs=>eqT a b&&j8 as bs
 |_,_=>Zc
end
mutual
theorem oO:∀t:T,eqT t t=O
 |.non=>J
 |.bl b=>by cases b<;>rfl
 |.int i=>c4 J
 |.str l=>c4 J
 |.tup xs=>ic xs
 |.lst xs=>ic xs
 |.scr ns=>c4 J
 |.obj c xs=>by
  show(decide (c=c)&&j8 xs xs)=O;rw[c4 J,ic xs];rfl
 |.own k=>c4 J
 |.kC ks xs=>by
  show(decide (ks=ks)&&j8 xs xs)=O;rw[c4 J,ic xs];rfl
theorem ic:∀ts:FR,j8 ts ts=O
 |[]=>J
 |t::ts=>by
  show(eqT t t&&j8 ts ts)=O;rw[oO t,ic ts];rfl
end
def cJ:T->Bool
 |.bl _=>O
 |.int _=>O
 |.str _=>O
 |.non=>O
 |_=>Zc
def all2(p:T->T->Bool):FR->FR->Bool
 |a::as,b::bs=>p a b&&all2 p as bs
 |_,_=>O
def shape:Nat->T->T->Bool
 |_+1,.lst as,.lst bs=>all2 (λa b=>cJ a&&cJ b) as bs
 |_+1,.tup as,.tup bs=>all2 (λa b=>cJ a&&cJ b) as bs
 |_,a,b=>cJ a&&cJ b
def eqD:T->T->FV:=λa b=>gd (shape 5 a b=O)<|.bl<|eqT a b
def neD:T->T->FV:=λa b=>gd (shape 5 a b=O)<|.bl<|!eqT a b
def FI:T->Bool
 |.non=>O
 |_=>Zc
def VO(p:Bool)(x y:T):FV:=match y with
 |.non=>U<|.bl<|p == FI x
 |.bl b=>(match x with
  |.bl a=>U<|.bl<|p == (a == b)
  |_=>Y)
 |_=>Y
def kD:B1->B1->Bool
 |[c],l=>decide<|c∈l
 |x,l=>(cK<|l.length+1).any λi=>decide (i+Mo x<=Mo l)&&((l.drop i).take x.length == x)
def TL(x y:T):Option Bool:=match y with
 |.str l=>(match x with
  |.str x=>U<|kD x l
  |_=>Y)
 |.tup a=>gd (cJ x=O/\a.all cJ=O)<|a.any λy=>eqT y x
 |.lst a=>gd (cJ x=O/\a.all cJ=O)<|a.any λy=>eqT y x
 |_=>Y
def inD:T->T->FV:=λx y=>(TL x y).map .bl
def Qe:T->T->FV:=λx y=>(TL x y).map λb=>.bl<|!b
def atT{α:Type}(xs:List α)(i:Int):Option α:=if 0<=i then(if i<Mo xs then xs[i.toNat]? else Y)else if -(Mo xs:Int)<=i then xs[(i+Mo xs).toNat]? else Y
def i9(ks:List Ky)(vs:FR)(k:Ky):FV:=match ks,vs with
 |a::ks,v::vs=>if a=k then U v else i9 ks vs k
 |_,_=>Y
def putK:List Ky->FR->Ky->T->List Ky×FR
 |a::ks,v::vs,k,t=>if a=k then(a::ks,t::vs)else let p:=putK ks vs k t;(a::p.1,v::p.2)
 |_,_,k,t=>([k],[t])
def kR:T->Option Ky
 |.int i=>U<|.i i
 |.str l=>U<|.s l
 |_=>Y
def Au:T->T->FV
 |.lst a,.int i=>atT a i
 |.tup a,.int i=>atT a i
 |.str l,.int i=>(atT l i).map λc=>.str [c]
 |.scr ns,.int i=>(atT ns i).map .int
 |.kC d b,x=>(kR x).bind<|i9 d b
 |_,_=>Y
def FJ:T->FV
 |.str l=>U<|.int l.length
 |.tup a=>U<|.int a.length
 |.lst a=>U<|.int a.length
 |.scr ns=>U<|.int ns.length
 |.kC b _=>U<|.int b.length
 |_=>Y
def ia(n d:Nat):D2->Nat
 |none=>d
 |some v=>if v<0 then(v+(n:Int)).toNat else min v.toNat n
def bW{α:Type}(xs:List α)(lo a:D2):List α:=(xs.drop<|ia xs.length 0 lo).take<|ia xs.length xs.length a-ia xs.length 0 lo
def Ja(lo a:D2):T->FV
 |.str l=>U<|.str<|bW l lo a
 |.lst l=>U<|.lst<|bW l lo a
 |.scr ns=>U<|.lst<|(bW ns lo a).map .int
 |_=>Y
def J1:T->Option Bool
 |.bl b=>U b
 |.lst ts=>U<|!ts.isEmpty
 |_=>Y
def strsOf:FR->Option Ap
 |[]=>U []
 |.str l::ts=>(strsOf ts).map (l::·)
 |_=>Y
def gp(c:B1):Ap->B1
 |[]=>[]
 |[a]=>a
 |a::b::r=>a++c++gp c (b::r)
def Av:T->T->FV
 |.str a,.lst ts=>(strsOf ts).bind λb=>gd ((b.map (·.length)).sum+Mo b*Mo a<=1000000)<|.str<|gp a b
 |_,_=>Y
def pre(s l:B1):Bool:=decide (Mo s<=Mo l)&&(l.take s.length == s)
def Qf(s l:B1):Bool:=decide (Mo s<=Mo l)&&(l.drop (Mo l-Mo s) == s)
def boolsOf:FR->Option Fh
 |[]=>U []
 |.bl b::ts=>(boolsOf ts).map (b::·)
 |_=>Y
def J2:T->FV
 |.lst ts=>(boolsOf ts).map λbs=>.bl<|bs.all id
 |_=>Y
def FN:T->FV
 |.lst ts=>(boolsOf ts).map λbs=>.bl<|bs.any id
 |_=>Y
def NT:T->FV
 |.lst a=>U<|.lst a
 |.tup a=>U<|.lst a
 |_=>Y
def aX:FE:=λ_=>.bad
def cF(t:T):FE:=λs=>.ok (t,s)
def jF(s:S)(i:Nat)(c:C):S:={s with r:=s.r.set i (U c)}
def vF(i:Nat):FE:=λs=>match s.r[i]? with
 |U<|U<|.val t=>.ok (t,s)
 |U<|U<|.ol ts=>.ok (.lst ts,jF s i<|.val<|.lst ts)
 |U<|U<|.od ks ts=>.ok (.kC ks ts,jF s i<|.val<|.kC ks ts)
 |_=>.bad
def dX(g:T->FV)(a:FE):FE:=λs=>(a s).bind λp=>(aZ<|g p.1).bind λt=>.ok (t,p.2)
def bX(g:T->T->FV)(a b:FE):FE:=λs=>(a s).bind λp=>(b p.2).bind λq=>(aZ<|g p.1 q.1).bind λt=>.ok (t,q.2)
def aY:FL:=λs=>.ok ([],s)
def bw(a:FE)(r:FL):FL:=λs=>(a s).bind λp=>(r p.2).bind λq=>.ok (p.1::q.1,q.2)
def fG:FL:=λ_=>.bad
def bV(g:FR->FV)(a:FL):FE:=λs=>(a s).bind λp=>(aZ<|g p.1).bind λt=>.ok (t,p.2)
def fU(ts:FR):FV:=gd (Mo ts<=1000)<|.tup ts
def eG(ts:FR):FV:=gd (Mo ts<=1000)<|.lst ts
def qD:FT:=λ_=>.bad
def tB(a:FE):FT:=λs=>(a s).bind λp=>(aZ<|J1 p.1).bind λb=>.ok (b,p.2)
def i_(a b:FT):FT:=λs=>(a s).bind λp=>if p.1 then b p.2 else .ok (Zc,p.2)
def yn(a b:FT):FT:=λs=>(a s).bind λp=>if p.1 then .ok (O,p.2)else b p.2
def dZ(a:FT):FT:=λs=>(a s).bind λp=>.ok (!p.1,p.2)
def ie:FT:=λs=>.ok (O,s)
def TM:T->Option Bool
 |.bl b=>U b
 |_=>Y
def nj(a b:FE):FE:=λs=>(a s).bind λp=>(aZ<|TM p.1).bind λk=>if k then b p.2 else .ok (.bl Zc,p.2)
def vI(a:FE):FE:=λs=>(a s).bind λp=>(aZ<|TM p.1).bind λk=>.ok (.bl<|!k,p.2)
def FP(c:FT)(a b:FE):FE:=λs=>(c s).bind λp=>if p.1 then a p.2 else b p.2
abbrev FO:=S->Res (D2×S)
def xN:FO:=λs=>.ok (Y,s)
def VP:T->D2
 |.int i=>U i
 |_=>Y
def nK(a:FE):FO:=λs=>(a s).bind λp=>(aZ<|VP p.1).bind λi=>.ok (U i,p.2)
def rj(a:FE)(lo b:FO):FE:=λs=>(a s).bind λp=>(lo p.2).bind λq=>(b q.2).bind λz=>(aZ<|Ja q.1 z.1 p.1).bind λt=>.ok (t,z.2)
def oQ:Option (Option C)->FK
 |U<|U<|.ol ts=>U ts
 |_=>Y
def nk(i:Nat)(b:FE):FE:=λs=>(aZ<|oQ s.r[i]?).bind λ_=>(b s).bind λp=>(aZ<|oQ p.2.r[i]?).bind λts=>(aZ<|Au (.lst ts) p.1).bind λt=>.ok (t,p.2)
def jm(tab:Ap)(c f:Nat):Option Nat:=(tab[c]?).bind λns=>ns.idxOf? f
def aE(tab:Ap)(f:Nat)(a:FE):FE:=λs=>(a s).bind λp=>match p.1 with
 |.obj c fs=>(aZ<|(jm tab c f).bind λj=>fs[j]?).bind λt=>.ok (t,p.2)
 |.own k=>(aZ<|(p.2.m[k]?).bind λob=>(jm tab ob.c f).bind λj=>ob.fs[j]?).bind λc=>(match c with
  |.val t=>.ok (t,p.2)
  |_=>.bad)
 |_=>.bad
def gq(c n:Nat)(fl:FL):FE:=λs=>(fl s).bind λp=>if Mo p.1=n then .ok (.obj c p.1,p.2)else .bad
def oS(c:Nat)(g:Fn)(fl:FL):FE:=λs=>(fl s).bind λp=>match g (.own p.2.m.length::p.1) (p.2.m++[⟨c,[]⟩])with
 |.ok (.non,b)=>.ok (.own p.2.m.length,{p.2 with m:=b})
 |.exc c fs a=>.exc c fs {p.2 with m:=a.m}
 |_=>.bad
def Qg(c:Nat):T->FV
 |.lst ts=>U<|.obj c [.lst ts]
 |_=>Y
def aB(g:Fn)(ds:FR)(fl:FL):FE:=λs=>(fl s).bind λp=>match g (p.1++ds) p.2.m with
 |.ok q=>.ok (q.1,{p.2 with m:=q.2})
 |.bad=>.bad
 |.exc c fs a=>.exc c fs {p.2 with m:=a.m}
def aA(g:Nat->Option Fn)(o:FE)(fl:FL):FE:=λs=>(o s).bind λp=>match p.1 with
 |.own k=>(aZ<|(p.2.m[k]?).bind λob=>g ob.c).bind λh=>aB h [] (λs=>(fl s).bind λq=>.ok (.own k::q.1,q.2)) p.2
 |.obj c fs=>(aZ<|g c).bind λh=>aB h [] (λs=>(fl s).bind λq=>.ok (.obj c fs::q.1,q.2)) p.2
 |_=>.bad
def Zh:T->FK
 |.lst ts=>U ts
 |.tup ts=>U ts
 |.str l=>U<|l.map λc=>.str [c]
 |.scr ns=>U<|ns.map .int
 |_=>Y
def oU(a:FE):FL:=λs=>(a s).bind λp=>(aZ<|Zh p.1).bind λts=>.ok (ts,p.2)
def mz(lo:Int)(n:Nat):FR:=(cK n).map λk=>.int<|lo+(k:Nat)
def oV:FR->FK
 |[.int j]=>gd (j<1000000/\-1000000<j)<|mz 0 j.toNat
 |[.int i,.int j]=>gd (i<1000000/\-1000000<i/\j<1000000/\-1000000<j)<|mz i (j-i).toNat
 |[.int i,.int j,.int k]=>gd (k=-1/\i<1000000/\-1000000<i/\j<1000000/\-1000000<j)<|(cK (i-j).toNat).map λk=>.int<|i-(k:Nat)
 |_=>Y
def C3(g:FR->FK)(a:FL):FL:=λs=>(a s).bind λp=>(aZ<|g p.1).bind λts=>.ok (ts,p.2)
def gu:Int->FR->FR
 |_,[]=>[]
 |n,t::ts=>.tup [.int n,t]::gu (n+1) ts
def VQ(n:Int):T->FK
 |.lst ts=>U<|gu n ts
 |_=>Y
def jn(n:Int)(a:FE):FL:=λs=>(a s).bind λp=>(aZ<|VQ n p.1).bind λts=>.ok (ts,p.2)
abbrev FG:=T->Fs->Option Fs
def setG(i:Nat):FG:=λt r=>U<|r.set i<|U<|.val t
def Aw:B1->FR->Fs->Option Fs
 |[],[],r=>U r
 |i::is,t::ts,r=>Aw is ts<|r.set i<|U<|.val t
 |_,_,_=>Y
def eS(is:B1):FG:=λt r=>match t with
 |.tup ts=>Aw is ts r
 |_=>Y
def J3(r:Fs)(j:Nat):Fs:=match r[j]? with
 |U<|U<|.ol ts=>r.set j<|U<|.val<|.lst ts
 |_=>r
def j9:B1->Fs->Fs
 |[],r=>r
 |j::js,r=>j9 js<|J3 r j
def jq(k:Nat)(js:B1)(r:Fs):Fs:=bL k Y++js.map λj=>match r[j]? with
 |U<|U<|.val t=>U<|.val t
 |_=>Y
def c_(g:FG)(c:FT)(e:FE)(b:Fs):FR->FX->Res (FR×FX)
 |[],m=>.ok ([],m)
 |t::ts,m=>(aZ<|g t b).bind λb1=>(c ⟨b1,m⟩).bind λp=>if p.1 then(e p.2).bind λq=>(c_ g c e b ts q.2.m).bind λz=>.ok (q.1::z.1,z.2)else c_ g c e b ts p.2.m
def dI(src:FL)(k:Nat)(js:B1)(g:FG)(c:FT)(e:FE):FL:=λs=>(src s).bind λp=>if Mo p.1<=1000000 then
  (c_ g c e (jq k js<|j9 js p.2.r) p.1 p.2.m).bind λq=>.ok (q.1,⟨j9 js p.2.r,q.2⟩)else .bad
def gx(fl:FL):FE:=λs=>(fl s).bind λp=>.ok (.lst p.1,p.2)
def aG:FS:=λs=>.ok (.nx,s)
def c6:FS:=λ_=>.bad
def ah(a b:FS):FS:=λs=>(a s).bind λp=>match p.1 with
 |.nx=>b p.2
 |o=>.ok (o,p.2)
def aH(i:Nat)(a:FE):FS:=λs=>(a s).bind λp=>.ok (.nx,jF p.2 i<|.val p.1)
def jQ(i:Nat)(a:FL):FS:=λs=>(a s).bind λp=>.ok (.nx,jF p.2 i<|.ol p.1)
def yo(g:FG)(a:FE):FS:=λs=>(a s).bind λp=>(aZ<|g p.1 p.2.r).bind λr=>.ok (.nx,{p.2 with r:=r})
def aD(a:FE):FS:=λs=>(a s).bind λp=>.ok (.rt p.1,p.2)
def aP(a:FE):FS:=λs=>(a s).bind λp=>.ok (.nx,p.2)
def aV(c:FT)(a b:FS):FS:=λs=>(c s).bind λp=>if p.1 then a p.2 else b p.2
def ja(i:Nat)(a:FE):FS:=λs=>(aZ<|oQ s.r[i]?).bind λ_=>(a s).bind λp=>(aZ<|oQ p.2.r[i]?).bind λts=>(aZ<|gd (Mo ts<1000000) ts).bind λts=>.ok (.nx,jF p.2 i<|.ol<|ts++[p.1])
def dP(i:Nat)(b a:FE):FS:=λs=>(a s).bind λp=>(aZ<|oQ p.2.r[i]?).bind λ_=>(b p.2).bind λq=>(aZ<|oQ q.2.r[i]?).bind λts=>(aZ<|VP q.1).bind λj=>(aZ<|gd (0<=j/\j<Mo ts)<|ts.set j.toNat p.1).bind λc=>.ok (.nx,jF q.2 i<|.ol c)
def FQ(g:T->T->FV)(i:Nat)(a:FE):FS:=λs=>match s.r[i]? with
 |U<|U<|.val x=>(a s).bind λp=>(aZ<|g x p.1).bind λt=>.ok (.nx,jF p.2 i<|.val t)
 |_=>.bad
def setAt(fs:List C)(j:Nat)(c:C):Option<|List C:=if j<Mo fs then U (fs.set j c)else if j=Mo fs then U (fs++[c])else Y
def dg(tab:Ap)(f:Nat)(c:C)(ob:Ob):Option Ob:=(jm tab ob.c f).bind λj=>(setAt ob.fs j c).map λfs=>⟨ob.c,fs⟩
def aJ(tab:Ap)(f:Nat)(o a:FE):FS:=λs=>(a s).bind λp=>(o p.2).bind λq=>match q.1 with
 |.own k=>(aZ<|(q.2.m[k]?).bind<|dg tab f<|.val p.1).bind λob=>.ok (.nx,{q.2 with m:=q.2.m.set k ob})
 |_=>.bad
def bH(g:FG)(b:FS):FR->FS
 |[],s=>.ok (.nx,s)
 |t::ts,s=>(aZ<|g t s.r).bind λr=>(b ⟨r,s.m⟩).bind λp=>match p.1 with
  |.nx=>bH g b ts p.2
  |.ct=>bH g b ts p.2
  |.bk=>.ok (.nx,p.2)
  |.rt t=>.ok (.rt t,p.2)
def gU(src:FL)(g:FG)(b:FS):FS:=λs=>(src s).bind λp=>bH g b p.1 p.2
def aO(c:FT)(b:FS):Nat->FS
 |0,_=>.bad
 |n+1,s=>(c s).bind λp=>if p.1 then(b p.2).bind λq=>(match q.1 with
  |.nx=>aO c b n q.2
  |.ct=>aO c b n q.2
  |.bk=>.ok (.nx,q.2)
  |.rt t=>.ok (.rt t,q.2))else .ok (.nx,p.2)
def dQ(n:Nat)(c:FT)(b:FS):FS:=aO c b n
def kT(c:Nat)(fl:FL):FE:=λs=>(fl s).bind λp=>.ok (.own p.2.m.length,{p.2 with m:=p.2.m++[⟨c,[.ol p.1]⟩]})
def aI(a n:Nat)(b:FS):Fn:=λts m=>if Mo ts=a then(b ⟨ts.map (λt=>U<|.val t)++bL (n-Mo ts) Y,m⟩).bind λp=>match p.1 with
 |.rt t=>.ok (t,p.2.m)
 |.nx=>.ok (.non,p.2.m)
 |_=>.bad else .bad
mutual
def noOwn:T->Bool
 |.own _=>Zc
 |.tup xs=>aQ xs
 |.lst xs=>aQ xs
 |.obj _ xs=>aQ xs
 |.kC _ xs=>aQ xs
 |_=>O
def aQ:FR->Bool
 |[]=>O
 |t::ts=>noOwn t&&aQ ts
end
def aU(g:Fn):Fn:=λts m=>if aQ ts=O then(match g ts []with
 |.ok q=>if noOwn q.1=O then .ok (q.1,m)else .bad
 |.bad=>.bad
 |.exc c fs s=>if aQ fs=O then .exc c fs ⟨s.r,m⟩else .bad)else .bad
end D
namespace D
open PySem L2
abbrev SV(l:B1):V:=.str ⟨l.toArray⟩
structure KT where
 K:bq
 P:dn
 w:dv
 cn:Bi
 fn:List Bi
def ig(B:KT)(c:Nat)(C:bt)(ns:Bi):Prop:=∃n,B.cn[c]?=U n/\B.fn[c]?=U ns/\ns.Nodup/\mS B.K eP n=U (U<|.ref C)
def ig.eq{C j:bt}(h:ig B c C ns)(h':ig B c j i):C=j/\ns=i:=by
 obtain⟨n,a,b,_,d⟩:=h;obtain⟨k,g,f,_,e⟩:=h';rw[a]at g;cases g;rw[b]at f;cases f;rw[d]at e;cases e;exact⟨J,J⟩
def kU:Ky->Key
 |.i n=>.inl n
 |.s l=>.inr ⟨l.toArray⟩
inductive j_ where
 |loc (i:Nat)|ob (k:Nat)|fld (k j:Nat)
 deriving DecidableEq
structure G where
 HF:Hp
 o:bt->Option j_
 al:BM
mutual
def Rep(B:KT)(al:BM)(H:Hp):T->V->Prop
 |.non,v=>v=.non
 |.bl b,v=>v=.bl b
 |.int i,v=>v=.int i
 |.str l,v=>v=SV l/\l.length<=1000000
 |.tup ts,v=>∃a vs,v=.ref a/\mC B.K H a vs/\aC B al H ts vs
 |.lst ts,v=>∃a vs,v=.ref a/\H a=U (.lst vs)/\aC B al H ts vs
 |.scr ns,v=>∃a,v=.ref a/\dm B.K H a (ns.map V.int)
 |.obj c ts,v=>∃a C dx ns vs,v=.ref a/\ig B c C ns/\H a=U (.ins C dx<|ns.zip vs)/\vs.length<=Mo ns/\H dx=U (.own a)/\aC B al H ts vs
 |.own k,v=>∃a,v=.ref a/\al[k]?=U a
 |.kC ks ts,v=>∃a vs,v=.ref a/\H a=U (.dK<|(ks.map kU).zip vs)/\ks.length=Mo vs/\aC B al H ts vs
def aC(B:KT)(al:BM)(H:Hp):FR->List V->Prop
 |[],vs=>vs=[]
 |t::ts,vs=>∃v r,vs=v::r/\Rep B al H t v/\aC B al H ts r
end
def c7(s:aM H H')(q:mC K H a xs):mC K H' a xs:=by
 rcases q with(q|⟨o,q⟩)|q
 .exact .inl<|.inl<|s _ _ q
 .exact .inl<|.inr ⟨o,s _ _ q⟩
 .exact .inr q
def ez{α:Type}{l m:List α}(p:l <+: m){k:Nat}{a:α}(h:l[k]?=U a):m[k]?=U a:=by
 obtain⟨r,rfl⟩:=p;rw[gY (bK.mp h).1];exact h
variable{X:Cx}{a b c e:cw}{Z fb z:FE}{g g':G}{H H':Hp}{B:KT}{p pos:Pos}{s s':S}{W:St}
variable{al j:BM}{HF F:Hp}
mutual
theorem Rep.mv(p:al <+: j)(s:aM H H'):∀{t:T}{v:V},Rep B al H t v->Rep B j H' t v
 |.non,_,h=>h
 |.bl _,_,h=>h
 |.int _,_,h=>h
 |.str _,_,h=>h
 |.tup ts,_,h=>by
  obtain⟨a,vs,e,q,r⟩:=h;exact⟨a,vs,e,c7 s q,aC.mv p s r⟩
 |.lst ts,_,h=>by
  obtain⟨a,vs,e,q,r⟩:=h;exact⟨a,vs,e,s _ _ q,aC.mv p s r⟩
 |.scr ns,_,h=>by
  obtain⟨a,e,q⟩:=h;exact⟨a,e,s.seq q⟩
 |.obj c ts,_,h=>by
  obtain⟨a,C,dx,ns,vs,e,z,q,l,q2,r⟩:=h;exact⟨a,C,dx,ns,vs,e,z,s _ _ q,l,s _ _ q2,aC.mv p s r⟩
 |.own k,_,h=>by
  obtain⟨a,e,q⟩:=h;exact⟨a,e,ez p q⟩
 |.kC ks ts,_,h=>by
  obtain⟨a,vs,e,q,l,r⟩:=h;exact⟨a,vs,e,s _ _ q,l,aC.mv p s r⟩
theorem aC.mv(p:al <+: j)(s:aM H H'):∀{ts:FR}{vs:List V},aC B al H ts vs->aC B j H' ts vs
 |[],_,h=>h
 |t::ts,_,h=>by
  obtain⟨v,r,e,h1,h2⟩:=h;exact⟨v,r,e,Rep.mv p s h1,aC.mv p s h2⟩
end
def Rep.same(s:aM H H')(h:Rep B al H t v):Rep B al H' t v:=h.mv fD s
def aC.same(s:aM H H')(h:aC B al H t v):aC B al H' t v:=h.mv fD s
theorem aC.len:∀{ts:FR}{vs:List V},aC B al H ts vs->Mo ts=Mo vs
 |[],_,h=>by cases(show _=[]from h);rfl
 |t::ts,_,h=>by
  obtain⟨v,r,rfl,_,a⟩:=h;simp[aC.len a]
theorem aC.get:∀{ts:FR}{vs:List V},aC B al H ts vs->∀{i:Nat}{t:T},ts[i]?=U t->∃v,vs[i]?=U v/\Rep B al H t v
 |[],_,_,_,_,e=>by simp at e
 |t::ts,_,h,0,_,e=>by
  obtain⟨v,r,rfl,c,_⟩:=h;simp at e;subst e;exact⟨v,J,c⟩
 |t::ts,_,h,i+1,_,e=>by
  obtain⟨v,r,rfl,_,b⟩:=h;obtain⟨a,f,d⟩:=aC.get b (i:=i) (by simpa using e)
  exact⟨a,by simpa using f,d⟩
theorem aC.yq:∀{ts:FR}{vs:List V},aC B al H ts vs->∀{i:Nat}{v:V},vs[i]?=U v->∃t,ts[i]?=U t/\Rep B al H t v
 |[],_,h,_,_,e=>by have h:_=[]:=h;subst h;simp at e
 |t::ts,_,h,0,_,e=>by
  obtain⟨v,r,rfl,c,_⟩:=h;simp at e;subst e;exact⟨t,J,c⟩
 |t::ts,_,h,i+1,_,e=>by
  obtain⟨v,r,rfl,_,b⟩:=h;obtain⟨a,f,d⟩:=aC.yq b (i:=i) (by simpa using e)
  exact⟨a,by simpa using f,d⟩
theorem aC.app:∀{ts us:FR}{vs b:List V},aC B al H ts vs->aC B al H us b->aC B al H (ts++us) (vs++b)
 |[],_,_,_,h,a=>by have h:_=[]:=h;subst h;exact a
 |t::ts,_,_,_,h,a=>by
  obtain⟨v,r,rfl,d,c⟩:=h;exact⟨v,_,J,d,c.app a⟩
theorem aC.drop:∀{ts:FR}{vs:List V}(n:Nat),aC B al H ts vs->aC B al H (ts.drop n) (vs.drop n)
 |ts,vs,0,h=>by simpa using h
 |[],_,n+1,h=>by have h:_=[]:=h;subst h;rfl
 |t::ts,_,n+1,h=>by
  obtain⟨v,r,rfl,_,a⟩:=h;simpa using a.drop n
theorem aC.take:∀{ts:FR}{vs:List V}(n:Nat),aC B al H ts vs->aC B al H (ts.take n) (vs.take n)
 |ts,vs,0,h=>by simp[aC]
 |[],_,n+1,h=>by have h:_=[]:=h;subst h;rfl
 |t::ts,_,n+1,h=>by
  obtain⟨v,r,rfl,b,a⟩:=h;exact⟨v,r.take n,J,b,a.take n⟩
theorem aC.set(q:Rep B al H t v):∀{ts:FR}{vs:List V}(n:Nat),aC B al H ts vs->aC B al H (ts.set n t) (vs.set n v)
 |[],_,n,h=>by have h:_=[]:=h;subst h;rfl
 |_::ts,_,0,h=>by
  obtain⟨w,r,rfl,b,a⟩:=h;exact⟨v,r,J,q,a⟩
 |u::ts,_,n+1,h=>by
  obtain⟨w,r,rfl,b,a⟩:=h;exact⟨w,r.set n v,J,b,a.set q n⟩
theorem aC.flat(h:aC B al H ts vs):∀n:Nat,aC B al H (bL n ts).flatten (bL n vs).flatten
 |0=>J
 |n+1=>by
  rw[rP,rP,rQ,rQ];exact h.app<|h.flat n
def aC.one(q:Rep B al H t v):aC B al H [t] [v]:=⟨v,[],J,q,J⟩
theorem aC.ints:∀ns:Dx,aC B al H (ns.map T.int)<|ns.map V.int
 |[]=>J
 |n::ns=>⟨_,_,J,J,aC.ints ns⟩
theorem aC.signs:∀l:B1,aC B al H (l.map λc=>T.str [c])<|l.map λc=>V.str ⟨#[c]⟩
 |[]=>J
 |c::l=>⟨_,_,J,⟨J,by simp⟩,aC.signs l⟩
mutual
theorem Rep.no:∀{t:T}{v:V},noOwn t=O->Rep B al H t v->Rep B j H t v
 |.non,_,_,h=>h
 |.bl _,_,_,h=>h
 |.int _,_,_,h=>h
 |.str _,_,_,h=>h
 |.tup ts,_,n,h=>by
  obtain⟨a,vs,e,q,r⟩:=h;exact⟨a,vs,e,q,aC.no n r⟩
 |.lst ts,_,n,h=>by
  obtain⟨a,vs,e,q,r⟩:=h;exact⟨a,vs,e,q,aC.no n r⟩
 |.scr ns,_,_,h=>h
 |.obj c ts,_,n,h=>by
  obtain⟨a,C,dx,ns,vs,e,z,q,l,q2,r⟩:=h;exact⟨a,C,dx,ns,vs,e,z,q,l,q2,aC.no n r⟩
 |.own k,_,n,h=>by cases n
 |.kC ks ts,_,n,h=>by
  obtain⟨a,vs,e,q,l,r⟩:=h;exact⟨a,vs,e,q,l,aC.no n r⟩
theorem aC.no:∀{ts:FR}{vs:List V},aQ ts=O->aC B al H ts vs->aC B j H ts vs
 |[],_,_,h=>h
 |t::ts,_,n,h=>by
  obtain⟨v,r,e,h1,h2⟩:=h;have n:(noOwn t&&aQ ts)=O:=n;rw[cL]at n;exact⟨v,r,e,Rep.no n.1 h1,aC.no n.2 h2⟩
end
structure Gr(HF H F H':Hp):Prop where
 fr:aM HF F
 sub:aM F H'
 rest:∀b o,H b=U o->HF b=Y->H' b=U o/\F b=Y
theorem Gr.refl(s:aM HF H):Gr HF H HF H:=⟨aM.refl _,s,λ_ _ h n=>⟨h,n⟩⟩
theorem Gr.trans{HF H e H1 d f:Hp}(a:Gr HF H e H1)(b:Gr e H1 d f):Gr HF H d f:=
 ⟨a.fr.trans b.fr,b.sub,λc o h n=>let⟨h1,n1⟩:=a.rest c o h n;b.rest c o h1 n1⟩
def Gr.same(s:aM HF H)(a:Gr HF H F H'):aM H H':=λb o h=>by
 cases e:HF b with
 |none=>exact(a.rest b o h e).1
 |some u=>
  have:=s b u e
  rw[h]at this;cases this;exact a.sub _ _<|a.fr _ _ e
def aT{p:bt}(h:H p=Y):aM H<|upd H p o:=λb u e=>by rw[ak<|aK e h];exact e
def Gr.new(s:aM HF H){p:bt}(h:H p=Y):Gr HF H (upd HF p o)<|upd H p o:=by
 have c:HF p=Y:=s.free h;refine⟨aT c,λb u e=>?_,λb u e n=>?_⟩
 .by_cases a:b=p
  .subst a;rw[ai]at e ⊢;exact e
  .rw[ak a]at e ⊢;exact s _ _ e
 .have a:b≠p:=aK e h
  rw[ak a,ak a];exact⟨e,n⟩
def Gr.iM(s:aM HF H){p:bt}(h:H p=Y):Gr HF H HF<|upd H p o:=
 ⟨aM.refl _,s.trans<|aT h,λb u e n=>⟨aT h _ _ e,n⟩⟩
def bz(B:KT)(g:G)(H:Hp)(p:j_):C->V->Prop
 |.val t,v=>Rep B g.al g.HF t v
 |.ol ts,v=>∃l a,v=.ref l/\g.o l=U p/\H l=U (.lst a)/\aC B g.al g.HF ts a
 |.od c ts,v=>∃l a,v=.ref l/\g.o l=U p/\H l=U (.dK<|(c.map kU).zip a)/\c.length=Mo a/\aC B g.al g.HF ts a
 |.yg t,v=>∃d:Hp,(∀b u,d b=U u->g.o b=U p/\H b=U u)/\Rep B [] d t v
structure DJ(B:KT)(g:G)(H:Hp)(k:Nat)(ob:Ob)(a C dx:bt)(ns:Bi)(vs:List V):Prop where
 al:g.al[k]?=U a
 o:g.o a=U (.ob k)
 cl:ig B ob.c C ns
 h:H a=U (.ins C dx<|ns.zip vs)
 le:Mo vs<=Mo ns
 ln:Mo vs=Mo ob.fs
 f:∀j c,ob.fs[j]?=U c->∃v,vs[j]?=U v/\bz B g H (.fld k j) c v
structure Zi(B:KT)(g:G)(H:Hp)(k:Nat)(ob:Ob)(a:bt):Prop where
 al:g.al[k]?=U a
 nc:B.cn[ob.c]?=Y
 nf:B.fn[ob.c]?=Y
 f:∀c,ob.fs=[c]->bz B g H (.ob k) c (.ref a)
def Qh(B:KT)(g:G)(H:Hp)(k:Nat)(ob:Ob):Prop:=(∃a C c ns b,DJ B g H k ob a C c ns b)\/∃a,Zi B g H k ob a
structure d_(B:KT)(g:G)(H:Hp)(m:FX):Prop where
 sub:aM g.HF H
 live:∀b p,g.o b=U p->g.HF b=Y/\∃u,H b=U u
 len:Mo m=Mo g.al
 at_:∀k ob,m[k]?=U ob->Qh B g H k ob
structure oW(B:KT)(g:G)(H:Hp)(W:St)(r:Fs):Prop where
 len:Mo r=Mo W
 at_:∀i c,r[i]?=U (U c)->∃v,W[i]?=U (U v)/\bz B g H (.loc i) c v
structure SR(B:KT)(g:G)(H:Hp)(W:St)(s:S):Prop where
 st:d_ B g H s.m
 lc:oW B g H W s.r
structure dB(g:G)(H:Hp)(g':G)(H':Hp):Prop where
 fr:aM g.HF g'.HF
 pre:g.al <+: g'.al
 rest:∀b u,H b=U u->g.HF b=Y->g.o b=Y->H' b=U u/\g'.HF b=Y/\g'.o b=Y
 there:∀b,H' b=Y->H b=Y
variable{g1 g2:G}{H1 S:Hp}
theorem dB.refl:dB g H g H:=⟨aM.refl _,fD,λ_ _ h n o=>⟨h,n,o⟩,λ_ h=>h⟩
theorem dB.trans(a:dB g H g1 H1)(b:dB g1 H1 g2 S):dB g H g2 S:=
 ⟨a.fr.trans b.fr,a.pre.trans b.pre,λc u h n o=>let⟨h1,n1,o1⟩:=a.rest c u h n o;b.rest c u h1 n1 o1,λc h=>a.there c<|b.there c h⟩
abbrev G.grow(g:G)(F:Hp):G:={g with HF:=F}
theorem bz.grow(a:Gr g.HF H F H')(lv:∀b p,g.o b=U p->g.HF b=Y/\∃u,H b=U u){p:j_}:∀{c:C}{v:V},bz B g H p c v->bz B (g.grow F) H' p c v
 |.val t,v,h=>h.same a.fr
 |.ol ts,v,h=>by
  obtain⟨l,d,e,o,q,r⟩:=h;exact⟨l,d,e,o,(a.rest l _ q (lv l p o).1).1,r.same a.fr⟩
 |.od j ts,v,h=>by
  obtain⟨l,d,e,o,q,n,r⟩:=h;exact⟨l,d,e,o,(a.rest l _ q (lv l p o).1).1,n,r.same a.fr⟩
 |.yg t,v,h=>by
  obtain⟨i,f,r⟩:=h;exact⟨i,λb u e=>let⟨h2,h3⟩:=f b u e;⟨h2,(a.rest b u h3 (lv b p h2).1).1⟩,r⟩
theorem DJ.grow{a C dx:bt}(x:DJ B g H k ob a C dx ns vs)(d:Gr g.HF H F H')(lv:∀b p,g.o b=U p->g.HF b=Y/\∃u,H b=U u):DJ B (g.grow F) H' k ob a C dx ns vs:=
 ⟨x.al,x.o,x.cl,(d.rest _ _ x.h (lv _ _ x.o).1).1,x.le,x.ln,λj c e=>let⟨v,h1,h2⟩:=x.f j c e;⟨v,h1,h2.grow d lv⟩⟩
theorem Qh.grow(x:Qh B g H k ob)(d:Gr g.HF H F H')(lv:∀b p,g.o b=U p->g.HF b=Y/\∃u,H b=U u):Qh B (g.grow F) H' k ob:=by
 rcases x with⟨a,C,i,ns,h,y⟩|⟨a,y⟩
 .exact .inl ⟨a,C,i,ns,h,y.grow d lv⟩
 .exact .inr ⟨a,y.al,y.nc,y.nf,λc e=>(y.f c e).grow d lv⟩
theorem d_.grow(x:d_ B g H m)(a:Gr g.HF H F H'):d_ B (g.grow F) H' m:=
 ⟨a.sub,λb p e=>by
  obtain⟨h,u,f⟩:=x.live b p e;obtain⟨d,c⟩:=a.rest b u f h;exact⟨c,u,d⟩,x.len,λk ob e=>(x.at_ k ob e).grow a x.live⟩
theorem SR.grow(x:SR B g H W s)(a:Gr g.HF H F H'):SR B (g.grow F) H' W s:=
 ⟨x.st.grow a,x.lc.len,λi c e=>let⟨v,h1,h2⟩:=x.lc.at_ i c e;⟨v,h1,h2.grow a x.st.live⟩⟩
theorem SR.sub(x:SR B g H W s):aM g.HF H:=x.st.sub
theorem Gr.free(a:Gr HF H F H')(sm:aM HF H){b:bt}(h:H' b=Y):H b=Y:=(a.same sm).free h
def SR.gB(x:SR B g H W s)(a:Gr g.HF H F H'):dB g H (g.grow F) H':=
 ⟨a.fr,fD,λb u h n o=>let⟨h1,h2⟩:=a.rest b u h n;⟨h1,h2,o⟩,λb h=>a.free x.sub h⟩
variable{m:FX}
theorem bz.mv{p:j_}(fr:aM g.HF g'.HF)(pre:g.al <+: g'.al)(k:∀l,g.o l=U p->g'.o l=U p/\H' l=H l):∀{c:C}{v:V},bz B g H p c v->bz B g' H' p c v
 |.val t,v,h=>Rep.mv pre fr h
 |.ol ts,v,h=>by
  obtain⟨l,a,e,o,q,r⟩:=h;obtain⟨d,f⟩:=k l o;exact⟨l,a,e,d,f.trans q,r.mv pre fr⟩
 |.od m ts,v,h=>by
  obtain⟨l,a,e,o,q,n,r⟩:=h;obtain⟨d,f⟩:=k l o;exact⟨l,a,e,d,f.trans q,n,r.mv pre fr⟩
 |.yg t,v,h=>by
  obtain⟨j,i,r⟩:=h;exact⟨j,λb u e=>let⟨h2,h3⟩:=i b u e;let⟨h4,h5⟩:=k b h2;⟨h4,h5.trans h3⟩,r⟩
theorem DJ.mv{a C dx:bt}(x:DJ B g H k ob a C dx ns vs)(fr:aM g.HF g'.HF)(pre:g.al <+: g'.al)(kk:∀l p,g.o l=U p->(p=.ob k\/∃j,p=.fld k j)->g'.o l=U p/\H' l=H l):DJ B g' H' k ob a C dx ns vs:=by
 obtain⟨b,d⟩:=kk a _ x.o<|.inl J;exact⟨ez pre x.al,b,x.cl,d.trans x.h,x.le,x.ln,λj c e=>let⟨v,h1,h2⟩:=x.f j c e;⟨v,h1,h2.mv fr pre λl z=>kk l _ z<|.inr ⟨j,J⟩⟩⟩
theorem Qh.mv(x:Qh B g H k ob)(fr:aM g.HF g'.HF)(pre:g.al <+: g'.al)(kk:∀l p,g.o l=U p->(p=.ob k\/∃j,p=.fld k j)->g'.o l=U p/\H' l=H l):Qh B g' H' k ob:=by
 rcases x with⟨a,C,d,ns,b,y⟩|⟨a,y⟩
 .exact .inl ⟨a,C,d,ns,b,y.mv fr pre kk⟩
 .exact .inr ⟨a,ez pre y.al,y.nc,y.nf,λc e=>(y.f c e).mv fr pre λl z=>kk l _ z<|.inl J⟩
theorem d_.mv(x:d_ B g H m)(sub:aM g'.HF H')(live:∀b p,g'.o b=U p->g'.HF b=Y/\∃u,H' b=U u)(fr:aM g.HF g'.HF)(a:g'.al=g.al)(kk:∀l p,g.o l=U p->(∀i,p≠.loc i)->g'.o l=U p/\H' l=H l):d_ B g' H' m:=
 ⟨sub,live,by rw[a];exact x.len,λk ob e=>(x.at_ k ob e).mv fr (by rw[a];exact fD) λl p h q=>kk l p h (by
  rcases q with q|⟨j,q⟩
  .subst q;exact λi z=>by cases z
  .subst q;exact λi z=>by cases z)⟩
theorem oW.set{c:C}(x:oW B g H W r)(q:bz B g' H' (.loc i) c v)(kk:∀j c v,j≠i->bz B g H (.loc j) c v->bz B g' H' (.loc j) c v):oW B g' H' (W.set i<|U v)<|r.set i<|U c:=by
 refine⟨by rw[eT,eT];exact x.len,λj d h=>?_⟩
 by_cases hj:i=j
 .subst hj
  have a:i<Mo r:=by have:=(bK.mp h).1;rw[eT]at this;exact this
  rw[dG a]at h;cases h;exact⟨v,dG<|by rw[<- x.len];exact a,q⟩
 .rw[cW hj]at h
  obtain⟨w,e,b⟩:=x.at_ j d h;exact⟨w,by rw[cW hj];exact e,kk j d w (eL hj) b⟩
theorem SR.set(x:SR B g H W s)(r:Rep B g.al g.HF t v):SR B g H (W.set i<|U v)<|jF s i<|.val t:=
 ⟨x.st,x.lc.set r λ_ _ _ _ h=>h⟩
def G.jf(g:G)(l:bt)(o:HO):G:={g with HF:=upd g.HF l o,o:=λb=>if b=l then Y else g.o b}
def oX{p q:j_}(hl:g.o l=U p)(f:g.HF l=Y)(d:q≠p){c:C}(h:bz B g H q c v):bz B (g.jf l o) H q c v:=
 bz.mv (g':=g.jf l o) (aT f) fD (λb a=>by
  have:b≠l:=λe=>d (by rw[e,hl]at a;cases a;rfl)
  exact⟨by show(if b=l then Y else g.o b)=_;rw[bp this];exact a,J⟩) h
def sJ{p:j_}(hl:g.o l=U p)(a:g.HF l=Y):dB g H (g.jf l o) H:=
 ⟨aT a,fD,λb u h n z=>by
  have:b≠l:=λe=>by rw[e,hl]at z;cases z
  exact⟨h,by show upd g.HF l o b=Y;rw[ak this];exact n,by show(if b=l then Y else g.o b)=Y;rw[bp this];exact z⟩,λ_ h=>h⟩
def Ax(x:d_ B g H m)(hl:g.o l=U (.loc i))(d:H l=U o):d_ B (g.jf l o) H m:=by
 have f:=(x.live l _ hl).1;refine x.mv (λb u e=>?_) (λb p e=>?_) (aT f) J λb p a c=>?_
 .have e:upd g.HF l o b=U u:=e
  by_cases a:b=l
  .subst a;rw[ai]at e;cases e;exact d
  .rw[ak a]at e;exact x.sub _ _ e
 .have e:(if b=l then Y else g.o b)=U p:=e
  by_cases a:b=l
  .rw[bU a]at e;cases e
  .rw[bp a]at e
   obtain⟨j,h⟩:=x.live b p e;exact⟨by show upd g.HF l o b=Y;rw[ak a];exact j,h⟩
 .have:b≠l:=λe=>c i (by rw[e,hl]at a;cases a;rfl)
  exact⟨by show(if b=l then Y else g.o b)=_;rw[bp this];exact a,J⟩
theorem SR.jf(x:SR B g H W s){i:Nat}{ts:FR}(h:s.r[i]?=U (U<|.ol ts)):∃g' v,dB g H g' H/\SR B g' H W (jF s i<|.val<|.lst ts)/\W[i]?=U (U v)/\Rep B g'.al g'.HF (.lst ts) v:=by
 obtain⟨v,f,l,a,rfl,b,m,r⟩:=x.lc.at_ i _ h;have e:=(x.st.live l _ b).1;have k:Rep B (g.jf l<|.lst a).al (g.jf l<|.lst a).HF (.lst ts)<|.ref l:=⟨l,a,J,ai,r.mv fD<|aT e⟩;refine⟨g.jf l<|.lst a,.ref l,sJ b e,⟨Ax x.st b m,?_⟩,f,k⟩
 have:=x.lc.set (i:=i) (v:=.ref l) (c:=.val<|.lst ts) k λj c v d q=>oX (q:=.loc j) b e (λz=>d<|by cases z;rfl) q
 have es:W.set i (U<|.ref l)=W:=by
  apply uU;intro j;by_cases d:i=j
  .subst d
   rw[dG (bK.mp f).1,f]
  .rw[cW d]
 rw[es]at this;exact this
def SR.é(x:SR B g H W s)(h:s.r[i]?=U (U<|.od ks ts)):∃g' v,dB g H g' H/\SR B g' H W (jF s i<|.val<|.kC ks ts)/\W[i]?=U (U v)/\Rep B g'.al g'.HF (.kC ks ts) v:=by
 obtain⟨v,f,l,a,rfl,b,m,hl,r⟩:=x.lc.at_ i _ h;have e:=(x.st.live l _ b).1;have k:Rep B (g.jf l<|.dK<|(ks.map kU).zip a).al (g.jf l<|.dK<|(ks.map kU).zip a).HF (.kC ks ts)<|.ref l:=⟨l,a,J,ai,hl,r.mv fD<|aT e⟩;refine⟨g.jf l<|.dK<|(ks.map kU).zip a,.ref l,sJ b e,⟨Ax x.st b m,?_⟩,f,k⟩
 have:=x.lc.set (i:=i) (v:=.ref l) (c:=.val<|.kC ks ts) k λj c v d q=>oX (q:=.loc j) b e (λz=>d<|by cases z;rfl) q
 have es:W.set i (U<|.ref l)=W:=by
  apply uU;intro j;by_cases d:i=j
  .subst d
   rw[dG (bK.mp f).1,f]
  .rw[cW d]
 rw[es]at this;exact this
def G.own(g:G)(l:bt)(p:j_):G:={g with o:=λb=>if b=l then U p else g.o b}
def vJ{p q:j_}(d:g.o l=Y){c:C}(h:bz B g H q c v):bz B (g.own l p) H q c v:=
 bz.mv (g:=g) (g':=g.own l p) (aM.refl g.HF) fD (λb a=>by
  have:b≠l:=λe=>by rw[e,d]at a;cases a
  exact⟨by show(if b=l then U p else g.o b)=_;rw[bp this];exact a,J⟩) h
def Ay{p:j_}(x:d_ B g H m)(c:g.o l=Y)(f:g.HF l=Y)(d:H l=U u):d_ B (g.own l p) H m:=by
 refine x.mv x.sub (λb q e=>?_) (aM.refl _) J λb q a h=>?_
 .have e:(if b=l then U p else g.o b)=U q:=e
  by_cases a:b=l
  .subst a;exact⟨f,u,d⟩
  .rw[bp a]at e;exact x.live b q e
 .have:b≠l:=λe=>by rw[e,c]at a;cases a
  exact⟨by show(if b=l then U p else g.o b)=_;rw[bp this];exact a,J⟩
theorem SR.own(x:SR B g H W s)(a:g.o l=Y)(d:g.HF l=Y)(b:H l=U (.lst vs))(r:aC B g.al g.HF ts vs):SR B (g.own l<|.loc i) H (W.set i<|U<|.ref l)<|jF s i<|.ol ts:=
 ⟨Ay x.st a d b,x.lc.set (c:=.ol ts) ⟨l,vs,J,by show(if l=l then U (j_.loc i)else g.o l)=_;rw[bU J],b,r⟩ λj c v e q=>vJ a q⟩
def SR.ê(x:SR B g H W s)(a:g.o l=Y)(e:g.HF l=Y)(b:H l=U (.dK<|(ks.map kU).zip vs))(d:Mo ks=Mo vs)(r:aC B g.al g.HF ts vs):SR B (g.own l<|.loc i) H (W.set i<|U<|.ref l)<|jF s i<|.od ks ts:=
 ⟨Ay x.st a e b,x.lc.set (c:=.od ks ts) ⟨l,vs,J,by show(if l=l then U (j_.loc i)else g.o l)=_;rw[bU J],b,d,r⟩ λj c v f q=>vJ a q⟩
def Az(x:d_ B g H m)(c:g.o l=U (.loc i)):d_ B g (upd H l u) m:=by
 have h:=(x.live l _ c).1;refine x.mv (λb w e=>?_) (λb q e=>?_) (aM.refl _) J λb q a f=>?_
 .have:b≠l:=λz=>by rw[z,h]at e;cases e
  rw[ak this];exact x.sub _ _ e
 .obtain⟨d,w,j⟩:=x.live b q e
  by_cases a:b=l
  .exact⟨d,u,by rw[a,ai]⟩
  .exact⟨d,w,by rw[ak a];exact j⟩
 .have:b≠l:=λe=>f i (by rw[e,c]at a;cases a;rfl)
  exact⟨a,by rw[ak this]⟩
def nM{p:j_}(a:g.o l=U p):dB g H g<|upd H l u:=
 ⟨aM.refl _,fD,λb w h n z=>by
  have:b≠l:=λe=>by rw[e,a]at z;cases z
  exact⟨by rw[ak this];exact h,n,z⟩,λb h=>by
  by_cases hb:b=l
  .subst hb;rw[ai]at h;cases h
  .rw[ak hb]at h;exact h⟩
def SR.chg(x:SR B g H W s)(h:s.r[i]?=U (U<|.ol ts))(a:W[i]?=U (U<|.ref l))(r:aC B g.al g.HF ts' vs'):SR B g (upd H l<|.lst vs') W (jF s i<|.ol ts')/\dB g H g (upd H l<|.lst vs'):=by
 obtain⟨v,m,p,n,rfl,d,t,o⟩:=x.lc.at_ i _ h;rw[a]at m;cases m;refine⟨⟨Az x.st d,?_⟩,nM d⟩
 have:=x.lc.set (g':=g) (H':=upd H l<|.lst vs') (i:=i) (v:=.ref l) (c:=.ol ts') ⟨l,vs',J,d,ai,r⟩ λj c v f q=>q.mv (aM.refl _) fD λb k=>by
  have:b≠l:=λe=>f (by rw[e,d]at k;cases k;rfl)
  exact⟨k,ak this⟩
 have es:W.set i (U<|.ref l)=W:=by
  apply uU;intro j;by_cases f:i=j
  .subst f
   rw[dG (bK.mp a).1,a]
  .rw[cW f]
 rw[es]at this;exact this
def SR.ë(x:SR B g H W s)(h:s.r[i]?=U (U<|.od ks ts))(a:W[i]?=U (U<|.ref l))(o:Mo d=Mo vs')(r:aC B g.al g.HF ts' vs'):SR B g (upd H l<|.dK<|(d.map kU).zip vs') W (jF s i<|.od d ts')/\dB g H g (upd H l<|.dK<|(d.map kU).zip vs'):=by
 obtain⟨v,n,u,p,rfl,f,w,y,t⟩:=x.lc.at_ i _ h;rw[a]at n;cases n;refine⟨⟨Az x.st f,?_⟩,nM f⟩
 have:=x.lc.set (g':=g) (H':=upd H l<|.dK<|(d.map kU).zip vs') (i:=i) (v:=.ref l) (c:=.od d ts') ⟨l,vs',J,f,ai,o,r⟩ λj c v k q=>q.mv (aM.refl _) fD λb m=>by
  have:b≠l:=λe=>k (by rw[e,f]at m;cases m;rfl)
  exact⟨m,ak this⟩
 have es:W.set i (U<|.ref l)=W:=by
  apply uU;intro j;by_cases k:i=j
  .subst k
   rw[dG (bK.mp a).1,a]
  .rw[cW k]
 rw[es]at this;exact this
def VS:Option j_->Option j_
 |U<|.loc _=>Y
 |x=>x
def G.aj(g:G):G:={g with o:=λb=>VS<|g.o b}
def C4{p:j_}:VS q=U p ↔ q=U p/\∀i,p≠.loc i:=by
 cases q with
 |none=>exact⟨λh=>(by cases h),λh=>(by cases h.1)⟩
 |some q=>
  cases q with
  |loc i=>exact⟨λh=>(by cases h),λh=>(by obtain⟨h,n⟩:=h;cases h;exact ef J<|n i)⟩
  |ob k=>exact⟨λh=>(by cases h;exact⟨J,λi z=>(by cases z)⟩),λh=>h.1⟩
  |fld k j=>exact⟨λh=>(by cases h;exact⟨J,λi z=>(by cases z)⟩),λh=>h.1⟩
def kW{b:bt}{p:j_}:g.aj.o b=U p ↔ g.o b=U p/\∀i,p≠.loc i:=C4
theorem d_.aj(x:d_ B g H m):d_ B g.aj H m:=
 x.mv x.sub (λb p e=>x.live b p (kW.mp e).1) (aM.refl _) J λl p h n=>⟨kW.mpr ⟨h,n⟩,J⟩
def ì:Option j_->Option j_->Option j_
 |U<|.loc i,_=>U<|.loc i
 |_,y=>y
def G.back(g g':G):G:={g' with o:=λb=>ì (g.o b)<|g'.o b}
def FU{b:bt}(h:g.o b=U (.loc i)):(G.back g g').o b=U (.loc i):=by
 show ì (g.o b) (g'.o b)=_;rw[h];rfl
def oY{b:bt}(h:∀i,g.o b≠U (.loc i)):(G.back g g').o b=g'.o b:=by
 show ì (g.o b) (g'.o b)=_;cases q:g.o b with
 |none=>rfl
 |some p=>cases p with
  |loc i=>exact ef q<|h i
  |ob k=>rfl
  |fld k j=>rfl
theorem SR.back(x:SR B g H W s)(p:dB g.aj H g' H')(y:d_ B g' H' m'):dB g H (G.back g g') H'/\SR B (G.back g g') H' W {s with m:=m'}:=by
 have keep:∀l i,g.o l=U (.loc i)->H' l=H l/\g'.HF l=Y/\g'.o l=Y:=λl i e=>by
  obtain⟨r,u,d⟩:=x.st.live l _ e;have A:g.aj.o l=Y:=by
   cases q:g.aj.o l with
   |none=>rfl
   |some p=>obtain⟨a,b⟩:=kW.mp q;rw[e]at a;cases a;exact ef J<|b i
  obtain⟨j,f,t⟩:=p.rest l u d r A;exact⟨j.trans d.symm,f,t⟩
 have í:∀l q,g'.o l=U q->∀i,g.o l≠U (.loc i):=λl q e i z=>by rw[(keep l i z).2.2]at e;cases e
 refine⟨⟨p.fr,p.pre,λb u h n z=>?_,p.there⟩,⟨⟨y.sub,λb q e=>?_,y.len,λk ob e=>?_⟩,x.lc.len,λi c e=>?_⟩⟩
 .have A:g.aj.o b=Y:=by
   cases q:g.aj.o b with
   |none=>rfl
   |some p=>rw[(kW.mp q).1]at z;cases z
  obtain⟨j,f,t⟩:=p.rest b u h n A;exact⟨j,f,(oY λi w=>by rw[z]at w;cases w).trans t⟩
 .by_cases hl:∃i,g.o b=U (.loc i)
  .obtain⟨i,hl⟩:=hl
   obtain⟨r,u,d⟩:=x.st.live b _ hl;obtain⟨j,f,_⟩:=keep b i hl;exact⟨f,u,j.trans d⟩
  .rw[oY λi w=>hl ⟨i,w⟩]at e
   exact y.live b q e
 .exact(y.at_ k ob e).mv (aM.refl _) fD λl q h _=>⟨(oY<|í l q h).trans h,J⟩
 .obtain⟨v,r,d⟩:=x.lc.at_ i c e
  exact⟨v,r,bz.mv (g:=g) (g':=G.back g g') p.fr p.pre (λl o=>⟨FU o,(keep l i o).1⟩) d⟩
variable{u v:FT}
abbrev KTb:=Bi×List Bi
def _root_.L2.Cx.kt(X:Cx)(t:KTb):KT:=⟨X.K,X.prog,X.w,t.1,t.2⟩
inductive tE(B:KT)(f:FE)(W:St)(H:Hp)(Q:VK):Prop where
 |mk g s t s' (x:SR B g H W s) (h:f s=.ok (t,s')) (k:∀v g' H',dB g H g' H'->SR B g' H' W s'->Rep B g'.al g'.HF t v->Q v H')
inductive tA(B:KT)(f:FL)(W:St)(H:Hp)(Q:List V->Hp->Prop):Prop where
 |mk g s ts s' (x:SR B g H W s) (h:f s=.ok (ts,s')) (k:∀vs g' H',dB g H g' H'->SR B g' H' W s'->aC B g'.al g'.HF ts vs->Q vs H')
inductive tT(B:KT)(f:FT)(W:St)(H:Hp)(Q:Bool->Hp->Prop):Prop where
 |mk g s k s' (x:SR B g H W s) (h:f s=.ok (k,s')) (q:∀g' H',dB g H g' H'->SR B g' H' W s'->Q k H')
inductive tP(B:KT)(f:FO)(W:St)(H:Hp)(Q:D2->Hp->Prop):Prop where
 |mk g s k s' (x:SR B g H W s) (h:f s=.ok (k,s')) (q:∀g' H',dB g H g' H'->SR B g' H' W s'->Q k H')
inductive tO(B:KT)(f:FL)(W:St)(H:Hp)(Q:VK):Prop where
 |mk g s ts s' (x:SR B g H W s) (h:f s=.ok (ts,s')) (k:∀l vs g' H',dB g H g' H'->SR B g' H' W s'->H l=Y->g'.HF l=Y->g'.o l=Y->H' l=U (.lst vs)->aC B g'.al g'.HF ts vs->Q (.ref l) H')
def aR{t t':TE}(h:PE X e t)(i:∀W H Q,t' W H Q->t W H Q):PE X e t':=λa s W H Q I q=>h a s W H Q I<|i W H Q q
def AA{t t':TT}(h:PT X e t)(i:∀W H Q,t' W H Q->t W H Q):PT X e t':=λa s W H Q I q=>h a s W H Q I<|i W H Q q
def NU{t t':TT}(h:PW X e t)(i:∀W H Q,t' W H Q->t W H Q):PW X e t':=λa b s W H Q I q=>h a b s W H Q I<|i W H Q q
def AB{t t':TA}(h:PA X es t)(i:∀W H Q,t' W H Q->t W H Q):PA X es t':=λpo a s W H Q I q=>h po a s W H Q I<|i W H Q q
def cM{t t':TS}(h:PS X st t)(i:∀D W H,t' D W H->t D W H):PS X st t':=λa s W H D I q=>h a s W H D I<|i D W H q
def lX{t t':TS}(h:gO X st t)(i:∀D W H,t' D W H->t D W H):gO X st t':=λa s W H D I q=>h a s W H D I<|i D W H q
def NV{e:Option cw}{t t':TO}(h:PO X e t)(i:∀W H Q,t' W H Q->t W H Q):PO X e t':=λa s W H Q I q=>h a s W H Q I<|i W H Q q
def mK{t t':TI}(h:PI X tg e t)(i:∀W H a,t' W H a->t W H a):PI X tg e t':=λb s W H a I q=>h b s W H a I<|i W H a q
def bo:PE X e<|tE B aX:=λ_ _ _ _ _ _ a=>by obtain⟨_,_,_,_,_,h,_⟩:=a;cases h
def kc:PT X e<|tT B qD:=λ_ _ _ _ _ _ a=>by obtain⟨_,_,_,_,_,h,_⟩:=a;cases h
def dH:PE X e<|tO B fG:=λ_ _ _ _ _ _ a=>by obtain⟨_,_,_,_,_,h,_⟩:=a;cases h
def kX{v:V}(h:PE X e<|tC v)(r:∀al H,Rep B al H t v):PE X e<|tE B<|cF t:=aR h λW H Q z=>by
 obtain⟨g,s,a,s',x,h,k⟩:=z;cases h;exact k v g H .refl x<|r _ _
def VT(d:X.N[i]?=U x)(c:kI X.env.scope x)(hd:bA x)(f:fF x):PE X (.Name x pos)<|tE B<|vF i:=by
 refine aR (cy d c hd f) λW H Q b=>?_;obtain⟨g,s,t,s',x,h,k⟩:=b;unfold vF at h;split at h
 .rename_i j hr
  cases h;obtain⟨v,a,e⟩:=x.lc.at_ i _ hr;exact⟨v,a,k v g H .refl x e⟩
 .rename_i ts hr
  cases h;obtain⟨g',v,p,y,a,r⟩:=x.jf hr;exact⟨v,a,k v g' H p y r⟩
 .rename_i l ts hr
  cases h;obtain⟨g',v,p,y,a,r⟩:=x.é hr;exact⟨v,a,k v g' H p y r⟩
 .cases h
def L1(X:Cx)(f:T->FV)(r:V->Hp->VK->Prop):Prop:=∀(B:KT)(_:B.K=X.K)(al:BM)(HF H:Hp)(x:V)(t a:T)(Q:VK),aM HF H->Rep B al HF a x->f a=U t->(∀v F H',Gr HF H F H'->Rep B al F t v->Q v H')->r x H Q
def qE(X:Cx)(f:T->T->FV)(r:R2):Prop:=∀(B:KT)(_:B.K=X.K)(al:BM)(HF H:Hp)(x y:V)(t a ty:T)(Q:VK),aM HF H->Rep B al HF a x->Rep B al HF ty y->f a ty=U t->(∀v F H',Gr HF H F H'->Rep B al F t v->Q v H')->r x y H Q
def LN(X:Cx)(f:FR->FV)(r:List V->Hp->VK->Prop):Prop:=∀(B:KT)(_:B.K=X.K)(al:BM)(HF H:Hp)(a:List V)(t:T)(ts:FR)(Q:VK),aM HF H->aC B al HF ts a->f ts=U t->(∀v F H',Gr HF H F H'->Rep B al F t v->Q v H')->r a H Q
def NW(l:B.K=X.K)(hr:L1 X f r):∀W H Q,tE B (dX f Z) W H Q->ţ r (tE B Z) W H Q:=by
 rintro W H Q ⟨g,s,t,s',x,h,k⟩
 obtain⟨⟨b,d⟩,n,h⟩:=ae h;obtain⟨o,m,h⟩:=ae h;cases h;exact⟨g,s,b,d,x,n,λv g1 H1 j a i=>hr B l g1.al g1.HF H1 v _ b Q a.sub i (ao m) λu F H' c e=>k u (g1.grow F) H' (j.trans<|a.gB c) (a.grow c) e⟩
def kY(o:B.K=X.K)(hr:qE X f r):∀W H Q,tE B (bX f Z fb) W H Q->Pd r (tE B Z) (tE B fb) W H Q:=by
 rintro W H Q ⟨g,s,t,s',x,h,k⟩
 obtain⟨⟨c,d⟩,y,h⟩:=ae h;obtain⟨⟨ty,s2⟩,q,h⟩:=ae h;obtain⟨z,p,h⟩:=ae h;cases h;exact⟨g,s,c,d,x,y,λv g1 H1 n i m=>⟨g1,d,ty,s2,i,q,λw g2 S b a l=>
  hr B o g2.al g2.HF S v w _ c ty Q a.sub (m.mv b.pre b.fr) l (ao p) λu F H' e j=>k u (g2.grow F) H' ((n.trans b).trans<|a.gB e) (a.grow e) j⟩⟩
def NX(l:B.K=X.K)(hr:LN X f r):∀W H Q,tE B (bV f fl) W H Q->Ã r (tA B fl) W H Q:=by
 rintro W H Q ⟨g,s,t,s',x,h,k⟩
 obtain⟨⟨ts,d⟩,n,h⟩:=ae h;obtain⟨o,m,h⟩:=ae h;cases h;exact⟨g,s,ts,d,x,n,λc g1 H1 j a i=>hr B l g1.al g1.HF H1 c _ ts Q a.sub i (ao m) λu F H' b e=>k u (g1.grow F) H' (j.trans<|a.gB b) (a.grow b) e⟩
def yr:PA X []<|tA B aY:=AB bP λW H Q z=>by
 obtain⟨g,s,t,s',x,h,k⟩:=z;cases h;exact k [] g H .refl x J
def sL(n:PE X e<|tE B Z)(hr:PA X es<|tA B fl)(m:dy (e::es) X.env=(Zc,eR e X.env)::dy es X.env):PA X (e::es)<|tA B<|bw Z fl:=AB (aL n hr m) λW H Q z=>by
 obtain⟨g,s,t,s',x,h,k⟩:=z;obtain⟨⟨f,b⟩,p,h⟩:=ae h;obtain⟨⟨ty,s2⟩,o,h⟩:=ae h;cases h;exact⟨g,s,f,b,x,p,λv g1 H1 l d j=>⟨g1,b,ty,s2,d,o,λw g2 S a c i=>k (v::w) g2 S (l.trans a) c ⟨v,w,J,j.mv a.pre a.fr,i⟩⟩⟩
def yt(h:n<=1000):n<=cC:=by rw[eJ];exact bG h (by decide)
def VU{a}(h:PA X es<|tA B fl):PE X (.Tuple es a pos)<|tE B<|bV fU fl:=aR (ye h) λW H Q z=>by
 obtain⟨g,s,t,s',x,h,k⟩:=z;obtain⟨⟨ts,e⟩,l,h⟩:=ae h;obtain⟨m,j,h⟩:=ae h;cases h;obtain⟨z,rfl⟩:=bu<|ao j;refine⟨g,s,ts,e,x,l,λc g1 H1 f a d=>⟨yt<|by rw[<- d.len];exact z,λq i=>?_⟩⟩
 have b:=Gr.new (o:=.tup c) a.sub i;exact k _ _ _ (f.trans<|a.gB b) (a.grow b) ⟨q,c,J,.inl<|.inl ai,d.same b.fr⟩
def VV(h:PA X es<|tA B fl):PE X (.List es pos)<|tE B<|bV eG fl:=aR (oz h) λW H Q z=>by
 obtain⟨g,s,t,s',x,h,k⟩:=z;obtain⟨⟨ts,e⟩,l,h⟩:=ae h;obtain⟨m,j,h⟩:=ae h;cases h;obtain⟨z,rfl⟩:=bu<|ao j;refine⟨g,s,ts,e,x,l,λc g1 H1 f a d=>⟨yt<|by rw[<- d.len];exact z,λq i=>?_⟩⟩
 have b:=Gr.new (o:=.lst c) a.sub i;exact k _ _ _ (f.trans<|a.gB b) (a.grow b) ⟨q,c,J,ai,d.same b.fr⟩
def kg(fl:FL):FL:=λs=>(fl s).bind λp=>if Mo p.1<=1000 then .ok p else .bad
theorem iM{u:HO}(x:SR B g H W s)(h:H l=Y):Gr g.HF H g.HF (upd H l u)/\g.HF l=Y/\g.o l=Y:=by
 refine⟨.iM x.sub h,x.sub.free h,?_⟩;cases q:g.o l with
 |none=>rfl
 |some p=>obtain⟨_,u,z⟩:=x.st.live l p q;rw[h]at z;cases z
def Qi(h:PA X es<|tA B fl):PE X (.List es pos)<|tO B<|kg fl:=aR (oz h) λW H Q z=>by
 obtain⟨g,s,t,s',x,h,k⟩:=z;obtain⟨⟨ts,m⟩,l,h⟩:=ae h;dsimp only at h;split at h
 .rename_i z
  cases h;refine⟨g,s,_,_,x,l,λb g1 H1 d a c=>⟨yt<|by rw[<- c.len];exact z,λq e=>?_⟩⟩
  obtain⟨f,j,i⟩:=iM (u:=.lst b) a e;exact k q b _ _ (d.trans<|a.gB f) (a.grow f) (d.there q e) j i ai c
 .cases h
def SR.sM{u:HO}(x:SR B g H W s)(j:g.HF l=Y)(f:g.o l=Y)(k:H l=U u):SR B (g.grow<|upd g.HF l u) H W s:=by
 have sl:∀p c v,bz B g H p c v->bz B (g.grow<|upd g.HF l u) H p c v:=λp c v h=>bz.mv (g:=g) (g':=g.grow<|upd g.HF l u) (aT j) fD (λ_ q=>⟨q,J⟩) h;refine⟨x.st.mv (λb w e=>?_) (λb p e=>?_) (aT j) J λ_ _ q _=>⟨q,J⟩,x.lc.len,λi c e=>let⟨v,d,a⟩:=x.lc.at_ i c e;⟨v,d,sl _ _ _ a⟩⟩
 .have e:upd g.HF l u b=U w:=e
  by_cases hb:b=l
  .subst hb;rw[ai]at e;cases e;exact k
  .rw[ak hb]at e;exact x.sub _ _ e
 .obtain⟨d,a⟩:=x.st.live b p e
  have:b≠l:=λz=>by subst z;rw[show g.o b=U p from e]at f;cases f
  exact⟨by show upd g.HF l u b=Y;rw[ak this];exact d,a⟩
def dB.sM{u:HO}(p:dB g H g1 H1)(e:H l=Y)(d:g1.HF l=Y):dB g H (g1.grow<|upd g1.HF l u) H1:=
 ⟨p.fr.trans<|aT d,p.pre,λb w h n z=>by
  obtain⟨a,f,c⟩:=p.rest b w h n z
  have:b≠l:=aK h e
  exact⟨a,by show upd g1.HF l u b=Y;rw[ak this];exact f,c⟩,p.there⟩
def yu(h:PE X e<|tO B fl):PE X e<|tE B<|gx fl:=aR h λW H Q z=>by
 obtain⟨g,s,t,s',x,h,k⟩:=z;obtain⟨⟨ts,n⟩,j,h⟩:=ae h;cases h;refine⟨g,s,_,_,x,j,λl c g1 H1 f b m a i hl d=>?_⟩;exact k _ _ H1 (f.sM m a) (b.sM a i hl) ⟨l,c,J,ai,d.same<|aT a⟩
def Qj(b:PT X a<|tT B u):PW X (.BoolOp .And [a] pos)<|tT B u:=Jr b
def VW(b:PT X a<|tT B u):PW X (.BoolOp .Or [a] pos)<|tT B u:=O0 b
def VX{rest:Bz}(m:PT X a<|tT B u)(l:PW X (.BoolOp .And (b::rest) pos)<|tT B v):PW X (.BoolOp .And (a::b::rest) pos)<|tT B<|i_ u v:=NU (O1 m l) λW H Q z=>by
 obtain⟨g,s,t,s',x,h,k⟩:=z;obtain⟨⟨d,e⟩,n,h⟩:=ae h;refine⟨g,s,d,e,x,n,λg1 H1 f c=>?_⟩;cases d with
 |true=>exact nh ⟨g1,e,_,_,c,h,λg2 S j i=>k g2 S (f.trans j) i⟩
 |false=>cases h;exact oF<|k g1 H1 f c
def î{rest:Bz}(m:PT X a<|tT B u)(l:PW X (.BoolOp .Or (b::rest) pos)<|tT B v):PW X (.BoolOp .Or (a::b::rest) pos)<|tT B<|yn u v:=NU (Uu m l) λW H Q z=>by
 obtain⟨g,s,t,s',x,h,k⟩:=z;obtain⟨⟨d,e⟩,n,h⟩:=ae h;refine⟨g,s,d,e,x,n,λg1 H1 f c=>?_⟩;cases d with
 |true=>cases h;exact nh<|k g1 H1 f c
 |false=>exact oF ⟨g1,e,_,_,c,h,λg2 S j i=>k g2 S (f.trans j) i⟩
def VY(f:PT X a<|tT B u):PT X (.UnaryOp .Not a pos)<|tT B<|dZ u:=AA (O2 f) λW H Q z=>by
 obtain⟨g,s,t,s',x,h,k⟩:=z;obtain⟨⟨d,c⟩,i,h⟩:=ae h;cases h;exact⟨g,s,d,c,x,i,λg1 H1 e b=>k g1 H1 e b⟩
def sN(h:TM t=U k):t=.bl k:=by
 cases t<;>first|(cases h;done)|(cases h;rfl)
def Qk{op}(b:PE X a<|tE B Z):PE X (.BoolOp op [a] pos)<|tE B Z:=O3 b
def Ql{rest:Bz}(p:PE X a<|tE B Z)(o:PE X (.BoolOp .And (b::rest) pos)<|tE B fb):PE X (.BoolOp .And (a::b::rest) pos)<|tE B<|nj Z fb:=aR (O4 p o) λW H Q z=>by
 obtain⟨g,s,t,s',x,h,k⟩:=z;obtain⟨⟨d,e⟩,r,h⟩:=ae h;obtain⟨i,q,h⟩:=ae h;cases sN (ao q);refine⟨g,s,_,e,x,r,λv g1 H1 f c m=>⟨i,m,?_⟩⟩;cases i with
 |true=>exact nh ⟨g1,e,_,_,c,h,λw g2 S n j l=>k w g2 S (f.trans n) j l⟩
 |false=>cases h;exact oF<|k _ g1 H1 f c J
def Qm(i:PE X a<|tE B Z):PE X (.UnaryOp .Not a pos)<|tE B<|vI Z:=aR (O5 i) λW H Q z=>by
 obtain⟨g,s,t,s',x,h,k⟩:=z;obtain⟨⟨d,c⟩,l,h⟩:=ae h;obtain⟨m,j,h⟩:=ae h;cases sN (ao j);cases h;exact⟨g,s,_,c,x,l,λv g1 H1 f b e=>⟨m,e,k _ g1 H1 f b J⟩⟩
def VZ(n:PT X c<|tT B u)(p:PE X a<|tE B Z)(o:PE X b<|tE B fb):PE X (.IfExp c a b pos)<|tE B<|FP u Z fb:=aR (u4 n p o) λW H Q z=>by
 obtain⟨g,s,t,s',x,h,k⟩:=z;obtain⟨⟨d,f⟩,q,h⟩:=ae h;refine⟨g,s,d,f,x,q,λg1 H1 m l=>?_⟩;cases d with
 |true=>exact nh ⟨g1,f,_,_,l,h,λw g2 S j e i=>k w g2 S (m.trans j) e i⟩
 |false=>exact oF ⟨g1,f,_,_,l,h,λw g2 S j e i=>k w g2 S (m.trans j) e i⟩
def FW{v:V}(h:J1 t=U k)(sm:aM HF H)(r:Rep B al HF t v):Pu B.K v H k:=by
 cases t<;>try(cases h;done)
 .cases h;cases r;rfl
 .cases h
  obtain⟨a,b,rfl,q,d⟩:=r;refine .inl ⟨b,dm.of<|sm _ _ q,?_⟩
  have:=d.len
  rename_i c;cases c<;>cases b<;>first|rfl|(cases this)
def NY(j:PE X a<|tE B Z)(l:B.K=X.K)(he:∀c,z5 a X.env c=(do let v <- c;n7 a.pos;n8 [v] (truthy v))):PT X a<|tT B<|tB Z:=AA (EM j he) λW H Q z=>by
 obtain⟨g,s,t,s',x,h,k⟩:=z;obtain⟨⟨d,e⟩,n,h⟩:=ae h;obtain⟨o,m,h⟩:=ae h;cases h;exact⟨g,s,_,e,x,n,λv g1 H1 i b f=>⟨_,l▸FW (ao m) b.sub f,k g1 H1 i b⟩⟩
def fV(l:B1):(⟨l.toArray⟩:Str).length=Mo l:=by show l.toArray.size=_;simp
def ï(h:Mo l<=1000000):(⟨l.toArray⟩:Str).length<=cC:=by rw[fV,eJ];exact bG h (by decide)
def Qn(a b:B1):(⟨a.toArray⟩:Str)++⟨b.toArray⟩=⟨(a++b).toArray⟩:=by
 show(⟨a.toArray++b.toArray⟩:Str)=_;simp
def NZ:R2:=λx y H Q=>DE (λi j=>.int<|i+j) x y H Q\/(∃i j,x=.str i/\y=.str j/\i.length+j.length<=cC/\Q (.str<|i++j) H)\/U9 x y H Q
def J5:gQ X (ka .Add) NZ:=Pj.or<|x_.or yk
def V0:qE X VH NZ:=λB s al HF H x y t i ty Q sm b a h k=>by
 cases i<;>first|(cases h;done)|(cases ty<;>try(cases h;done))
 .cases h;exact .inl ⟨_,_,b,a,k _ HF H (.refl sm) J⟩
 .obtain⟨c,rfl⟩:=bu h
  obtain⟨rfl,_⟩:=b;obtain⟨rfl,_⟩:=a;refine .inr<|.inl ⟨_,_,J,J,?_,?_⟩
  .rw[fV,fV,eJ];exact bG c (by decide)
  .rw[Qn]
   exact k _ HF H (.refl sm) ⟨J,by rw[cQ];exact c⟩
 .obtain⟨c,rfl⟩:=bu h
  obtain⟨l,e,rfl,q,r⟩:=b;obtain⟨m,d,rfl,j,f⟩:=a;refine .inr<|.inr ⟨l,m,e,d,J,J,sm _ _ q,sm _ _ j,by rw[<- r.len,<- f.len,eJ];exact bG c<|by decide,λp n=>?_⟩
  have g:=Gr.new (o:=.lst<|e++d) sm n;exact k _ _ _ g ⟨p,_,J,ai,(r.app f).same g.fr⟩
def V1{f:T->T->FV}{b:Int->Int->V}{G:Int->Int->T}(g:∀a ty t,f a ty=U t->∃i j,a=.int i/\ty=.int j/\t=G i j)(e:∀B al i j H,Rep B al H (G i j)<|b i j):qE X f<|DE b:=λB l al HF H x y t a ty Q sm d c h k=>by
 obtain⟨i,j,rfl,rfl,rfl⟩:=g _ _ _ h;exact⟨i,j,d,c,k _ HF H (.refl sm)<|e B al i j HF⟩
def FY{f:T->T->FV}{b:Int->Int->V}{G:Int->Int->T}{C:Int->Int->Prop}(l:∀a ty t,f a ty=U t->∃i j,a=.int i/\ty=.int j/\t=G i j/\C i j)(g:∀B al i j H,Rep B al H (G i j)<|b i j):qE X f<|rI C b:=λB m al HF H x y t a ty Q sm e d h k=>by
 obtain⟨i,j,rfl,rfl,rfl,c⟩:=l _ _ _ h;exact⟨i,j,e,d,c,k _ HF H (.refl sm)<|g B al i j HF⟩
def V2:qE X VI<|DE λi j=>.int<|i-j:=V1 (G:=λi j=>.int<|i-j) (λa ty t h=>by
 cases a<;>first | (cases h;done) | (cases ty<;>first | (cases h;done) | (cases h;exact⟨_,_,J,J,J⟩))) λ_ _ _ _ _=>J
def V3:qE X VL<|rI UM λi j=>.int<|i/j:=FY (G:=λi j=>.int<|i/j) (λa ty t h=>by
 cases a<;>first | (cases h;done) | (cases ty<;>first | (cases h;done) | (obtain⟨c,rfl⟩:=bu h;exact⟨_,_,J,J,J,c⟩))) λ_ _ _ _ _=>J
def V4:qE X VM<|rI (λ_ j=>0<j) λi j=>.int<|i % j:=FY (G:=λi j=>.int<|i % j) (λa ty t h=>by
 cases a<;>first | (cases h;done) | (cases ty<;>first | (cases h;done) | (obtain⟨c,rfl⟩:=bu h;exact⟨_,_,J,J,J,c⟩))) λ_ _ _ _ _=>J
def V5:qE X VN<|rI UN λi j=>.int<|i^j.toNat:=FY (G:=λi j=>.int<|i^j.toNat) (λa ty t h=>by
 cases a<;>first | (cases h;done) | (cases ty<;>first | (cases h;done) | (obtain⟨c,rfl⟩:=bu h;exact⟨_,_,J,J,J,c⟩))) λ_ _ _ _ _=>J
def AD(i j:Int):Prop:=Ph i j\/(i.natAbs.log2<2000000/\j.natAbs.log2<2000000)
def rk(h:i.natAbs.log2<2000000):h9 i<=2000000:=by
 unfold h9;split
 .exact uK ..
 .exact bG h (by decide)
theorem AD.ok{i j:Int}(h:AD i j):IntMulOk i j:=by
 rcases h with h|⟨f,e⟩
 .exact h.ok
 .have a:=rk f
  have b:=rk e;intro q;rw[cL]at q;have c:=c3<|show decide (((h9 i:Nat):Int)+(h9 j:Nat) > (bitsLine:Nat))=O from q.2;have d:(bitsLine:Nat)=134217728:=J
  lia
def J7:gQ X (ka .Mult)<|rI AD λi j=>.int<|i*j:=Y3 λ_ _ _ _ _ _ _ a q=>PyProof.Rows.mul_int q a.ok
def N1:R2:=λx y H Q=>rI AD (λi j=>.int<|i*j) x y H Q\/Va x y H Q
def J8:gQ X (ka .Mult) N1:=J7.or E8
def N2:T->T->FV
 |.int i,.int j=>VJ (.int i)<|.int j
 |.lst a,.int k=>VJ (.lst a)<|.int k
 |_,_=>Y
def V6:qE X N2 N1:=λB g al HF H x y t f ty Q sm b a h k=>by
 cases f<;>first|(cases h;done)|(cases ty<;>try(cases h;done))
 .obtain⟨c,rfl⟩:=bu h
  exact .inl ⟨_,_,b,a,c,k _ HF H (.refl sm) J⟩
 .obtain⟨c,rfl⟩:=bu h
  obtain⟨l,e,rfl,q,r⟩:=b;refine .inr ⟨l,_,e,J,a,sm _ _ q,by lia,by lia,by rw[<- r.len,eJ];lia,λp d=>?_⟩
  exact k _ _ _ (Gr.new sm d) ⟨p,_,J,ai,(r.flat _).same<|aT<|sm.free d⟩
def eA:n3->T->T->FV
 |.Add=>VH
 |.Sub=>VI
 |.Mult=>N2
 |.FloorDiv=>VL
 |.Mod=>VM
 |.Pow=>VN
 |_=>λ_ _=>Y
def V7(e:B.K=X.K)(op:n3)(d:PE X a<|tE B Z)(c:PE X b<|tE B fb):PE X (.BinOp a op b pos)<|tE B<|bX (eA op) Z fb:=by
 have no:∀f:T->T->FV,(∀x y,f x y=Y)->PE X (.BinOp a op b pos) (tE B<|bX f Z fb):=λf i _ _ _ _ _ _ z=>by
  obtain⟨_,_,_,_,_,h,_⟩:=z;obtain⟨⟨j,l⟩,n,h⟩:=ae h;obtain⟨⟨ty,s2⟩,m,h⟩:=ae h;obtain⟨k,g,h⟩:=ae h;rw[i]at g;cases g
 cases op
 case Add=>exact aR (kL J5 d c)<|kY e V0
 case Sub=>exact aR (kL Pk d c)<|kY e V2
 case Mult=>exact aR (kL J8 d c)<|kY e V6
 case FloorDiv=>exact aR (kL Jy d c)<|kY e V3
 case Mod=>exact aR (kL Pn d c)<|kY e V4
 case Pow=>exact aR (kL Po d c)<|kY e V5
 all_goals exact no _ λ_ _=>J
def V8(b:B.K=X.K)(e:PE X a<|tE B Z):PE X (.UnaryOp .USub a pos)<|tE B<|dX jP Z:=
 aR (UK Pp e)<|NW b λB b al HF H x t c Q sm d h k=>by
  cases c<;>try(cases h;done)
  cases h;exact⟨_,d,k _ HF H (.refl sm) J⟩
def yv{v:V}(h:Rep B al H t v)(f:cJ t=O):(t=.non/\v=.non)\/(∃b,t=.bl b/\v=.bl b)\/(∃i,t=.int i/\v=.int i)\/∃l,t=.str l/\v=.str ⟨l.toArray⟩:=by
 cases t with
 |non=>exact .inl ⟨J,h⟩
 |bl b=>exact .inr<|.inl ⟨b,J,h⟩
 |int i=>exact .inr<|.inr<|.inl ⟨i,J,h⟩
 |str l=>exact .inr<|.inr<|.inr ⟨l,J,h.1⟩
 |_=>cases f
def ik{B:KT}{al:BM}{H:Hp}{t:T}{v:V}(h:Rep B al H t v)(f:cJ t=O):e8 v=O:=by
 rcases yv h f with⟨_,rfl⟩|⟨_,_,rfl⟩|⟨_,_,rfl⟩|⟨_,_,rfl⟩<;>rfl
def str_beq(l m:B1):((⟨l.toArray⟩:Str) == ⟨m.toArray⟩)=decide (l=m):=by
 by_cases h:l=m
 .subst h;simp
 .rw[b0 h,beq_eq_false_iff_ne]
  intro e;injection e with e
  exact h (by simpa using e)
def sO{t u:T}{v w:V}(h:Rep B al H t v)(h':Rep B al H u w)(f:cJ t=O)(a:cJ u=O):IX v w=eqT t u:=by
 rcases yv h f with⟨rfl,rfl⟩|⟨b,rfl,rfl⟩|⟨i,rfl,rfl⟩|⟨l,rfl,rfl⟩<;>rcases yv h' a with⟨rfl,rfl⟩|⟨c,rfl,rfl⟩|⟨j,rfl,rfl⟩|⟨m,rfl,rfl⟩<;>first|rfl|exact str_beq _ _|exact Bool.beq_eq_decide_eq _ _
def vK{b:dD}{s:av}{a:bt}(I:Inv X b W H s)(sm:aM HF H)(h:HF a=U (.lst vs)):∃its:B2,Vals vs its/\s.heap.IsList a its.toArray:=by
 obtain⟨its,r,p,c⟩:=I.list<|dm.of<|sm _ _ h;exact⟨its,r,p.isList⟩
def vL{c:dD}{s:av}{a:bt}(I:Inv X c W H s)(sm:aM HF H)(h:mC X.K HF a vs):∃its:B2,Vals vs its/\s.heap.IsTuple a its.toArray:=by
 obtain⟨its,r,b,d⟩:=I.tuple (xs:=vs)<|c7 sm h;exact⟨its,r,b⟩
theorem vM{p:T->T->Bool}:∀{as bs:FR},all2 p as bs=O->∀{j:Nat}{a b:T},as[j]?=U a->bs[j]?=U b->p a b=O
 |a::as,b::bs,h,0,_,_,d,c=>by
  simp at d c;subst d c;exact(zX.mp h).1
 |a::as,b::bs,h,j+1,_,_,d,c=>vM (zX.mp h).2 (j:=j) (by simpa using d) (by simpa using c)
 |[],_,_,_,_,_,d,_=>by simp at d
 |_::_,[],_,_,_,_,_,c=>by simp at c
theorem kh:∀(xs ys:FR),((cK<|min xs.length ys.length).all (λj=>eqT (xs.getD j .non)<|ys.getD j .non)&&xs.length == Mo ys)=j8 xs ys
 |[],[]=>J
 |[],_::_=>by simp[j8]
 |_::_,[]=>by simp[j8]
 |x::xs,y::ys=>by
  have a:=kh xs ys;rw[dM,dM,Nat.succ_min_succ,zP,e7,MU];have e:(Mo xs+1 == Mo ys+1)=(Mo xs == Mo ys):=by
   by_cases h:Mo xs=Mo ys<;>simp[h]
  rw[e];show((eqT x y&&(cK<|min xs.length ys.length).all λj=>eqT (xs.getD j .non)<|ys.getD j .non)&&_)=(eqT x y&&j8 xs ys);rw[<- a,Bool.and_assoc]
theorem vN:∀{xs ys:FR},Mo xs≠Mo ys->j8 xs ys=Zc
 |[],[],h=>ef J h
 |[],_::_,_=>J
 |_::_,[],_=>J
 |x::xs,y::ys,h=>by
  show(eqT x y&&j8 xs ys)=Zc;rw[vN λe=>h<|by simp[e],Nh]
def vO{A:ek}{s:av}(r:aC B al HF ts vs)(f:aC B al HF us d)(e:Vals vs its)(i:Vals d its')(sh:all2 (λa b=>cJ a&&cJ b) ts us=O)
  (l:∀{t u:T}{v w:V}{x y:bj},Rep B al HF t v->Rep B al HF u w->RelV v x->RelV w y->(cJ t&&cJ u)=O->n5 A s x y (eqT t u)) :
  ∀j(h:j<its.toArray.size)(g:j<its'.toArray.size),n5 A s its.toArray[j] its'.toArray[j]<|(λj=>eqT (ts.getD j .non)<|us.getD j .non) j:=by
 intro j h g;have l1:=e.length;have l2:=i.length;have l3:=r.len;have l4:=f.len;have ð:j<ts.length:=by rw[l3,l1];simpa using h
 have c:j<us.length:=by rw[l4,l2];simpa using g
 obtain⟨v,o,q1⟩:=r.get<|c5 ð;obtain⟨w,n,q2⟩:=f.get<|c5 c;obtain⟨x,m,k⟩:=e.get o;obtain⟨y,e4,q4⟩:=i.get n;have q5:its.toArray[j]=x:=by
  obtain⟨_,z⟩:=bK.mp m;simpa using z
 have q6:its'.toArray[j]=y:=by
  obtain⟨_,z⟩:=bK.mp e4;simpa using z
 rw[q5,q6];have g1:ts.getD j .non=ts[j]:=by rw[gZ,c5 ð];rfl
 have g2:us.getD j .non=us[j]:=by rw[gZ,c5 c];rfl
 show n5 A s x y<|eqT (ts.getD j .non)<|us.getD j .non;rw[g1,g2];exact l q1 q2 k q4<|vM sh (c5 ð)<|c5 c
open PySem.SeqAt in
def J9{al:BM}{HF:Hp}{A:ek}{s:av}{t u:T}{v w:V}{x y:bj}(rt:Rep B al HF t v)(ru:Rep B al HF u w)(rx:RelV v x)(ry:RelV w y)(f1:cJ t=O)(f2:cJ u=O):RcAt A s x y (eqT t u)/\RcNeAt A s x y (!eqT t u):=by
 rw[<- sO rt ru f1 f2];have g1:=ik rt f1;have g2:=ik ru f2;cases v with
 |non=>
  cases rx;cases w with
  |non=>cases ry;exact⟨RcAt.none_none,RcNeAt.none_none⟩
  |bl b=>cases ry;exact⟨RcAt.none_bool b,RcNeAt.none_bool b⟩
  |int b=>obtain⟨t,rfl⟩:=ry;exact⟨RcAt.none_int b t,RcNeAt.none_int b t⟩
  |str b=>obtain⟨t,rfl⟩:=ry;exact⟨RcAt.none_str b t,RcNeAt.none_str b t⟩
  |_=>exact ef (show Zc=O from g2) dw
 |bl a=>
  cases rx;cases w with
  |non=>cases ry;exact⟨RcAt.bool_none a,RcNeAt.bool_none a⟩
  |bl b=>cases ry;exact⟨RcAt.bool_bool a b,RcNeAt.bool_bool a b⟩
  |int b=>obtain⟨t,rfl⟩:=ry;exact⟨RcAt.bool_int a b t,RcNeAt.bool_int a b t⟩
  |str b=>obtain⟨t,rfl⟩:=ry;exact⟨RcAt.bool_str a b t,RcNeAt.bool_str a b t⟩
  |_=>exact ef (show Zc=O from g2) dw
 |int a=>
  obtain⟨t',rfl⟩:=rx;cases w with
  |non=>cases ry;exact⟨RcAt.int_none a t',RcNeAt.int_none a t'⟩
  |bl b=>cases ry;exact⟨RcAt.int_bool a t' b,RcNeAt.int_bool a t' b⟩
  |int b=>obtain⟨t,rfl⟩:=ry;exact⟨RcAt.int_int a t' b t,RcNeAt.int_int a t' b t⟩
  |str b=>obtain⟨t,rfl⟩:=ry;exact⟨RcAt.int_str a t' b t,RcNeAt.int_str a t' b t⟩
  |_=>exact ef (show Zc=O from g2) dw
 |str a=>
  obtain⟨t',rfl⟩:=rx;cases w with
  |non=>cases ry;exact⟨RcAt.str_none a t',RcNeAt.str_none a t'⟩
  |bl b=>cases ry;exact⟨RcAt.str_bool a t' b,RcNeAt.str_bool a t' b⟩
  |int b=>obtain⟨t,rfl⟩:=ry;exact⟨RcAt.str_int a t' b t,RcNeAt.str_int a t' b t⟩
  |str b=>obtain⟨t,rfl⟩:=ry;exact⟨RcAt.str_str a t' b t,RcNeAt.str_str a t' b t⟩
  |_=>exact ef (show Zc=O from g2) dw
 |_=>exact ef (show Zc=O from g1) dw
def FZ(M:B.K=X.K){s:av}(I:Inv X R W H s)(sm:aM HF H)(A:ek){t u:T}{v w:V}(Q:A.units+6<lq)(rt:Rep B al HF t v)(G:Rep B al HF u w)(F:RelV v x)(E:RelV w y)(sh:shape 5 t u=O) :
  SeqAt.RcAt A s x y (eqT t u)/\SeqAt.RcNeAt A s x y (!eqT t u):=by
 have flat:(cJ t&&cJ u)=O->SeqAt.RcAt A s x y (eqT t u)/\SeqAt.RcNeAt A s x y (!eqT t u):=λsh=>by
  obtain⟨D,C⟩:=zX.mp sh;exact J9 rt G F E D C
 have k:A.units<lq:=jd (bD ..) Q;have dp:=λ{t u:T} {v w:V} {x y:bj} (a:Rep B al HF t v) (b:Rep B al HF u w) (c:RelV v x) (d:RelV w y) (e:(cJ t&&cJ u)=O)=>show n5 A.in1 s x y (eqT t u)from by
  obtain⟨D,C⟩:=zX.mp e;rw[<- sO a b D C];exact E2 c d (ik a D)<|ik b C
 cases t with
 |tup ts=>
  cases u with
  |tup p=>
   obtain⟨a,P,rfl,q,r⟩:=id rt;obtain⟨b,N,rfl,L,m⟩:=id G;cases F;cases E;obtain⟨h,l,i⟩:=vL I sm<|M▸q;obtain⟨f,o,j⟩:=vL I sm<|M▸L;have it:=vO (A:=A.in1) (s:=s) r m l o sh dp;have z:=SeqAt.RcAt.tuples i j k it;have g:=SeqAt.RcNeAt.tuples i j k it;rw[cZ,cZ,<- l.length,<- o.length,<- r.len,<- m.len,kh]at z g;exact⟨z,g⟩
  |_=>exact flat sh
 |lst ts=>
  cases u with
  |lst p=>
   obtain⟨a,P,rfl,q,r⟩:=id rt;obtain⟨b,N,rfl,L,m⟩:=id G;cases F;cases E;obtain⟨h,l,i⟩:=vK I sm q;obtain⟨f,o,j⟩:=vK I sm L;have l1:=l.length;have l2:=o.length;have l3:=r.len;have l4:=m.len;by_cases hsz:ts.length=p.length
   .have it:=vO (A:=A.in1) (s:=s) r m l o sh dp
    have n:h.toArray.size=f.toArray.size:=by rw[cZ,cZ];lia
    have z:=SeqAt.RcAt.lists i j n k it;have g:=SeqAt.RcNeAt.lists i j n k it;have e:=kh ts p;rw[<- hsz,D9,pF,Ni]at e;rw[cZ,<- l1,<- l3,e]at z g;exact⟨z,g⟩
   .have n:(h.toArray.size != f.toArray.size)=O:=by rw[cZ,cZ,bne_iff_ne];lia
    have z:=SeqAt.RcAt.lists_lengths (s:=s) (A:=A) i j n k;have g:=SeqAt.RcNeAt.lists_lengths (s:=s) (A:=A) i j n k;have e:eqT (.lst ts) (.lst p)=Zc:=vN hsz;rw[e];exact⟨z,g⟩
  |_=>exact flat sh
 |_=>exact flat (by cases u<;>exact sh)
def Qq(d:X.A.units+6<lq):gQ X (eQ .Eq) λx y H Q=>∃B al HF t u,B.K=X.K/\aM HF H/\Rep B al HF t x/\Rep B al HF u y/\shape 5 t u=O/\Q (.bl<|eqT t u) H:=by
 intro g s W H x y v u Q I b a h;obtain⟨B,al,HF,t,f,e,sm,rt,c,sh,q⟩:=h;exact(FZ e I sm X.A d rt c b a sh).1 _ _ _ _<|jg I q J
def Qs(d:X.A.units+6<lq):gQ X (eQ .NotEq) λx y H Q=>∃B al HF t u,B.K=X.K/\aM HF H/\Rep B al HF t x/\Rep B al HF u y/\shape 5 t u=O/\Q (.bl<|!eqT t u) H:=by
 intro g s W H x y v u Q I b a h;obtain⟨B,al,HF,t,f,e,sm,rt,c,sh,q⟩:=h;exact(FZ e I sm X.A d rt c b a sh).2 _ _ _ _<|jg I q J
def F0:gQ X (eQ .Is) λx y H Q=>∃a b,x=.bl a/\y=.bl b/\Q (.bl<|a == b) H:=by
 intro e s W H x y v u Q I d c h;obtain⟨a,b,rfl,rfl,q⟩:=h;cases d;cases c;exact PyProof.Rows.is_bool<|jg I q J
theorem vP{B:KT}{al:BM}{H:Hp}:∀{ts:FR}{vs:List V},aC B al H ts vs->ts.all cJ=O->vs.all e8=O
 |[],_,h,_=>by cases(show _=[]from h);rfl
 |t::ts,_,h,f=>by
  obtain⟨v,r,rfl,b,a⟩:=h;rw[e7,cL]at f;rw[e7,ik b f.1,vP a f.2];rfl
theorem any_eq{a:V}(b:Rep B al H x a)(fx:cJ x=O):∀{ts:FR}{vs:List V},aC B al H ts vs->ts.all cJ=O->(vs.any λy=>IX y a)=ts.any λy=>eqT y x
 |[],_,h,_=>by cases(show _=[]from h);rfl
 |t::ts,_,h,f=>by
  obtain⟨v,r,rfl,d,c⟩:=h;rw[e7,cL]at f;rw[rO,rO,sO d b f.1 fx,any_eq b fx c f.2]
def yw(xs:List α)(i:Int):atT xs i=DG xs i:=by
 unfold atT DG IW;by_cases h0:0<=i
 .rw[bU h0,bU h0]
  by_cases h1:i<Mo xs
  .rw[bU h1,bU h1];rfl
  .rw[bp h1,bp h1];rfl
 .rw[bp h0,bp h0]
  by_cases h1:-(Mo xs:Int)<=i
  .rw[bU h1,bU h1];rfl
  .rw[bp h1,bp h1];rfl
def sP(r:aC B al H ts vs)(h:atT ts i=U t):∃v,DG vs i=U v/\Rep B al H t v:=by
 rw[yw]at h;unfold DG at h ⊢;rw[<- r.len];cases e:IW ts.length i with
 |none=>rw[e]at h;cases h
 |some j=>
  rw[e]at h;exact r.get h
def F8{v:V}(h:Rep B al H t v):decide (v=.non)=FI t:=by
 cases t with
 |non=>cases(show v=.non from h);rfl
 |bl b=>cases(show v=.bl b from h);rfl
 |int i=>cases(show v=.int i from h);rfl
 |str l=>obtain⟨rfl,_⟩:=h;rfl
 |tup ts=>obtain⟨a,c,rfl,_⟩:=h;rfl
 |lst ts=>obtain⟨a,c,rfl,_⟩:=h;rfl
 |scr ts=>obtain⟨a,rfl,_⟩:=h;rfl
 |obj _ _=>obtain⟨a,_,_,_,_,rfl,_⟩:=h;rfl
 |own _=>obtain⟨a,rfl,_⟩:=h;rfl
 |kC _ _=>obtain⟨a,d,rfl,_⟩:=h;rfl
def rIs:R2:=λx y H Q=>(y=.non/\Q (.bl<|decide<|x=.non) H)\/∃a b,x=.bl a/\y=.bl b/\Q (.bl<|a == b) H
def ñ:R2:=λx y H Q=>(y=.non/\Q (.bl<|!decide (x=.non)) H)\/∃a b,x=.bl a/\y=.bl b/\Q (.bl<|a != b) H
def AE{p:Bool}{c ty t:T}(h:VO p c ty=U t):(ty=.non/\t=.bl (p == FI c))\/∃a b,c=.bl a/\ty=.bl b/\t=.bl (p == (a == b)):=by
 cases ty<;>try(cases h;done)
 .cases h;exact .inl ⟨J,J⟩
 .cases c<;>try(cases h;done)
  cases h;exact .inr ⟨_,_,J,J,J⟩
def ò:qE X (VO O) rIs:=λB f al HF H x y t e ty Q sm d c h k=>by
 rcases AE h with⟨rfl,rfl⟩|⟨a,b,rfl,rfl,rfl⟩
 .exact .inl ⟨c,by rw[F8 d];exact k _ HF H (.refl sm)<|by cases FI e<;>rfl⟩
 .exact .inr ⟨a,b,d,c,k _ HF H (.refl sm)<|by cases(a == b)<;>rfl⟩
def V9:qE X (VO Zc) ñ:=λB f al HF H x y t e ty Q sm d c h k=>by
 rcases AE h with⟨rfl,rfl⟩|⟨a,b,rfl,rfl,rfl⟩
 .exact .inl ⟨c,by rw[F8 d];exact k _ HF H (.refl sm)<|by cases FI e<;>rfl⟩
 .exact .inr ⟨a,b,d,c,k _ HF H (.refl sm)<|by show V.bl (a != b)=V.bl (Zc == (a == b));cases a<;>cases b<;>rfl⟩
def F9(K:bq)(neg:Bool):R2:=λx y H Q=>(∃i j,x=.str i/\y=.str j/\Q (.bl<|if neg then(!(!(eg j i 0 j.length 1).isEmpty))else(!(eg j i 0 j.length 1).isEmpty)) H)\/Y5 K neg x y H Q
def Qt:gQ X (eQ .In)<|F9 X.K Zc:=Cw.or CH
def J_:gQ X (eQ .NotIn)<|F9 X.K O:=r9.or sD
def Ka{a ty:T}(h:TL a ty=U k):(∃x l,a=.str x/\ty=.str l/\k=kD x l)\/((∃ys,(ty=.tup ys\/ty=.lst ys)/\(cJ a=O/\ys.all cJ=O)/\k=ys.any λy=>eqT y a)):=by
 cases ty<;>try(cases h;done)
 .cases a<;>try(cases h;done)
  cases h;exact .inl ⟨_,_,J,J,J⟩
 .obtain⟨c,rfl⟩:=bu h
  exact .inr ⟨_,.inl J,c,J⟩
 .obtain⟨c,rfl⟩:=bu h
  exact .inr ⟨_,.inr J,c,J⟩
def AF(x l:B1):(!(eg (⟨l.toArray⟩:Str) ⟨x.toArray⟩ 0 (⟨l.toArray⟩:Str).length 1).isEmpty)=(cK<|l.length+1).any λi=>decide (i+Mo x<=Mo l)&&((l.drop i).take x.length == x):=by
 rw[zY,StrLaws.found_iff,Ej];constructor
 .rintro⟨i,b,a⟩
  rw[kl,fV]at a;rw[fV,fV]at b;exact⟨i,jL.mpr<|by lia,by rw[c4 b,zZ];exact a⟩
 .rintro⟨i,_,h⟩
  rw[cL,oy]at h;exact⟨i,by rw[fV,fV];exact h.1,by rw[kl,fV];exact h.2⟩
def Kc(x l:B1):(!(eg (⟨l.toArray⟩:Str) ⟨x.toArray⟩ 0 (⟨l.toArray⟩:Str).length 1).isEmpty)=kD x l:=by
 match x with
 |[]=>exact AF ..
 |[c]=>exact StrLaws.found_one ..
 |_::_::_=>exact AF ..
def N4(o:B.K=X.K){Q:VK}(sm:aM HF H)(e:Rep B al HF f x)(d:Rep B al HF ty y)(h:TL f ty=U k)(q:Q (.bl<|if neg then !k else k) H):F9 X.K neg x y H Q:=by
 rcases Ka h with⟨x,l,rfl,rfl,rfl⟩|⟨j,n,⟨i,g⟩,rfl⟩
 .obtain⟨rfl,_⟩:=e
  obtain⟨rfl,_⟩:=d;refine .inl ⟨_,_,J,J,?_⟩;rw[Kc];exact q
 .right
  have c:∀a b,y=.ref a->(dm X.K H a b\/mC X.K H a b)->aC B al HF j b->Y5 X.K neg x y H Q:=λa b p m r=>by
   refine⟨a,b,p,m,ik e i,vP r g,?_⟩;unfold Ä;rw[any_eq e i r g];exact q
  rcases n with rfl|rfl
  .obtain⟨a,b,rfl,q1,r⟩:=d
   exact c a b J (.inr<|o▸c7 sm q1) r
  .obtain⟨a,b,rfl,q1,r⟩:=d
   exact c a b J (.inl<|dm.of<|sm _ _ q1) r
def ó:qE X inD<|F9 X.K Zc:=λB f al HF H x y t a ty Q sm c b h k=>by
 unfold inD at h;cases e:TL a ty with
 |none=>rw[e]at h;cases h
 |some d=>rw[e]at h;cases h;exact N4 f sm c b e<|k _ HF H (.refl sm) J
def V_:qE X Qe<|F9 X.K O:=λB f al HF H x y t a ty Q sm c b h k=>by
 unfold Qe at h;cases e:TL a ty with
 |none=>rw[e]at h;cases h
 |some d=>rw[e]at h;cases h;exact N4 f sm c b e<|k _ HF H (.refl sm) J
def Wa(X:Cx)(neg:Bool):R2:=λx y H Q=>∃B al HF t u,B.K=X.K/\aM HF H/\Rep B al HF t x/\Rep B al HF u y/\shape 5 t u=O/\Q (.bl<|if neg then !eqT t u else eqT t u) H
def ô:qE X eqD<|Wa X Zc:=λB e al HF H x y t a ty Q sm d b h k=>by
 obtain⟨c,rfl⟩:=bu h;exact⟨B,al,HF,a,ty,e,sm,d,b,c,k _ HF H (.refl sm) J⟩
def õ:qE X neD<|Wa X O:=λB e al HF H x y t a ty Q sm d b h k=>by
 obtain⟨c,rfl⟩:=bu h;exact⟨B,al,HF,a,ty,e,sm,d,b,c,k _ HF H (.refl sm) J⟩
def AG(f:Int->Int->Bool):qE X (FH f)<|DE λi j=>.bl<|f i j:=V1 (G:=λi j=>.bl<|f i j) (λa ty t h=>by
 cases a<;>first | (cases h;done) | (cases ty<;>first | (cases h;done) | (cases h;exact⟨_,_,J,J,J⟩))) λ_ _ _ _ _=>J
def Kd:nz->T->T->FV
 |.Eq=>eqD
 |.NotEq=>neD
 |.Lt=>FH λi j=>decide<|i<j
 |.LtE=>FH λi j=>decide<|i<=j
 |.Gt=>FH λi j=>decide<|j<i
 |.GtE=>FH λi j=>decide<|j<=i
 |.Is=>VO O
 |.IsNot=>VO Zc
 |.In=>inD
 |.NotIn=>Qe
def Qu(hr:bJ k X.A):∃r,gQ X (eQ op) r/\qE X (Kd op) r:=by
 have a:X.A.units+6<lq:=by have:=hr.units;lia
 cases op
 case Eq=>exact⟨_,Qq a,ô⟩
 case NotEq=>exact⟨_,Qs a,õ⟩
 case Lt=>exact⟨_,UO,AG _⟩
 case LtE=>exact⟨_,UP,AG _⟩
 case Gt=>exact⟨_,UQ,AG _⟩
 case GtE=>exact⟨_,UR,AG _⟩
 case Is=>exact⟨_,Pq.or F0,ò⟩
 case IsNot=>exact⟨_,Jz.or vo,V9⟩
 case In=>exact⟨_,Qt,ó⟩
 case NotIn=>exact⟨_,J_,V_⟩
def b9(a:FE):FT:=λs=>(a s).bind λp=>(aZ<|TM p.1).bind λb=>.ok (b,p.2)
def F_{Q:Bool->Hp->Prop}(h:tT B (b9 f) W H Q):tE B f W H λx H'=>∃k,x=.bl k/\Q k H':=by
 obtain⟨g,s,t,s',x,h,k⟩:=h;obtain⟨⟨d,b⟩,j,h⟩:=ae h;obtain⟨l,i,h⟩:=ae h;cases sN (ao i);cases h;exact⟨g,s,_,b,x,j,λv g1 H1 e a c=>⟨_,c,k g1 H1 e a⟩⟩
def il:T->T->FV
 |.kC _ _,_=>Y
 |x,y=>Au x y
def Ga{a ty t:T}(h:il a ty=U t):∃i,ty=.int i/\((∃xs,(a=.lst xs\/a=.tup xs)/\atT xs i=U t)\/(∃l c,a=.str l/\atT l i=U c/\t=.str [c])\/∃ns n,a=.scr ns/\atT ns i=U n/\t=.int n):=by
 cases a<;>first|(cases h;done)|(cases ty<;>try(cases h;done))
 .rename_i l i
  have h:(atT l i).map (λc=>T.str [c])=U t:=h;cases e:atT l i with
  |none=>rw[e]at h;cases h
  |some c=>rw[e]at h;cases h;exact⟨i,J,.inr<|.inl ⟨l,c,J,e,J⟩⟩
 .exact⟨_,J,.inl ⟨_,.inr J,h⟩⟩
 .exact⟨_,J,.inl ⟨_,.inl J,h⟩⟩
 .rename_i l i
  have h:(atT l i).map T.int=U t:=h;cases e:atT l i with
  |none=>rw[e]at h;cases h
  |some c=>rw[e]at h;cases h;exact⟨i,J,.inr<|.inr ⟨l,c,J,e,J⟩⟩
def Qv{α a:Type}(f:α->a){l:List α}{c:α}(h:atT l i=U c):DG (l.map f) i=U (f c):=by
 rw[yw]at h;unfold DG at h ⊢;rw[cz];cases e:IW l.length i with
 |none=>rw[e]at h;cases h
 |some j=>
  rw[e]at h;show(uT f _)[j]?=_;rw[fQ,show _[j]?=U c from h];rfl
def ö:qE X il<|ũ X.K:=λB j al HF H x y t s ty Q sm b a h k=>by
 obtain⟨i,rfl,⟨o,g|g,e⟩|⟨l,c,rfl,e,rfl⟩|⟨ns,n,rfl,e,rfl⟩⟩:=Ga h
 .subst g
  obtain⟨p,d,rfl,q,r⟩:=b;obtain⟨v,e,f⟩:=sP r e;exact .inl ⟨p,d,_,v,J,a,dm.of<|sm _ _ q,e,k v HF H (.refl sm) f⟩
 .subst g
  obtain⟨p,d,rfl,q,r⟩:=b;obtain⟨v,e,f⟩:=sP r e;exact .inr<|.inl ⟨p,d,_,v,J,a,j▸c7 sm q,e,k v HF H (.refl sm) f⟩
 .obtain⟨rfl,m⟩:=b
  refine .inr<|.inr ⟨_,_,c,J,a,ï m,?_,k _ HF H (.refl sm) ⟨J,by simp⟩⟩
  rw[<- yw];exact e
 .obtain⟨p,rfl,q⟩:=b
  exact .inl ⟨p,_,_,.int n,J,a,j▸sm.seq q,Qv V.int e,k _ HF H (.refl sm) J⟩
def Qw(f:B.K=X.K)(e:PE X a<|tE B Z)(d:PE X b<|tE B fb)(c:jE b):PE X (.Subscript a b pos)<|tE B<|bX il Z fb:=aR (EZ E1 e d c)<|kY f ö
end D
namespace L2
open PySem PySem.Spec PyProof.Rows
theorem rl:∀(ls:Bi)(t:Nat),Vals (ls.map V.str)<|strsFrom t ls
 |[],_=>.nil
 |x::ls,t=>.cons ⟨_,J⟩<|rl ls<|t+1
def vQ:yf X "str.split" λx vs H Q=>∃a b,x=.str a/\vs=[.str b]/\(b.length == 0)=Zc/\a.length<=cC/\(Txt.split a b).length<=cC/\∀l,H l=Y->Q (.ref l) (upd H l<|.lst<|(Txt.split a b).map V.str):=by
 intro n s k H x vs v m Q I g i h;obtain⟨a,b,rfl,rfl,f,j,c,q⟩:=h;obtain⟨t,rfl⟩:=g;obtain⟨u,rfl,⟨t',rfl⟩⟩:=i.one;unfold Txt.split at c q;by_cases c1:(decide (a.length<b.length) ||decide (gN a<gN b))=O
 .rw[bU c1]at c q
  refine me F.slot_str_split (pa s a t) F.entry_str_split (F.args_str_split_2 _ _) (meets_str_split_cannot_occur a b t t' c1) ?_;exact⟨.ref s.heap.objs.size,_,I.CI (t':=s.toks) (ys:=[V.str a]) (.cons ⟨_,J⟩ .nil) c,J,q _ I.fresh⟩
 .rw[bp c1]at c q
  have d:(decide (a.length<b.length) ||decide (gN a<gN b))=Zc:=by
   rcases Nj (decide (a.length<b.length) ||decide (gN a<gN b))with z|z
   .exact ef z c1
   .exact z
  by_cases c2:(eg a b 0 a.length<|a.length+1).isEmpty=O
  .rw[bU c2]at c q
   refine me F.slot_str_split (pa s a t) F.entry_str_split (F.args_str_split_2 _ _) (meets_str_split_not_found a b t t' d f c2) ?_;exact⟨.ref s.heap.objs.size,_,I.CI (t':=s.toks) (ys:=[V.str a]) (.cons ⟨_,J⟩ .nil) c,J,q _ I.fresh⟩
  .rw[bp c2]at c q
   have e:(eg a b 0 a.length<|a.length+1).isEmpty=Zc:=by
    rcases Nj (eg a b 0 a.length<|a.length+1).isEmpty with z|z
    .exact ef z c2
    .exact z
   refine me F.slot_str_split (pa s a t) F.entry_str_split (F.args_str_split_2 _ _) (meets_str_split_sep a b t t' d f e j c) ?_;exact⟨.ref s.heap.objs.size,_,I.CI (rl _ _)<|by rw[cz];exact c,J,q _ I.fresh⟩
def Gb:yf X "str.find" λx vs H Q=>∃a b,x=.str a/\vs=[.str b]/\Q (.int<|vb a b) H:=by
 intro i s e H x vs v f Q I c d h;obtain⟨a,b,rfl,rfl,q⟩:=h;obtain⟨t,rfl⟩:=c;obtain⟨u,rfl,⟨g,rfl⟩⟩:=d.one;exact SC.find ⟨.int _,H,I.tok _,⟨_,J⟩,q⟩
end L2
namespace D
open PySem L2
variable{X:Cx}{a b c e o tg:cw}{fa fb z fo:FE}{g g':G}{H H':Hp}{B:KT}{bQ bZ p pos:Pos}{s s':S}{σ:St}{x y:Str}
section
variable{S:Pos}
def Gd(lo a:D2)(n:Nat):f3 lo a 1 n=f3 (U ((D.ia n 0 lo:Nat):Int)) (U ((D.ia n n a:Nat):Int)) 1 n:=by
 have c:∀v:Int,max 0 (min (if v<0 then v+(n:Int)else v) (n:Int))=((if v<0 then(v+(n:Int)).toNat else min v.toNat n:Nat):Int):=λv=>by
  by_cases hv:v<0
  .rw[bU hv,bU hv];lia
  .rw[bp hv,bp hv];lia
 have d:∀m:Nat,m<=n->max 0 (min (if((m:Nat):Int)<0 then((m:Nat):Int)+(n:Int)else((m:Nat):Int)) (n:Int))=((m:Nat):Int):=λm b=>by
  rw[bp<|by lia];lia
 have l1:D.ia n 0 lo<=n:=by
  cases lo with
  |none=>exact jc _
  |some v=>show(if v<0 then(v+(n:Int)).toNat else min v.toNat n)<=n;split<;>lia
 have l2:D.ia n n a<=n:=by
  cases a with
  |none=>exact cV _
  |some v=>show(if v<0 then(v+(n:Int)).toNat else min v.toNat n)<=n;split<;>lia
 unfold f3;simp only[show((1:Int) > 0)from by decide,s9]
 rw[d _ l1,d _ l2]
 congr 1
 .cases lo with
  |none=>rfl
  |some v=>exact c v
 .cases a with
  |none=>rfl
  |some v=>exact c v
def Ge(n d:Nat)(hd:d<=n)(o:D2):D.ia n d o<=n:=by
 cases o with
 |none=>exact hd
 |some v=>show(if v<0 then(v+(n:Int)).toNat else min v.toNat n)<=n;split<;>lia
def cut_str(l:B1)(lo a:D2):y4 ⟨l.toArray⟩ lo a=⟨(bW l lo a).toArray⟩:=by
 have g:y4 ⟨l.toArray⟩ lo a=jo ⟨l.toArray⟩ lo a:=J;have f:jo ⟨l.toArray⟩ lo a=jo ⟨l.toArray⟩ (U ((D.ia l.length 0 lo:Nat):Int)) (U ((D.ia l.length l.length a:Nat):Int)):=by
  unfold jo;rw[fV,Gd]
 rw[g,f];have b:=Ge l.length l.length (cV _) a;by_cases hab:D.ia l.length 0 lo<=D.ia l.length l.length a
 .rw[StrLaws.sliceText_nat _ hab<|by rw[fV];exact b]
  rfl
 .have c:=Ge l.length 0 (jc _) lo
  have e:bW l lo a=[]:=by
   unfold bW;rw[show D.ia l.length l.length a-D.ia l.length 0 lo=0 by lia,List.take_zero]
  rw[e];have e4:f3 (U ((D.ia l.length 0 lo:Nat):Int)) (U ((D.ia l.length l.length a:Nat):Int)) 1 l.length=[]:=by
   have d:∀m:Nat,m<=Mo l->max 0 (min (if((m:Nat):Int)<0 then((m:Nat):Int)+(Mo l:Int)else((m:Nat):Int)) (Mo l:Int))=((m:Nat):Int):=λm h=>by
    rw[bp<|by lia];lia
   unfold f3;simp only[show((1:Int) > 0)from by decide,s9]
   rw[d _ c,d _ b];simp only[sliceRange];rw[bU<|by decide,bp<|by lia]
   rfl
  unfold jo;rw[fV,e4];rw[bp<|by simp;lia]
  rfl
def Gg(l:List α)(lo a:D2):(bW l lo a).length<=Mo l:=by
 unfold bW;rw[rN,kH]
 lia
def sQ(xs:List V)(lo a:D2):CG xs lo a=bW xs lo a:=by
 have e:∀(n d:Nat)(o:D2),HT.ia n d o=D.ia n d o:=λn d o=>by cases o<;>rfl
 unfold CG bW;rw[e,e]
def aC.cut(r:aC B al H ts vs)(lo a:D2):aC B al H (bW ts lo a)<|bW vs lo a:=by
 unfold bW;rw[r.len];exact(r.drop _).take _
def sR{α b:Type}(f:α->b)(l:List α)(lo a:D2):(bW l lo a).map f=bW (l.map f) lo a:=by
 unfold bW;rw[cz,xV,Ek]
theorem vR:∀{ts:FR}{vs:List V}{ls:Ap},aC B al H ts vs->strsOf ts=U ls->vs=(ls.map λl=>(⟨l.toArray⟩:Str)).map V.str
 |[],_,_,h,e=>by cases(show _=[]from h);cases e;rfl
 |t::ts,_,ls,h,e=>by
  obtain⟨v,r,rfl,c,b⟩:=h;cases t<;>try(cases e;done)
  rename_i l;have e:(strsOf ts).map (l::·)=U ls:=e
  cases a:strsOf ts with
  |none=>rw[a]at e;cases e
  |some ms=>
   rw[a]at e;cases e;obtain⟨rfl,_⟩:=c;rw[vR b a];rfl
theorem join_eq(a:B1):∀ls:Ap,vd ⟨a.toArray⟩ (ls.map λl=>(⟨l.toArray⟩:Str))=⟨(gp a ls).toArray⟩
 |[]=>J
 |[c]=>J
 |c::d::r=>by
  have b:=join_eq a<|d::r;show(⟨c.toArray⟩:Str)++⟨a.toArray⟩++vd ⟨a.toArray⟩ ((d::r).map λl=>(⟨l.toArray⟩:Str))=⟨(c++a++gp a (d::r)).toArray⟩;rw[b,Qn,Qn]
theorem rm(a:B1):∀ls:Ap,(gp a ls).length<=(ls.map (·.length)).sum+Mo ls*Mo a
 |[]=>by simp[gp]
 |[c]=>by simp[gp]
 |c::d::r=>by
  have b:=rm a<|d::r;show(c++a++gp a (d::r)).length<=_;rw[cQ,cQ,fq,List.sum_cons,dM,MF]
  lia
def Gh(ls:Ap):((ls.map λl=>(⟨l.toArray⟩:Str)).map (·.length))=ls.map (·.length):=by
 rw[gM];apply uO;intro l _;exact fV l
def Qx(l s:B1):pk ⟨l.toArray⟩ ⟨s.toArray⟩=pre s l:=by
 unfold pk pre;rw[kl];show(decide (0+(⟨s.toArray⟩:Str).length<=l.toArray.size)&&((l.drop 0).take (⟨s.toArray⟩:Str).length == s))=_;rw[fV,cZ,D_,uV]
def Qy(l s:B1):r0 ⟨l.toArray⟩ ⟨s.toArray⟩=Qf s l:=by
 unfold r0 Qf;rw[kl,fV,fV];show(decide (0+Mo s<=Mo l)&&((l.drop<|l.length-Mo s).take s.length == s))=_;rw[D_];by_cases h:Mo s<=Mo l
 .rw[c4 h,zZ,zZ]
  rw[zR<|by rw[kH];lia]
 .rw[b0 h,Et,Et]
theorem lY:∀{ts:FR}{vs:List V}{ks:Fh},aC B al H ts vs->boolsOf ts=U ks->vs=ks.map V.bl
 |[],_,_,h,e=>by cases(show _=[]from h);cases e;rfl
 |t::ts,_,ls,h,e=>by
  obtain⟨v,r,rfl,c,b⟩:=h;cases t<;>try(cases e;done)
  rename_i l;have e:(boolsOf ts).map (l::·)=U ls:=e
  cases a:boolsOf ts with
  |none=>rw[a]at e;cases e
  |some ms=>
   rw[a]at e;cases e;cases(show v=.bl l from c);rw[lY b a];rfl
def vS(a T:String):Option Bool:=if(n4 a == n4 T)=O then U O else if PySem.W.kitMeta T=O then(fastBuiltinMro a).map (·.contains<|n4 T)else Y
def lZ(K:bq){a T:String}{b:Bool}(h:vS a T=U b):nT K (.type a) (.type T)=U b:=h
structure ki(T:String):Prop where
 non:vS "NoneType" T=U Zc
 bl:vS "bool" T=U (T == "bool" ||T == "int")
 int:vS "int" T=U (T == "int")
 str:vS "str" T=U (T == "str")
 tup:vS "tuple" T=U (T == "tuple")
 lst:vS "list" T=U (T == "list")
 dic:vS "dict" T=U (T == "dict")
def Qz:ki "int" := by constructor<;>decide +kernel
def Ke:ki "bool" := by constructor<;>decide +kernel
def QA:ki "str" := by constructor<;>decide +kernel
def Gi:ki "tuple" := by constructor<;>decide +kernel
def Kf:ki "list" := by constructor<;>decide +kernel
def a_(c:Nat):B1->Ap
 |[]=>[[]]
 |d::l=>if d=c then[]::a_ c l else match a_ c l with
  |p::r=>(d::p)::r
  |[]=>[[d]]
theorem kj{c:Nat}:∀{p:B1},c∉p->a_ c p=[p]
 |[],_=>J
 |d::p,h=>by
  have hd:d≠c:=λe=>h (by rw[e];exact eO ..)
  have a:c∉p:=λe=>h<|ee _ e;unfold a_;rw[bp hd,kj a]
theorem oZ{c:Nat}(l:B1):∀{p:B1},c∉p->a_ c (p++[c]++l)=p::a_ c l
 |[],_=>by
  show a_ c (c::l)=_;rw[a_,bU J]
 |d::p,h=>by
  have hd:d≠c:=λe=>h (by rw[e];exact eO ..)
  have a:c∉p:=λe=>h<|ee _ e;show a_ c (d::(p++[c]++l))=_;rw[a_,bp hd,oZ l a]
theorem mL{c:Nat}:∀{ls:Ap},ls≠[]->(∀p∈ls,c∉p)->a_ c (gp [c] ls)=ls
 |[],h,_=>ef J h
 |[p],_,h=>kj<|h p<|eO ..
 |p::q::r,_,h=>by
  show a_ c (p++[c]++gp [c] (q::r))=_;rw[oZ _<|h p<|eO ..,mL (by simp) λx a=>h x<|ee _ a]
def split_len(x y:Str):(Txt.split x y).length<=x.length+2:=by
 unfold Txt.split;split
 .simp
 .split
  .simp
  .rw[length_partsBetween]
   have:=StrLaws.occ_length_le x y 0 x.length<|x.length+1
   exact xT this _
def Gj(x y:Str):Txt.split x y≠[]:=by
 unfold Txt.split;split
 .simp
 .split
  .simp
  .intro e
   have:=length_partsBetween x (eg x y 0 x.length<|x.length+1) y.length
   rw[e]at this;simp at this
def vU(a:B1)(c:Nat):Txt.split ⟨a.toArray⟩ ⟨#[c]⟩=(a_ c a).map λl=>(⟨l.toArray⟩:Str):=by
 obtain⟨L,f⟩:∃L:Ap,L=(Txt.split ⟨a.toArray⟩ ⟨#[c]⟩).map λp=>p.cps.toList:=⟨_,J⟩;have g:Txt.split ⟨a.toArray⟩ ⟨#[c]⟩=L.map λl=>(⟨l.toArray⟩:Str):=by
  rw[f,gM]
  conv=>lhs;rw[<- List.map_id<|Txt.split ⟨a.toArray⟩ ⟨#[c]⟩]
  apply uO;intro p _;show p=(⟨p.cps.toList.toArray⟩:Str);rw[Array.toArray_toList]
 have i:L≠[]:=by
  rw[f];intro e;exact Gj _ _<|List.map_eq_nil_iff.mp e
 have h:∀p∈L,c∉p:=by
  rw[f];intro p k;obtain⟨q,j,rfl⟩:=je.mp k;exact StrLaws.split_free _ c q j
 have b:=StrLaws.join_split ⟨a.toArray⟩ ⟨#[c]⟩;rw[g,show(⟨#[c]⟩:Str)=⟨([c]:B1).toArray⟩from J,join_eq]at b;have d:gp [c] L=a:=by
  injection b with b
  simpa using b
 rw[g,<- d,mL i h]
theorem l_:∀{ls:Ap},(∀l∈ls,Mo l<=1000000)->aC B al H (ls.map T.str) (ls.map λl=>SV l)
 |[],_=>J
 |l::ls,h=>⟨_,_,J,⟨J,h l<|eO ..⟩,l_ λx a=>h x<|ee _ a⟩
theorem iN(c:Nat):∀(a:B1),∀l∈a_ c a,Mo l<=Mo a
 |[],l,h=>by
  rw[iF.mp h];simp
 |d::a,l,h=>by
  have f:=iN c a;rw[a_]at h;split at h
  .rcases cu.mp h with e|e
   .rw[e];simp
   .have:=f l e;simp;exact bG this<|bD ..
  .split at h
   .rename_i p r b
    rcases cu.mp h with e|e
    .have:=f p (by rw[b];exact eO ..)
     rw[e];simp;exact this
    .have:=f l (by rw[b];exact ee _ e)
     simp;exact bG this<|bD ..
   .rw[iF.mp h];simp
def Wb:PO X Y<|tP B xN:=NV JG λσ H Q z=>by
 obtain⟨g,s,t,s',x,h,k⟩:=z;cases h;exact k g H .refl x
def AH(h:VP t=U i):t=.int i:=by
 cases t<;>first|(cases h;done)|(cases h;rfl)
def Wc(j:PE X a<|tE B fa):PO X (U a)<|tP B<|nK fa:=NV (JH j) λσ H Q z=>by
 obtain⟨g,s,t,s',x,h,k⟩:=z;obtain⟨⟨d,c⟩,m,h⟩:=ae h;obtain⟨i,l,h⟩:=ae h;cases AH (ao l);cases h;exact⟨g,s,_,c,x,m,λv g1 H1 f b e=>⟨_,e,k g1 H1 f b⟩⟩
def ø(K:bq):V->D2->D2->Hp->VK->Prop:=λx lo a H Q=>(∃z,x=.str z/\z.length<=cC/\Q (.str<|y4 z lo a) H)\/U8 K x lo a H Q
def We:ND X<|ø X.K:=PU.or JJ
def ù(F:B.K=X.K)(E:PE X a<|tE B fa)(hl:PO X TX<|tP B Z)(D:PO X TY<|tP B TV):PE X (.Subscript a (.Slice TX TY Y S) pos)<|tE B<|rj fa Z TV:=by
 refine aR (vf We E hl D) λσ H Q w=>?_;obtain⟨g,s,t,s',x,h,k⟩:=w;obtain⟨⟨m,n⟩,L,h⟩:=ae h;obtain⟨⟨lo,s2⟩,I,h⟩:=ae h;obtain⟨⟨u,P⟩,G,h⟩:=ae h;obtain⟨N,c,h⟩:=ae h;cases h;have c:Ja lo u m=U _:=ao c;refine⟨g,s,_,n,x,L,λv g1 H1 C z A=>⟨g1,n,_,s2,z,I,λg2 R S y=>⟨g2,s2,_,_,y,G,λg3 M f b=>?_⟩⟩⟩;have d:=(A.mv S.pre S.fr).mv f.pre f.fr;have e:=(C.trans S).trans f;cases m<;>try(cases c;done)
 .cases c
  obtain⟨rfl,p⟩:=d;refine .inl ⟨_,J,ï p,?_⟩;rw[cut_str];exact k _ g3 M e b ⟨J,bG (Gg _ _ _) p⟩
 .cases c
  obtain⟨a,j,rfl,q,r⟩:=d;refine .inr ⟨a,j,J,dm.of<|b.sub _ _ q,λl hl=>?_⟩;rw[sQ];have i:=Gr.new (o:=.lst<|bW j lo u) b.sub hl;exact k _ _ _ (e.trans<|b.gB i) (b.grow i) ⟨l,_,J,ai,(r.cut _ _).same i.fr⟩
 .cases c
  obtain⟨a,rfl,q⟩:=d;refine .inr ⟨a,_,J,F▸b.sub.seq q,λl hl=>?_⟩;rw[sQ,<- sR];exact k _ _ _ (e.trans<|b.gB<|Gr.new b.sub hl) (b.grow<|Gr.new b.sub hl) ⟨l,_,J,ai,aC.ints _⟩
end
def noStar:cw->Bool
 |.Starred _ _=>Zc
 |_=>O
def aq(h:noStar e=O):dy (e::es) env=(Zc,eR e env)::dy es env:=by
 cases e<;>first|rfl|(cases h)
theorem dq:∀{es:Bz},es.all noStar=O->(hX pos<|dy es env).any (·.1)=Zc
 |[],_=>J
 |e::es,h=>by
  rw[e7,cL]at h;rw[aq h.1];show(Zc ||(hX pos<|dy es env).any (·.1))=Zc
  rw[dq h.2];rfl
theorem o9:∀{es:Bz},es.all noStar=O->(hX pos<|dy es env).all (λx=>!x.1)=O
 |[],_=>J
 |e::es,h=>by
  rw[e7,cL]at h;rw[aq h.1];show(O&&(hX pos<|dy es env).all (λx=>!x.1))=O;rw[o9 h.2];rfl
def sU(h:(e::es).all noStar=O)(hl:Mo es<29):((hX bZ<|dy (e::es) env).all (λx=>!x.1)&&(ri bZ<|mM [] env).all (λx=>x.1.isSome)
   && decide ((e::es).length+([]:List pq).length+(if([]:List pq).isEmpty then 0 else 1)<30))=O:=by
 rw[o9 h,cL];exact⟨J,c4<|show Mo es+1+0+0<30 from jd hl<|by decide⟩
def bx:cw->Bool
 |.Call (.Name _ _) [] [] _=>Zc
 |_=>O
def fW{a:Sem bj}(h:bx o=O):ke o f env a=a:=by
 unfold ke;split
 .cases h
 .rfl
def LM(X:Cx)(f:B1->FR->FV)(r:V->List V->Hp->VK->Prop):Prop:=∀(B:KT)(_:B.K=X.K)(al:BM)(HF H:Hp)(l:B1)(a:List V)(t:T)(ts:FR)(Q:VK),aM HF H->Mo l<=1000000->aC B al HF ts a->f l ts=U t->(∀v b H',Gr HF H b H'->Rep B al b t v->Q v H')->r (SV l) a H Q
def Kg:T->Option B1
 |.str l=>U l
 |_=>Y
def qm(f:B1->FR->FV)(o:FE)(fl:FL):FE:=λs=>(o s).bind λp=>(aZ<|Kg p.1).bind λl=>(fl p.2).bind λq=>(aZ<|f l q.1).bind λt=>.ok (t,q.2)
def Gk(h:Kg t=U l):t=.str l:=by
 cases t<;>first|(cases h;done)|(cases h;rfl)
def ú(q:B.K=X.K)(hr:LM X f r):∀σ H Q,tE B (qm f fo fl) σ H Q->Ū X.K "str" r (tE B fo) (tA B fl) σ H Q:=by
 rintro σ H Q ⟨g,s,t,s',x,h,k⟩
 obtain⟨⟨E,b⟩,A,h⟩:=ae h;obtain⟨l,z,h⟩:=ae h;obtain⟨⟨ts,s2⟩,y,h⟩:=ae h;obtain⟨F,w,h⟩:=ae h;cases h;cases Gk (ao z);refine⟨g,s,_,b,x,A,λv g1 H1 o d m=>?_⟩;obtain⟨rfl,p⟩:=m;exact⟨J,g1,b,_,_,d,y,λe g2 D n a j=>hr B q g2.al g2.HF D l e _ ts Q a.sub p j (ao w) λu C H' c i=>k u (g2.grow C) H' ((o.trans n).trans<|a.gB c) (a.grow c) i⟩
def Gn(l:B1):FR->FV
 |[.str s]=>U<|.bl<|pre s l
 |_=>Y
def û(l:B1):FR->FV
 |[.str s]=>U<|.bl<|Qf s l
 |_=>Y
def joinM(l:B1):FR->FV
 |[t]=>Av (.str l) t
 |_=>Y
def splitM(l:B1):FR->FV
 |[.str [c]]=>gd (Mo l<=100000)<|.lst<|(a_ c l).map .str
 |_=>Y
open PySem.Spec PyProof.Rows in
def vV(l:B1):FR->FV
 |[.str s]=>U<|.int<|vb ⟨l.toArray⟩ ⟨s.toArray⟩
 |[.str s,.int i]=>U<|.int<|Txt.find3 ⟨l.toArray⟩ ⟨s.toArray⟩ i
 |_=>Y
def dh(r:aC B al H [t] xs):∃v,xs=[v]/\Rep B al H t v:=by
 obtain⟨v,w,rfl,h,e⟩:=r;cases(show w=[]from e);exact⟨v,J,h⟩
def Kh(r:aC B al H [t,u] xs):∃v w,xs=[v,w]/\Rep B al H t v/\Rep B al H u w:=by
 obtain⟨v,b,rfl,h,e⟩:=r;obtain⟨w,rfl,a⟩:=dh e;exact⟨v,w,J,h,a⟩
def ü:LM X Gn λx vs H Q=>∃a b,x=.str a/\vs=[.str b]/\Q (.bl<|pk a b) H:=λB e al HF H l c t ts Q sm d r h k=>by
 match ts,h with
 |[.str s],h=>
  cases h;obtain⟨v,rfl,rfl,_⟩:=dh r;refine⟨_,_,J,J,?_⟩;rw[Qx];exact k _ HF H (.refl sm) J
def ý:LM X û λx vs H Q=>∃a b,x=.str a/\vs=[.str b]/\Q (.bl<|r0 a b) H:=λB e al HF H l c t ts Q sm d r h k=>by
 match ts,h with
 |[.str s],h=>
  cases h;obtain⟨v,rfl,rfl,_⟩:=dh r;refine⟨_,_,J,J,?_⟩;rw[Qy];exact k _ HF H (.refl sm) J
def QC:LM X joinM λx vs H Q=>∃b l ys,x=.str b/\vs=[.ref l]/\dm X.K H l (ys.map V.str)/\(ys.map (·.length)).sum+ys.length*b.length<=16777216/\Q (.str<|vd b ys) H:=λB j al HF H l g t ts Q sm i r h k=>by
 match ts,h with
 |[u],h=>
  obtain⟨v,rfl,d⟩:=dh r;have h:Av (.str l) u=U t:=h;cases u with
  |lst c=>
   have h:(strsOf c).bind (λys=>gd ((ys.map (·.length)).sum+ys.length*l.length<=1000000)<|T.str<|gp l ys)=U t:=h
   obtain⟨ls,f,h⟩:=bM.mp h;obtain⟨z,rfl⟩:=bu h;obtain⟨a,vs,rfl,q,r⟩:=d;have e:=vR r f;subst e;refine⟨_,a,_,J,J,dm.of<|sm _ _ q,?_,?_⟩
   .rw[Gh,cz,fV];exact bG z (by decide)
   .rw[join_eq]
    exact k _ HF H (.refl sm) ⟨J,bG (rm _ _) z⟩
  |_=>cases h
def m_find:LM X vV λx vs H Q=>(∃a b,x=.str a/\vs=[.str b]/\Q (.int<|vb a b) H)\/∃a b i,x=.str a/\vs=[.str b,.int i]/\Q (.int<|Txt.find3 a b i) H:=λB e al HF H l c t ts Q sm d r h k=>by
 match ts,h with
 |[.str s],h=>
  cases h;obtain⟨v,rfl,rfl,_⟩:=dh r;exact .inl ⟨_,_,J,J,k _ HF H (.refl sm) J⟩
 |[.str s,.int i],h=>
  cases h;obtain⟨v,w,rfl,⟨rfl,_⟩,rfl⟩:=Kh r;exact .inr ⟨_,_,_,J,J,k _ HF H (.refl sm) J⟩
def m_split:LM X splitM λx vs H Q=>∃a b,x=.str a/\vs=[.str b]/\(b.length == 0)=Zc/\a.length<=cC/\(Txt.split a b).length<=cC/\∀l,H l=Y->Q (.ref l) (upd H l<|.lst<|(Txt.split a b).map V.str):=λB n al HF H l j t ts Q sm d r h k=>by
 match ts,h with
 |[.str [c]],h=>
  obtain⟨z,rfl⟩:=bu h;obtain⟨v,rfl,rfl,_⟩:=dh r;have i:=split_len ⟨l.toArray⟩ ⟨([c]:B1).toArray⟩;rw[fV]at i;refine⟨_,_,J,J,J,by rw[fV,eJ];exact bG z<|by decide,by rw[eJ];lia,λq f=>?_⟩
  have e:(Txt.split ⟨l.toArray⟩ ⟨([c]:B1).toArray⟩).map V.str=(a_ c l).map λl=>SV l:=by
   rw[show(⟨([c]:B1).toArray⟩:Str)=⟨#[c]⟩from J,vU,gM];rfl
  rw[e];refine k _ _ _ (Gr.new sm f) ⟨q,_,J,ai,l_ λm g=>?_⟩
  have:=iN c l m g
  exact bG this d
 |[.str []],h=>cases h
 |[.str<|_::_::_],h=>cases h
def yf.or{id:String}(h:yf X id r)(h':yf X id d):yf X id λx vs H Q=>r x vs H Q\/d x vs H Q:=λe s σ H x vs v a Q I b c q=>by
 rcases q with q|q
 .exact h e s σ H x vs v a Q I b c q
 .exact h' e s σ H x vs v a Q I b c q
structure SMt(X:Cx)(n:Str)(f:B1->FR->FV):Prop where
 ex:∃id r,Slot "str" n id/\sG (.builtin id)=pure (.type "method_descriptor")/\yf X id r/\LM X f r
def Wf(M:SMt X n f)(h:B.K=X.K)(c:PE X o<|tE B fo)(g:PA X (e::es)<|tA B fl)(d:bx o=O)(b:(e::es).all noStar=O)(hl:Mo es<29)(m:(bQ.endLine == bZ.line)=O) :
  PE X (.Call (.Attribute o n bQ) (e::es) [] bZ)<|tE B<|qm f fo fl:=by
 obtain⟨id,r,l,k,j,i⟩:=M.ex;have a:=b;rw[e7,cL]at a;exact aR (vj vk l k j c g (fW d) (sU b hl) m (aq a.1)<|dq a.2)<|ú h i
def Kl(l:B1):FR->FV
 |[.str s]=>U<|.int<|Txt.count ⟨l.toArray⟩ ⟨s.toArray⟩
 |_=>Y
def Gp:yf X "str.count" λx vs H Q=>∃a b,x=.str a/\vs=[.str b]/\Q (.int<|Txt.count a b) H:=by
 intro g s σ H x vs v e Q I c d h;obtain⟨a,b,rfl,rfl,q⟩:=h;obtain⟨t,rfl⟩:=c;obtain⟨u,rfl,⟨f,rfl⟩⟩:=d.one;exact SC.count ⟨.int _,H,I.tok _,⟨_,J⟩,q⟩
def Km:LM X Kl λx vs H Q=>∃a b,x=.str a/\vs=[.str b]/\Q (.int<|Txt.count a b) H:=λB e al HF H l c t ts Q sm d r h k=>by
 match ts,h with
 |[.str s],h=>
  cases h;obtain⟨v,rfl,rfl,_⟩:=dh r;exact⟨_,_,J,J,k _ HF H (.refl sm) J⟩
def yx:List<|Str×(B1->FR->FV):=[("startswith",Gn),("endswith",û),("join",joinM),("split",splitM),("find",vV),("count",Kl)]
def QD:∀p∈yx,SMt X p.1 p.2:=by
 intro p h;simp only[yx,cu,nZ,ma]at h;rcases h with rfl|rfl|rfl|rfl|rfl|rfl
 .exact⟨_,_,PySem.F.slot_str_startswith,PySem.F.type_str_startswith,qz,ü⟩
 .exact⟨_,_,PySem.F.slot_str_endswith,PySem.F.type_str_endswith,vm,ý⟩
 .exact⟨_,_,PySem.F.slot_str_join,PySem.F.type_str_join,JR,QC⟩
 .exact⟨_,_,vi,vh,vQ,m_split⟩
 .exact⟨_,_,PySem.F.slot_str_find,PySem.F.type_str_find,yf.or Gb Ff,m_find⟩
 .exact⟨_,_,PySem.F.slot_str_count,PySem.F.type_str_count,Gp,Km⟩
def cX:FR->FV
 |[t]=>(match t with
  |.kC _ _=>Y
  |t=>FJ t)
 |_=>Y
def Wg:LN X cX λxs H Q=>∃x n,xs=[x]/\UT X.K x H n/\Q (.int n) H:=λB d al HF H xs t ts Q sm r h k=>by
 match ts,h with
 |[tx],h=>
  obtain⟨v,rfl,b⟩:=dh r;cases tx<;>try(cases h;done)
  .cases h
   obtain⟨rfl,e⟩:=b;exact⟨_,_,J,⟨ï e,(fV _).symm⟩,k _ HF H (.refl sm) J⟩
  .cases h
   obtain⟨a,c,rfl,q,r⟩:=b;exact⟨_,_,J,.inr ⟨c,d▸c7 sm q,r.len⟩,k _ HF H (.refl sm) J⟩
  .cases h
   obtain⟨a,c,rfl,q,r⟩:=b;exact⟨_,_,J,.inl ⟨c,dm.of<|sm _ _ q,r.len⟩,k _ HF H (.refl sm) J⟩
  .cases h
   obtain⟨a,rfl,q⟩:=b;exact⟨_,_,J,.inl ⟨_,d▸sm.seq q,(cz _).symm⟩,k _ HF H (.refl sm) J⟩
def C5:FR->FV
 |[t]=>J2 t
 |_=>Y
def sV:FR->FV
 |[t]=>FN t
 |_=>Y
def Wh:LN X C5 λxs H Q=>∃(p:bt)(ks:Fh),xs=[.ref p]/\dm X.K H p (ks.map V.bl)/\Q (.bl<|ks.all id) H:=λB g al HF H xs t ts Q sm r h k=>by
 match ts,h with
 |[tx],h=>
  obtain⟨v,rfl,c⟩:=dh r;have h:J2 tx=U t:=h;cases tx with
  |lst b=>
   obtain⟨ks,d,h⟩:=ck.mp<|show(boolsOf b).map _=U t from h;obtain⟨a,f,rfl,q,r⟩:=c;have e:=lY r d;subst e h;exact⟨a,ks,J,dm.of<|sm _ _ q,k _ HF H (.refl sm) J⟩
  |_=>cases h
def Wi:LN X sV λxs H Q=>∃(p:bt)(ks:Fh),xs=[.ref p]/\dm X.K H p (ks.map V.bl)/\Q (.bl<|ks.any id) H:=λB g al HF H xs t ts Q sm r h k=>by
 match ts,h with
 |[tx],h=>
  obtain⟨v,rfl,c⟩:=dh r;have h:FN tx=U t:=h;cases tx with
  |lst b=>
   obtain⟨ks,d,h⟩:=ck.mp<|show(boolsOf b).map _=U t from h;obtain⟨a,f,rfl,q,r⟩:=c;have e:=lY r d;subst e h;exact⟨a,ks,J,dm.of<|sm _ _ q,k _ HF H (.refl sm) J⟩
  |_=>cases h
def Gq:FR->FV
 |[.str l]=>(o5 ⟨l.toArray⟩).bind λn=>gd (Mo l<=640)<|.int n
 |[.bl b]=>U<|.int<|if b then 1 else 0
 |_=>Y
abbrev Wj:List V->Hp->VK->Prop:=λa H Q=>(∃y n,a=[.str y]/\o5 y=U n/\y.length<=640/\Q (.int n) H)\/∃b,a=[.bl b]/\Q (.int<|if b then 1 else 0) H
def C6:fJ X (.type "int") Wj:=by
 intro f s σ H c d Q I r h;rcases h with⟨y,n,rfl,a,hl,q⟩|⟨b,rfl,q⟩
 .obtain⟨u,rfl,t,rfl⟩:=vals1 r
  exact PySem.W.KIN.call_text a hl ⟨.int n,H,I.tok _,⟨_,J⟩,q⟩
 .obtain⟨u,rfl,e⟩:=vals1 r
  cases(show u=pM b from e);exact PySem.call_int_bool ⟨.int<|if b then 1 else 0,H,I.tok _,⟨_,J⟩,q⟩
def Wk:LN X Gq Wj:=λB e al HF H d t ts Q sm r h k=>by
 match ts,h with
 |[.str l],h=>
  obtain⟨v,rfl,a⟩:=dh r;obtain⟨n,c,h⟩:=bM.mp h;obtain⟨z,rfl⟩:=bu h;obtain⟨rfl,_⟩:=a;exact .inl ⟨_,n,J,c,by rw[fV];exact z,k _ HF H (.refl sm) J⟩
 |[.bl b],h=>
  obtain⟨v,rfl,a⟩:=dh r;cases h;cases a;exact .inr ⟨b,J,k _ HF H (.refl sm) J⟩
def Gs:FR->FV
 |[t]=>NT t
 |_=>Y
def QE:LN X Gs λxs H Q=>∃p ys,xs=[.ref p]/\(dm X.K H p ys\/mC X.K H p ys)/\∀l,H l=Y->Q (.ref l) (upd H l<|.lst ys):=λB c al HF H xs t ts Q sm r h k=>by
 match ts,h with
 |[tx],h=>
  obtain⟨v,rfl,b⟩:=dh r;have h:NT tx=U t:=h;cases tx<;>try(cases h;done)
  .cases h
   obtain⟨l,xs,rfl,q,r⟩:=b;exact⟨l,xs,J,.inr<|c▸c7 sm q,λp a=>k _ _ _ (Gr.new sm a) ⟨p,_,J,ai,r.same<|aT<|sm.free a⟩⟩
  .cases h
   obtain⟨l,xs,rfl,q,r⟩:=b;exact⟨l,xs,J,.inl<|dm.of<|sm _ _ q,λp a=>k _ _ _ (Gr.new sm a) ⟨p,_,J,ai,r.same<|aT<|sm.free a⟩⟩
structure þ(X:Cx)(n:Str)(f:FR->FV):Prop where
 ex:∃r,LN X f r/\((∃id,hM n=U (.builtin id)/\fJ X (.builtin id) r)\/∃ty,hM n=U (.type ty)/\fJ X (.type ty) r)
 nn:n ≠ "__name__"
 nd:bA n
def Wl(M:þ X x f)(i:B.K=X.K)(g:Gl X x)(d:X.mg x=Y)(h:PA X (e::es)<|tA B fl)(a:(e::es).all noStar=O):PE X (.Call (.Name x p) (e::es) [] pos)<|tE B<|bV f fl:=by
 obtain⟨⟨r,j,k⟩,nn,nd⟩:=M;rw[e7,cL]at a;rcases k with⟨id,c,b⟩|⟨ty,c,b⟩
 .exact aR (gh b g d c h nn nd (aq a.1)<|dq a.2)<|NX i j
 .exact aR (h_ b g d c h nn nd (aq a.1)<|dq a.2)<|NX i j
def yy:List<|Str×(FR->FV):=[("len",cX),("all",C5),("any",sV),("int",Gq),("list",Gs)]
def QF(a:X.calm=O):∀p∈yy,þ X p.1 p.2:=by
 intro p h;simp only[yy,cu,nZ,ma]at h;rcases h with rfl|rfl|rfl|rfl|rfl
 .exact⟨⟨_,Wg,.inl ⟨_,PySem.boot_len,u9⟩⟩,by decide,by decide⟩
 .exact⟨⟨_,Wh,.inl ⟨_,PyProof.Rows.boot_all,Fg a⟩⟩,by decide,by decide⟩
 .exact⟨⟨_,Wi,.inl ⟨_,PyProof.Rows.boot_any,Fi a⟩⟩,by decide,by decide⟩
 .exact⟨⟨_,Wk,.inr ⟨_,Nt,C6⟩⟩,by decide,by decide⟩
 .exact⟨⟨_,QE,.inr ⟨_,uY,iK⟩⟩,by decide,by decide⟩
structure Pg where
 cn:Bi
 an:Bi
 tab:Ap
 sub:Ap
def Pg.fn(P:Pg):List Bi:=P.tab.map λl=>l.map λi=>P.an.getD i y6
structure TZ(K:bq)(mg:Str->D1)(n:Str)(ns:Bi)(C:bt):Prop where
 at_:mS K eP n=U (U<|.ref C)
 gl:mg n=U (.ref C)
 nd:ns.Nodup
 sU:Mo ns<=100
 cl:qk K C
 na:∀f∈ns,bB K C f
 ca:eY K (.ref C) "__class__" = U (U<|.builtin Md)
 mo:Cc K C (.type "object")=U O
structure nq(K:bq)(mg:Str->D1)(P:Pg):Prop where
 cls:∀(c:Nat)(n:Str)(ns:Bi),P.cn[c]?=U n->P.fn[c]?=U ns->∃C,TZ K mg n ns C
 sub:∀(c d:Nat)(n n':Str)(C D:bt)(l:B1),P.cn[c]?=U n->P.cn[d]?=U n'->mg n=U (.ref C)->mg n'=U (.ref D)->P.sub[c]?=U l->nT K (.ref C) (.ref D)=U (decide<|d∈l)
 gt:zt K (.builtin Md) "__get__" = U (U<|.builtin "getset_descriptor.__get__")/\zu K (.builtin Md)=U O
abbrev Pg.kt(P:Pg)(X:Cx):KT:=⟨X.K,X.prog,X.w,P.cn,P.fn⟩
variable{P:Pg}
def nq.of(g:nq X.K X.mg P){c:Nat}{C:bt}(h:ig (P.kt X) c C ns):∃n,P.cn[c]?=U n/\P.fn[c]?=U ns/\TZ X.K X.mg n ns C:=by
 obtain⟨n,b,a,f,d⟩:=h;obtain⟨e,F⟩:=g.cls c n ns b a
 have:C=e:=by
  have:=(show mS X.K eP n=U (U<|.ref C)from d).symm.trans F.at_
  injection this with this
  injection this with this
  injection this
 subst this;exact⟨n,b,a,F⟩
theorem iO:∀{ns:Bi}{vs:List V}{j:Nat},ns.Nodup->ns[j]?=U f->(ns.zip vs).lookup f=vs[j]?
 |[],vs,j,_,h=>by simp at h
 |n::ns,[],j,_,_=>by simp
 |n::ns,v::vs,0,nd,h=>by
  simp at h;subst h;rw[qu,List.lookup_cons_self];rfl
 |n::ns,v::vs,j+1,nd,h=>by
  simp at h;have e:(f == n)=Zc:=beq_eq_false_iff_ne.mpr λz=>by subst z;exact(nY.mp nd).1<|gz h
  rw[qu,jZ,e];simpa using iO (nY.mp nd).2 h
theorem ir:∀{ns:Bi}{vs:List V},f∉ns->(ns.zip vs).lookup f=Y
 |[],vs,_=>by simp
 |n::ns,[],_=>by simp
 |n::ns,v::vs,h=>by
  have e:(f == n)=Zc:=beq_eq_false_iff_ne.mpr λz=>h (by rw[z];exact eO ..)
  rw[qu,jZ,e];exact ir λz=>h<|ee _ z
theorem AI:∀{ns:Bi}{vs:List V}{j:Nat},ns.Nodup->ns[j]?=U f->Mo vs<=Mo ns->j<Mo vs->L2.dP f v (ns.zip vs)=ns.zip (vs.set j v)
 |[],vs,j,_,h,_,_=>by simp at h
 |n::ns,[],j,_,_,_,h=>by simp at h
 |n::ns,w::vs,0,nd,h,_,_=>by
  simp at h;subst h;show(if n=n then(n,v)::ns.zip vs else(n,w)::L2.dP n v (ns.zip vs))=_
  rw[bU J];rfl
 |n::ns,w::vs,j+1,nd,h,hl,a=>by
  simp at h hl a;show(if n=f then(n,v)::ns.zip vs else(n,w)::L2.dP f v (ns.zip vs))=_
  rw[bp λz=>(nY.mp nd).1<|by rw[z];exact gz h,AI (nY.mp nd).2 h hl a]
  rfl
theorem sW:∀{ns:Bi}{vs:List V},ns.Nodup->ns[Mo vs]?=U f->L2.dP f v (ns.zip vs)=ns.zip (vs++[v])
 |[],vs,_,h=>by simp at h
 |n::ns,[],nd,h=>by
  simp at h;subst h;show L2.dP n v []=(n,v)::ns.zip [];simp[L2.dP]
 |n::ns,w::vs,nd,h=>by
  simp at h;show(if n=f then(n,v)::ns.zip vs else(n,w)::L2.dP f v (ns.zip vs))=_
  rw[bp λz=>(nY.mp nd).1<|by rw[z];exact gz h,sW (nY.mp nd).2 h]
  rfl
def Kn{l:B1}(h:l.idxOf? f=U j):l[j]?=U f:=by
 rw[MW,MX]at h;obtain⟨a,b,_⟩:=h;rw[c5 a,eq_of_beq b]
def nN{c f j:Nat}(b:P.an[f]?=U n)(a:P.fn[c]?=U ns)(h:jm P.tab c f=U j):ns[j]?=U n:=by
 unfold jm at h;obtain⟨l,e,d⟩:=bM.mp h;unfold Pg.fn at a;rw[fQ,e]at a;cases a;rw[fQ,Kn d];show U (P.an.getD f y6)=_;rw[gZ,b];rfl
def N6(qd:nq X.K X.mg P)(G:P.an[f]?=U n)(he:PE X e<|tE (P.kt X) fa)(W:bx e=O):PE X (.Attribute e n pos)<|tE (P.kt X)<|aE P.tab f fa:=by
 refine aR (ER he<|fW W) λσ H Q L=>?_;obtain⟨g,s,t,s',x,h,k⟩:=L;obtain⟨⟨R,S⟩,h1,h⟩:=ae h;refine⟨g,s,_,S,x,h1,λv g1 H1 E d D=>?_⟩;cases R<;>try(cases h;done)
 .rename_i c fs
  obtain⟨u,A,h⟩:=ae h;cases h;obtain⟨j,y,p⟩:=bM.mp<|ao A;obtain⟨a,C,B,ns,M,rfl,hC,T,hl,hd,r⟩:=D;obtain⟨m,V,i,F⟩:=qd.of hC;have b:=nN G i y;obtain⟨w,o,N⟩:=r.get p;exact⟨a,C,B,_,w,J,d.sub _ _ T,F.cl,F.na _<|gz b,by rw[iO F.nd b,o],k _ g1 H1 E d N⟩
 .rename_i kk
  obtain⟨c,A,h⟩:=ae h;obtain⟨ob,y,p⟩:=bM.mp<|ao A;obtain⟨j,I,h6⟩:=bM.mp p;obtain⟨a,rfl,ha⟩:=D;rcases d.st.at_ kk ob y with⟨a',C,B,ns,M,Z⟩|⟨a',Z⟩
  case inr=>
   obtain⟨l,q,_⟩:=bM.mp I;have z:(P.tab.map _)[ob.c]?=Y:=Z.nf;rw[fQ,q]at z;cases z
  have:=Z.al.symm.trans ha
  cases this;obtain⟨m,V,i,F⟩:=qd.of Z.cl;have b:=nN G i I;obtain⟨w,o,sl⟩:=Z.f j c h6;cases c with
  |val t'=>
   cases h;exact⟨a,C,B,_,w,J,Z.h,F.cl,F.na _<|gz b,by rw[iO F.nd b,o],k _ g1 H1 E d sl⟩
  |ol ts=>cases h
  |od ks ts=>cases h
  |yg t=>cases h
def tyB(ty:String):T->Option Bool
 |.non=>U Zc
 |.bl _=>U<|ty == "bool" ||ty == "int"
 |.int _=>U<|ty == "int"
 |.str _=>U<|ty == "str"
 |.tup _=>U<|ty == "tuple"
 |.lst _=>U<|ty == "list"
 |_=>Y
def QG(ty:String):T->FV:=λt=>(tyB ty t).map .bl
def QH(c:ki Ty)(r:Rep B al H t v)(h:tyB Ty t=U u):∃d,jM B.K H v d/\nT B.K d (.type Ty)=U u:=by
 cases t with
 |non=>cases(show v=.non from r);cases h;exact⟨_,.non,lZ B.K c.non⟩
 |bl b=>cases(show v=.bl b from r);cases h;exact⟨_,.bl _,lZ B.K c.bl⟩
 |int i=>cases(show v=.int i from r);cases h;exact⟨_,.int _,lZ B.K c.int⟩
 |str l=>obtain⟨rfl,_⟩:=r;cases h;exact⟨_,.str _,lZ B.K c.str⟩
 |tup ts=>obtain⟨a,e,rfl,q,_⟩:=r;cases h;exact⟨_,.tup q,lZ B.K c.tup⟩
 |lst ts=>obtain⟨a,e,rfl,q,_⟩:=r;cases h;exact⟨_,.lst q,lZ B.K c.lst⟩
 |_=>cases h
def vW:List<|Str×String:=[("int","int"),("bool","bool"),("str","str"),("tuple","tuple"),("list","list")]
def Wm:∀q∈vW,ki q.2/\hM q.1=U (.type q.2)/\q.1 ≠ "__name__" /\ (q.1 == ("__debug__" : Str))=Zc:=by
 intro p h;simp only[vW,cu,nZ,ma]at h;rcases h with rfl|rfl|rfl|rfl|rfl
 .exact⟨Qz,Nt,by decide,by decide⟩
 .exact⟨Ke,PyProof.Rows.boot_bool,by decide,by decide⟩
 .exact⟨QA,PyProof.Rows.boot_str,by decide,by decide⟩
 .exact⟨Gi,PyProof.Rows.boot_tuple,by decide,by decide⟩
 .exact⟨Kf,uY,by decide,by decide⟩
def QI(c:B.K=X.K)(m:(y,ty)∈vW)(o:X.mg "isinstance" = Y)(ÿ:X.mg y=Y)(w:PE X a<|tE B fa)(q:Gl X "isinstance")(D:Gl X y)(f:noStar a=O) :
  PE X (.Call (.Name "isinstance" p) [a,.Name y d] [] pos)<|tE B<|dX (QG ty) fa:=by
 obtain⟨l,s,n,hd⟩:=Wm _ m;have E:dy [Expr.Name y d] X.env=(Zc,eR (.Name y d) X.env)::dy [] X.env:=J;refine aR (gh vp q o uZ (aL w (aL (Ac D ÿ s (v:=.ty ty) J n hd) bP E)<|aq f) (he:=aq f) (hpl:=J))
 <|NW c (r:=λx H Q=>∃e g t b,[x,.ty ty]=[e,.ty g]/\jM X.K H e t/\nT X.K t (.type g)=U b/\Q (.bl b) H) λB c al HF H x t F Q sm j h k=>?_
 obtain⟨u,C,rfl⟩:=ck.mp h;obtain⟨i,A,z⟩:=QH l (j.same sm) C;exact⟨x,ty,i,u,J,c▸A,c▸z,k _ HF H (.refl sm) J⟩
def jb(sub:Ap)(ds:B1):T->FV
 |.obj c _=>(sub[c]?).map λl=>.bl<|ds.any λd=>decide<|d∈l
 |_=>Y
def Gu:fJ X (.builtin "isinstance") λxs H Q=>∃x D t b,xs=[x,.ref D]/\jM X.K H x t/\nT X.K t (.ref D)=U b/\Q (.bl b) H:=by
 intro g s σ H xs d Q I r h;obtain⟨x,D,t,b,rfl,ty,e,q⟩:=h;obtain⟨u,f,rfl,a,c⟩:=vals2 r;cases c;exact qQ I a ty e λtk=>⟨.bl b,H,I.tok _,J,q⟩
def Wn(qd:nq X.K X.mg P){c:Pos}(f:P.cn[d]?=U y)(A:X.mg "isinstance" = Y)(I:PE X a<|tE (P.kt X) fa)(E:Gl X "isinstance")(R:Gl X y)(i:noStar a=O)(hd:bA y)(N:(P.fn[d]?).isSome=O) :
  PE X (.Call (.Name "isinstance" p) [a,.Name y c] [] pos)<|tE (P.kt X)<|dX (jb P.sub [d]) fa:=by
 obtain⟨ns,w⟩:=Ef.mp N;obtain⟨D,j⟩:=qd.cls d y ns f w;have S:dy [Expr.Name y c] X.env=(Zc,eR (.Name y c) X.env)::dy [] X.env:=J;refine aR (gh Gu E A uZ (aL I (aL (nH (v:=.ref D) R j.gl J hd) bP S)<|aq i) (he:=aq i) (hpl:=J)) λσ H Q n=>?_;obtain⟨g,s,t,s',x,h,k⟩:=n;obtain⟨⟨o,Z⟩,M,h⟩:=ae h;obtain⟨W,b,h⟩:=ae h;cases h;refine⟨g,s,_,_,x,M,λv g1 H1 u e q=>?_⟩;have b:=ao b;cases o<;>try(cases b;done)
 obtain⟨l,hl,rfl⟩:=ck.mp b;obtain⟨a,C,dx,DI,T,rfl,L,z,B,G,r⟩:=q;obtain⟨m,Ā,ā,F⟩:=qd.of L;refine⟨_,D,_,_,J,.ins (e.sub _ _ z) F.cl F.ca qd.gt.1 qd.gt.2 F.mo,qd.sub _ d m y C D l Ā f F.gl j.gl hl,?_⟩
 have:=k (V.bl<|decide<|d∈l) g1 H1 u e (by show _=V.bl (([d]:B1).any λd=>decide<|d∈l);simp)
 exact this
abbrev iP(P:Pg)(K:bq)(Pr:dn)(w:dv):KT:=⟨K,Pr,w,P.cn,P.fn⟩
inductive qo(B:KT)(f:Fn)(vs:List V)(H:Hp)(Q:VK)(_:XK):Prop where
 |mk g ts m t m' (x:d_ B g H m) (r:aC B g.al g.HF ts vs) (h:f ts m=.ok (t,m')) (k:∀v g' H',dB g H g' H'->d_ B g' H' m'->Rep B g'.al g'.HF t v->Q v H')
structure Ă(P:Pg)(Pr:dn)(w:dv)(K:bq)(mg:Str->D1)(base:ey)(k:Nat)(x:Str)(ds:FR)(f:Fn):Prop where
 ex:∃(fa:bt)(fd:eh)(ps:Bi)(gR:B2)(dV:List V),cT Pr w K mg base i8 k fa fd ps (qo (iP P K Pr w) f)/\mg x=U (.ref fa)/\lJ K (.ref fa)=O/\Binds K fd ps gR/\Vals dV gR/\∀al H,aC (iP P K Pr w) al H ds dV
def kZ(h:aB f ds fl s=.ok (t,s')):∃ts s1 m',fl s=.ok (ts,s1)/\f (ts++ds) s1.m=.ok (t,m')/\s'={s1 with m:=m'}:=by
 obtain⟨⟨ts,s1⟩,a,h⟩:=ae h;dsimp only at h;cases q:f (ts++ds) s1.m with
 |ok r=>rw[q]at h;cases h;exact⟨ts,s1,r.2,a,q,J⟩
 |bad=>rw[q]at h;cases h
 |exc c fs s2=>rw[q]at h;cases h
def vX{Q:VK}(x:SR B g H σ s)(r:aC B g.al g.HF ts vs)(h:f ts s.m=.ok (t,m'))(k:∀v g' H',dB g H g' H'->SR B g' H' σ {s with m:=m'}->Rep B g'.al g'.HF t v->Q v H'):qo B f vs H Q E:=
 ⟨g.aj,ts,s.m,t,m',x.st.aj,r,h,λv g' H' p y a=>let⟨p2,x2⟩:=x.back p y;k v (G.back g g') H' p2 x2 a⟩
def s_call(D:Ă P X.prog X.w X.K X.mg X.base k x ds f)(hr:bJ j X.A)(n:k<=j)(C:PA X (e::es)<|tA (P.kt X) fl)(z:Gl X x)(r:bA x)(a:(e::es).all noStar=O) :
  PE X (.Call (.Name x p) (e::es) [] pos)<|tE (P.kt X)<|aB f ds fl:=by
 obtain⟨N,fd,ps,M,R,F,u,y,B,hd,AJ⟩:=D.ex;rw[e7,cL]at a;refine aR (JE F (hr.mono n) z u y B hd oB C r (aq a.1)<|dq a.2) λσ H Q b=>?_;obtain⟨g,s,t,s',x,h,k⟩:=b;obtain⟨ts,i,L,G,E,rfl⟩:=kZ h;exact⟨g,s,ts,i,x,G,λI g1 H1 q d m=>vX d (m.app<|AJ _ _) E λv g' H' o c l=>k v g' H' (q.trans o) c l⟩
def Ko(D:Ă P X.prog X.w X.K X.mg X.base k x ds f)(hr:bJ j X.A)(d:k<=j)(n:Gl X x)(i:bA x) :
  PE X (.Call (.Name x p) [] [] pos)<|tE (P.kt X)<|aB f ds aY:=by
 obtain⟨G,fd,ps,C,u,F,l,m,o,hd,y⟩:=D.ex;refine aR (ET F (hr.mono d) n l m o hd oB i) λσ H Q a=>?_;obtain⟨g,s,t,s',x,h,k⟩:=a;obtain⟨ts,z,B,r,q,rfl⟩:=kZ h;cases r;exact vX (E:=E0) (vs:=[]++u) x (y _ _) q λv g' H' e b c=>k v g' H' e b c
structure Zj(P:Pg)(Pr:dn)(w:dv)(K:bq)(mg:Str->D1)(base:ey)(k:Nat)(c:Nat)(m:Str)(f:Fn):Prop where
 ex:∃(C fa:bt)(fd:eh)(ps:Bi)(ns:Bi),ig (iP P K Pr w) c C ns/\qk K C/\Meth K C m fa/\cT Pr w K mg base i8 k fa fd ps (qo (iP P K Pr w) f)/\Binds K fd ps []/\m∉ns
def N7{ι:Type}{t:ι->TE}{t':TE}{C:ι->Prop}(h:∀i,C i->PE X e (t i))(k:∀σ H Q,t' σ H Q->∃i,C i/\t i σ H Q):PE X e t':=λc s σ H Q I q=>by
 obtain⟨i,b,a⟩:=k σ H Q q;exact h i b c s σ H Q I a
def o_(X:Cx)(o:cw)(m:Str)(bQ:Pos)(es:Bz)(pos:Pos):Prop:=∃pl,eR (.Call (.Attribute o m bQ) es [] pos) X.env=(do
   let ov <- eR o X.env
   n7 bQ.atName
   let(f,first) <- n8 [ov] (u2 ov m pl)
   callWith pos f first (hX pos<|dy es X.env) (ri pos<|mM [] X.env))
def vY(h:aA gm fo fl s=.ok (t,s')):∃a s1 c f ts s2 m',fo s=.ok (a,s1)/\((∃k ob,a=.own k/\s1.m[k]?=U ob/\ob.c=c)\/∃fs,a=.obj c fs)/\gm c=U f/\fl s1=.ok (ts,s2)/\f (a::ts) s2.m=.ok (t,m')/\s'={s2 with m:=m'}:=by
 obtain⟨⟨a,s1⟩,j,h⟩:=ae h;cases a<;>try(cases h;done)
 .rename_i c fs
  obtain⟨f,i,h⟩:=ae h;obtain⟨l,s2,m',g,b,rfl⟩:=kZ h;obtain⟨⟨ts,n⟩,e,d⟩:=ae g;cases d;rw[bF]at b;exact⟨_,s1,c,f,ts,_,m',j,.inr ⟨fs,J⟩,ao i,e,b,J⟩
 .rename_i kk
  obtain⟨f,i,h⟩:=ae h;obtain⟨ob,p,o⟩:=bM.mp<|ao i;obtain⟨l,s2,m',g,b,rfl⟩:=kZ h;obtain⟨⟨ts,n⟩,e,d⟩:=ae g;cases d;rw[bF]at b;exact⟨_,s1,ob.c,f,ts,_,m',j,.inl ⟨kk,ob,J,p,J⟩,o,e,b,J⟩
def pe{C:bt}{c:Nat}{b:T}(x:SR B g H σ s)(e:ig B c C ns)(r:Rep B g.al g.HF b v)(h:(∃k ob,b=.own k/\s.m[k]?=U ob/\ob.c=c)\/∃fs,b=.obj c fs):∃a dx vs,v=.ref a/\H a=U (.ins C dx<|ns.zip vs):=by
 rcases h with⟨k,ob,rfl,j,rfl⟩|⟨fs,rfl⟩
 .obtain⟨a,rfl,i⟩:=r
  rcases x.st.at_ k ob j with⟨l,p,dx,o,vs,Z⟩|⟨l,Z⟩
  case inr=>
   obtain⟨n,q,_⟩:=e;rw[Z.nc]at q;cases q
  have:=Z.al.symm.trans i
  cases this;obtain⟨rfl,rfl⟩:=Z.cl.eq e;exact⟨a,dx,vs,J,Z.h⟩
 .obtain⟨a,p,dx,o,vs,rfl,d,f,_⟩:=r
  obtain⟨rfl,rfl⟩:=d.eq e;exact⟨a,dx,vs,J,x.sub _ _ f⟩
def QJ{gm:Nat->Option Fn}(D:∀c f,gm c=U f->Zj P X.prog X.w X.K X.mg X.base k c m f)(hr:bJ j X.A)(R:k<=j)(W:PE X o<|tE (P.kt X) fo)(ha:PA X (e::es)<|tA (P.kt X) fl)(l:(e::es).all noStar=O)(d:o_ X o m bQ (e::es) pos) :
  PE X (.Call (.Attribute o m bQ) (e::es) [] pos)<|tE (P.kt X)<|aA gm fo fl:=by
 obtain⟨pl,d⟩:=d;rw[e7,cL]at l;refine N7 (ι:=bt×Fn) (C:=λi=>∃c fa fd ps ns,ig (P.kt X) c i.1 ns/\gm c=U i.2/\qk X.K i.1/\Meth X.K i.1 m fa/\cT X.prog X.w X.K X.mg X.base i8 k fa fd ps (qo (P.kt X) i.2)/\Binds X.K fd ps []/\m∉ns)
  (t:=λi=>u_ i.1 m (qo (P.kt X) i.2) [] E0 (tE (P.kt X) fo)<|tA (P.kt X) fl) (by rintro i ⟨c,fa,fd,ps,ns,p,_,cl,M,F,n,_⟩;exact Ag (pl:=pl) W cl M F (hr.mono R) n .nil oB ha (aq l.1) (dq l.2) d) ?_
 rintro σ H Q ⟨g,s,t,s',x,h,k⟩
 obtain⟨I,u,c,f,ts,s2,m',h1,hc,B,h3,h4,rfl⟩:=vY h;obtain⟨C,fa,fd,ps,ns,p,cl,M,F,n,z⟩:=(D c f B).ex;refine⟨(C,f),⟨c,fa,fd,ps,ns,p,B,cl,M,F,n,z⟩,g,s,_,u,x,h1,λv g1 H1 T q y=>?_⟩;obtain⟨a,dx,vs,rfl,Z⟩:=pe q p y hc;refine⟨a,dx,_,J,Z,ir z,g1,u,ts,s2,q,h3,λr g2 H2 b G N=>?_⟩;show qo _ _ (V.ref a::(r++[])) H2 Q E0;rw[bF];exact vX (ts:=I::ts) G ⟨_,r,J,y.mv b.pre b.fr,N⟩ h4 λv g' H' S E L=>k v g' H' ((T.trans b).trans S) E L
def Kp{gm:Nat->Option Fn}(D:∀c f,gm c=U f->Zj P X.prog X.w X.K X.mg X.base k c m f)(hr:bJ j X.A)(B:k<=j)(L:PE X o<|tE (P.kt X) fo)(b:o_ X o m bQ [] pos) :
  PE X (.Call (.Attribute o m bQ) [] [] pos)<|tE (P.kt X)<|aA gm fo aY:=by
 obtain⟨pl,b⟩:=b;refine N7 (ι:=bt×Fn) (C:=λi=>∃c fa fd ps ns,ig (P.kt X) c i.1 ns/\gm c=U i.2/\qk X.K i.1/\Meth X.K i.1 m fa/\cT X.prog X.w X.K X.mg X.base i8 k fa fd ps (qo (P.kt X) i.2)/\Binds X.K fd ps []/\m∉ns)
  (t:=λi=>u_ i.1 m (qo (P.kt X) i.2) [] E0 (tE (P.kt X) fo) JD) (by rintro i ⟨c,fa,fd,ps,ns,e,_,cl,M,F,d,_⟩;exact vc (pl:=pl) L cl M F (hr.mono B) d .nil oB b) ?_
 rintro σ H Q ⟨g,s,t,s',x,h,k⟩
 obtain⟨u,y,c,f,ts,s2,Z,V,R,q,T,S,rfl⟩:=vY h;cases T;obtain⟨C,fa,fd,ps,ns,e,cl,M,F,d,p⟩:=(D c f q).ex;refine⟨(C,f),⟨c,fa,fd,ps,ns,e,q,cl,M,F,d,p⟩,g,s,_,y,x,V,λv g1 H1 I l n=>?_⟩;obtain⟨a,W,vs,rfl,N⟩:=pe l e n R;exact⟨a,W,_,J,N,ir p,vX (E:=E0) (ts:=[u]) (vs:=[.ref a]) l (.one n) S λv g' H' G r z=>k v g' H' (I.trans G) r z⟩
def spI(C:bt)(ns:Bi):Sp:=λc H Q _=>∃x b a,c=.ref x::a/\a.length=Mo ns/\H x=U (.ins C b [])/\Q .non (upd H x<|.ins C b<|ns.zip a)
structure DnC(P:Pg)(Pr:dn)(w:dv)(K:bq)(mg:Str->D1)(base:ey)(k:Nat)(c n:Nat)(x:Str):Prop where
 ex:∃(C fi:bt)(fd:eh)(ps:Bi)(ns:Bi),ig (iP P K Pr w) c C ns/\ns.length=n/\mg x=U (.ref C)/\Mk K C fi/\cT Pr w K mg base i8 k fi fd ps (spI C ns)/\Binds K fd ps []
def AK{c:Nat}{C x dx:bt}(d:SR B g H σ s)(b:ig B c C ns)(hl:Mo vs<=Mo ns)(r:aC B g.al g.HF ts vs)(nx:H x=Y)(nd:H dx=Y)(a:dx≠x) :
  ∃e:Gr g.HF H (upd (upd g.HF dx<|.own x) x<|.ins C dx<|ns.zip vs) (upd (upd H dx<|.own x) x<|.ins C dx<|ns.zip vs),Rep B g.al (upd (upd g.HF dx<|.own x) x<|.ins C dx<|ns.zip vs) (.obj c ts)<|.ref x:=by
 have g2:=Gr.new (o:=.own x) d.sub nd;have ă:upd H dx (.own x) x=Y:=by rw[ak<|eL a];exact nx
 have g3:=Gr.new (o:=.ins C dx<|ns.zip vs) g2.sub ă;exact⟨g2.trans g3,x,C,dx,ns,vs,J,b,ai,hl,by rw[ak a,ai],r.same<|g2.fr.trans g3.fr⟩
def Wo{k j c n:Nat}(D:DnC P X.prog X.w X.K X.mg X.base k c n x)(hr:bJ j X.A)(r:k+1<=j)(I:PA X (e::es)<|tA (P.kt X) fl)(E:Gl X x)(y:bA x)(d:(e::es).all noStar=O) :
  PE X (.Call (.Name x p) (e::es) [] pos)<|tE (P.kt X)<|gq c n fl:=by
 obtain⟨C,f,fd,ps,ns,L,z,B,M,F,G⟩:=D.ex;rw[e7,cL]at d;refine aR (sj M F (hr.mono r) E B G .nil oB I y (aq d.1)<|dq d.2) λσ H Q o=>?_;obtain⟨g,s,t,s',x,h,k⟩:=o;obtain⟨⟨ts,S⟩,N,h⟩:=ae h;dsimp only at h;split at h
 .rename_i hl
  cases h;refine⟨g,s,ts,_,x,N,λi g1 H1 u b l x R nx nd v=>?_⟩;have a:Mo i=Mo ns:=by rw[<- l.len,hl,z]
  refine⟨x,R,i++[],J,by rw[bF,a],ai,J,?_⟩
  rw[bF,z_];obtain⟨m,q⟩:=AK (c:=c) (ts:=ts) b L (qq a) l nx nd v;exact k _ (g1.grow _) _ (u.trans<|b.gB m) (b.grow m) q
 .cases h
structure Mk0(K:bq)(C:bt):Prop where
 makes:DV K C=O
 init:eY K (.ref C) "__init__" = U (U<|.builtin "object.__init__")
 kp:lJ K (.ref C)=O
def Ą(C:bt):TE:=λ_ H Q=>∀x a,H x=Y->H a=Y->a≠x->Q (.ref x) (upd (upd H a<|.own x) x<|.ins C a [])
open PySem.W in
def QK{C:bt}(M:Mk0 X.K C)(hg:Gl X x)(hm:X.mg x=U (.ref C))(jN:bA x:=by decide):PE X (.Call (.Name x p) [] [] pos)<|Ą C:=by
 intro aa s σ H Q I h;refine ff<|gC I hg hm ?_ jN;refine zw I.iE M.kp ?_;have hq:=h (s.heap.objs.size+1) s.heap.objs.size (I.bC.fresh<|Ce _) (I.bC.fresh<|cV _)<|dO<|mT _;have I2:=Inv.made (C:=C) I;have KX:=I.iE;obtain⟨hh,g,d,t,os⟩:=s;apply f7;have a:=makes_of (M:=cv X.prog X.w) KX M.makes;refine make_core a (kS KX M.init) (λself=>Looks.of_pure<|oi_bind self) (.inr ⟨J,J⟩) ?_;have hz:(hh.push Fc).objs.size=hh.objs.size+1:=kf ..;have gt:((hh.push Fc).push<|instObj C hh.objs.size).get? (hh.objs.size+1)=U (instObj C hh.objs.size):=by
  rw[<- hz];exact de _ J
 have t1:sx (cv X.prog X.w) ((hh.push Fc).push<|instObj C hh.objs.size) (sG<|.ref<|hh.objs.size+1)<|.ref C:=(o7 gt).andThen .now;have t2:sx (cv X.prog X.w) ((hh.push Fc).push<|instObj C hh.objs.size) (pd (.ref<|hh.objs.size+1)<|.type "object") O:=t1.andThen<|a.top.keeps λb o e=>ax _<|ax _ e;refine fu oi_plain entry_oi<|@check_slot (cv X.prog X.w) _ _ _ "object.__init__" "object" "__init__" (.ref<|hh.objs.size+1) [] [] _ oi_kind oi_split t2 (oi_args<|.ref<|hh.objs.size+1) ?_;show cq _ _ (Builtin.«object.__init__» ⟨[Value.ref<|hh.objs.size+1],[]⟩) _ _ _;rw[oi_run];exact dk<|And.intro J ⟨V.ref<|hh.objs.size+1,_,I2,J,hq⟩
structure Wq(P:Pg)(Pr:dn)(w:dv)(K:bq)(mg:Str->D1)(c:Nat)(x:Str):Prop where
 ex:∃(C:bt)(ns:Bi),ig (iP P K Pr w) c C ns/\mg x=U (.ref C)/\Mk0 K C
def QM{c:Nat}(D:Wq P X.prog X.w X.K X.mg c x)(l:Gl X x)(i:bA x):PE X (.Call (.Name x p) [] [] pos)<|tE (P.kt X)<|gq c 0 aY:=by
 obtain⟨C,ns,m,j,M⟩:=D.ex;refine aR (QK M l j i) λσ H Q b=>?_;obtain⟨g,s,t,s',z,h,k⟩:=b;cases h;intro x n nx nd f;obtain⟨a,d⟩:=AK (c:=c) (ts:=[]) (vs:=[]) z m (jc _) J nx nd f;have e:ns.zip ([]:List V)=[]:=MY
 have:=k _ (g.grow _) _ (z.gB a) (z.grow a) d
 rw[e]at this;exact this
structure Walk(B:KT)(al:BM)(Zf:It)(HF:Hp)(ts:FR):Prop where
 go:∀i H,aM HF H->i<Mo ts->Zf.go i H
 yld:∀i H x H',aM HF H->i<Mo ts->Zf.yld i H x H'->∃t,ts[i]?=U t/\∀vZ,aM HF vZ->aM vZ H->∃QN,Gr vZ H QN H'/\Rep B al QN t x
 stop:∀i H,aM HF H->i=Mo ts->Zf.stop i H
def C7(h:HF l=U (.lst vs))(r:aC B al HF ts vs):Walk B al (YY B.K l) HF ts:=by
 refine⟨λi H sm a=>?_,λi H x H' sm a y=>?_,λi H sm a=>⟨vs,dm.of<|sm _ _ h,by rw[a,r.len];exact cV _⟩⟩
 .obtain⟨v,e,_⟩:=r.get<|c5 a
  exact⟨vs,v,dm.of<|sm _ _ h,e⟩
 .obtain⟨rfl,y⟩:=y
  have e:=y vs<|dm.of<|sm _ _ h;obtain⟨t,f,d⟩:=r.yq e;exact⟨t,f,λb c s2=>⟨b,.refl s2,d.same c⟩⟩
def Gv(h:mC B.K HF l vs)(r:aC B al HF ts vs):Walk B al (Z5 B.K l) HF ts:=by
 refine⟨λi H sm a=>?_,λi H x H' sm a y=>?_,λi H sm a=>⟨vs,c7 sm h,by rw[a,r.len];exact cV _⟩⟩
 .obtain⟨v,e,_⟩:=r.get<|c5 a
  exact⟨vs,v,c7 sm h,e⟩
 .obtain⟨rfl,y⟩:=y
  have e:=y vs<|c7 sm h;obtain⟨t,f,d⟩:=r.yq e;exact⟨t,f,λb c s2=>⟨b,.refl s2,d.same c⟩⟩
def k6(d:Y_ Zf src λ_=>True)(r:aC B al HF ts src):Walk B al Zf HF ts:=by
 refine⟨λi H sm a=>d.go i H trivial<|by rw[<- r.len];exact a,λi H x H' sm a y=>?_,λi H sm a=>d.stop i H trivial<|by rw[<- r.len];exact a⟩
 obtain⟨rfl,e⟩:=d.yld i H x H' trivial (by rw[<- r.len];exact a) y
 obtain⟨t,g,f⟩:=r.yq e;exact⟨t,g,λb c s2=>⟨b,.refl s2,f.same c⟩⟩
theorem aC.mz(lo:Int)(n:Nat):aC B al H (D.mz lo n)<|(cK n).map λk=>V.int<|lo+(k:Nat):=by
 have b:D.mz lo n=((cK n).map λk=>lo+((k:Nat):Int)).map T.int:=by unfold D.mz;rw[gM];rfl
 have a:((cK n).map λk=>V.int<|lo+(k:Nat))=((cK n).map λk=>lo+((k:Nat):Int)).map V.int:=by rw[gM];rfl
 rw[b,a];exact aC.ints _
def Gw(a:Int)(n:Nat):Y_ (Ô a n) ((cK n).map λk=>V.int<|a-(k:Nat)) λ_=>True:=
 ⟨λi H _ h=>by rw[cz,rR]at h;exact h,
  λi H x H' _ a y=>by
  obtain⟨e,ex⟩:=y;refine⟨e,?_⟩;have a:i<n:=by rw[cz,rR]at a;exact a
  rw[fQ,zN a,ex];rfl,
  λi H _ h=>by rw[cz,rR]at h;exact qq h.symm⟩
def aC.dwn(a:Int)(n:Nat):aC B al H ((cK n).map λk=>T.int<|a-(k:Nat))<|(cK n).map λk=>V.int<|a-(k:Nat):=by
 have c:((cK n).map λk=>T.int<|a-(k:Nat))=((cK n).map λk=>a-((k:Nat):Int)).map T.int:=by rw[gM];rfl
 have b:((cK n).map λk=>V.int<|a-(k:Nat))=((cK n).map λk=>a-((k:Nat):Int)).map V.int:=by rw[gM];rfl
 rw[c,b];exact aC.ints _
structure Sets(B:KT)(al:BM)(HF:Hp)(S:B1)(σ σ':St)(ρ ρ':Fs):Prop where
 len:σ'.length=σ.length
 lenR:ρ'.length=ρ.length
 off:∀(i:Nat),i∉S->σ'[i]?=σ[i]?/\ρ'[i]?=ρ[i]?
 on:∀(i:Nat),i∈S->i<ρ.length->∃(t:T)(v:V),ρ'[i]?=U (U<|.val t)/\σ'[i]?=U (U v)/\Rep B al HF t v
structure sX(B:KT)(g:TG)(fg:FG)(S:B1):Prop where
 ok:∀(al:BM)(HF H:Hp)(σ:St)(ρ:Fs)(t:T)(v:V)(ρ':Fs)(Q:St->Hp->Prop),aM HF H->Rep B al HF t v->fg t ρ=U ρ'->ρ.length=σ.length->(∀σ',Sets B al HF S σ σ' ρ ρ'->Q σ' H)->g v σ H Q
def Sets.one{a:Fs}(hl:Mo a=σ.length)(r:Rep B al HF t v):Sets B al HF [i] σ (σ.set i<|U v) a<|a.set i<|U<|.val t:=by
 refine⟨eT,eT,λj b=>?_,λj b c=>?_⟩
 .have:i≠j:=λe=>b (by simp[e])
  rw[cW this,cW this];exact⟨J,J⟩
 .have:j=i:=by simpa using b
  subst this;exact⟨t,v,by rw[dG c],by rw[dG<|by lia],r⟩
def AL(i:Nat):sX B (Ad i) (setG i) [i]:=⟨λal HF H σ b t v a Q sm r h hl q=>by
 cases h;exact q _<|.one hl r⟩
def Sets.cons{B:KT}{al:BM}{HF:Hp}{i:Nat}{S:B1}{σ d:St}{g e:Fs}{t:T}{v:V}(hl:Mo g=σ.length)(r:Rep B al HF t v)(h:Sets B al HF S (σ.set i<|U v) d (g.set i<|U<|.val t) e):Sets B al HF (i::S) σ d g e:=by
 have o:=Sets.one (B:=B) (al:=al) (i:=i) hl r;refine⟨h.len.trans o.len,h.lenR.trans o.lenR,λj f=>?_,λj f m=>?_⟩
 .obtain⟨l,k⟩:=h.off j λz=>f<|by simp[z]
  obtain⟨s,q⟩:=o.off j λz=>f<|by simp at z;simp[z]
  exact⟨l.trans s,k.trans q⟩
 .by_cases hs:j∈S
  .exact h.on j hs (by rw[eT];exact m)
  .obtain⟨l,k⟩:=h.off j hs
   obtain⟨p,n,a,b,c⟩:=o.on j (by rcases cu.mp f with z|z;exact(by simp[z]);exact ef z hs) m
   exact⟨p,n,k.trans a,l.trans b,c⟩
def ph:B1->Nx
 |[]=>UC
 |i::is=>Ny (Ad i)<|ph is
theorem rn:∀(is:B1)(HF H:Hp)(σ:St)(c:Fs)(ts:FR)(vs:List V)(a:Fs)(Q:St->Hp->Prop),aM HF H->aC B al HF ts vs->Aw is ts c=U a->Mo c=σ.length->(∀b,Sets B al HF is σ b c a->Q b H)->ph is vs σ H Q
 |[],HF,H,σ,c,ts,vs,a,Q,sm,r,h,hl,q=>by
  cases ts with
  |cons t ts=>cases h
  |nil=>
   cases h;cases(show vs=[]from r);exact⟨J,q _ ⟨J,J,λ_ _=>⟨J,J⟩,λi g=>by cases g⟩⟩
 |i::is,HF,H,σ,c,ts,vs,a,Q,sm,r,h,hl,q=>by
  cases ts with
  |nil=>cases h
  |cons t ts=>
   obtain⟨v,d,rfl,f,e⟩:=r;refine⟨v,d,J,?_⟩;exact rn is HF H _ _ ts d a Q sm e h (by rw[eT,eT];exact hl) λb s=>q b<|.cons hl f s
def Gx(is:B1)(f:Mo is=n:=by rfl):sX B (O7 B.K n<|ph is) (eS is) is:=⟨λal HF H σ c t v b Q sm r h hl q=>by
 cases t<;>try(cases h;done)
 .rename_i ts
  obtain⟨a,d,rfl,q1,r⟩:=r;have g:∀(is:B1)(ts:FR)(c:Fs),Aw is ts c=U b->Mo is=Mo ts:=by
   intro is
   induction is with
   |nil=>intro ts c h;cases ts with
    |nil=>rfl
    |cons=>cases h
   |cons i is e=>intro ts c h;cases ts with
    |nil=>cases h
    |cons t ts=>simp[e ts _ h]
  exact⟨a,d,J,c7 sm q1,by rw[<- r.len,<- g _ _ _ h,f],rn is HF H σ c ts d b Q sm r h hl q⟩
⟩
theorem Walk.mv{al b:BM}{HF a:Hp}(w:Walk B al Zf HF ts)(p:al <+: b)(s:aM HF a):Walk B b Zf a ts:=
 ⟨λi H h=>w.go i H<|s.trans h,λi H x H' h e y=>let⟨t,h1,h2⟩:=w.yld i H x H' (s.trans h) e y;⟨t,h1,λc d s2=>let⟨QN,gr,r⟩:=h2 c (s.trans d) s2;⟨QN,gr,r.mv p<|aM.refl _⟩⟩,λi H h=>w.stop i H<|s.trans h⟩
inductive tI(B:KT)(f:FL)(σ:St)(H:Hp)(R:It->Hp->Prop):Prop where
 |mk g s ts s' (x:SR B g H σ s) (h:f s=.ok (ts,s')) (k:∀a g' H',dB g H g' H'->SR B g' H' σ s'->Walk B g'.al a g'.HF ts->R a H')
def v9:PI X tg e<|tI B fG:=λ_ _ _ _ _ _ a=>by obtain⟨_,_,_,_,_,h,_⟩:=a;cases h
def N8(h:PI X tg e t)(h':PI X tg e t'):PI X tg e λσ H R=>t σ H R\/t' σ H R:=λa s σ H R I q=>by
 rcases q with q|q
 .exact h a s σ H R I q
 .exact h' a s σ H R I q
def QO:T->Bool
 |.str _=>Zc
 |_=>O
def QP:T->FK
 |.str _=>Y
 |t=>Zh t
def Kq(a:FE):FL:=λs=>(a s).bind λp=>(aZ<|QP p.1).bind λts=>.ok (ts,p.2)
def C8{a:bt}{ns:Dx}(h:dm B.K HF a<|ns.map V.int):Walk B al (YY B.K a) HF<|ns.map T.int:=by
 refine⟨λi H sm b=>?_,λi H x H' sm b y=>?_,λi H sm b=>⟨_,sm.seq h,by rw[b,cz,cz];exact cV _⟩⟩
 .rw[cz]at b
  exact⟨_,.int ns[i],sm.seq h,by rw[fQ,c5 b];rfl⟩
 .rw[cz]at b
  obtain⟨rfl,y⟩:=y;have e:=y _<|sm.seq h;obtain⟨t,g,f⟩:=(aC.ints (B:=B) (al:=al) (H:=HF) ns).yq e;exact⟨t,g,λc d s2=>⟨c,.refl s2,f.same d⟩⟩
def N9(i:B.K=X.K)(m:PE X e<|tE B fa):PI X tg e<|tI B<|Kq fa:=by
 refine mK (N8 (Jv m)<|Pb m) λσ H R n=>?_;obtain⟨g,s,t,s',x,h,k⟩:=n;obtain⟨⟨o,p⟩,j,h⟩:=ae h;obtain⟨ts,b,h⟩:=ae h;cases h;have b:=ao b;have ą:=i.symm;cases o<;>try(cases b;done)
 .cases b
  refine .inr ⟨g,s,_,_,x,j,λv g1 H1 d a c=>?_⟩;obtain⟨l,f,rfl,q,r⟩:=c;refine⟨l,J,⟨f,i▸c7 a.sub q⟩,?_⟩;rw[ą];exact k _ g1 H1 d a<|Gv q r
 .cases b
  refine .inl ⟨g,s,_,_,x,j,λv g1 H1 d a c=>?_⟩;obtain⟨l,f,rfl,q,r⟩:=c;refine⟨l,J,⟨f,dm.of<|a.sub _ _ q⟩,?_⟩;rw[ą];exact k _ g1 H1 d a<|C7 q r
 .cases b
  refine .inl ⟨g,s,_,_,x,j,λv g1 H1 d a c=>?_⟩;obtain⟨l,rfl,q⟩:=c;refine⟨l,J,⟨_,i▸a.sub.seq q⟩,?_⟩;rw[ą];exact k _ g1 H1 d a<|C8 q
def Wr(n:B.K=X.K)(c:PE X e<|tE B fa):PI X (.Name x l) e<|tI B<|oU fa:=by
 refine mK (N8 (N9 n c)<|PQ c) λσ H R f=>?_;obtain⟨g,s,t,s',z,h,k⟩:=f;obtain⟨⟨a,o⟩,d,h⟩:=ae h;obtain⟨ts,b,h⟩:=ae h;cases h;by_cases hs:QO a=O
 .refine .inl ⟨g,s,t,_,z,?_,k⟩
  unfold Kq;rw[d];show(aZ<|QP a).bind _=_;have e:QP a=Zh a:=by cases a<;>first|rfl|(cases hs)
  rw[e,b];rfl
 .cases a<;>first|(exact ef J hs)|skip
  have b:=ao b;cases b;refine .inr ⟨g,s,_,_,z,d,λv g1 H1 m i j=>?_⟩;obtain⟨rfl,p⟩:=j;exact⟨_,J,k _ g1 H1 m i<|k6 (JQ _)<|aC.signs _⟩
def Gy(o:Gl X "range")(n:X.mg "range" = Y)(q:PE X a<|tE B fa)(m:noStar a=O):PI X tg (.Call (.Name "range" p) [a] [] pos)<|tI B<|C3 oV<|bw fa aY:=by
 have d:dy [a] X.env=[(Zc,eR a X.env)]:=aq m;refine mK (Ct o n (aL q bP d) d) λσ H R e=>?_;obtain⟨g,s,t,s',x,h,k⟩:=e;obtain⟨⟨ts,w⟩,c,h⟩:=ae h;obtain⟨u,b,h⟩:=ae h;cases h;obtain⟨⟨i,s2⟩,r,c⟩:=ae c;cases c;have b:=ao b;cases i<;>try(cases b;done)
 obtain⟨z,rfl⟩:=bu b;refine⟨g,s,_,_,x,r,λv g1 H1 l f j=>?_⟩;cases j;exact⟨_,J,by lia,by lia,k _ g1 H1 l f<|k6 (q_ 0 _)<|aC.mz 0 _⟩
def Gz{a b:T}(h:oV [a,b]=U us):∃i j,a=.int i/\b=.int j/\(i<1000000/\-1000000<i/\j<1000000/\-1000000<j)/\mz i (j-i).toNat=us:=by
 cases a<;>try(cases h;done)
 cases b<;>try(cases h;done)
 obtain⟨z,e⟩:=bu h;exact⟨_,_,J,J,z,e⟩
def GA(A:Gl X "range")(z:X.mg "range" = Y)(D:PE X a<|tE B fa)(C:PE X b<|tE B fb)(y:noStar a=O)(I:noStar b=O):PI X tg (.Call (.Name "range" p) [a,b] [] pos)<|tI B<|C3 oV<|bw fa<|bw fb aY:=by
 have e:dy [b] X.env=[(Zc,eR b X.env)]:=aq I;have d:dy [a,b] X.env=[(Zc,eR a X.env),(Zc,eR b X.env)]:=by rw[aq y,e]
 refine mK (Cu A z (aL D (aL C bP e)<|by rw[d,e]) d e) λσ H R l=>?_
 obtain⟨g,s,t,s',x,h,k⟩:=l;obtain⟨⟨ts,Z⟩,c,h⟩:=ae h;obtain⟨Q,G,h⟩:=ae h;cases h;obtain⟨⟨T,s2⟩,F,c⟩:=ae c;obtain⟨⟨ty,W⟩,f,c⟩:=ae c;cases c;obtain⟨⟨S,V⟩,E,f⟩:=ae f;cases f;obtain⟨i,j,rfl,rfl,⟨P,N,M,L⟩,rfl⟩:=Gz<|ao G;refine⟨g,s,_,_,x,F,λv g1 H1 u n q=>⟨g1,_,_,_,n,E,λw g2 K r m o=>?_⟩⟩;cases q;cases o;exact⟨_,_,J,⟨by lia,by lia,by lia,by lia⟩,k _ g2 K (u.trans r) m<|k6 (q_ _ _)<|aC.mz _ _⟩
def oW.sets{a:St}(x:oW B g H σ r)(d:al=g.al)(t:Sets B al g.HF k σ a r j):oW B g H a j:=by
 subst d;refine⟨by rw[t.lenR,t.len];exact x.len,λi c h=>?_⟩
 by_cases hi:i∈k
 .have l:i<Mo r:=by rw[<- t.lenR];exact(bK.mp h).1
  obtain⟨u,v,b,f,e⟩:=t.on i hi l;rw[h]at b;cases b;exact⟨v,f,e⟩
 .obtain⟨b,f⟩:=t.off i hi
  rw[f]at h;obtain⟨v,e,m⟩:=x.at_ i c h;exact⟨v,b.trans e,m⟩
def yz{S:B1}{c:St}{g d:Fs}(l:∀i∈S,i<k)(s:Sets B al HF S (df k js σ) c g d):dz (df k js σ) c:=by
 have gen:∀(a b:St),Mo a=Mo b->(∀(i:Nat)(v:V),a[i]?=U (U v)->b[i]?=U (U v))->dz a b:=by
  intro a
  induction a with
  |nil=>intro b hl _;cases b with
   |nil=>trivial
   |cons=>cases hl
  |cons x a j=>intro b hl h;cases b with
   |nil=>cases hl
   |cons y b=>
    have hr:=j b (by simpa using hl) λi v e=>by simpa using h (i+1) v (by simpa using e)
    cases x with
    |none=>exact hr
    |some v=>
     have:=h 0 v J
     simp at this;subst this;exact⟨J,hr⟩
 refine gen _ _ s.len.symm λi v e=>?_;by_cases hi:i∈S
 .have f:=l i hi
  unfold df at e;rw[gY<|by rw[kG];exact f,xU,bU f]at e
  cases e
 .rw[(s.off i hi).1];exact e
section
variable{js S':B1}{v:Bz}
theorem SR.j9:∀(js:B1){g:G}{s:S},SR B g H σ s->∃g',dB g H g' H/\SR B g' H σ {s with r:=j9 js s.r}
 |[],g,s,x=>⟨g,.refl,x⟩
 |j::js,g,s,x=>by
  show ∃g',dB g H g' H/\SR B g' H σ {s with r:=D.j9 js (J3 s.r j)}
  have one:∃g1,dB g H g1 H/\SR B g1 H σ {s with r:=J3 s.r j}:=by
   unfold J3;split
   .rename_i ts h
    obtain⟨g1,v,p,y,_⟩:=x.jf h;exact⟨g1,p,y⟩
   .exact⟨g,.refl,x⟩
  obtain⟨g1,d,b⟩:=one;obtain⟨g2,c,a⟩:=SR.j9 js b;exact⟨g2,d.trans c,a⟩
def oW.block(x:oW B g H σ r)(k:Nat)(js:B1):oW B g.aj H (df k js σ)<|jq k js r:=by
 refine⟨by unfold jq df;simp,λi c h=>?_⟩
 unfold jq at h;unfold df;by_cases hi:i<k
 .rw[gY<|by simpa using hi,xU,bU hi]at h
  cases h
 .rw[eZ<|by simpa using hi,kG,fQ]at h
  rw[eZ<|by simpa using hi,kG,fQ]
  cases a:js[i-k]? with
  |none=>rw[a]at h;cases h
  |some j=>
   rw[a]at h;have h:(match r[j]? with|U<|U<|.val t=>U<|C.val t|_=>Y)=U c:=by injection h
   split at h
   .rename_i t hr
    cases h;obtain⟨v,d,b⟩:=x.at_ j _ hr;exact⟨v,by show U ((σ[j]?).join)=_;rw[d];rfl,b⟩
   .cases h
def SR.QQ{u:HO}(x:SR B g H σ s)(j:g.HF D=Y)(f:g.o D=Y)(hl:∃w,H D=U w):SR B g (upd H D u) σ s:=by
 have ne:∀b p,g.o b=U p->b≠D:=λb p e z=>by rw[z,f]at e;cases e
 refine⟨x.st.mv (λb w e=>?_) (λb p e=>?_) (aM.refl _) J λl p h _=>⟨h,ak<|ne l p h⟩,x.lc.len,λi c e=>?_⟩
 .have:b≠D:=λz=>by rw[z,j]at e;cases e
  rw[ak this];exact x.sub _ _ e
 .obtain⟨d,w,a⟩:=x.st.live b p e
  exact⟨d,w,by rw[ak<|ne b p e];exact a⟩
 .obtain⟨v,d,a⟩:=x.lc.at_ i c e
  exact⟨v,d,bz.mv (g:=g) (g':=g) (aM.refl _) fD (λl h=>⟨h,ak<|ne l _ h⟩) a⟩
def dB.QQ{u:HO}(p:dB g H g1 H1)(a:H D=Y):dB g H g1<|upd H1 D u:=
 ⟨p.fr,p.pre,λb w h n z=>by
  have:b≠D:=aK h a
  rw[ak this];exact p.rest b w h n z,λb h=>by
  by_cases hb:b=D
  .subst hb;exact a
  .rw[ak hb]at h;exact p.there b h⟩
def Ws:IY X []<|tT B ie:=λa s σ H Q I z=>by
 obtain⟨g,st,t,s',x,h,k⟩:=z;cases h;exact JM a s σ H Q I<|k g H .refl x
def Wt(h:PT X c<|tT B ft):IY X [c]<|tT B ft:=JN h
def yC(Jb:sX B gt fg S')(hS:∀i∈S',i<k):∀σ H Q,tO B (dI qM k js fg ft fe) σ H Q->tComp (tI B qM) k js gt (tT B ft) (tE B fe) σ H Q:=by
 rintro σ H Q ⟨g,s,ys,s',x,h,kk⟩
 obtain⟨⟨a,P⟩,h1,h⟩:=ae h;dsimp only at h;split at h
 case isFalse=>cases h
 rename_i hz;obtain⟨⟨rs,mm⟩,h2,h⟩:=ae h;cases h;unfold tComp;refine⟨g,s,a,P,x,h1,λqd g1 H1 p1 x1 C D K=>?_⟩;obtain⟨g2,p2,N⟩:=x1.j9 js;have C:=C.mv p2.pre p2.fr;obtain⟨b,hb⟩:∃b,b=jq k js (_root_.D.j9 js P.r):=⟨_,J⟩;rw[<- hb]at h2;have F:=p1.trans p2;have hD0:H D=Y:=F.there D K;have nD:∀{L:G}{ss:S},SR B L H1 σ ss->L.HF D=Y/\L.o D=Y:=λ{L ss} x=>⟨x.sub.free K,by
  cases q:L.o D with
  |none=>rfl
  |some p=>obtain⟨_,u,z⟩:=x.st.live D p q;rw[K]at z;cases z⟩
 obtain⟨f2,o2⟩:=nD N;obtain⟨Zk,_,_⟩:=iM (u:=.lst []) N K;refine⟨λi m w f=>m=Mo a-i/\i<=Mo a/\∃g3 m3 done rest,dB g2 H1 g3 f/\SR B g3 f σ ⟨_root_.D.j9 js P.r,m3⟩/\g3.HF D=Y/\g3.o D=Y/\f D=U (.lst w)/\aC B g3.al g3.HF done w/\done.length<=i/\c_ fg ft fe b (a.drop i) m3=.ok (rest,mm)/\rs=done++rest,
  ⟨Mo a,by simp,jc _,g2.grow g2.HF,P.m,[],rs,N.gB Zk,N.grow Zk,f2,o2,ai,J,cV _,by rw[uV];exact h2,J⟩,?_⟩
 rintro i m w f ⟨rfl,hi,g3,m3,done,rest,n,d,W,o3,hl,R,I,hr,rfl⟩
 by_cases iL:i<Mo a
 .have E:=n.fr.trans d.sub
  refine .inr ⟨C.go i f E iL,λv H3 y=>?_⟩;obtain⟨t,ht,y2⟩:=C.yld i f v H3 E iL y;obtain⟨M,l,rx⟩:=y2 g3.HF n.fr d.sub;have Wv:a.drop i=t::a.drop (i+1):=by
   obtain⟨hh,e⟩:=bK.mp ht;rw[rT hh,e]
  rw[Wv]at hr;obtain⟨b1,q1,hr⟩:=ae hr;obtain⟨⟨c,s5⟩,q2,hr⟩:=ae hr;have A:=d.grow l;have p4:=n.trans<|d.gB l;obtain⟨hl4,f4⟩:=l.rest D _ hl W;have eb:=A.lc.block k js;rw[<- hb]at eb;refine Jb.ok g3.al M H3 _ _ t v b1 _ A.sub (rx.mv n.pre<|aM.refl _) (ao q1) eb.len λZ Jw=>⟨yz hS Jw,?_⟩;have xb:SR B (g3.grow M).aj H3 Z ⟨b1,m3⟩:=⟨A.st.aj,eb.sets J Jw⟩;refine⟨(g3.grow M).aj,⟨b1,m3⟩,c,s5,xb,q2,λg6 H6 p6 x6=>?_⟩;cases c with
  |true=>
   obtain⟨⟨y',s7⟩,q3,hr⟩:=ae hr;obtain⟨⟨ys',m8⟩,q4,hr⟩:=ae hr;cases hr;refine nh ⟨g6,s5,y',s7,x6,q3,λv7 g7 H7 p7 x7 r7=>?_⟩;obtain⟨j,xB⟩:=A.back (p6.trans p7) x7.st;have p8:=p4.trans j;obtain⟨X,V,T⟩:=(d.gB l |>.trans j).rest D _ hl W o3;have Ć:Mo w<cC:=by rw[<- R.len,eJ];lia
   refine⟨X,Ć,Mo a-(i+1),Ea iL<|mT i,J,iL,G.back (g3.grow M) g7,s7.m,done++[y'],ys',p8.QQ K,xB.QQ V T ⟨_,X⟩,V,T,ai,?_,by simp;exact I,q4,by simp⟩
   have st:=(d.gB l).trans j;exact(R.mv st.pre st.fr).app<|.one r7
  |false=>
   obtain⟨j,xB⟩:=A.back p6 x6.st;obtain⟨X,V,T⟩:=(d.gB l |>.trans j).rest D _ hl W o3;have st:=(d.gB l).trans j;exact oF ⟨Mo a-(i+1),Ea iL<|mT i,J,iL,G.back (g3.grow M) g6,s5.m,done,rest,p4.trans j,xB,V,T,X,R.mv st.pre st.fr,bG I<|bD ..,hr,J⟩
 .have e:i=Mo a:=MH hi<|zE iL
  subst e;rw[El]at hr;cases hr;rw[bF]at kk;exact .inl ⟨C.stop _ f (n.fr.trans d.sub) J,kk D w g3 f (F.trans n) d hD0 W o3 hl R⟩
def QT(ls:Bi)(f:X.calm=O)(h:gD X scope)(F:gj X scope js fs)(d:PI X tg u<|tI B qM)(e:∀cl C a s H,PG (X.block (ls++fs) scope cl C a s H) tg gt)(j:sX B gt fg S')
  (b:∀cl C a s H,IY (X.block (ls++fs) scope cl C a s H) v<|tT B ft) (he:∀cl C a s H,PE (X.block (ls++fs) scope cl C a s H) elt<|tE B fe)
  (g:∀i∈S',i<Mo ls) (c:∀x,fv u X.env x=pure x):PE X (.ListComp elt [⟨tg,u,v,0⟩] scope pos)<|tO B<|dI qM ls.length js fg ft fe:=
 aR (JO ls f h F d e b he c)<|yC j g
end
def yD(B:KT)(g:G)(H:Hp)(D:Ends):Out->S->Prop
 |.nx,s'=>∀a g' H',dB g H g' H'->SR B g' H' a s'->D.nx a H'
 |.rt t,s'=>∀v g' H',dB g H g' H'->d_ B g' H' s'.m->Rep B g'.al g'.HF t v->D.rt v H'
 |.bk,s'=>∀a g' H',dB g H g' H'->SR B g' H' a s'->D.bk a H'
 |.ct,s'=>∀a g' H',dB g H g' H'->SR B g' H' a s'->D.ct a H'
inductive tS(B:KT)(f:FS)(D:Ends)(σ:St)(H:Hp):Prop where
 |mk g s o s' (x:SR B g H σ s) (h:f s=.ok (o,s')) (k:yD B g H D o s')
section
variable{cO v:Pos}{H1:Hp}{g1:G}{F u:FS}{st:gi}{rest j:Ee}{i:Nat}
def yD.mv{o:Out}(k:yD B g H D o s')(p:dB g H g1 H1):yD B g1 H1 D o s':=by
 cases o with
 |nx=>exact λa g' H' q x=>k a g' H' (p.trans q) x
 |rt t=>exact λv g' H' q x r=>k v g' H' (p.trans q) x r
 |bk=>exact λa g' H' q x=>k a g' H' (p.trans q) x
 |ct=>exact λa g' H' q x=>k a g' H' (p.trans q) x
def Ww:gO X j<|tS B c6:=λ_ _ _ _ _ _ a=>by obtain⟨_,_,_,_,_,h,_⟩:=a;cases h
def cP:PS X st<|tS B c6:=λ_ _ _ _ _ _ a=>by obtain⟨_,_,_,_,_,h,_⟩:=a;cases h
def Wx:gO X []<|tS B aG:=lX nI λD σ H z=>by
 obtain⟨g,s,o,s',x,h,k⟩:=z;cases h;exact k σ g H .refl x
def QU(f:PS X st<|tS B F)(e:gO X rest<|tS B u):gO X (st::rest)<|tS B<|ah F u:=lX (hU f e) λD σ H z=>by
 obtain⟨g,s,o,s',x,h,k⟩:=z;obtain⟨⟨o1,a⟩,i,h⟩:=ae h;refine⟨g,s,o1,a,x,i,?_⟩;cases o1 with
 |nx=>exact λb g1 H1 d c=>⟨g1,a,o,s',c,h,k.mv d⟩
 |rt t=>cases h;exact k
 |bk=>cases h;exact k
 |ct=>cases h;exact k
def Wy(h:PS X st<|tS B F):gO X [st]<|tS B F:=jC h
def QV:PS X (.Pass pos)<|tS B aG:=cM Js λD σ H z=>by
 obtain⟨g,s,o,s',x,h,k⟩:=z;cases h;exact k σ g H .refl x
def N_(n:X.N.Nodup)(l:X.N[i]?=U x)(f:Loc X.env.scope x)(he:PE X e<|tE B fa)(j:fC e (U<|.Name x cO) pos.line X.env=pure Zc)(m:Kx X x) :
  PS X (.Assign [.Name x cO] e pos)<|tS B<|aH i fa:=cM (j5 n l f he j m) λD σ H z=>by
 obtain⟨g,s,o,s',x,h,k⟩:=z;obtain⟨⟨t,b⟩,p,h⟩:=ae h;cases h;exact⟨g,s,t,b,x,p,λv g1 H1 d a c=>k _ g1 H1 d<|a.set c⟩
def AM(k:yD B g H D .nx<|jF s1 i<|.ol ts)(d:dB g H g1 H1)(e:SR B g1 H1 σ s1)(m:H l=Y)(j:g1.HF l=Y)(f:g1.o l=Y)(hl:H1 l=U (.lst vs))(r:aC B g1.al g1.HF ts vs):D.nx (σ.set i<|U<|.ref l) H1:=by
 refine k _ (g1.own l<|.loc i) H1 ⟨d.fr,d.pre,λb u h n z=>?_,d.there⟩<|e.own f j hl r;obtain⟨a,p,c⟩:=d.rest b u h n z
 have:b≠l:=aK h m
 exact⟨a,p,by show(if b=l then U (j_.loc i)else g1.o b)=Y;rw[bp this];exact c⟩
def Oa(q:X.N.Nodup)(n:X.N[i]?=U x)(j:Loc X.env.scope x)(he:PE X e<|tO B fl)(m:fC e (U<|.Name x cO) pos.line X.env=pure Zc)(p:Kx X x) :
  PS X (.Assign [.Name x cO] e pos)<|tS B<|jQ i fl:=cM (j5 q n j he m p) λD σ H z=>by
 obtain⟨g,s,o,s',x,h,k⟩:=z;obtain⟨⟨ts,b⟩,u,h⟩:=ae h;cases h;exact⟨g,s,ts,b,x,u,λl v g1 H1 c a t f d hl r=>AM k c a t f d hl r⟩
section
variable{js S:B1}
def QW(ls:Bi)(E:X.calm=O)(G:X.N.Nodup)(y:X.N[i]?=U x)(u:Loc X.env.scope x)(K:gD X scope)(Fr:gj X scope js fs)(hit:PI X tg Q<|tI B R)(z:∀cl C b s H,PG (X.block (ls++fs) scope cl C b s H) tg gt)(L:sX B gt fg S)
  (v:∀cl C b s H,IY (X.block (ls++fs) scope cl C b s H) M<|tT B ft) (he:∀cl C b s H,PE (X.block (ls++fs) scope cl C b s H) elt<|tE B fe)
  (F:∀i∈S,i<Mo ls) (w:∀x,fv Q X.env x=pure x) (A:Kx X x)
  (I:fC (.ListComp elt [⟨tg,Q,M,0⟩] scope bZ) (U<|.Name x cO) pos.line X.env=pure O) :
  PS X (.Assign [.Name x cO] (.ListComp elt [⟨tg,Q,M,0⟩] scope bZ) pos) (tS B<|jQ i<|dI R ls.length js fg ft fe) /\
  PS X (.Assign [.Name x cO] (.ListComp elt [⟨tg,Q,M,0⟩] scope bZ) pos) (tS B<|aH i<|gx<|dI R ls.length js fg ft fe):=by
 constructor
 .refine cM (Ak ls E G y u K Fr hit z v he w A I) λD σ H c=>?_
  obtain⟨g,s,o,s',x,h,k⟩:=c;obtain⟨⟨ts,f⟩,p,h⟩:=ae h;cases h;exact yC L F σ H _ ⟨g,s,ts,f,x,p,λl e g1 H1 j d n a m hl r=>AM k j d n a m hl r⟩
 .refine cM (Ak ls E G y u K Fr hit z v he w A I) λD σ H c=>?_
  obtain⟨g,s,o,s',x,h,k⟩:=c;obtain⟨⟨t,s2⟩,q,h⟩:=ae h;obtain⟨⟨ts,f⟩,p,q⟩:=ae q;cases q;cases h;exact yC L F σ H _ ⟨g,s,ts,f,x,p,λl e g1 H1 j d n a m hl r=>k _ (g1.grow<|upd g1.HF l<|.lst e) H1 (j.sM n a)<|(d.sM a m hl).set (t:=.lst ts) ⟨l,e,J,ai,r.same<|aT a⟩⟩
end
def Wz{gt:TG}{fg:FG}{u:B1}(he:PE X e<|tE B fa)(m:PG X tg gt)(w:sX B gt fg u)(l:swapsWithSole [tg] e pos.line X.env=pure Zc)(j:sr [tg] e X.env=pure Y)
  (n:(hZ [tg] X.env).map (·.2)=[sT tg X.env]):PS X (.Assign [tg] e pos)<|tS B<|yo fg fa:=cM (EL he m l j n) λD σ H z=>by
 obtain⟨g,s,o,s',x,h,k⟩:=z;obtain⟨⟨t,c⟩,q,h⟩:=ae h;obtain⟨f,p,h⟩:=ae h;cases h;exact⟨g,s,t,c,x,q,λv g1 H1 i a d=>w.ok g1.al g1.HF H1 σ c.r t v f _ a.sub d (ao p) a.lc.len λb st=>k b g1 H1 i ⟨a.st,a.lc.sets J st⟩⟩
def WA(he:PE X e<|tE B fa):PS X (.Return (U e) pos)<|tS B<|aD fa:=cM (EH he) λD σ H z=>by
 obtain⟨g,s,o,s',x,h,k⟩:=z;obtain⟨⟨t,b⟩,f,h⟩:=ae h;cases h;exact⟨g,s,t,b,x,f,λv g1 H1 d a c=>k v g1 H1 d a.st c⟩
def QX:PS X (.Return Y pos)<|tS B<|aD<|cF .non:=cM Jt λD σ H z=>by
 obtain⟨g,s,o,s',x,h,k⟩:=z;cases h;exact k _ g H .refl x.st J
def QY(he:PE X e<|tE B fa)(d:fC e Y pos.line X.env=pure Zc):PS X (.Expr e pos)<|tS B<|aP fa:=cM (jD he d) λD σ H z=>by
 obtain⟨g,s,o,s',x,h,k⟩:=z;obtain⟨⟨t,b⟩,f,h⟩:=ae h;cases h;exact⟨g,s,t,b,x,f,λv g1 H1 c a i=>k σ g1 H1 c a⟩
def ć{A f:Ee}(i:PT X c<|tT B ft)(l:gO X A<|tS B F)(j:gO X f<|tS B u):PS X (.If c A f pos)<|tS B<|aV ft F u:=cM (EI i l j) λD σ H z=>by
 obtain⟨g,s,o,s',x,h,k⟩:=z;obtain⟨⟨d,a⟩,m,h⟩:=ae h;refine⟨g,s,d,a,x,m,λg1 H1 e b=>?_⟩;cases d with
 |true=>exact nh ⟨g1,a,o,s',b,h,k.mv e⟩
 |false=>exact oF ⟨g1,a,o,s',b,h,k.mv e⟩
def iQ{r:Fs}(h:oQ r[i]?=U ts):r[i]?=U (U<|.ol ts):=by
 unfold oQ at h;split at h
 .rename_i a;cases h;exact a
 .cases h
def SR.yE(x:SR B g H σ s)(h:s.r[i]?=U (U<|.ol ts)):∃l vs,σ[i]?=U (U<|.ref l)/\g.o l=U (.loc i)/\H l=U (.lst vs)/\aC B g.al g.HF ts vs:=by
 obtain⟨v,d,l,vs,rfl,c,b,a⟩:=x.lc.at_ i _ h;exact⟨l,vs,d,c,b,a⟩
def WC{u:Pos}(he:PE X e<|tE B fa)(E:X.N[i]?=U y)(C:kI X.env.scope y)(hd:bA y)(I:fF y)(a:noStar e=O)(G:(bQ.endLine == bZ.line)=O) :
  PS X (.Expr (.Call (.Attribute (.Name y u) "append" bQ) [e] [] bZ) pos)<|tS B<|ja i fa:=by
 refine cM (jD (vj ix tu tq lQ (cy E C hd I) (aL he bP<|aq a) (fW J) (sU (by rw[e7,a];rfl)<|by decide) G (aq a) J) J) λD σ H d=>?_
 obtain⟨g,s,o,s',x,h,k⟩:=d;obtain⟨Q,P,h⟩:=ae h;obtain⟨⟨t,p⟩,M,h⟩:=ae h;obtain⟨ts,L,h⟩:=ae h;obtain⟨n,K,h⟩:=ae h;obtain⟨z,rfl⟩:=bu<|ao K;cases h;obtain⟨l0,j,q1,q2,r,q4⟩:=x.yE<|iQ<|ao P;refine⟨_,q1,.inl ⟨J,_,dm.of r⟩,g,s,t,p,x,M,λv g1 H1 A b q=>?_⟩;have c:=iQ<|ao L;obtain⟨l,m,w1,w2,w3,w4⟩:=b.yE c;rw[q1]at w1;cases w1;obtain⟨f,w⟩:=b.chg c q1<|w4.app<|.one q;exact⟨l0,m,v,J,J,w3,by rw[<- w4.len,eJ];exact dN z<|by decide,k σ g1 _ (A.trans w) f⟩
def WD(hc:X.calm=O)(hi:PI X tg f<|tI B fl)(hg:PG X tg gt)(Jb:sX B gt fg S')(hb:gO X n<|tS B F)(hp:nX (cv X.prog X.w) X.A X.env X.xe)
  (hs:∀x,fv f X.env x=pure x):PS X (.For tg f n [] pos)<|tS B<|gU fl fg F:=by
 refine cM (Pc hp hc hi hg hb hs) λD σ H zz=>?_;obtain⟨g,s,o,s',x,h,k⟩:=zz;obtain⟨⟨d,T⟩,e1,h⟩:=ae h;refine⟨g,s,d,T,x,e1,λqd g1 H1 R x1 P=>?_⟩;refine⟨λi m l z=>m=Mo d-i/\i<=Mo d/\∃g2 s2,dB g1 H1 g2 z/\SR B g2 z l s2/\bH fg F (d.drop i) s2=.ok (o,s'),
  ⟨Mo d,by simp,jc _,g1,T,.refl,x1,by rw[uV];exact h⟩,?_⟩
 rintro i m l z ⟨rfl,S,g2,s2,G,E,j⟩
 have Ĉ:=G.fr.trans E.sub;by_cases iL:i<Mo d
 .have hx:d[i]?=U d[i]:=c5 iL
  rw[rT iL]at j;obtain⟨V,q1,j⟩:=ae j;obtain⟨⟨W,Q⟩,q2,j⟩:=ae j;refine .inr ⟨P.go i z Ĉ iL,λC H'=>∃g' M,dB g1 H1 g' H'/\SR B g' H' C M/\bH fg F (d.drop<|i+1) M=.ok (o,s'),
   by rintro C H' ⟨g',M,a,b,c⟩;exact⟨Mo d-(i+1),Ea iL<|mT i,J,iL,g',M,a,b,c⟩,λv H3 y=>?_⟩
  obtain⟨t,Z,y2⟩:=P.yld i z v H3 Ĉ iL y;rw[hx]at Z;cases Z;obtain⟨QN,I,rx⟩:=y2 g2.HF G.fr E.sub;have L:=E.grow I;have N:=G.trans<|E.gB I;refine Jb.ok g2.al QN H3 l s2.r _ v V _ L.sub (rx.mv G.pre<|aM.refl _) (ao q1) L.lc.len λσ4 st=>⟨g2.grow QN,⟨V,s2.m⟩,W,Q,⟨L.st,L.lc.sets J st⟩,q2,?_⟩;cases W with
  |nx=>exact λp g5 K u q=>⟨g5,Q,N.trans u,q,j⟩
  |ct=>exact λp g5 K u q=>⟨g5,Q,N.trans u,q,j⟩
  |bk=>
   cases j;exact λp g5 K u q=>k p g5 K ((R.trans N).trans u) q
  |rt t=>
   cases j;exact λv g5 K u q r=>k v g5 K ((R.trans N).trans u) q r
 .have e:i=Mo d:=MH S<|zE iL
  subst e;rw[El]at j;cases j;exact .inl ⟨P.stop _ z Ĉ J,k l g2 z (R.trans G) E⟩
def Kr(n:Nat)(R:PT X c<|tT B ft)(S:gO X f<|tS B F)(Q:nX (cv X.prog X.w) X.A X.env X.xe):PS X (.While c f [] pos)<|tS B<|dQ n ft F:=by
 refine cM (u5 Q R S) λD σ H N=>?_;obtain⟨g,s,o,s',x,h,k⟩:=N;refine⟨λm j E=>∃g2 s2,dB g H g2 E/\SR B g2 E j s2/\aO ft F m s2=.ok (o,s'),⟨n,g,s,.refl,x,h⟩,?_⟩
 rintro m j E ⟨g2,s2,L,P,e⟩
 cases m with
 |zero=>cases e
 |succ m=>
  obtain⟨⟨d,I⟩,q1,e⟩:=ae e;refine⟨g2,s2,d,I,P,q1,λg3 T K G=>?_⟩;cases d with
  |false=>
   cases e;exact oF<|k j g3 T (L.trans K) G
  |true=>
   obtain⟨⟨M,C⟩,q2,e⟩:=ae e;refine nh ⟨λq H'=>∃g' y,dB g H g' H'/\SR B g' H' q y/\aO ft F m y=.ok (o,s'),by rintro q H' ⟨g',y,a,b,c⟩;exact⟨m,mT m,g',y,a,b,c⟩,?_⟩
   refine⟨g3,I,M,C,G,q2,?_⟩;have z:=L.trans K;cases M with
   |nx=>exact λi g5 u p l=>⟨g5,C,z.trans p,l,e⟩
   |ct=>exact λi g5 u p l=>⟨g5,C,z.trans p,l,e⟩
   |bk=>
    cases e;exact λi g5 u p l=>k i g5 u (z.trans p) l
   |rt t=>
    cases e;exact λv g5 u p l r=>k v g5 u (z.trans p) l r
end
section
def rq(r:aC B g.al g.HF ts vs):oW B g H (L2.start N vs)<|ts.map (λt=>U<|C.val t)++bL (Mo N-Mo ts) Y:=by
 refine⟨by unfold L2.start;simp[r.len],λi c h=>?_⟩
 by_cases hi:i<Mo ts
 .rw[gY<|by simpa using hi,fQ,c5 hi]at h
  cases h;obtain⟨v,b,a⟩:=r.get<|c5 hi;refine⟨v,?_,a⟩;unfold L2.start;rw[gY<|by rw[cz,<- r.len];exact hi,fQ,b];rfl
 .rw[eZ<|by simpa using hi,xU]at h
  split at h<;>cases h
def nO{a n:Nat}(h:aI a n F ts m=.ok (t,m')):Mo ts=a/\∃o s',F ⟨ts.map (λt=>U<|.val t)++bL (n-Mo ts) Y,m⟩=.ok (o,s')/\s'.m=m'/\(o=.rt t\/(o=.nx/\t=.non)):=by
 unfold aI at h;split at h
 .rename_i hl
  obtain⟨⟨o,s'⟩,b,h⟩:=ae h;refine⟨hl,o,s',b,?_⟩;cases o with
  |rt u=>cases h;exact⟨J,.inl J⟩
  |nx=>cases h;exact⟨J,.inr ⟨J,J⟩⟩
  |bk=>cases h
  |ct=>cases h
 .cases h
variable{P:dn}{K:bq}
structure v_(K:bq)(x qual:Str)(st:gi)(f:bt)(fd:eh):Prop where
 ex:∃(oc:bj)(od:Option bt)(dV kV doc pm:bj)(an:Option bt)(fS ct:bj)(ql:Array D1),
  fd=Cd x qual (kP st) (b8 st) (az st) dV kV doc pm an fS ct/\K.lookup f=U ⟨oc,od,.func fd,ql⟩/\D5 K fS qual=O
 kp:lJ K (.ref f)=O
def v_.ok{sp:Sp}(F:v_ K x qual st f fd)(g:fR N ps<|az st)(len:∀vs H Q E,sp vs H Q E->Mo vs=Mo ps)
  (i:∀(a:bj)(A:ek)(outer:List Env)(s:av)(H:Hp)(vs:List V)(Q:VK)(E:XK),bJ k (A.deeper<|EB qual (az st) s.heap.objs.size f a)->sp vs H Q E ->
   ∃t,gO (i7 i8 P w K mg base N qual (az st) f a A outer s H E).DC (b8 st) t/\t {nx:=λ_ H'=>Q .non H',rt:=Q} (L2.start N vs) H):cT P w K mg base i8 (k+1) f fd ps sp:=by
 obtain⟨m,od,n,kV,d,l,an,a,ct,j,rfl,b,c⟩:=F.ex;refine NC b c g len λA outer s H vs Q E hr e=>?_;obtain⟨t,h,q⟩:=i a A outer s H vs Q E hr e;exact⟨t,h.DC,q⟩
def QZ(Fn:v_ K x qual st f fd)(n:fR N ps<|az st)
  (a:∀(b:bj)(A:ek)(outer:List Env)(s:av)(H:Hp)(E:XK),bJ k (A.deeper<|EB qual (az st) s.heap.objs.size f b)->gO (i7 i8 P w K mg base N qual (az st) f b A outer s H E).DC (b8 st) (tS B F)) :
  cT P w K mg base i8 (k+1) f fd ps<|qo B<|aI ps.length N.length F:=by
 refine Fn.ok n (λd H Q E h=>?_) λb A outer s H d Q E hr h=>?_
 .obtain⟨g,ts,m,t,i,x,r,h,_⟩:=h
  rw[<- r.len,(nO h).1]
 .obtain⟨g,ts,m,t,i,x,r,h,q⟩:=h
  obtain⟨_,o,s',l,rfl,j⟩:=nO h;refine⟨_,a b A outer s H E hr,g,_,o,s',⟨x,rq r⟩,l,?_⟩;rcases j with rfl|⟨rfl,rfl⟩
  .exact λv g' H' p y e=>q v g' H' p y e
  .exact λc g' H' p y=>q _ g' H' p y.st J
def Ks(F:cT P w K mg base i8 k f fd ps<|qo B fn):cT P w K mg base i8 k f fd ps<|qo B<|aU fn:=F.imp λI H Q E h=>by
 obtain⟨g,ts,m,t,L,x,r,h,q⟩:=h;unfold aU at h;split at h
 case isFalse=>cases h
 rename_i C;cases e:fn ts []with
 |bad=>rw[e]at h;cases h
 |exc c fs s=>rw[e]at h;dsimp only at h;split at h<;>cases h
 |ok z=>
  rw[e]at h;dsimp only at h;split at h
  case isFalse=>cases h
  rename_i G;cases h;refine⟨⟨g.HF,λ_=>Y,[]⟩,ts,[],z.1,z.2,⟨x.sub,λb p e=>(by cases e),J,λk ob e=>(by simp at e)⟩,aC.no C r,e,λv g0 H' p y A=>?_⟩
  have keep:∀b p,g.o b=U p->H' b=H b/\g0.HF b=Y:=λb q D=>by
   obtain⟨j,u,i⟩:=x.live b q D;obtain⟨d,a,_⟩:=p.rest b u i j J;exact⟨d.trans i.symm,a⟩
  refine q v ⟨g0.HF,g.o,g.al⟩ H' ⟨p.fr,fD,λb u h n z=>?_,p.there⟩ (x.mv y.sub (λb p e=>?_) p.fr J λl p h _=>⟨h,(keep l p h).1⟩)<|Rep.no G A
  .obtain⟨d,a,_⟩:=p.rest b u h n J
   exact⟨d,a,z⟩
  .obtain⟨j,u,i⟩:=x.live b p e
   obtain⟨d,a⟩:=keep b p e;exact⟨a,u,d.trans i⟩
end
def SR.Oc{ob pj:Ob}{a C dx:bt}(x:SR B g H σ s)(Z:DJ B g H k ob a C dx ns vs)(A:s.m[k]?=U ob)(F:pj.c=ob.c)(u:Mo vs'<=Mo ns)(t:Mo vs'=Mo pj.fs)
  (E:∀j c,pj.fs[j]?=U c->∃v,vs'[j]?=U v/\bz B g H (.fld k j) c v) :
  dB g H g (upd H a<|.ins C dx<|ns.zip vs')/\SR B g (upd H a<|.ins C dx<|ns.zip vs') σ {s with m:=s.m.set k pj}:=by
 have ne:∀l q,g.o l=U q->q≠.ob k->upd H a (.ins C dx<|ns.zip vs') l=H l:=λl q hl f=>ak λz=>f (by rw[z,Z.o]at hl;cases hl;rfl)
 have sl:∀{q:j_}{c:_root_.D.C}{v:V},q≠.ob k->bz B g H q c v->bz B g (upd H a<|.ins C dx<|ns.zip vs') q c v:=λf h=>bz.mv (g:=g) (g':=g) (aM.refl _) fD (λl hl=>⟨hl,ne l _ hl f⟩) h;refine⟨nM Z.o,⟨⟨λb w e=>?_,λb q e=>?_,by rw[eT];exact x.st.len,λr p e=>?_⟩,x.lc.len,λi c e=>?_⟩⟩
 .have:b≠a:=λz=>by rw[z,(x.st.live a _ Z.o).1]at e;cases e
  rw[ak this];exact x.sub _ _ e
 .obtain⟨d,w,n⟩:=x.st.live b q e
  by_cases hb:b=a
  .exact⟨d,_,by rw[hb,ai]⟩
  .exact⟨d,w,by rw[ak hb];exact n⟩
 .by_cases qG:k=r
  .subst qG
   have y:k<Mo s.m:=(bK.mp A).1;have e:(s.m.set k pj)[k]?=U p:=e;rw[dG y]at e;cases e;exact .inl ⟨a,C,dx,ns,vs',Z.al,Z.o,by rw[F];exact Z.cl,ai,u,t,λj c h=>let⟨v,d,n⟩:=E j c h;⟨v,d,sl (λz=>by cases z) n⟩⟩
  .have e:(s.m.set k pj)[r]?=U p:=e
   rw[cW qG]at e;refine(x.st.at_ r p e).mv (aM.refl _) fD λl q h f=>⟨h,ne l q h ?_⟩;rcases f with rfl|⟨j,rfl⟩
   .exact λz=>qG (by cases z;rfl)
   .exact λz=>by cases z
 .obtain⟨v,d,n⟩:=x.lc.at_ i c e
  exact⟨v,d,sl (λz=>by cases z) n⟩
def C_{fs a:List C}{c:C}(h:setAt fs j c=U a):(j<Mo fs/\a=fs.set j c)\/(j=Mo fs/\a=fs++[c]):=by
 unfold setAt at h;split at h
 .rename_i q;cases h;exact .inl ⟨q,J⟩
 .split at h
  .rename_i q;cases h;exact .inr ⟨q,J⟩
  .cases h
def AN(I:nq X.K X.mg P){a C dx:bt}(u:P.an[f]?=U n)(x:SR (P.kt X) g H σ s)(Z:DJ (P.kt X) g H k ob a C dx ns vs)(r:s.m[k]?=U ob)(h:dg P.tab f c' ob=U pj)
  (q:∀j,bz (P.kt X) g H (.fld k j) c' v):qk X.K C/\bB X.K C n/\(ns.zip vs).length<1000 /\
  ∃vs',L2.dP n v (ns.zip vs)=ns.zip vs'/\dB g H g (upd H a<|.ins C dx<|ns.zip vs')/\SR (P.kt X) g (upd H a<|.ins C dx<|ns.zip vs') σ {s with m:=s.m.set k pj}:=by
 obtain⟨j,A,z⟩:=bM.mp h;obtain⟨E,y,rfl⟩:=ck.mp z;obtain⟨m,G,t,F⟩:=I.of Z.cl;have b:=nN u t A;have B:j<Mo ns:=(bK.mp b).1;refine⟨F.cl,F.na _<|gz b,by rw[Cj];have:=F.sU;lia,?_⟩
 rcases C_ y with⟨d,rfl⟩|⟨rfl,rfl⟩
 .refine⟨vs.set j v,AI F.nd b Z.le<|by rw[Z.ln];exact d,?_⟩
  refine x.Oc Z r J (by rw[eT];exact Z.le) (by rw[eT,eT];exact Z.ln) λi c e=>?_
  by_cases hi:j=i
  .subst hi
   rw[dG d]at e;cases e;exact⟨v,by rw[dG<|by rw[Z.ln];exact d],q j⟩
  .rw[cW hi]at e
   obtain⟨w,o,l⟩:=Z.f i c e;exact⟨w,by rw[cW hi];exact o,l⟩
 .refine⟨vs++[v],sW F.nd<|by rw[Z.ln];exact b,?_⟩
  refine x.Oc Z r J (by rw[cQ,Z.ln];exact B) (by rw[cQ,cQ,Z.ln];rfl) λi c e=>?_
  by_cases hi:i<Mo ob.fs
  .rw[gY hi]at e
   obtain⟨w,o,l⟩:=Z.f i c e;exact⟨w,by rw[gY<|by rw[Z.ln];exact hi];exact o,l⟩
  .rw[eZ<|by lia]at e
   have p:i-Mo ob.fs=0:=by
    have:=(bK.mp e).1
    simp at this;exact this
   rw[p]at e;cases e;exact⟨v,by rw[eZ<|by rw[Z.ln];lia,Z.ln,p];rfl,q i⟩
def WH(qd:nq X.K X.mg P)(M:P.an[f]?=U n)(L:PE X o<|tE (P.kt X) fo)(he:PE X e<|tE (P.kt X) fa)(I:fC e (U<|.Attribute o n cO) pos.line X.env=pure Zc) :
  PS X (.Assign [.Attribute o n cO] e pos)<|tS (P.kt X)<|aJ P.tab f fo fa:=cM (yb L he I) λD σ H z=>by
 obtain⟨g,s,oo,s',x,h,k⟩:=z;obtain⟨⟨t,i⟩,S,h⟩:=ae h;obtain⟨⟨A,s2⟩,R,h⟩:=ae h;cases A<;>try(cases h;done)
 rename_i kk;obtain⟨pj,Q,h⟩:=ae h;cases h;obtain⟨ob,p,m⟩:=bM.mp<|ao Q;refine⟨g,s,t,i,x,S,λv g1 H1 G u E=>⟨g1,i,_,s2,u,R,λw g2 H2 b d B=>?_⟩⟩;obtain⟨a,rfl,N⟩:=B;rcases d.st.at_ kk ob p with⟨W,C,V,ns,vs,Z⟩|⟨W,Z⟩
 case inr=>
  obtain⟨j,q,_⟩:=bM.mp m;obtain⟨l,q,_⟩:=bM.mp q;have z:(P.tab.map _)[ob.c]?=Y:=Z.nf;rw[fQ,q]at z;cases z
 have:=Z.al.symm.trans N
 cases this;obtain⟨cl,na,hl,y,T,F,r⟩:=AN qd M d Z p m (v:=v) λj=>E.mv b.pre b.fr;refine⟨a,C,V,_,J,Z.h,cl,na,hl,?_⟩;rw[T];exact k σ g2 _ ((G.trans b).trans F) r
end D
namespace L2
open PySem PySem.Spec PyProof.Rows
end L2
namespace D
open PySem L2
variable{X:Cx}{a b c e o tg:cw}{g g':G}{i k n:Nat}{P:Pg}{x y:Str}
theorem AO:∀{Ds:BM}{its:B2},Vals (Ds.map V.ref) its->its=Ds.map Value.ref
 |[],_,h=>by cases h;rfl
 |D::Ds,_,h=>by
  cases h with
  |cons p q=>
   cases p;rw[AO q];rfl
def GD:fJ X (.builtin "isinstance") λxs H Q=>∃(a C dx tp:bt)(fs:List (Str×V))(Ds:BM)(b:Bool),xs=[.ref a,.ref tp]/\H a=U (.ins C dx fs)/\qk X.K C/\eY X.K (.ref C) "__class__" = U (U<|.builtin Md) /\
  zt X.K (.builtin Md) "__get__" = U (U<|.builtin "getset_descriptor.__get__")/\zu X.K (.builtin Md)=U O/\Cc X.K C (.type "object")=U O /\
  H tp=U (.tup<|Ds.map V.ref)/\D6 X.K (.ref C) (Ds.map Value.ref)=U b/\Q (.bl b) H:=by
 intro F s σ H xs y Q I r h;obtain⟨a,C,dx,tp,fs,Ds,b,rfl,t,cl,l,j,x,k,m,e,q⟩:=h;obtain⟨u,A,rfl,f,v⟩:=vals2 r;cases f;cases v;obtain⟨E,G,_⟩:=kM I.bC t;obtain⟨od,L,_⟩:=G.look;obtain⟨_,c,d,o,g1,g2,n,g3⟩:=(show cj X.prog X.w H s.heap tp (.tup<|Ds.map V.ref)from I.bC tp _ m);have p:c=Ds.map Value.ref:=AO d;obtain⟨D,i,g,B⟩:=o;cases g2;cases g3;rw[p]at g1;exact PySem.W.kia_tup (MB (cl.get _) cl.hd l j x k) I.iE L g1 e (λz=>nomatch z) λtk=>⟨.bl b,H,I.tok _,J,q⟩
def G.eB(g:G)(a:bt):G:={g with o:=λb=>if b=a then U (.ob g.al.length)else g.o b,al:=g.al++[a]}
theorem SR.eB{c:Nat}{C q dx:bt}(x:SR B g H σ s)(D:ig B c C ns)(nx:H q=Y)(nd:H dx=Y)(F:dx≠q) :
  dB g H (g.eB q) (upd (upd H dx<|.own q) q<|.ins C dx [])/\SR B (g.eB q) (upd (upd H dx<|.own q) q<|.ins C dx []) σ {s with m:=s.m++[⟨c,[]⟩]}:=by
 have nf:g.HF q=Y:=x.sub.free nx;have w:g.HF dx=Y:=x.sub.free nd;have no:∀l a,g.o l=U a->l≠q/\l≠dx:=λl a h=>by
  obtain⟨_,u,z⟩:=x.st.live l a h;exact⟨aK z nx,aK z nd⟩
 have p:∀l,l≠q->l≠dx->upd (upd H dx<|.own q) q (.ins C dx []) l=H l:=λl d f=>by rw[ak d,ak f]
 have y:∀l a,g.o l=U a->(g.eB q).o l=U a:=λl a h=>by
  show(if l=q then U (j_.ob g.al.length)else g.o l)=_
  rw[bp (no l a h).1];exact h
 have pre:g.al <+: (g.eB q).al:=zS _ _;refine⟨⟨aM.refl _,pre,λb u h n z=>?_,λb h=>?_⟩,⟨⟨λb u e=>?_,λb a e=>?_,?_,λk ob e=>?_⟩,x.lc.len,λi E e=>?_⟩⟩
 .have d:=aK h nx
  have f:=aK h nd;refine⟨(p b d f).trans h,n,?_⟩;show(if b=q then U (j_.ob g.al.length)else g.o b)=Y
  rw[bp d];exact z
 .by_cases d:b=q
  .subst d;exact nx
  .by_cases f:b=dx
   .subst f;exact nd
   .rw[p b d f]at h;exact h
 .have d:b≠q:=λz=>by rw[z]at e;have e:g.HF q=U u:=e;rw[nf]at e;cases e
  have f:b≠dx:=λz=>by rw[z]at e;have e:g.HF dx=U u:=e;rw[w]at e;cases e
  rw[p b d f];exact x.sub _ _ e
 .have e:(if b=q then U (j_.ob g.al.length)else g.o b)=U a:=e
  by_cases hb:b=q
  .subst hb;exact⟨nf,_,ai⟩
  .rw[bp hb]at e
   obtain⟨d,u,f⟩:=x.st.live b a e;obtain⟨t,r⟩:=no b a e;exact⟨d,u,(p b t r).trans f⟩
 .show(s.m++[_]).length=(g.al++[q]).length
  rw[cQ,cQ,x.st.len];rfl
 .have e:(s.m++[(⟨c,[]⟩:Ob)])[k]?=U ob:=e
  by_cases hk:k<Mo s.m
  .rw[gY hk]at e
   refine(x.st.at_ k ob e).mv (aM.refl _) pre λl a h _=>⟨y l a h,?_⟩;obtain⟨t,r⟩:=no l a h;exact p l t r
  .rw[eZ<|by lia]at e
   have ĉ:k-Mo s.m=0:=by
    have:=(bK.mp e).1
    simp at this;exact this
   rw[ĉ]at e;cases e;have A:k=Mo g.al:=by have:=x.st.len;lia
   subst A;refine .inl ⟨q,C,dx,ns,[],?_,?_,D,?_,jc _,J,λj c h=>by simp at h⟩
   .show(g.al++[q])[Mo g.al]?=U q
    rw[eZ<|cV _,nV];rfl
   .show(if q=q then U (j_.ob g.al.length)else g.o q)=_
    rw[bU J]
   .rw[ai,MY]
 .obtain⟨v,d,f⟩:=x.lc.at_ i E e
  refine⟨v,d,bz.mv (g:=g) (g':=g.eB q) (aM.refl _) pre (λl h=>⟨y l _ h,?_⟩) f⟩;obtain⟨t,r⟩:=no l _ h;exact p l t r
structure DnN(P:Pg)(Pr:dn)(w:dv)(K:bq)(mg:Str->D1)(base:ey)(k:Nat)(c:Nat)(x:Str)(f:Fn):Prop where
 ex:∃(C fi:bt)(fd:eh)(ps:Bi)(ns:Bi),ig (iP P K Pr w) c C ns/\mg x=U (.ref C)/\Mk K C fi/\cT Pr w K mg base i8 k fi fd ps (qo (iP P K Pr w) f)/\Binds K fd ps []
def Ku{c:Nat}(h:oS c f fl s=.ok (t,s')):∃ts s1 m',fl s=.ok (ts,s1)/\f (.own s1.m.length::ts) (s1.m++[⟨c,[]⟩])=.ok (.non,m')/\t=.own s1.m.length/\s'={s1 with m:=m'}:=by
 obtain⟨⟨ts,s1⟩,a,h⟩:=ae h;dsimp only at h;cases q:f (.own s1.m.length::ts) (s1.m++[⟨c,[]⟩])with
 |ok r=>
  rw[q]at h;obtain⟨u,m'⟩:=r;cases u<;>try(cases h;done)
  cases h;exact⟨ts,s1,m',a,q,J,J⟩
 |bad=>rw[q]at h;cases h
 |exc c fs s2=>rw[q]at h;cases h
def Kv{c:Nat}{C:bt}{Q:VK}(p:ig B c C ns)(d:SR B g H σ s)(n:aC B g.al g.HF ts vs)(r:f (.own s.m.length::ts) (s.m++[⟨c,[]⟩])=.ok (.non,m'))
  (k:∀v g' H',dB g H g' H'->SR B g' H' σ {s with m:=m'}->Rep B g'.al g'.HF (.own s.m.length) v->Q v H'):∀q a,H q=Y->H a=Y->a≠q->qo B f (.ref q::(vs++[])) (upd (upd H a<|.own q) q<|.ins C a []) (λv t=>v=.non/\Q (.ref q) t) E0:=λq a nx nd o=>by
 obtain⟨b,j⟩:=d.eB p nx nd o;rw[bF];have h:(g.eB q).al[Mo s.m]?=U q:=by
  show(g.al++[q])[Mo s.m]?=U q;rw[d.st.len,eZ<|cV _,nV];rfl
 refine vX (E:=E0) (ts:=.own s.m.length::ts) j ⟨_,vs,J,⟨q,J,h⟩,n.mv b.pre b.fr⟩ r λv g' H' e i l=>⟨l,k _ g' H' (b.trans e) i ⟨q,J,ez e.pre h⟩⟩
def Q0{k j c:Nat}(D:DnN P X.prog X.w X.K X.mg X.base k c x f)(hr:bJ j X.A)(o:k+1<=j)(E:PA X (e::es)<|tA (P.kt X) fl)(z:Gl X x)(u:bA x)(a:(e::es).all noStar=O) :
  PE X (.Call (.Name x p) (e::es) [] pos)<|tE (P.kt X)<|oS c f fl:=by
 obtain⟨C,S,fd,ps,ns,G,y,M,F,B⟩:=D.ex;rw[e7,cL]at a;refine aR (sj M F (hr.mono o) z y B .nil oB E u (aq a.1)<|dq a.2) λσ H Q b=>?_;obtain⟨g,s,t,s',x,h,k⟩:=b;obtain⟨ts,l,R,L,I,rfl,rfl⟩:=Ku h;exact⟨g,s,ts,l,x,L,λN g1 H1 r i n=>Kv G i n I λv g' H' q d m=>k v g' H' (r.trans q) d m⟩
def pA:cw->Option (cw×Bz×List pq×Pos)
 |.Call f a k p=>U (f,a,k,p)
 |_=>Y
def asName:cw->Option Str
 |.Name x _=>U x
 |_=>Y
def gy:cw->Option (cw×Str×Pos)
 |.Attribute o f p=>U (o,f,p)
 |_=>Y
def jt(e:cw):Option<|Str×Bz×List pq:=(pA e).bind λq=>(asName q.1).map λf=>(f,q.2.1,q.2.2.1)
def jG{q}(h:pA e=U q):e=.Call q.1 q.2.1 q.2.2.1 q.2.2.2:=by
 cases e<;>first|(cases h;done)|(cases h;rfl)
def ba(h:asName e=U x):∃p,e=.Name x p:=by
 cases e<;>first|(cases h;done)|(cases h;exact⟨_,J⟩)
def fY{q}(h:gy e=U q):e=.Attribute q.1 q.2.1 q.2.2:=by
 cases e<;>first|(cases h;done)|(cases h;rfl)
def eV{q}(h:jt e=U q):∃p pos,e=.Call (.Name q.1 p) q.2.1 q.2.2 pos:=by
 obtain⟨w,d,c⟩:=bM.mp h;obtain⟨f,b,rfl⟩:=ck.mp c;obtain⟨p,a⟩:=ba b;rw[jG d,a];exact⟨_,_,J⟩
def yG{α b:Type}:List α->List b->Option α
 |[a],[]=>U a
 |_,_=>Y
def iu{α c:Type}{a:α}{as:List α}{ks:List c}(h:yG as ks=U a):as=[a]/\ks=[]:=by
 match as,ks,h with
 |[b],[],h=>cases h;exact⟨J,J⟩
def Zm(e:cw):Option<|Str×cw:=(jt e).bind λq=>(yG q.2.1 q.2.2).map λa=>(q.1,a)
def sY{q}(h:Zm e=U q):∃p pos,e=.Call (.Name q.1 p) [q.2] [] pos:=by
 obtain⟨u,c,h⟩:=bM.mp h;obtain⟨a,b,rfl⟩:=ck.mp h;obtain⟨p,r,g⟩:=eV c;obtain⟨f,d⟩:=iu b;exact⟨p,r,by rw[g,f,d]⟩
def Ċ(e:cw):Option<|cw×Str×cw:=(pA e).bind λq=>(gy q.1).bind λw=>(yG q.2.1 q.2.2.1).bind λa=>if noStar a=O/\(w.2.2.endLine == q.2.2.2.line)=O then U (w.1,w.2.1,a)else Y
def AQ(h:Ċ e=U (o,m,a)):noStar a=O/\∃c cp,e=.Call (.Attribute o m c) [a] [] cp/\(c.endLine == cp.line)=O:=by
 obtain⟨u,g,h⟩:=bM.mp h;obtain⟨w,f,h⟩:=bM.mp h;obtain⟨b,d,h⟩:=bM.mp h;obtain⟨⟨q1,q2⟩,h⟩:=nW.mp h;cases h;obtain⟨j,i⟩:=iu d;exact⟨q1,_,_,by rw[jG g,fY f,j,i],q2⟩
def AR:gi->Option (Str×Str×cw)
 |.Assign ts e _=>(match ts with
  |[t]=>(gy t).bind λq=>(asName q.1).map λs=>(s,q.2.1,e)
  |_=>Y)
 |_=>Y
def sZ{q}(h:AR st=U q):∃b a pos,st=.Assign [.Attribute (.Name q.1 b) q.2.1 a] q.2.2 pos:=by
 cases st<;>try(cases h;done)
 rename_i ts e pos
 match ts,h with
 |[t],h=>
  obtain⟨w,g,f⟩:=bM.mp<|show(gy t).bind _=U q from h;obtain⟨s,d,rfl⟩:=ck.mp f;obtain⟨p,c⟩:=ba d;rw[fY g,c];exact⟨_,_,_,J⟩
def s_(st:gi):Option<|Str×Str×Str:=(AR st).bind λw=>(asName w.2.2).map λq=>(w.1,w.2.1,q)
def yH(h:s_ st=U z):∃b a c pos,st=.Assign [.Attribute (.Name z.1 b) z.2.1 a] (.Name z.2.2 c) pos:=by
 obtain⟨w,g,f⟩:=bM.mp h;obtain⟨q,e,rfl⟩:=ck.mp f;obtain⟨b,a,pos,rfl⟩:=sZ g;obtain⟨p,d⟩:=ba e;rw[d];exact⟨_,_,_,_,J⟩
def pC(N:Bi):Nat->Ee->Bi->Bool
 |_,[],[]=>O
 |i,st::rest,n::ns=>(match s_ st with
  |some z=>decide (N[0]?=U z.1)&&decide (N[i]?=U z.2.2)&&decide (z.2.1=n)
  |none=>Zc)&&pC N (i+1) rest ns
 |_,_,_=>Zc
def Zn(K:bq):Nat->Bi->TS
 |_,[]=>EG
 |i,n::ns=>Ux (UX K (Jq 0) (Jq i) n)<|Zn K (i+1) ns
theorem AS(c:∀(i:Nat)(x:Str),X.N[i]?=U x->kI X.env.scope x/\bA x/\fF x):∀(a:Ee)(ns:Bi)(i:Nat),pC X.N i a ns=O->gO X a (Zn X.K i ns)
 |[],[],_,_=>nI
 |[],_::_,_,h=>by cases h
 |st::rest,[],_,h=>by cases h
 |st::rest,n::ns,i,h=>by
  have h:((match s_ st with
   |some z=>decide (X.N[0]?=U z.1)&&decide (X.N[i]?=U z.2.2)&&decide (z.2.1=n)
   |none=>Zc)&&pC X.N (i+1) rest ns)=O:=h
  rw[cL]at h;obtain⟨b,l⟩:=h;cases e:s_ st with
  |none=>rw[e]at b;cases b
  |some z=>
   rw[e]at b;simp only[cL,ec]at b;obtain⟨⟨f,d⟩,rfl⟩:=b;obtain⟨p,o,m,pos,rfl⟩:=yH e;obtain⟨k,j,g⟩:=c 0 _ f;obtain⟨w1,w2,w3⟩:=c i _ d;exact hU (yb (cy f k j g) (cy d w1 w2 w3) J)<|AS c rest ns (i+1) l
theorem AU{C q dx:bt}(cl:qk K C):∀(ns d:Bi)(as c:List V)(H:Hp),(∀f∈ns,bB K C f)->(d++ns).Nodup->(d++ns).length<=100->Mo c=Mo d->Mo as=Mo ns->all=.ref q::(c++as)->H q=U (.ins C dx<|d.zip c) ->
  D.nx (L2.start N all) (upd H q<|.ins C dx<|(d++ns).zip<|c++as)->Zn K (Mo c+1) ns D (L2.start N all) H
 |[],d,as,c,H,_,_,_,l,hl,g,m,k=>by
  have:as=[]:=MZ.mp hl
  subst this;rw[bF,bF]at k;have e:upd H q (.ins C dx<|d.zip c)=H:=by
   funext b
   by_cases hb:b=q
   .subst hb;rw[ai,m]
   .rw[ak hb]
  rw[e]at k;exact k
 |n::ns,d,[],c,H,_,_,_,l,hl,g,m,k=>by cases hl
 |n::ns,d,v::as,c,H,j,nd,i,l,hl,g,m,k=>by
  have s:(L2.start N all)[Mo c+1]?=U (U v):=by
   unfold L2.start;rw[gY<|by rw[g];simp,fQ,g,List.getElem?_cons_succ,eZ<|cV _,nV];rfl
  have u:(L2.start N all)[0]?=U (U<|.ref q):=by
   unfold L2.start;rw[gY<|by rw[g];simp,fQ,g];rfl
  have A:n∉d:=λz=>by
   rw[M0]at nd;exact nd.2.2 n z n (eO ..) J
  refine⟨v,s,.ref q,u,q,C,dx,d.zip c,J,m,cl,j n<|eO ..,?_,?_⟩
  .rw[Cj];rw[cQ]at i;lia
  .have w:L2.dP n v (d.zip c)=(d++[n]).zip (c++[v]):=by
    have:=sW (f:=n) (v:=v) (ns:=d++[n]) (vs:=c) (by
     rw[show d++n::ns=(d++[n])++ns by simp]at nd
     exact(M0.mp nd).1) (by rw[l,eZ<|cV _,nV];rfl)
    rw[<- this]
    congr 1
    have:∀(a:Bi)(b:List V)(r:Bi),Mo b=Mo a->a.zip b=(a++r).zip b:=by
     intro a
     induction a with
     |nil=>intro b r h;cases b with
      |nil=>simp
      |cons=>cases h
     |cons x a p=>intro b r h;cases b with
      |nil=>cases h
      |cons y b=>rw[qu,uP,qu,p b r<|by simpa using h]
    exact this d c [n] l
   rw[w];have o:=AU (N:=N) (all:=all) (D:=D) (q:=q) (dx:=dx) cl ns (d++[n]) as (c++[v]) (upd H q<|.ins C dx<|(d++[n]).zip<|c++[v]) (λf t=>j f<|ee _ t) (by simpa using nd) (by simpa using i) (by simp[l]) (by simpa using hl) (by rw[g];simp) ai (by
    rw[z_];simpa using k)
   rw[show(c++[v]).length+1=Mo c+1+1 by simp]at o
   exact o
theorem pD:∀(k:Int)(ts:FR),(gu k ts).length=Mo ts
 |_,[]=>J
 |k,_::ts=>ej (· + 1)<|pD (k+1) ts
theorem AV:∀(k:Nat)(ts:FR)(i:Nat)(t:T),ts[i]?=U t->(gu (k:Int) ts)[i]?=U (.tup [.int ((k+i:Nat):Int),t])
 |_,[],_,_,h=>by simp at h
 |k,_::ts,0,_,h=>by simp at h;subst h;rfl
 |k,_::ts,i+1,t,h=>by
  have:=AV (k+1) ts i t (by simpa using h)
  rw[show k+(i+1)=k+1+i by lia]
  exact this
def WI(P:B.K=X.K)(m:Nat):∀σ H R,tI B (jn (m:Int) fa) σ H R->Qc X.K m (tA B<|bw fa aY) σ H R:=by
 rintro σ H R ⟨g,s,t,s',x,h,k⟩
 obtain⟨⟨q,E⟩,I,h⟩:=ae h;obtain⟨ts,f,h⟩:=ae h;cases h;have f:=ao f;obtain⟨c,rfl,rfl⟩:∃c,q=.lst c/\t=gu m c:=by
  cases q<;>first|(cases f;done)|(cases f;exact⟨_,J,J⟩)
 have G:bw fa aY s=.ok ([.lst c],E):=by
  show(fa s).bind _=_;rw[I];rfl
 refine⟨g,s,_,_,x,G,λN g1 H1 F n b=>?_⟩;obtain⟨v,rfl,l,z,rfl,q1,b⟩:=dh b;refine⟨l,z,J,dm.of<|n.sub _ _ q1,k _ g1 H1 F n ⟨λi w e a=>?_,λi w x Q e a y=>?_,λi w e a=>?_⟩⟩
 .rw[pD,b.len]at a
  exact⟨a,dm.of<|e _ _ q1⟩
 .obtain⟨p,d,u,M,rfl,rfl⟩:=y
  obtain⟨t1,L,j⟩:=b.yq M;refine⟨_,AV m c i t1 L,λA D r=>⟨upd A p<|.tup [.int ((m+i:Nat):Int),d],.new r u,p,[.int ((m+i:Nat):Int),d],J,mC.of ai,?_⟩⟩;have C:=D.trans<|aT (o:=.tup [.int ((m+i:Nat):Int),d])<|r.free u;exact⟨.int ((m+i:Nat):Int),[d],J,J,.one<|j.same C⟩
 .rw[pD,b.len]at a
  exact⟨a,dm.of<|e _ _ q1⟩
def WK(i:B.K=X.K){b:Bz}{e:Pos}(g:Gl X "enumerate")(f:X.mg "enumerate" = Y)(h:PE X a<|tE B fa)(c:noStar a=O):PI X (.Tuple b d e) (.Call (.Name "enumerate" p) [a] [] pos)<|tI B<|jn 0 fa:=
 mK (VG g f (sL h yr<|aq c)<|aq c)<|WI i 0
def WM(j:B.K=X.K){b:Bz}{d k1:Nat}{f e kp:Pos}(h:Gl X "enumerate")(g:X.mg "enumerate" = Y)(i:PE X a<|tE B fa)(c:noStar a=O):PI X (.Tuple b d f) (.Call (.Name "enumerate" p) [a] [⟨U<|et "start",.Constant (.int 1) k1 e,kp⟩] pos)<|tI B<|jn 1 fa:=
 mK (Qd h g (sL i yr<|aq c)<|aq c)<|WI j 1
def rA(d:bx o=O)(a:es.all noStar=O)(hl:Mo es<30)(b:(bQ.endLine == pos.line)=O):o_ X o m bQ es pos:=by
 have c:methodCallForm (Mo es+0) (hX pos<|dy es X.env) (ri pos<|mM [] X.env)=O:=by
  unfold methodCallForm;rw[o9 a];show(O&&O&&decide (Mo es+0+0<30))=O;rw[c4<|show Mo es+0+0<30 from dN hl<|by decide];rfl
 refine⟨(do return(<- importBound o X.env).getD O),?_⟩
 show(do
  let ov <- ke o m X.env (eR o X.env)
  n7 bQ.atName
  methodCall o m bQ pos X.env ov (Mo es+0) (hX pos<|dy es X.env) (ri pos<|mM [] X.env))=_
 rw[fW d];unfold methodCall;rw[c];unfold calleeOf methodCallPos;rw[b];rfl
def tD{n qual:Str}{f C:bt}(Fn:v_ K n qual st f fd)(m:fR N ps<|az st)
  (e:∀(i:Nat)(x:Str),N[i]?=U x->kI (az st) x/\bA x/\fF x) (g:pC N 1 (b8 st) ns=O) (hl:Mo ps=Mo ns+1) (cl:qk K C) (na:∀f∈ns,bB K C f) (nd:ns.Nodup) (sU:Mo ns<=100) :
  cT Pr w K mg base i8 (k+1) f fd ps<|spI C ns:=by
 refine Fn.ok m (λc H Q E h=>?_) λj A outer s H c Q E hr h=>?_
 .obtain⟨x,l,a,rfl,b,_⟩:=h
  rw[dM,b,hl]
 .obtain⟨x,l,a,rfl,b,d,q⟩:=h
  refine⟨Zn K 1 ns,AS (X:=(i7 i8 Pr w K mg base N qual (az st) f j A outer s H E).DC) e _ ns 1 g,?_⟩;exact AU (N:=N) (D:={nx:=λ_ H'=>Q .non H',rt:=Q}) cl ns [] a [] H na (by simpa using nd) (by simpa using sU) J b J (by simpa using d) (by simpa using q)
def spP(K:bq)(C:bt)(n:Str):Sp:=λc H Q _=>∃x b p a,c=[.ref x,.ref p]/\H x=U (.ins C b [])/\dm K H p a/\∀l,H l=Y->Q .non (upd (upd H l<|.lst a) x<|.ins C b [(n,.ref l)])
def tF(st:gi):Option<|Str×Str×Str:=(AR st).bind λw=>(jt w.2.2).bind λc=>(match c.2.1,c.2.2 with
 |[a],[]=>if c.1=("list" : Str)then(asName a).map λq=>(w.1,w.2.1,q)else Y
 |_,_=>Y)
def wa(h:tF st=U z):∃j g d pl i pos,st=.Assign [.Attribute (.Name z.1 j) z.2.1 g] (.Call (.Name "list" pl) [.Name z.2.2 d] [] i) pos:=by
 obtain⟨w,p,o⟩:=bM.mp h;obtain⟨⟨f,as,k⟩,c,b⟩:=bM.mp o
 match as,k,c,b with
 |[a],[],c,b=>
  dsimp only at b;split at b
  .rename_i e
   obtain⟨q,n,rfl⟩:=ck.mp b;obtain⟨j,g,pos,rfl⟩:=sZ p;obtain⟨pl,i,m⟩:=eV c;obtain⟨d,l⟩:=ba n;rw[m,l,e];exact⟨_,_,_,_,_,_,J⟩
  .cases b
def GF{nm qual c q n:Str}{st o:gi}{f C:bt}(Fn:v_ K nm qual st f fd)(I:fR N ps<|az st)
  (D:b8 st=[o]) (F:tF o=U (c,n,q)) (j:N[0]?=U c) (g:N[1]?=U q) (d:∀(i:Nat)(x:Str),N[i]?=U x->kI (az st) x/\bA x/\fF x) (z:mg "list" = Y) (B:(az st).names.lookup ("list" : Str)=U .globalImplicit) (hl:Mo ps=2) (cl:qk K C) (na:bB K C n) :
  cT Pr w K mg base i8 (k+1) f fd ps<|spP K C n:=by
 obtain⟨R,M,L,pl,P,pos,rfl⟩:=wa F;refine Fn.ok I (λr H Q E h=>?_) λG A outer s H r Q E hr h=>?_
 .obtain⟨x,m,p,b,rfl,_⟩:=h
  exact hl.symm
 .obtain⟨x,m,p,b,rfl,a,y,k⟩:=h
  obtain⟨v,u,t⟩:=d 0 _ j;obtain⟨w1,w2,w3⟩:=d 1 _ g;rw[D];refine⟨_,jC<|yb (cy j v u t) (h_ iK (X:=(i7 i8 Pr w K mg base N qual (az st) f G A outer s H E).DC) B z uY<|aL (cy g w1 w2 w3) bP) J,?_⟩;refine⟨.ref p,J,p,b,J,.inl y,λl hl=>⟨.ref x,J,x,C,m,[],J,?_,cl,na,by decide,k l hl⟩⟩
  rw[ak (λe=>by subst e;rw[hl]at a;cases a)]
  exact a
structure DnP(P:Pg)(Pr:dn)(w:dv)(K:bq)(mg:Str->D1)(base:ey)(k:Nat)(c:Nat)(x:Str):Prop where
 ex:∃(C fi:bt)(fd:eh)(ps:Bi)(n:Str),ig (iP P K Pr w) c C [n]/\mg x=U (.ref C)/\Mk K C fi/\cT Pr w K mg base i8 k fi fd ps (spP K C n)/\Binds K fd ps []
def Q2{k j c:Nat}(D:DnP P X.prog X.w X.K X.mg X.base k c x)(hr:bJ j X.A)(W:k+1<=j)(ha:PE X e<|tE (P.kt X) fa)(hg:Gl X x)(jN:bA x)(I:noStar e=O) :
  PE X (.Call (.Name x p) [e] [] pos)<|tE (P.kt X)<|dX (Qg c) fa:=by
 obtain⟨C,fi,fd,ps,n,hC,hm,M,F,f⟩:=D.ex;refine aR (sj M F (hr.mono W) hg hm f .nil oB (aL ha bP<|aq I) jN (aq I) J) λσ H Q L=>?_;obtain⟨g,s,t,s',z,h,k⟩:=L;obtain⟨⟨N,s1⟩,h1,h⟩:=ae h;obtain⟨t',r,h⟩:=ae h;cases h;have r:=ao r;cases N<;>try(cases r;done)
 rename_i ts;cases r;refine⟨g,s,_,_,z,h1,λv g1 H1 Z m S x a nx nd G=>?_⟩;obtain⟨q,d,rfl,hq,R⟩:=S;have g2:=Gr.new (o:=.own x) m.sub nd;have ă:upd H1 a (.own x) x=Y:=by rw[ak<|eL G];exact nx
 have i:H1 q=U (.lst d):=m.sub _ _ hq;have V:q≠a:=λe=>by subst e;rw[nd]at i;cases i
 have T:q≠x:=λe=>by subst e;rw[nx]at i;cases i
 refine⟨x,a,q,d,J,ai,dm.of<|by rw[ak T,ak V];exact i,λl hl=>⟨J,?_⟩⟩
 have y:l≠x:=λe=>by subst e;rw[ai]at hl;cases hl
 have E:upd H1 a (.own x) l=Y:=by rw[ak y]at hl;exact hl
 have ld:l≠a:=λe=>by subst e;rw[ai]at E;cases E
 have g3:=Gr.new (o:=.lst d) g2.sub E;have u:upd (upd H1 a<|.own x) l (.lst d) x=Y:=by rw[ak<|eL y];exact ă
 have g4:=Gr.new (o:=.ins C a [(n,.ref l)]) g3.sub u;have e:upd (upd (upd (upd H1 a<|.own x) x<|.ins C a []) l<|.lst d) x (.ins C a [(n,.ref l)])=upd (upd (upd H1 a<|.own x) l<|.lst d) x (.ins C a [(n,.ref l)]):=by
  funext b
  by_cases f:b=x
  .subst f;rw[ai,ai]
  .rw[ak f,ak f]
   by_cases WO:b=l
   .subst WO;rw[ai,ai]
   .rw[ak WO,ak WO,ak f]
 rw[e];have B:=(g2.trans g3).trans g4;refine k _ (g1.grow _) _ (Z.trans<|m.gB B) (m.grow B) ⟨x,C,a,[n],[.ref l],J,hC,ai,cV _,?_,.one ⟨l,d,J,?_,R.same B.fr⟩⟩
 .show upd (upd (upd g1.HF a<|.own x) l<|.lst d) x _ a=_
  rw[ak G,ak<|eL ld,ai]
 .show upd (upd (upd g1.HF a<|.own x) l<|.lst d) x _ l=_
  rw[ak y,ai]
theorem AW:∀{cs:B2}{bs:Fh},Mo cs=Mo bs->(∀(i:Nat)(c:bj)(b:Bool),cs[i]?=U c->bs[i]?=U b->nT K t c=U b)->D6 K t cs=U (bs.any id)
 |[],[],_,_=>J
 |[],_::_,h,_=>by cases h
 |_::_,[],h,_=>by cases h
 |c::cs,b::bs,hl,h=>by
  have d:=h 0 c b J J;have a:=AW (cs:=cs) (bs:=bs) (by simpa using hl) λi c b f e=>h (i+1) c b (by simpa using f) (by simpa using e)
  unfold D6;rw[d];cases b with
  |true=>rfl
  |false=>exact a
def namesOf:Bz->Option Bi
 |[]=>U []
 |.Name x _::es=>(namesOf es).map (x::·)
 |_=>Y
theorem wb{Ds:BM}:∀{es:Bz}{ys:Bi}{Ds:BM},namesOf es=U ys->Mo ys=Mo Ds->(∀(i:Nat)(y:Str)(D:bt),ys[i]?=U y->Ds[i]?=U D->Gl X y/\X.mg y=U (.ref D)/\bA y)->PA X es (λ_ H Q=>Q (Ds.map V.ref) H)
 |[],_,Ds,h,hl,_=>by
  cases h;cases Ds with
  |nil=>exact bP
  |cons=>cases hl
 |e::es,ys,Ds,h,hl,k=>by
  cases e<;>try(cases h;done)
  rename_i x f;obtain⟨d,a,rfl⟩:=ck.mp<|show(namesOf es).map (x::·)=U ys from h
  cases Ds with
  |nil=>cases hl
  |cons D Ds=>
   obtain⟨k1,k2,k3⟩:=k 0 x D J J;exact aL (nH (v:=.ref D) k1 k2 J k3) (wb (Ds:=Ds) a (by simpa using hl) λi y D c b=>k (i+1) y D (by simpa using c)<|by simpa using b) J
def WU(qd:nq X.K X.mg P)(u:namesOf es=U ys)(hd:Mo ys=Mo ds)(B:∀(i d:Nat)(y:Str),ds[i]?=U d->ys[i]?=U y->P.cn[d]?=U y/\(P.fn[d]?).isSome=O/\Gl X y/\bA y)
  (hl:Mo es<=100) (hm:X.mg "isinstance" = Y) (ha:PE X a<|tE (P.kt X) fa) (hg:Gl X "isinstance") (G:noStar a=O) :
  PE X (.Call (.Name "isinstance" p) [a,.Tuple es q kN] [] pos)<|tE (P.kt X)<|dX (jb P.sub ds) fa:=by
 have cls:∀(ds:B1)(ys:Bi),Mo ys=Mo ds->(∀(i d:Nat)(y:Str),ds[i]?=U d->ys[i]?=U y->P.cn[d]?=U y/\(P.fn[d]?).isSome=O/\Gl X y/\bA y)->∃Ds:BM,Mo Ds=Mo ds/\∀(i:Nat)(y:Str)(D:bt),ys[i]?=U y->Ds[i]?=U D->X.mg y=U (.ref D):=by
  intro ds
  induction ds with
  |nil=>intro ys hl _;exact⟨[],J,λi y D _ h=>by simp at h⟩
  |cons d ds A=>
   intro ys hl h;cases ys with
   |nil=>cases hl
   |cons y ys=>
    obtain⟨z,n,_⟩:=h 0 d y J J;obtain⟨ns,Z⟩:=Ef.mp n;obtain⟨D,F⟩:=qd.cls d y ns z Z;obtain⟨Ds,hD,k⟩:=A ys (by simpa using hl) λi d y f j=>h (i+1) d y (by simpa using f) (by simpa using j)
    refine⟨D::Ds,by simp[hD],λi N D' f j=>?_⟩
    cases i with
    |zero=>simp at f j;subst f j;exact F.gl
    |succ i=>exact k i N D' (by simpa using f) (by simpa using j)
 obtain⟨Ds,ċ,w⟩:=cls ds ys hd B;have get:∀(i:Nat)(y:Str),ys[i]?=U y->∃d,ds[i]?=U d:=λi y h=>by
  have:=(bK.mp h).1
  exact⟨_,c5<|by lia⟩
 have names:=wb (X:=X) (Ds:=Ds) u (by rw[hd,ċ]) λi y D f j=>by
  obtain⟨d,E⟩:=get i y f;obtain⟨_,_,h3,h4⟩:=B i d y E f;exact⟨h3,w i y D f j,h4⟩
 refine aR (gh GD hg hm uZ (aL ha (aL (ye names) bP J)<|aq G) (he:=aq G) (hpl:=J)) λσ H Q L=>?_;obtain⟨g,s,t,s',x,h,k⟩:=L;obtain⟨⟨R,s1⟩,z,h⟩:=ae h;obtain⟨t',n,h⟩:=ae h;cases h;refine⟨g,s,_,_,x,z,λv g1 H1 W q T=>?_⟩;have n:=ao n;cases R<;>try(cases n;done)
 obtain⟨l,Cq,rfl⟩:=ck.mp n;obtain⟨b,C,dx,DI,vs,rfl,hC,hq,hle,hdx,r⟩:=T;obtain⟨m,Ā,ā,F⟩:=qd.of hC;have c9:Mo ys=Mo es:=by
  have:∀(es:Bz)(ys:Bi),namesOf es=U ys->Mo ys=Mo es:=by
   intro es
   induction es with
   |nil=>intro ys h;cases h;rfl
   |cons e es A=>
    intro ys h;cases e<;>try(cases h;done)
    rename_i x px;obtain⟨M,z,rfl⟩:=ck.mp<|show(namesOf es).map (x::·)=U ys from h
    rw[dM,dM,A M z]
  exact this es ys u
 refine⟨by rw[cz,ċ,<- hd,c9,eJ];exact bG hl<|by decide,λS Č=>?_⟩
 have g2:=Gr.new (o:=.tup<|Ds.map V.ref) q.sub Č;have č:=AW (K:=X.K) (t:=.ref C) (cs:=Ds.map Value.ref) (bs:=ds.map λd=>decide<|d∈l) (by rw[cz,cz,ċ]) λi c bb f j=>by
  rw[fQ]at f j;obtain⟨D,E,rfl⟩:=ck.mp f;obtain⟨d,e4,rfl⟩:=ck.mp j;have hi:i<Mo ys:=by rw[hd];exact(bK.mp e4).1
  have I:ys[i]?=U ys[i]:=c5 hi;obtain⟨f1,_⟩:=B i d _ e4 I;exact qd.sub _ d m _ C D l Ā f1 F.gl (w i _ D I E) Cq
 refine⟨b,C,dx,S,_,Ds,_,J,g2.sub _ _<|g2.fr _ _ hq,F.cl,F.ca,qd.gt.1,qd.gt.2,F.mo,ai,č,?_⟩
 have:=k (V.bl<|ds.any λd=>decide<|d∈l) (g1.grow _) _ (W.trans<|q.gB g2) (q.grow g2) J
 rw[uS];exact this
def Q3{o:Pos}(z:X.N[i]?=U y)(q:kI X.env.scope y)(hd:bA y)(E:fF y)(u:PE X b<|tE B fb)(r:jE b) :
  PE X (.Subscript (.Name y o) b pos)<|tE B<|nk i fb:=by
 refine aR (EZ Ai (cy z q hd E) u r) λσ H Q f=>?_;obtain⟨g,s,t,s',x,h,k⟩:=f;obtain⟨G,D,h⟩:=ae h;obtain⟨⟨ty,K⟩,C,h⟩:=ae h;obtain⟨ts,A,h⟩:=ae h;obtain⟨I,a,h⟩:=ae h;cases h;obtain⟨l,F,w1,w2,w3,w4⟩:=x.yE<|iQ<|ao D;refine⟨_,w1,g,s,ty,_,x,C,λv g1 H1 p d m=>?_⟩;obtain⟨L,c,q1,q2,n,q4⟩:=d.yE<|iQ<|ao A;rw[w1]at q1;cases q1;have a:=ao a;cases ty<;>try(cases a;done)
 obtain⟨w,e,j⟩:=sP q4<|show atT ts _=U _ from a;exact⟨l,c,_,w,J,m,dm.of n,e,k w g1 H1 p d j⟩
def gF:T->T->FV
 |.int i,.int j=>U<|.int<|i+j
 |_,_=>Y
def WW(u:X.N.Nodup)(q:X.N[i]?=U x)(n:Loc X.env.scope x)(he:PE X e<|tE B fa)(r:Kx X x) :
  PS X (.AugAssign (.Name x cO) .Add e pos)<|tS B<|FQ gF i fa:=cM (O9 u q n he O_ r) λD σ H b=>by
 obtain⟨g,s,o,s',z,h,k⟩:=b;unfold FQ at h;split at h
 .rename_i d hr
  obtain⟨⟨ty,f⟩,y,h⟩:=ae h;obtain⟨t,a,h⟩:=ae h;cases h;obtain⟨v,p,j⟩:=z.lc.at_ i _ hr;have a:=ao a;cases d<;>first|(cases a;done)|(cases ty<;>try(cases a;done))
  cases a;cases(show v=V.int _ from j);refine⟨_,p,g,s,_,f,z,y,λw g1 H1 m c l=>?_⟩;cases(show w=V.int _ from l);exact⟨_,_,J,J,k _ g1 H1 m<|c.set (t:=.int _) J⟩
 .cases h
def AX(K:bq)(mg:Str->D1)(x:Str)(t:T):Prop:=∃u v,mg x=U u/\RelV v u/\∀(B:KT)(al:BM)(H:Hp),B.K=K->Rep B al H t v
def WY(h:AX X.K X.mg x t)(b:B.K=X.K)(a:Gl X x)(hd:bA x):PE X (.Name x pos)<|tE B<|cF t:=by
 obtain⟨u,v,e,d,c⟩:=h;exact kX (nH a e d hd) λal H=>c B al H b
def WZ{a:Ee}{c:List oC}(i:X.xe=λ_ _=>False)(h:gO X a t):PS X (.Try a (d::c) [] [] pos) t:=λg s σ H D I q=>by
 refine wpAny_Try_except<|eC (h g s σ H D I q) (λf b z=>?_) λe b z=>?_
 .cases f with
  |next=>exact f6 z
  |brk=>exact z
  |cont=>exact z
  |ret u=>exact z
 .rw[i]at z;exact z.elim
def Kz(neg:Bool):T->T->FV
 |x,.kC a _=>(kR x).map λk=>.bl<|if neg then !decide (k∈a)else decide (k∈a)
 |_,_=>Y
def aN(op:nz)(x y:T):FV:=match op,y with
 |.In,.kC b a=>Kz Zc x<|.kC b a
 |.NotIn,.kC b a=>Kz O x<|.kC b a
 |op,y=>Kd op x y
def W0:Option (Option C)->Option (List Ky×FR)
 |U<|U<|.od ks ts=>U (ks,ts)
 |_=>Y
def rB:nz->Option Bool
 |.In=>U Zc
 |.NotIn=>U O
 |_=>Y
def GG(neg:Bool)(i:Nat)(a:FE):FE:=λs=>(a s).bind λp=>(aZ<|W0 p.2.r[i]?).bind λd=>(aZ<|kR p.1).bind λk=>.ok (.bl<|if neg then !decide (k∈d.1)else decide (k∈d.1),p.2)
def W2(i:Nat)(s:S):Bool:=(oQ s.r[i]?).isSome
def wc(i:Nat):FS:=λs=>.ok (.nx,jF s i<|.od [] [])
def jW(ks:List Ky)(ts:FR)(k:Ky)(t:T):List Ky×FR:=if k∈ks then(ks,(ks.zip ts).map λp=>if p.1=k then t else p.2)else(ks++[k],ts++[t])
def Oe(i:Nat)(b a:FE):FS:=λs=>(a s).bind λp=>(b p.2).bind λq=>(aZ<|W0 p.2.r[i]?).bind λ_=>(aZ<|W0 q.2.r[i]?).bind λd=>(aZ<|kR q.1).bind λk=>(aZ<|gd (Mo d.1<1000000) ()).bind λ_=>.ok (.nx,jF q.2 i<|let z:=jW d.1 d.2 k p.1;.od z.1 z.2)
def tG{a b:Ky}(h:kU a=kU b):a=b:=by
 cases a<;>cases b
 .injection h with h;rw[h]
 .cases h
 .cases h
 .injection h with h
  injection h with h
  have h:=ej yF h;dsimp only at h;rw[h]
def iR{k:Ky}(h:kR t=U k)(r:Rep B al H t v):v=kV (kU k):=by
 cases t<;>try(cases h;done)
 .cases h;exact r
 .cases h;exact r.1
theorem pG:∀{ks:List Ky}{vs:List V},Mo ks=Mo vs->∀k,(j6 ((ks.map kU).zip vs)<|kU k).isSome=decide (k∈ks)
 |[],_,_,k=>by simp[j6]
 |q::ks,[],h,_=>by cases h
 |q::ks,v::vs,h,k=>by
  rw[fq,qu];by_cases e:q=k
  .rw[ji (p:=(kU q,v))<|by rw[e]]
   simp[e]
  .rw[jj (p:=(kU q,v)) λz=>e<|tG z,pG (rM.inj h) k]
   have:(k∈q::ks) ↔ (k∈ks):=⟨λz=>(cu.mp z).elim (λz=>ef z.symm e) id,ee _⟩
   simp only[this]
theorem AY{k:Ky}(rt:Rep B al H t v):∀{ks:List Ky}{vs:List V}{ts:FR},Mo ks=Mo vs->aC B al H ts vs ->
  ((ks.map kU).zip vs).map (λa=>if a.1=kU k then(a.1,v)else a)=(ks.map kU).zip ((ks.zip vs).map λp=>if p.1=k then v else p.2)/\ks.length=((ks.zip vs).map λp=>if p.1=k then v else p.2).length/\aC B al H ((ks.zip ts).map λp=>if p.1=k then t else p.2) ((ks.zip vs).map λp=>if p.1=k then v else p.2)
 |[],[],_,_,r=>⟨J,J,by cases ‹FR›<;>exact J⟩
 |q::ks,[],_,h,_=>by cases h
 |[],_::_,_,h,_=>by cases h
 |q::ks,u::vs,ts,h,r=>by
  cases ts with
  |nil=>cases(show u::vs=[]from r)
  |cons l ts=>
   obtain⟨j,c,e,d,f⟩:=r;cases e;obtain⟨b,i,g⟩:=AY rt (ks:=ks) (vs:=vs) (ts:=ts) (rM.inj h) f;refine⟨?_,?_,?_⟩
   .simp only[fq,qu]at b ⊢
    rw[b];by_cases e:q=k
    .rw[bU<|by rw[e],bU e]
    .rw[bp λz=>e<|tG z,bp e]
   .simp only[qu,fq,dM]
    rw[<- i]
   .simp only[qu,fq]
    refine⟨_,_,J,?_,g⟩;by_cases e:q=k
    .rw[bU e,bU e];exact rt
    .rw[bp e,bp e];exact d
def GH{k:Ky}(hl:Mo ks=Mo vs)(r:aC B al H ts vs)(rt:Rep B al H t v) :
  ∃vs',L2.putK ((ks.map kU).zip vs) (kU k) v=((jW ks ts k t).1.map kU).zip vs'/\(jW ks ts k t).1.length=Mo vs'/\aC B al H (jW ks ts k t).2 vs':=by
 unfold L2.putK jW;rw[oJ,pG hl];by_cases e:k∈ks
 .rw[bU<|c4 e,bU e]
  obtain⟨c,b,a⟩:=AY (k:=k) rt hl r;exact⟨_,c,b,a⟩
 .rw[bp<|by simpa using e,bp e]
  refine⟨vs++[v],?_,by simp[hl],r.app<|.one rt⟩
  rw[eF,List.zip_append<|by rw[cz];exact hl]
  rfl
def Ub(neg:Bool):R2:=λx y H Q=>∃a o,y=.ref a/\vD H a x o/\Q (.bl<|if neg then !o.isSome else o.isSome) H
def GI(d:X.A.units+1<lq):gQ X (eQ .In)<|Ub Zc:=λi s σ H x y v u Q I c b z=>by
 obtain⟨a,o,e,g,q⟩:=z;subst e
 obtain rfl:u=Value.ref a:=b
 exact å d I g c λh f=>⟨.bl o.isSome,H,f,J,q⟩
def AZ(d:X.A.units+1<lq):gQ X (eQ .NotIn)<|Ub O:=λi s σ H x y v u Q I c b z=>by
 obtain⟨a,o,e,g,q⟩:=z;subst e
 obtain rfl:u=Value.ref a:=b
 exact JZ d I g c λh f=>⟨.bl<|!o.isSome,H,f,J,q⟩
def Of(neg:Bool):qE X (Kz neg)<|Ub neg:=λB l al HF H x y t i ty Q sm c b h k=>by
 unfold Kz at h;split at h
 case h_2=>cases h
 rename_i j ts;obtain⟨kk,f,rfl⟩:=ck.mp h;obtain⟨a,g,rfl,e,d,m⟩:=b;rw[iR f c];refine⟨a,_,J,.k<|sm _ _ e,?_⟩;rw[pG d];exact k _ HF H (.refl sm) J
def A0(hr:bJ k X.A):∃r,gQ X (eQ op) r/\qE X (aN op) r:=by
 have g:X.A.units+1<lq:=by have:=hr.units;lia
 obtain⟨r,f,e⟩:=Qu (op:=op) hr;have Ď:(∀x y,aN op x y=Kd op x y)->∃r,gQ X (eQ op) r/\qE X (aN op) r:=λz=>⟨r,f,by
  have:aN op=Kd op:=funext λx=>funext λy=>z x y
  rw[this];exact e⟩
 cases op
 case In=>exact⟨_,f.or<|GI g,λB d al HF H x y t a ty Q sm c b h k=>by
  unfold aN at h;split at h
  .exact .inr<|Of Zc B d al HF H x y t a _ Q sm c b h k
  .rename_i q;cases q
  .exact .inl<|e B d al HF H x y t a _ Q sm c b h k⟩
 case NotIn=>exact⟨_,f.or<|AZ g,λB d al HF H x y t a ty Q sm c b h k=>by
  unfold aN at h;split at h
  .rename_i q;cases q
  .exact .inr<|Of O B d al HF H x y t a _ Q sm c b h k
  .exact .inl<|e B d al HF H x y t a _ Q sm c b h k⟩
 all_goals exact Ď λx y=>by cases y<;>rfl
def Q4(g:B.K=X.K)(hr:bJ k X.A)(f:PE X a<|tE B fa)(e:PE X b<|tE B fb)(d:fA op b=Zc):PE X (.Compare a [op] [b] pos)<|tE B<|bX (aN op) fa fb:=by
 obtain⟨r,c,hl⟩:=A0 (op:=op) hr;exact aR (r_ c f e d)<|kY g hl
def KA(g:B.K=X.K)(hr:bJ k X.A)(f:PE X a<|tE B fa)(e:PE X b<|tE B fb)(d:fA op b=Zc):PT X (.Compare a [op] [b] pos)<|tT B<|b9<|bX (aN op) fa fb:=by
 obtain⟨r,c,hl⟩:=A0 (op:=op) hr;exact AA (se c f e d) λσ H Q q=>kY g hl σ H _<|F_ q
def tH(h:W0 q=U d):q=U (U<|.od d.1 d.2):=by
 unfold W0 at h;split at h
 .cases h;rfl
 .cases h
def SR.Q5(x:SR B g H σ s)(h:s.r[i]?=U (U<|.od ks ts)):∃l vs,σ[i]?=U (U<|.ref l)/\g.o l=U (.loc i)/\H l=U (.dK<|(ks.map kU).zip vs)/\ks.length=Mo vs/\aC B g.al g.HF ts vs:=by
 obtain⟨v,e,l,vs,rfl,d,c,b,a⟩:=x.lc.at_ i _ h;exact⟨l,vs,e,d,c,b,a⟩
def GJ:∀σ H Q,tE B (GG neg i fa) σ H Q->Pd (Ub neg) (tE B fa) (Jq i) σ H Q:=by
 rintro σ H Q ⟨g,s,t,s',x,h,k⟩
 obtain⟨⟨b,n⟩,j,h⟩:=ae h;obtain⟨d,f,h⟩:=ae h;obtain⟨kk,e,h⟩:=ae h;cases h;refine⟨g,s,b,_,x,j,λv g1 H1 p1 a c=>?_⟩;obtain⟨l,m,w1,w2,w3,w4,w5⟩:=a.Q5<|tH<|ao f;refine⟨_,w1,?_⟩;rw[iR (ao e) c];refine⟨l,_,J,.k w3,?_⟩;rw[pG w4];exact k _ g1 H1 p1 a J
def k7(a:X.A.units+1<lq)(h:rB op=U neg):gQ X (eQ op)<|Ub neg:=by
 cases op<;>try(cases h;done)
 .cases h;exact GI a
 .cases h;exact AZ a
def GK{b:Pos}(hr:bJ k X.A)(e:rB op=U neg)(j:PE X a<|tE B fa)(l:X.N[i]?=U y)(c:kI X.env.scope y)(hd:bA y)(m:fF y) :
  PE X (.Compare a [op] [.Name y b] pos) (tE B<|GG neg i fa)/\PT X (.Compare a [op] [.Name y b] pos) (tT B<|b9<|GG neg i fa):=by
 have d:X.A.units+1<lq:=by have:=hr.units;lia
 have f:fA op (.Name y b)=Zc:=by cases op<;>rfl
 have o:=se (pos:=pos) (k7 d e) j (cy l c hd m) f;refine⟨aR (r_ (k7 d e) j (cy l c hd m) f) GJ,λp n σ H Q I q=>?_⟩;obtain⟨g,s,t,s',x,h,kk⟩:=F_ q;exact o p n σ H Q I<|GJ σ H _ ⟨g,s,t,s',x,h,kk⟩
def Q6(t:X.N.Nodup)(p:X.N[i]?=U x)(m:Loc X.env.scope x)(r:Kx X x) :
  PS X (.Assign [.Name x cO] (.Dict [] [] dp) pos)<|tS B<|wc i:=cM (j5 t p m vG J r) λD σ H z=>by
 obtain⟨g,s,o,s',x,h,k⟩:=z;cases h;intro q d;obtain⟨e,l,j⟩:=iM (u:=.dK []) x d;have f:=x.grow e;have p1:=x.gB e;refine k _ ((g.grow g.HF).own q<|.loc i) _ ⟨p1.fr,p1.pre,λb u h n z=>?_,p1.there⟩<|f.ê (ks:=[]) (ts:=[]) (vs:=[]) j l ai J J;obtain⟨a,v,c⟩:=p1.rest b u h n z
 have:b≠q:=aK h d
 exact⟨a,v,by show(if b=q then U (j_.loc i)else g.o b)=Y;rw[bp this];exact c⟩
def Q7(hr:bJ k X.A)(he:PE X e<|tE B fa)(L:PE X b<|tE B fb)(M:X.N[i]?=U y)(G:kI X.env.scope y)(hd:bA y)(W:fF y)
  (K:fC e (U<|.Subscript (.Name y m) b cO) pos.line X.env=pure Zc) :
  PS X (.Assign [.Subscript (.Name y m) b cO] e pos)<|tS B<|Oe i fb fa:=by
 have I:X.A.units+1<lq:=by have:=hr.units;lia
 refine cM (As I (cy M G hd W) L he K) λD σ H p=>?_;obtain⟨g,s,o,s',x,h,k⟩:=p;obtain⟨⟨t,j⟩,V,h⟩:=ae h;obtain⟨⟨tk,s2⟩,T,h⟩:=ae h;obtain⟨d0,S,h⟩:=ae h;obtain⟨d,R,h⟩:=ae h;obtain⟨kk,Q,h⟩:=ae h;obtain⟨_,P,h⟩:=ae h;obtain⟨z,_⟩:=bu<|ao P;cases h;refine⟨g,s,t,j,x,V,λv g1 H1 p1 f C=>?_⟩;obtain⟨l,vs,w1,w2,w3,w4,w5⟩:=f.Q5<|tH<|ao S;refine⟨_,w1,g1,j,tk,s2,f,T,λu g2 H2 a c w=>?_⟩;have n:=tH<|ao R;obtain⟨l',r,q1,q2,E,q4,q5⟩:=c.Q5 n;rw[w1]at q1;cases q1;obtain⟨Og,e1,e2,Z⟩:=GH (k:=kk) q4 q5<|C.mv a.pre a.fr;obtain⟨q,F⟩:=c.ë n w1 e2 Z;rw[iR (ao Q) w];refine⟨l,_,J,.k E ?_,?_⟩
 .rw[Cj,cz,eJ]
  have:Mo d.1<1000000:=z
  lia
 .rw[e1]
  exact k σ g2 _ ((p1.trans a).trans F) q
def we(n:Nat)(m:FX):T->Option (Nat×C)
 |.own k=>(m[k]?).bind λob=>(match ob.fs with
  |[c]=>if ob.c=n then U (k,c)else Y
  |_=>Y)
 |_=>Y
def ď:C->FK
 |.ol ts=>U ts
 |_=>Y
def Đ:C->Option (List Ky×FR)
 |.od a ts=>U (a,ts)
 |_=>Y
def qH(n:Nat)(m:FX)(t:T):Option<|Nat×FR:=(we n m t).bind λz=>(ď z.2).map λts=>(z.1,ts)
def tK(n:Nat)(m:FX)(t:T):Option<|Nat×List Ky×FR:=(we n m t).bind λz=>(Đ z.2).map λd=>(z.1,d.1,d.2)
def setB(n:Nat)(s:S)(k:Nat)(c:C):S:={s with m:=s.m.set k ⟨n,[c]⟩}
def nt(n:Nat):FE:=λs=>.ok (.own s.m.length,{s with m:=s.m++[⟨n,[.od [] []]⟩]})
def e_(n:Nat)(o a:FE):FS:=λs=>(o s).bind λp=>(aZ<|qH n p.2.m p.1).bind λ_=>(a p.2).bind λq=>(aZ<|qH n q.2.m p.1).bind λz=>(aZ<|gd (Mo z.2<1000000) ()).bind λ_=>.ok (.nx,setB n q.2 z.1<|.ol<|z.2++[q.1])
def Dc(n:Nat)(o b a:FE):FS:=λs=>(a s).bind λv=>(o v.2).bind λp=>(b p.2).bind λq=>(aZ<|tK n q.2.m p.1).bind λz=>(aZ<|kR q.1).bind λk=>(aZ<|gd (Mo z.2.1<1000000) ()).bind λ_=>.ok (.nx,setB n q.2 z.1<|let y:=jW z.2.1 z.2.2 k v.1;.od y.1 y.2)
def tL(n:Nat)(neg:Bool)(a o:FE):FE:=λs=>(a s).bind λp=>(o p.2).bind λq=>(aZ<|tK n q.2.m q.1).bind λz=>(aZ<|kR p.1).bind λk=>.ok (.bl<|if neg then !decide (k∈z.2.1)else decide (k∈z.2.1),q.2)
def GL(n:Nat)(o b:FE):FE:=λs=>(o s).bind λp=>(b p.2).bind λq=>(aZ<|tK n q.2.m p.1).bind λz=>(aZ<|kR q.1).bind λk=>(aZ<|i9 z.2.1 z.2.2 k).bind λt=>.ok (t,q.2)
def pH(h:we n m t=U z):t=.own z.1/\m[z.1]?=U ⟨n,[z.2]⟩:=by
 cases t<;>try(cases h;done)
 obtain⟨ob,a,h⟩:=bM.mp<|show(m[_]?).bind _=U z from h;obtain⟨d,fs⟩:=ob
 match fs,h,a with
 |[c],h,a=>
  dsimp only at h;split at h
  .rename_i q;cases h;subst q;exact⟨J,a⟩
  .cases h
def ju(h:qH n m t=U z):t=.own z.1/\m[z.1]?=U ⟨n,[.ol z.2]⟩:=by
 obtain⟨w,d,b⟩:=bM.mp h;obtain⟨ts,a,rfl⟩:=ck.mp b;obtain⟨f,e⟩:=pH d;obtain⟨k,c⟩:=w;cases c<;>try(cases a;done)
 cases a;exact⟨f,e⟩
def pI(h:tK n m t=U z):t=.own z.1/\m[z.1]?=U ⟨n,[.od z.2.1 z.2.2]⟩:=by
 obtain⟨w,e,b⟩:=bM.mp h;obtain⟨d,a,rfl⟩:=ck.mp b;obtain⟨g,f⟩:=pH e;obtain⟨k,c⟩:=w;cases c<;>try(cases a;done)
 cases a;exact⟨g,f⟩
def SR.tM(x:SR B g H σ s)(b:B.cn[n]?=Y){c:C}(a:s.m[k]?=U ⟨n,[c]⟩)(d:g.al[k]?=U l):Zi B g H k ⟨n,[c]⟩ l/\bz B g H (.ob k) c (.ref l):=by
 rcases x.st.at_ k _ a with⟨e,C,i,ns,h,Z⟩|⟨e,Z⟩
 .obtain⟨m,q,_⟩:=Z.cl
  rw[b]at q;cases q
 .have:=Z.al.symm.trans d
  cases this;exact⟨Z,Z.f c J⟩
def SR.wg{c:C}(x:SR B g H σ s)(w:B.cn[n]?=Y)(t:B.fn[n]?=Y)(q:g.HF l=Y)(p:g.o l=Y)(hl:H l=U u)(r:bz B (g.eB l) H (.ob g.al.length) c<|.ref l):SR B (g.eB l) H σ {s with m:=s.m++[⟨n,[c]⟩]}:=by
 have f:∀b a,g.o b=U a->(g.eB l).o b=U a:=λb a h=>by
  show(if b=l then U (j_.ob g.al.length)else g.o b)=_
  rw[bp λz=>by rw[z,p]at h;cases h];exact h
 have pre:g.al <+: (g.eB l).al:=zS _ _;refine⟨⟨x.sub,λb a e=>?_,?_,λk ob e=>?_⟩,x.lc.len,λi D e=>?_⟩
 .have e:(if b=l then U (j_.ob g.al.length)else g.o b)=U a:=e
  by_cases hb:b=l
  .subst hb;exact⟨q,_,hl⟩
  .rw[bp hb]at e;exact x.st.live b a e
 .show(s.m++[_]).length=(g.al++[l]).length
  rw[cQ,cQ,x.st.len];rfl
 .have e:(s.m++[(⟨n,[c]⟩:Ob)])[k]?=U ob:=e
  by_cases hk:k<Mo s.m
  .rw[gY hk]at e
   exact(x.st.at_ k ob e).mv (aM.refl _) pre λb a h _=>⟨f b a h,J⟩
  .rw[eZ<|by lia]at e
   have ĉ:k-Mo s.m=0:=by
    have:=(bK.mp e).1
    simp at this;exact this
   rw[ĉ]at e;cases e;have j:k=Mo g.al:=by have:=x.st.len;lia
   subst j;refine .inr ⟨l,?_,w,t,λd z=>by cases z;exact r⟩
   show(g.al++[l])[Mo g.al]?=U l;rw[eZ<|cV _,nV];rfl
 .obtain⟨v,A,y⟩:=x.lc.at_ i D e
  exact⟨v,A,bz.mv (g:=g) (g':=g.eB l) (aM.refl _) pre (λb h=>⟨f b _ h,J⟩) y⟩
def A1:(g.eB l).o l=U (.ob g.al.length):=by
 show(if l=l then U (j_.ob g.al.length)else g.o l)=_
 rw[bU J]
def dB.wg(q:dB g H g1 H1)(e:H l=Y):dB g H (g1.eB l) H1:=⟨q.fr,q.pre.trans<|zS _ _,λb u h n z=>by
 obtain⟨d,c,a⟩:=q.rest b u h n z;refine⟨d,c,?_⟩;show(if b=l then U (j_.ob g1.al.length)else g1.o b)=Y
 rw[bp<|aK h e];exact a,q.there⟩
def wj(x:SR B g H σ s):Rep B (g.eB l).al (g.eB l).HF (.own s.m.length)<|.ref l:=⟨l,J,by
 show(g.al++[l])[Mo s.m]?=U l;rw[x.st.len,eZ<|cV _,nV];rfl⟩
def Q8(o:B.cn[n]?=Y)(m:B.fn[n]?=Y)(he:PE X e<|tO B fl):PE X e<|tE B<|kT n fl:=aR he λσ H Q z=>by
 obtain⟨g,s,t,s',x,h,k⟩:=z;obtain⟨⟨ts,d⟩,p,h⟩:=ae h;cases h;exact⟨g,s,ts,d,x,p,λl b g1 H1 f a q j i hl r=>k _ (g1.eB l) H1 (f.wg q) (a.wg (c:=.ol ts) o m j i hl ⟨l,b,J,A1,hl,r.mv (zS _ _)<|aM.refl _⟩)<|wj a⟩
def Q9(j:B.cn[n]?=Y)(i:B.fn[n]?=Y):PE X (.Dict [] [] dp)<|tE B<|nt n:=aR vG λσ H Q z=>by
 obtain⟨g,s,t,s',x,h,k⟩:=z;cases h;intro q b;obtain⟨d,f,e⟩:=iM (u:=.dK []) x b;have a:=x.grow d;exact k _ ((g.grow g.HF).eB q) _ ((x.gB d).wg b) (a.wg (c:=.od [] []) j i f e ai ⟨q,[],J,A1,ai,J,J⟩)<|wj a
def SR.GN{c c':C}(x:SR B g H σ s)(Z:Zi B g H k ⟨n,[c]⟩ l)(E:s.m[k]?=U ⟨n,[c]⟩)(y:g.o l=U (.ob k))(r:bz B g (upd H l u) (.ob k) c'<|.ref l) :
  dB g H g (upd H l u)/\SR B g (upd H l u) σ (setB n s k c'):=by
 have ne:∀b q,g.o b=U q->q≠.ob k->upd H l u b=H b:=λb q a t=>ak λz=>t (by rw[z,y]at a;cases a;rfl)
 refine⟨nM y,⟨⟨λb w e=>?_,λb q e=>?_,by show(s.m.set k _).length=_;rw[eT];exact x.st.len,λp D e=>?_⟩,x.lc.len,λi c e=>?_⟩⟩
 .have:b≠l:=λz=>by rw[z,(x.st.live l _ y).1]at e;cases e
  rw[ak this];exact x.sub _ _ e
 .obtain⟨f,w,A⟩:=x.st.live b q e
  by_cases a:b=l
  .exact⟨f,_,by rw[a,ai]⟩
  .exact⟨f,w,by rw[ak a];exact A⟩
 .have e:(s.m.set k ⟨n,[c']⟩)[p]?=U D:=e
  by_cases qG:k=p
  .subst qG
   rw[dG (bK.mp E).1]at e;cases e;exact .inr ⟨l,Z.al,Z.nc,Z.nf,λd z=>by cases z;exact r⟩
  .rw[cW qG]at e
   refine(x.st.at_ p D e).mv (aM.refl _) fD λb q h t=>⟨h,ne b q h ?_⟩;rcases t with rfl|⟨j,rfl⟩
   .exact λz=>qG (by cases z;rfl)
   .exact λz=>by cases z
 .obtain⟨v,f,A⟩:=x.lc.at_ i c e
  exact⟨v,f,bz.mv (g:=g) (g':=g) (aM.refl _) fD (λb a=>⟨a,ne b _ a λz=>by cases z⟩) A⟩
def Q_(r:B.cn[n]?=Y)(K:PE X o<|tE B fo)(L:bx o=O)(he:PE X e<|tE B fa)(b:noStar e=O)(S:(bQ.endLine == bZ.line)=O) :
  PS X (.Expr (.Call (.Attribute o "append" bQ) [e] [] bZ) pos)<|tS B<|e_ n fo fa:=by
 refine cM (jD (vj ix tu tq lQ K (aL he bP<|aq b) (fW L) (sU (by rw[e7,b];rfl)<|by decide) S (aq b) J) J) λD σ H z=>?_
 obtain⟨g,s,oo,s',x,h,k⟩:=z;obtain⟨⟨Z,m⟩,R,h⟩:=ae h;obtain⟨z0,Q,h⟩:=ae h;obtain⟨⟨t,s2⟩,P,h⟩:=ae h;obtain⟨z,N,h⟩:=ae h;obtain⟨_,M,h⟩:=ae h;obtain⟨I,_⟩:=bu<|ao M;cases h;obtain⟨u,m1⟩:=ju<|ao Q;obtain⟨a,m2⟩:=ju<|ao N;dsimp only at u a;subst u;refine⟨g,s,_,m,x,R,λv g1 H1 G j C=>?_⟩;obtain⟨l,rfl,f⟩:=C;obtain⟨Z1,l1,y,q1,o1,d,_⟩:=j.tM r m1 f;cases q1;refine⟨.inl ⟨J,_,dm.of d⟩,g1,m,t,s2,j,P,λv g2 H2 q i A=>?_⟩;have T:z.1=z0.1:=by injection a with a;exact a.symm
 rw[<- T]at f;obtain⟨V,l2,W,q2,o2,c,p⟩:=i.tM r m2<|ez q.pre f;cases q2;obtain⟨E,w⟩:=i.GN (c':=.ol<|z.2++[t]) V m2 o2 ⟨l,_,J,o2,ai,p.app<|.one A⟩;exact⟨l,W,v,J,J,c,by rw[<- p.len,eJ];exact dN I<|by decide,k σ g2 _ ((G.trans q).trans E) w⟩
def W3(Q:B.cn[n]?=Y)(hr:bJ kk X.A)(he:PE X e<|tE B fa)(N:PE X o<|tE B fo)(R:PE X b<|tE B fb)(M:fC e (U<|.Subscript o b cO) pos.line X.env=pure Zc) :
  PS X (.Assign [.Subscript o b cO] e pos)<|tS B<|Dc n fo fb fa:=by
 have L:X.A.units+1<lq:=by have:=hr.units;lia
 refine cM (As L N R he M) λD σ H z=>?_;obtain⟨g,s,oo,s',x,h,k⟩:=z;obtain⟨⟨t,j⟩,h1,h⟩:=ae h;obtain⟨⟨tx,s2⟩,h2,h⟩:=ae h;obtain⟨⟨tk,r⟩,h3,h⟩:=ae h;obtain⟨z,W,h⟩:=ae h;obtain⟨f,V,h⟩:=ae h;obtain⟨_,T,h⟩:=ae h;obtain⟨K,_⟩:=bu<|ao T;cases h;obtain⟨c,m1⟩:=pI<|ao W;dsimp only at c;subst c;refine⟨g,s,t,j,x,h1,λv g1 H1 I q F=>⟨g1,j,_,s2,q,h2,λw g2 H2 d p E=>⟨g2,s2,tk,r,p,h3,λu g3 H3 a i C=>?_⟩⟩⟩;obtain⟨l,rfl,S⟩:=E;obtain⟨Z,l1,vs,q1,o1,P,hl,y⟩:=i.tM Q m1<|ez a.pre S;cases q1;obtain⟨Og,c,e2,e3⟩:=GH (k:=f) hl y<|(F.mv d.pre d.fr).mv a.pre a.fr;obtain⟨G,m⟩:=i.GN (c':=.od (jW z.2.1 z.2.2 f t).1 (jW z.2.1 z.2.2 f t).2) Z m1 o1 ⟨l,Og,J,o1,ai,e2,e3⟩;rw[iR (ao V) C];refine⟨l,_,J,.k P ?_,?_⟩
 .rw[Cj,cz,eJ]
  have:Mo z.2.1<1000000:=K
  lia
 .rw[c]
  exact k σ g3 _ (((I.trans d).trans a).trans G) m
def Oh(p:B.cn[n]?=Y):∀σ H Q,tE B (tL n neg fa fo) σ H Q->Pd (Ub neg) (tE B fa) (tE B fo) σ H Q:=by
 rintro σ H Q ⟨g,s,t,s',x,h,k⟩
 obtain⟨⟨e,b⟩,A,h⟩:=ae h;obtain⟨⟨ty,s2⟩,y,h⟩:=ae h;obtain⟨z,u,h⟩:=ae h;obtain⟨kk,r,h⟩:=ae h;cases h;obtain⟨c,m1⟩:=pI<|ao u;dsimp only at c;subst c;refine⟨g,s,e,b,x,A,λv g1 H1 m d i=>⟨g1,b,_,s2,d,y,λw g2 C j a f=>?_⟩⟩;obtain⟨l,rfl,q⟩:=f;obtain⟨Z,l1,D,q1,o1,o,hl,E⟩:=a.tM p m1 q;cases q1;rw[iR (ao r) i];refine⟨l,_,J,.k o,?_⟩;rw[pG hl];exact k _ g2 C (m.trans j) a J
def Ra(e:B.cn[n]?=Y)(hr:bJ kk X.A)(c:rB op=U neg)(f:PE X a<|tE B fa)(b:PE X o<|tE B fo)(d:fA op o=Zc):PE X (.Compare a [op] [o] pos)<|tE B<|tL n neg fa fo:=
 aR (r_ (k7 (by have:=hr.units;lia) c) f b d)<|Oh e
def Rb(e:B.cn[n]?=Y)(hr:bJ kk X.A)(c:rB op=U neg)(f:PE X a<|tE B fa)(b:PE X o<|tE B fo)(d:fA op o=Zc):PT X (.Compare a [op] [o] pos)<|tT B<|b9<|tL n neg fa fo:=
 AA (se (k7 (by have:=hr.units;lia) c) f b d) λσ H Q q=>Oh e σ H _<|F_ q
theorem tN{k:Ky}:∀{ks:List Ky}{ts:FR}{vs:List V},Mo ks=Mo vs->aC B al HF ts vs->(∀t,i9 ks ts k=U t->∃v,j6 ((ks.map kU).zip vs) (kU k)=U v/\Rep B al HF t v)/\(i9 ks ts k=Y->j6 ((ks.map kU).zip vs) (kU k)=Y)
 |[],ts,[],_,r=>by
  refine⟨λt h=>?_,λ_=>J⟩;cases ts<;>cases h
 |[],_,_::_,h,_=>by cases h
 |q::ks,_,[],h,_=>by cases h
 |q::ks,[],u::vs,h,r=>by cases(show u::vs=[]from r)
 |q::ks,t::ts,u::vs,h,r=>by
  obtain⟨f,b,e,c,d⟩:=r;cases e;rw[fq,qu];by_cases e:q=k
  .rw[ji (p:=(kU q,u))<|by rw[e]]
   refine⟨λg a=>?_,λa=>?_⟩
   .rw[i9,bU e]at a
    cases a;exact⟨u,J,c⟩
   .rw[i9,bU e]at a;cases a
  .rw[jj (p:=(kU q,u)) λz=>e<|tG z,i9,bp e]
   exact tN (rM.inj h) d
def W4(E:B.cn[n]?=Y)(hr:bJ kk X.A)(C:PE X o<|tE B fo)(F:PE X b<|tE B fb)(y:P_ b):PE X (.Subscript o b pos)<|tE B<|GL n fo fb:=by
 refine aR (Ar (by have:=hr.units;lia) C F y) λσ H Q z=>?_
 obtain⟨g,s,t,s',x,h,k⟩:=z;obtain⟨⟨S,c⟩,N,h⟩:=ae h;obtain⟨⟨ty,s2⟩,M,h⟩:=ae h;obtain⟨z,L,h⟩:=ae h;obtain⟨r,K,h⟩:=ae h;obtain⟨T,I,h⟩:=ae h;cases h;obtain⟨e,m1⟩:=pI<|ao L;dsimp only at e;subst e;refine⟨g,s,_,c,x,N,λv g1 H1 q f p=>⟨g1,c,ty,s2,f,M,λw g2 P d a m=>?_⟩⟩;obtain⟨l,rfl,G⟩:=p;obtain⟨Z,l1,R,q1,o1,D,hl,j⟩:=a.tM E m1<|ez d.pre G;cases q1;obtain⟨v,u,i⟩:=(tN (k:=r) hl j).1 _<|ao I;rw[iR (ao K) m];exact⟨l,v,J,u▸.k D,k v g2 P (q.trans d) a i⟩
section
variable{c c':C}{a Q dx:bt}
def d_.one(x:d_ B g H m)(E:m[k]?=U ob)(Z:DJ B g H k ob a Q dx ns vs)(s:vs[j]?=U w)(sub:aM g'.HF H')(live:∀b p,g'.o b=U p->g'.HF b=Y/\∃u,H' b=U u)(fr:aM g.HF g'.HF)(y:g'.al=g.al)
  (kk:∀l p,g.o l=U p->p≠.fld k j->(∀i,p≠.loc i)->g'.o l=U p/\H' l=H l) (q:bz B g' H' (.fld k j) c' w):d_ B g' H'<|m.set k ⟨ob.c,ob.fs.set j c'⟩:=by
 have pre:g.al <+: g'.al:=by rw[y];exact fD
 refine⟨sub,live,by rw[eT,y];exact x.len,λr A e=>?_⟩
 by_cases qG:k=r
 .subst qG
  rw[dG (bK.mp E).1]at e;cases e;obtain⟨C,I⟩:=kk a _ Z.o (λz=>by cases z) (λi z=>by cases z)
  refine .inl ⟨a,Q,dx,ns,vs,ez pre Z.al,C,Z.cl,I.trans Z.h,Z.le,by rw[eT];exact Z.ln,λn d e=>?_⟩
  by_cases hj:j=n
  .subst hj
   have D:j<Mo ob.fs:=by rw[<- Z.ln];exact(bK.mp s).1
   have e:(ob.fs.set j c')[j]?=U d:=e;rw[dG D]at e;cases e;exact⟨w,s,q⟩
  .have e:(ob.fs.set j c')[n]?=U d:=e
   rw[cW hj]at e;obtain⟨v,G,F⟩:=Z.f n d e;exact⟨v,G,F.mv fr pre λl z=>kk l _ z (λz=>hj<|by cases z;rfl) (λi z=>by cases z)⟩
 .rw[cW qG]at e
  refine(x.at_ r A e).mv fr pre λl p h t=>kk l p h ?_ ?_
  .rcases t with rfl|⟨n,rfl⟩
   .exact λz=>by cases z
   .exact λz=>qG (by cases z;rfl)
  .rcases t with rfl|⟨n,rfl⟩
   .exact λi z=>by cases z
   .exact λi z=>by cases z
end
def gG(tab:Ap)(f:Nat)(m:FX):T->Option (Nat×Ob×Nat×C)
 |.own k=>(m[k]?).bind λob=>(jm tab ob.c f).bind λj=>(ob.fs[j]?).map λc=>(k,ob,j,c)
 |_=>Y
def GO(m:FX)(z:Nat×Ob×Nat×C)(c:C):FX:=m.set z.1 ⟨z.2.1.c,z.2.1.fs.set z.2.2.1 c⟩
def Rf:C->FV
 |.ol ts=>U<|.lst ts
 |.od a ts=>U<|.kC a ts
 |_=>Y
def Dd(n:Nat)(tab:Ap)(f:Nat)(a:FE):FE:=λs=>(a s).bind λp=>(aZ<|gG tab f p.2.m p.1).bind λz=>match z.2.2.2 with
 |.val t=>(match we n p.2.m t with
  |some y=>(aZ<|Rf y.2).bind λu=>.ok (u,{p.2 with m:=GO (p.2.m.set y.1 ⟨n,[]⟩) z (.val u)})
  |none=>.ok (t,p.2))
 |_=>.bad
def pJ(tab:Ap)(f:Nat)(b:T->T->FV)(o a:FE):FS:=λs=>(o s).bind λp=>(aZ<|gG tab f p.2.m p.1).bind λz=>match z.2.2.2 with
 |.val t=>(a p.2).bind λq=>(aZ<|gG tab f q.2.m p.1).bind λy=>(aZ<|gd (y.2.1.c=z.2.1.c) ()).bind λ_=>(aZ<|b t q.1).bind λu=>.ok (.nx,{q.2 with m:=GO q.2.m y (.val u)})
 |_=>.bad
def SR.KC(G:nq X.K X.mg P){n:Str}(u:P.an[f]?=U n)(x:SR (P.kt X) g H σ s)(h:gG P.tab f s.m t=U z)(r:Rep (P.kt X) g.al g.HF t v) :
  ∃a b dx ns vs w,v=.ref a/\DJ (P.kt X) g H z.1 z.2.1 a b dx ns vs/\s.m[z.1]?=U z.2.1/\vs[z.2.2.1]?=U w/\bz (P.kt X) g H (.fld z.1 z.2.2.1) z.2.2.2 w/\qk X.K b/\bB X.K b n/\(ns.zip vs).lookup n=U w:=by
 cases t<;>try(cases h;done)
 rename_i k;obtain⟨ob,o,h⟩:=bM.mp<|show(s.m[k]?).bind _=U z from h;obtain⟨j,i,h⟩:=bM.mp h;obtain⟨c,A,rfl⟩:=ck.mp h;obtain⟨a,rfl,y⟩:=r;rcases x.st.at_ k ob o with⟨B,b,dx,ns,vs,Z⟩|⟨B,Z⟩
 case inr=>
  obtain⟨l,q,_⟩:=bM.mp i;have z:(P.tab.map _)[ob.c]?=Y:=Z.nf;rw[fQ,q]at z;cases z
 have:=Z.al.symm.trans y
 cases this;obtain⟨D,E,p,F⟩:=G.of Z.cl;have e:=nN u p i;obtain⟨w,d,sl⟩:=Z.f j c A;exact⟨a,b,dx,ns,vs,w,J,Z,o,d,sl,F.cl,F.na _<|gz e,by rw[iO F.nd e,d]⟩
def SR.đ{c:C}(x:SR B g H σ s)(Z:Zi B g H k ⟨n,[c]⟩ l)(G:s.m[k]?=U ⟨n,[c]⟩)(f:g.o l=U (.ob k))(I:H l=U u) :
  dB g H (g.jf l u) H/\SR B (g.jf l u) H σ {s with m:=s.m.set k ⟨n,[]⟩}:=by
 have t:=(x.st.live l _ f).1;have ne:∀b p,g.o b=U p->p≠.ob k->(g.jf l u).o b=U p:=λb p a F=>by
  have:b≠l:=λe=>F (by rw[e,f]at a;cases a;rfl)
  show(if b=l then Y else g.o b)=_
  rw[bp this];exact a
 refine⟨sJ f t,⟨⟨λb w e=>?_,λb q e=>?_,by show(s.m.set k _).length=_;rw[eT];exact x.st.len,λr D e=>?_⟩,x.lc.len,λi d e=>?_⟩⟩
 .have e:upd g.HF l u b=U w:=e
  by_cases a:b=l
  .subst a;rw[ai]at e;cases e;exact I
  .rw[ak a]at e;exact x.sub _ _ e
 .have e:(if b=l then Y else g.o b)=U q:=e
  by_cases a:b=l
  .rw[bU a]at e;cases e
  .rw[bp a]at e
   obtain⟨A,y⟩:=x.st.live b q e;exact⟨by show upd g.HF l u b=Y;rw[ak a];exact A,y⟩
 .have e:(s.m.set k ⟨n,[]⟩)[r]?=U D:=e
  by_cases qG:k=r
  .subst qG
   rw[dG (bK.mp G).1]at e;cases e;exact .inr ⟨l,Z.al,Z.nc,Z.nf,λd z=>by cases z⟩
  .rw[cW qG]at e
   refine(x.st.at_ r D e).mv (g':=g.jf l u) (aT t) fD λb q h E=>⟨ne b q h ?_,J⟩;rcases E with rfl|⟨j,rfl⟩
   .exact λz=>qG (by cases z;rfl)
   .exact λz=>by cases z
 .obtain⟨v,A,y⟩:=x.lc.at_ i d e
  exact⟨v,A,oX (q:=.loc i) f t (λz=>by cases z) y⟩
def SR.Ē{a d dx:bt}(x:SR B g H σ s)(c:s.m[z.1]?=U z.2.1)(Z:DJ B g H z.1 z.2.1 a d dx ns vs)(b:vs[z.2.2.1]?=U w)(q:bz B g H (.fld z.1 z.2.2.1) c' w):SR B g H σ {s with m:=GO s.m z c'}:=
 ⟨x.st.one c Z b x.st.sub x.st.live (aM.refl _) J (λ_ _ h _ _=>⟨h,J⟩) q,x.lc⟩
def rC(h:gG tab f m t=U z):t=.own z.1/\m[z.1]?=U z.2.1/\jm tab z.2.1.c f=U z.2.2.1/\z.2.1.fs[z.2.2.1]?=U z.2.2.2:=by
 cases t<;>try(cases h;done)
 rename_i k;obtain⟨ob,d,h⟩:=bM.mp<|show(m[k]?).bind _=U z from h;obtain⟨j,b,h⟩:=bM.mp h;obtain⟨c,a,rfl⟩:=ck.mp h;exact⟨J,d,b,a⟩
def KD{c:C}(h:Rf c=U u)(q:bz B g H (.ob k) c<|.ref l)(lv:g.HF l=Y):∃b,g.o l=U (.ob k)/\H l=U b/\Rep B (g.jf l b).al (g.jf l b).HF u (.ref l):=by
 cases c<;>try(cases h;done)
 .cases h
  obtain⟨i,a,e,d,f,r⟩:=q;cases e;exact⟨_,d,f,l,a,J,ai,r.mv fD<|aT lv⟩
 .cases h
  obtain⟨i,a,e,d,f,hl,r⟩:=q;cases e;exact⟨_,d,f,l,a,J,ai,hl,r.mv fD<|aT lv⟩
def Rg(qd:nq X.K X.mg P)(W:P.cn[n]?=Y)(V:P.an[f]?=U nm)(he:PE X e<|tE (P.kt X) fa)(o:bx e=O):PE X (.Attribute e nm pos)<|tE (P.kt X)<|Dd n P.tab f fa:=by
 refine aR (ER he<|fW o) λσ H Q z=>?_;obtain⟨g,s,t,s',x,h,k⟩:=z;obtain⟨⟨tx,d⟩,h1,h⟩:=ae h;obtain⟨z,h2,h⟩:=ae h;have T:=ao h2;refine⟨g,s,_,d,x,h1,λv g1 H1 S b R=>?_⟩;obtain⟨a,Ca,dx,ns,vs,w,rfl,Z,hk,hw,sl,cl,na,lk⟩:=b.KC qd V T R;refine⟨a,Ca,dx,_,w,J,Z.h,cl,na,lk,?_⟩;obtain⟨A,ob,j,c⟩:=z;cases c<;>try(cases h;done)
 rename_i tv;dsimp only at h;cases o:we n d.m tv with
 |none=>
  rw[o]at h;cases h;exact k w g1 H1 S b sl
 |some y=>
  rw[o]at h;obtain⟨u,B,h⟩:=ae h;cases h;obtain⟨p,m1⟩:=pH o;subst p;obtain⟨l,rfl,ha⟩:=sl;obtain⟨ZB,C⟩:=b.tM W m1 ha;have F:g1.HF l=Y:=by
   have B:=ao B;obtain⟨kb,cb⟩:=y;cases cb<;>try(cases B;done)
   .obtain⟨D,_,e,i,_⟩:=C
    cases e;exact(b.st.live l _ i).1
   .obtain⟨D,_,e,i,_⟩:=C
    cases e;exact(b.st.live l _ i).1
  obtain⟨hu,i,hh,N⟩:=KD (ao B) C F;obtain⟨r,M⟩:=b.đ ZB m1 i hh;obtain⟨e0,p,L,e3⟩:=rC T;dsimp only at e0 p L e3;have qG:y.1≠A:=λz=>by
   rw[z,p]at m1;cases m1;obtain⟨l,q,_⟩:=bM.mp L;obtain⟨mm,q2,_⟩:=Z.cl;rw[W]at q2;cases q2
  have G:(d.m.set y.1 ⟨n,[]⟩)[A]?=U ob:=by rw[cW qG];exact p
  have E:gG P.tab f (d.m.set y.1 ⟨n,[]⟩) tx=U (A,ob,j,.val<|.own y.1):=by
   rw[e0];show((d.m.set y.1 ⟨n,[]⟩)[A]?).bind _=_;rw[G];show(jm P.tab ob.c f).bind _=_;rw[L];show(ob.fs[j]?).map _=_;rw[e3];rfl
  obtain⟨a',Ca',Y4,DI,vs',w',e4,Z',I,Uc,Nu,_⟩:=M.KC qd V E<|R.mv r.pre r.fr;obtain⟨D,e5,Y7⟩:=Nu
  have:l=D:=by
   have q:=ez r.pre ha;rw[q]at Y7;exact kF.inj Y7
  subst this;subst e5;exact k _ _ H1 (S.trans r) (M.Ē I Z' Uc (c':=.val _) N) N
def De(h:gF t u=U w):∃i j,t=.int i/\u=.int j/\w=.int (i+j):=by
 cases t<;>first|(cases h;done)|(cases u<;>first|(cases h;done)|(cases h;exact⟨_,_,J,J,J⟩))
def W5(qd:nq X.K X.mg P)(m:P.an[f]?=U nm)(ho:PE X o<|tE (P.kt X) fo)(he:PE X e<|tE (P.kt X) fa):PS X (.AugAssign (.Attribute o nm cO) .Add e pos)<|tS (P.kt X)<|pJ P.tab f gF fo fa:=by
 refine cM (CA ho he Py) λD σ H z=>?_;obtain⟨g,s,oo,s',x,h,k⟩:=z;obtain⟨⟨tx,B⟩,h1,h⟩:=ae h;obtain⟨z,h2,h⟩:=ae h;have T:=ao h2;refine⟨g,s,_,B,x,h1,λv g1 H1 Q A C=>?_⟩;obtain⟨a,Ca,dx,ns,vs,w,rfl,Z,hk,hw,sl,cl,na,S⟩:=A.KC qd m T C;refine⟨a,Ca,dx,_,w,J,Z.h,cl,na,S,?_⟩;obtain⟨k0,ob,j,c⟩:=z;cases c<;>try(cases h;done)
 rename_i tv;obtain⟨⟨ty,s2⟩,h3,h⟩:=ae h;obtain⟨y,h4,h⟩:=ae h;obtain⟨_,h5,h⟩:=ae h;obtain⟨r,_⟩:=bu<|ao h5;obtain⟨u,n,h⟩:=ae h;cases h;have n:=ao n;obtain⟨i,d,rfl,rfl,rfl⟩:=De n;cases(show w=V.int i from sl);refine⟨g1,B,_,s2,A,h3,λw2 g2 H2 l t M=>?_⟩;cases(show w2=V.int d from M);refine⟨_,_,J,J,?_⟩;have F:=ao h4;obtain⟨a2,Ca2,p,R,Og,w3,e4,q,hk2,W,_,_⟩:=t.KC qd m F<|C.mv l.pre l.fr;cases e4;obtain⟨k2,b,E,c2⟩:=y;have r:b.c=ob.c:=r;have G:=q.cl;rw[r]at G;obtain⟨rfl,rfl⟩:=G.eq Z.cl;obtain⟨e0,e1,e2,e3⟩:=rC F;have hp:dg P.tab f (.val<|.int<|i+d) b=U ⟨b.c,b.fs.set E<|.val<|.int<|i+d⟩:=by
  unfold dg;rw[e2];show(setAt b.fs E _).map _=_;unfold setAt;rw[bU (bK.mp e3).1];rfl
 obtain⟨_,_,hl,L,e5,N,I⟩:=AN qd m t q e1 hp (v:=.int<|i+d) λj=>J;refine⟨p,_,q.h,hl,?_⟩;rw[e5];exact k σ g2 _ ((Q.trans l).trans N) I
def Zo(c:FT)(a b:FL):FL:=λs=>(c s).bind λp=>if p.1 then a p.2 else b p.2
def ē:T->FK
 |.tup ts=>U ts
 |.lst ts=>U ts
 |_=>Y
def o1(g:T->FK)(a:FE):FL:=λs=>(a s).bind λp=>(aZ<|g p.1).bind λts=>.ok (ts,p.2)
def GP:T->T->FK
 |.lst a,.int k=>gd (k<1000000/\-1000000<k/\a.length*k.toNat<=1000000) (bL k.toNat a).flatten
 |_,_=>Y
def o2(g:T->T->FK)(a b:FE):FL:=λs=>(a s).bind λp=>(b p.2).bind λq=>(aZ<|g p.1 q.1).bind λts=>.ok (ts,q.2)
def Df:T->FK
 |.int j=>gd (0<=j/\j<1000000)<|mz 0 j.toNat
 |_=>Y
def Dg:FR->FK
 |[.int i,.int j,.int k]=>gd (j=-1/\k=-1/\-1<=i/\i<1000000)<|(cK (i+1).toNat).map λk=>.int<|i-(k:Nat)
 |_=>Y
def Ri:T->FK
 |.lst ts=>U ts.reverse
 |_=>Y
def isSlice:cw->Bool
 |.Slice _ _ _ _=>O
 |_=>Zc
def Oi(i:Nat)(b a:FE):FS:=λs=>match W2 i s with
 |true=>dP i b a s
 |false=>Oe i b a s
def W6(p:PT X c<|tT B v)(r:PE X a<|tO B fl)(q:PE X b<|tO B gl):PE X (.IfExp c a b pos)<|tO B<|Zo v fl gl:=aR (u4 p r q) λσ H Q z=>by
 obtain⟨g,s,t,s',x,h,k⟩:=z;obtain⟨⟨d,j⟩,u,h⟩:=ae h;refine⟨g,s,d,j,x,u,λg1 H1 e o=>?_⟩;cases d with
 |true=>exact nh ⟨g1,j,_,_,o,h,λl i g2 n m f n0=>k l i g2 n (e.trans m) f<|e.there l n0⟩
 |false=>exact oF ⟨g1,j,_,_,o,h,λl i g2 n m f n0=>k l i g2 n (e.trans m) f<|e.there l n0⟩
def W7(E:B.K=X.K)(A:X.mg "list" = Y)(C:Gl X "list")(D:PE X a<|tE B fa)(m:noStar a=O):PE X (.Call (.Name "list" p) [a] [] pos)<|tO B<|o1 ē fa:=by
 refine aR (h_ iK C A uY (aL D bP<|aq m) (by decide) (by decide) (aq m) J) λσ H Q z=>?_
 obtain⟨g,s,t,s',x,h,k⟩:=z;obtain⟨⟨f,o⟩,F,h⟩:=ae h;obtain⟨ts,e,h⟩:=ae h;cases h;have e:=ao e;refine⟨g,s,f,o,x,F,λv g1 H1 j d i=>?_⟩;have c:∀{b:List V},aC B g1.al g1.HF t b->∀l,H1 l=Y->Q (.ref l) (upd H1 l<|.lst b):=λ{b} r l hl=>by
  obtain⟨n,y,w⟩:=iM (u:=.lst b) d hl;exact k l b _ _ (j.trans<|d.gB n) (d.grow n) (j.there l hl) y w ai r
 cases f<;>try(cases e;done)
 .cases e
  obtain⟨l,b,rfl,q,r⟩:=i;exact⟨l,b,J,.inr<|E▸c7 d.sub q,c r⟩
 .cases e
  obtain⟨l,b,rfl,q,r⟩:=i;exact⟨l,b,J,.inl<|dm.of<|d.sub _ _ q,c r⟩
def Rj(I:PE X a<|tE B fa)(G:PE X b<|tE B fb):PE X (.BinOp a .Mult b pos)<|tO B<|o2 GP fa fb:=by
 refine aR (kL E8 I G) λσ H Q z=>?_;obtain⟨g,s,t,s',x,h,k⟩:=z;obtain⟨⟨j,m⟩,L,h⟩:=ae h;obtain⟨⟨ty,s2⟩,K,h⟩:=ae h;obtain⟨ts,d,h⟩:=ae h;cases h;have d:=ao d;refine⟨g,s,j,m,x,L,λv g1 H1 n A D=>⟨g1,m,ty,s2,A,K,λw g2 M f e C=>?_⟩⟩;cases j<;>first|(cases d;done)|(cases ty<;>try(cases d;done))
 obtain⟨c,rfl⟩:=bu d;obtain⟨l,i,rfl,q,r⟩:=D.mv f.pre f.fr;refine⟨l,_,i,J,C,e.sub _ _ q,by lia,by lia,by rw[<- r.len,eJ];lia,λp o=>?_⟩
 obtain⟨y,F,E⟩:=iM (u:=.lst (bL _ i).flatten) e o;exact k p _ _ _ ((n.trans f).trans<|e.gB y) (e.grow y) (n.there p<|f.there p o) F E ai<|r.flat _
def KG(h:Df t=U ts):∃j,t=.int j/\(0<=j/\j<1000000)/\ts=mz 0 j.toNat:=by
 cases t<;>try(cases h;done)
 obtain⟨c,rfl⟩:=bu h;exact⟨_,J,c,J⟩
def Oj(M:X.calm=O)(n:X.mg "list" = Y)(m:X.mg "range" = Y)(w:Gl X "list")(r:Gl X "range")(N:PE X a<|tE B fa)(A:noStar a=O) :
  PE X (.Call (.Name "list" p) [.Call (.Name "range" d) [a] [] E] [] pos)<|tO B<|o1 Df fa:=by
 refine aR (h_ (qA M) w n uY (aL (h_ CO r m PyProof.Rows.boot_range (aL N bP<|aq A) (by decide) (by decide) (aq A) J) bP<|aq J) (by decide) (by decide) (aq J) J) λσ H Q z=>?_
 obtain⟨g,s,t,s',x,h,k⟩:=z;obtain⟨⟨R,F⟩,P,h⟩:=ae h;obtain⟨ts,y,h⟩:=ae h;cases h;have y:=ao y;obtain⟨j,rfl,c,rfl⟩:=KG y;refine⟨g,s,_,F,x,P,λv g1 H1 d i G=>?_⟩;cases G;refine⟨j,J,λq L=>⟨q,j,J,ai,c.1,by lia,λl hl=>?_⟩⟩
 obtain⟨C,T,S⟩:=iM (u:=.mz 0 j) i L;have f:=i.grow C;obtain⟨b,K,I⟩:=iM (u:=.lst<|(cK j.toNat).map λk=>V.int (k:Nat)) f hl;have D:l≠q:=(aK ai hl).symm;have o:H1 l=Y:=by rw[ak D]at hl;exact hl
 have e:((cK j.toNat).map λk=>V.int (k:Nat))=(cK j.toNat).map λk=>V.int<|0+((k:Nat):Int):=by
  apply uO;intro k _;rw[z9]
 refine k l _ _ _ ((d.trans<|i.gB C).trans<|f.gB b) (f.grow b) (d.there l o) K I ai ?_;rw[e];exact aC.mz 0 _
theorem aC.rev:∀{ts:FR}{vs:List V},aC B al H ts vs->aC B al H ts.reverse vs.reverse
 |[],_,h=>by have h:_=[]:=h;subst h;rfl
 |t::ts,_,h=>by
  obtain⟨v,r,rfl,b,a⟩:=h;rw[Em,Em];exact a.rev.app<|.one b
def KI{a b c:T}(h:Dg [a,b,c]=U ts):∃i,a=.int i/\b=.int (-1)/\c=.int (-1)/\-1<=i/\i<1000000/\ts=(cK (i+1).toNat).map λk=>.int<|i-(k:Nat):=by
 cases a<;>first|(cases h;done)|(cases b<;>first|(cases h;done)|(cases c<;>try(cases h;done)))
 obtain⟨⟨rfl,rfl,e,d⟩,rfl⟩:=bu h;exact⟨_,J,J,J,e,d,J⟩
def Rk(F:Gl X "range")(E:X.mg "range" = Y)(K:PE X a<|tE B fa)(I:PE X b<|tE B fb)(G:PE X c<|tE B fc)(j:[a,b,c].all noStar=O):PI X tg (.Call (.Name "range" p) [a,b,c] [] pos)<|tI B<|C3 Dg<|bw fa<|bw fb<|bw fc aY:=by
 simp only[e7,List.all_nil,Ni,cL]at j;obtain⟨k1,k2,k3⟩:=j;have Q:dy [c] X.env=[(Zc,eR c X.env)]:=aq k3;have l:dy [b,c] X.env=[(Zc,eR b X.env),(Zc,eR c X.env)]:=by rw[aq k2,Q]
 have S:dy [a,b,c] X.env=[(Zc,eR a X.env),(Zc,eR b X.env),(Zc,eR c X.env)]:=by rw[aq k1,l]
 refine mK (JP F E (aL K (aL I (aL G bP<|aq k3)<|aq k2)<|aq k1) S l) λσ H R z=>?_;obtain⟨g,s,t,s',x,h,k⟩:=z;obtain⟨⟨ts,s1⟩,e,h⟩:=ae h;obtain⟨V,P,h⟩:=ae h;cases h;obtain⟨⟨Z,s2⟩,N,e⟩:=ae e;obtain⟨⟨ty,s3⟩,d,e⟩:=ae e;cases e;obtain⟨⟨W,s4⟩,M,d⟩:=ae d;obtain⟨⟨tw,s5⟩,f,d⟩:=ae d;cases d;obtain⟨⟨tv,s6⟩,L,f⟩:=ae f;cases f;obtain⟨i,rfl,rfl,rfl,l1,l2,rfl⟩:=KI<|ao P;refine⟨g,s,_,_,x,N,λv g1 H1 D o y=>⟨g1,_,_,_,o,M,λw g2 H2 C n r=>⟨g2,_,_,_,n,L,λu g3 T A m q=>?_⟩⟩⟩;cases y;cases r;cases q;exact⟨_,J,l1,by lia,k _ g3 T ((D.trans C).trans A) m<|k6 (Gw _ _)<|aC.dwn _ _⟩
def W8(E:Gl X "reversed")(D:X.mg "reversed" = Y)(F:PE X a<|tE B fa)(C:noStar a=O):PI X tg (.Call (.Name "reversed" p) [a] [] pos)<|tI B<|o1 Ri fa:=by
 have m:dy [a] X.env=[(Zc,eR a X.env)]:=aq C;refine mK (PR E D (aL F bP m) m) λσ H R z=>?_;obtain⟨g,s,t,s',x,h,k⟩:=z;obtain⟨⟨o,c⟩,G,h⟩:=ae h;obtain⟨ts,d,h⟩:=ae h;cases h;have d:=ao d;cases o<;>try(cases d;done)
 cases d;refine⟨g,s,_,c,x,G,λv g1 H1 A f w=>?_⟩;obtain⟨l,j,rfl,q,r⟩:=w;refine⟨l,j,J,dm.of<|f.sub _ _ q,k _ g1 H1 A f ⟨λi H1 c b=>?_,λi H1 x M c b y=>?_,λi H1 c b=>?_⟩⟩
 .rw[En,r.len]at b
  exact⟨b,dm.of<|c _ _ q⟩
 .rw[En,r.len]at b
  obtain⟨rfl,e⟩:=y;have L:j.reverse[i]?=U x:=by rw[List.getElem?_reverse b];exact e
  obtain⟨t,K,I⟩:=r.rev.yq L;exact⟨t,K,λn s2 u=>⟨n,.refl u,I.same s2⟩⟩
 .rw[En,r.len]at b
  exact b
def W9{o m:Pos}(K:PE X b<|tE B fb)(he:PE X e<|tE B fa)(L:X.N[i]?=U y)(G:kI X.env.scope y)(hd:bA y)(V:fF y)(I:fC e (U<|.Subscript (.Name y o) b m) pos.line X.env=pure Zc)(Z:isSlice b=Zc) :
  PS X (.Assign [.Subscript (.Name y o) b m] e pos)<|tS B<|dP i fb fa:=by
 refine cM (EL he (O8 (cy L G hd V) K set_list λv=>?_) I J J) λD σ H z=>?_
 .cases b<;>first|rfl|(cases Z)
 obtain⟨g,s,oo,s',x,h,k⟩:=z;obtain⟨⟨t,n⟩,T,h⟩:=ae h;obtain⟨Jd,S,h⟩:=ae h;obtain⟨⟨tk,s2⟩,R,h⟩:=ae h;obtain⟨ts,Q,h⟩:=ae h;obtain⟨j,P,h⟩:=ae h;obtain⟨us,M,h⟩:=ae h;obtain⟨⟨q,z2⟩,rfl⟩:=bu<|ao M;cases h;have W:tk=.int j:=AH<|ao P;subst W;refine⟨g,s,t,n,x,T,λv g1 H1 F f A=>?_⟩;obtain⟨l,vs,w1,w2,w3,w4⟩:=f.yE<|iQ<|ao S;refine⟨_,w1,g1,n,_,s2,f,R,λu g2 H2 c d w=>?_⟩;have p:=iQ<|ao Q;obtain⟨l',a,q1,q2,C,q4⟩:=d.yE p;rw[w1]at q1;cases q1;cases w;obtain⟨r,E⟩:=d.chg p w1<|q4.set (A.mv c.pre c.fr) j.toNat;have hl:Mo ts=Mo a:=q4.len;refine⟨l,a,j,j.toNat,J,J,C,?_,k σ g2 _ ((F.trans c).trans E) r⟩;unfold IW;rw[bU q,bU<|by lia]
def Ĕ{c a:Pos}(hr:bJ k X.A)(m:PE X b<|tE B fb)(he:PE X e<|tE B fa)(n:X.N[i]?=U y)(f:kI X.env.scope y)(hd:bA y)(o:fF y)(j:fC e (U<|.Subscript (.Name y c) b a) pos.line X.env=pure Zc)(q:isSlice b=Zc) :
  PS X (.Assign [.Subscript (.Name y c) b a] e pos)<|tS B<|Oi i fb fa:=λp sh σ H D I z=>by
 obtain⟨g,s,d,s',x,h,k⟩:=z;unfold Oi at h;cases l:W2 i s with
 |true=>
  rw[l]at h;exact W9 m he n f hd o j q p sh σ H D I ⟨g,s,d,s',x,h,k⟩
 |false=>
  rw[l]at h;exact Q7 hr he m n f hd o j p sh σ H D I ⟨g,s,d,s',x,h,k⟩
def fZ:cw->Option Const
 |.Constant c _ _=>U c
 |_=>Y
def GQ(e:cw):Option Str:=match fZ e with
 |U<|.str x=>U x
 |_=>Y
def ĕ:T->Bool
 |.kC _ _=>O
 |_=>Zc
def W_(P:B.K=X.K)(hr:bJ kk X.A)(o:PE X a<|tE B fa)(n:PE X b<|tE B fb)(m:jE b):PE X (.Subscript a b pos)<|tE B<|bX Au fa fb:=λy sh σ H Q I z=>by
 obtain⟨g,s,t,s',x,h,k⟩:=z;obtain⟨⟨c,f⟩,u,d⟩:=ae h;obtain⟨⟨ty,s2⟩,r,d⟩:=ae d;obtain⟨W,p,d⟩:=ae d;cases d;cases hd:ĕ c with
 |false=>
  refine Qw P o n m y sh σ H Q I ⟨g,s,t,_,x,?_,k⟩;have e:il c ty=Au c ty:=by cases c<;>first|rfl|(cases hd)
  unfold bX;rw[u];show(fb f).bind _=_;rw[r];show(aZ<|il c ty).bind _=_;rw[e,p];rfl
 |true=>
  cases c<;>try(cases hd;done)
  obtain⟨M,S,R⟩:=bM.mp<|ao p;refine Ar (by have:=hr.units;lia) o n m y sh σ H Q I ⟨g,s,_,f,x,u,λv g1 H1 L C G=>⟨g1,f,ty,s2,C,r,λw g2 T i j F=>?_⟩⟩
  obtain⟨l,V,rfl,q,hl,E⟩:=G.mv i.pre i.fr;obtain⟨v,N,D⟩:=(tN (k:=M) hl E).1 _ R;rw[iR S F];exact⟨l,v,J,N▸.k (j.sub _ _ q),k v g2 T (L.trans i) j D⟩
def iw{q}(h:fZ e=U q):∃k p,e=.Constant q k p:=by
 cases e<;>first|(cases h;done)|(cases h;exact⟨_,_,J⟩)
def str_inv(h:GQ e=U x):∃kk p,e=.Constant (.str x) kk p:=by
 unfold GQ at h;cases a:fZ e with
 |none=>rw[a]at h;cases h
 |some c=>
  rw[a]at h;cases c<;>try(cases h;done)
  cases h;exact iw a
def pK(n:Nat)(o:FE):FE:=λs=>(o s).bind λp=>(aZ<|qH n p.2.m p.1).bind λz=>.ok (.int z.2.length,p.2)
def pL(n:Nat)(o:FE):FE:=λs=>(o s).bind λp=>(aZ<|qH n p.2.m p.1).bind λz=>match z.2 with
 |t::ts=>.ok (t,setB n p.2 z.1<|.ol ts)
 |[]=>.bad
def GR(n:Nat)(o:FE)(lo a:FO):FE:=λs=>(o s).bind λp=>(lo p.2).bind λq=>(a q.2).bind λw=>(aZ<|qH n w.2.m p.1).bind λz=>.ok (.lst<|bW z.2 q.1 w.1,w.2)
section
variable{S T:Option cw}{V W:FO}
def Rl(w:B.cn[n]?=Y)(m:PE X o<|tE B fo)(b:noStar o=O)(u:Gl X "len")(q:X.mg "len" = Y):PE X (.Call (.Name "len" p) [o] [] pos)<|tE B<|pK n fo:=by
 refine aR (gh u9 u q PySem.boot_len (aL m bP<|aq b) (he:=aq b) (hpl:=J)) λσ H Q z=>?_;obtain⟨g,s,t,s',x,h,k⟩:=z;obtain⟨⟨D,e⟩,C,h⟩:=ae h;obtain⟨z,A,h⟩:=ae h;cases h;obtain⟨c,m1⟩:=ju<|ao A;dsimp only at c;subst c;refine⟨g,s,_,e,x,C,λv g1 H1 j a i=>?_⟩;obtain⟨l,rfl,y⟩:=i;obtain⟨Z,l1,d,q1,o1,r,f⟩:=a.tM w m1 y;cases q1;exact⟨_,_,J,.inl ⟨d,dm.of r,f.len⟩,k _ g1 H1 j a J⟩
def Rm{c:Nat}(A:B.cn[n]?=Y)(y:PE X o<|tE B fo)(C:bx o=O)(I:(bQ.endLine == bZ.line)=O):PE X (.Call (.Attribute o "pop" bQ) [.Constant (.int 0) c kp] [] bZ)<|tE B<|pL n fo:=by
 refine aR (vj ix wq wk E7 y (aL xX bP J) (fW C) (sU J<|by decide) I J J) λσ H Q z=>?_
 obtain⟨g,s,t,s',x,h,k⟩:=z;obtain⟨⟨L,m⟩,G,h⟩:=ae h;obtain⟨⟨kb,ts⟩,E,h⟩:=ae h;obtain⟨i,m1⟩:=ju<|ao E;dsimp only at i m1;subst i;dsimp only at h;cases ts with
 |nil=>cases h
 |cons t0 ts=>
  cases h;refine⟨g,s,_,m,x,G,λv g1 H1 w d p=>?_⟩;obtain⟨l,rfl,D⟩:=p;obtain⟨Z,l1,K,q1,o1,f,b⟩:=d.tM A m1 D;cases q1;obtain⟨e,a,rfl,q,b⟩:=b;refine⟨.inl ⟨J,_,dm.of f⟩,l,_,0,0,e,J,J,f,by decide,by decide,by simp[E5],J,?_⟩
  obtain⟨r,j⟩:=d.GN (c':=.ol ts) (u:=.lst a) Z m1 o1 ⟨l,a,J,o1,ai,b⟩;exact k e g1 _ (w.trans r) j q
def Xa(C:B.cn[n]?=Y)(y:PE X o<|tE B fo)(hl:PO X S<|tP B V)(b:PO X T<|tP B W):PE X (.Subscript o (.Slice S T Y R) pos)<|tE B<|GR n fo V W:=by
 refine aR (vf We y hl b) λσ H Q z=>?_;obtain⟨g,s,t,s',x,h,k⟩:=z;obtain⟨⟨K,e⟩,I,h⟩:=ae h;obtain⟨⟨lo,s2⟩,G,h⟩:=ae h;obtain⟨⟨A,L⟩,F,h⟩:=ae h;obtain⟨⟨kb,ts⟩,E,h⟩:=ae h;cases h;obtain⟨i,m1⟩:=ju<|ao E;dsimp only at i m1;subst i;refine⟨g,s,_,e,x,I,λv g1 H1 u m r=>⟨g1,e,_,s2,m,G,λg2 N R j=>⟨g2,s2,_,_,j,F,λg3 M f a=>?_⟩⟩⟩;obtain⟨l,rfl,D⟩:=r;obtain⟨Z,l1,d,q1,o1,b,p⟩:=a.tM C m1<|ez f.pre<|ez R.pre D;cases q1;refine .inr ⟨l,d,J,dm.of b,λq w=>?_⟩;rw[sQ];have c:=Gr.new (o:=.lst<|bW d lo A) a.sub w;exact k _ _ _ (((u.trans R).trans f).trans<|a.gB c) (a.grow c) ⟨q,_,J,ai,(p.cut _ _).same c.fr⟩
end
end D
namespace PySem
open Sem (wp)
end PySem
namespace L2
open PySem PySem.Spec PyProof.Rows
end L2
namespace D
open PySem L2
end D
namespace L2
open PySem PySem.Spec PyProof.Rows
end L2
namespace D
open PySem L2
end D
namespace L2
open PySem PySem.Spec PyProof.Rows
end L2
namespace D
open PySem L2
def wm:FR->Option Dx
 |[]=>U []
 |.int i::ts=>(wm ts).map (i::·)
 |_=>Y
theorem ints_rep:∀{ts:FR}{ns:Dx}{vs:List V},wm ts=U ns->aC B al H ts vs->vs=ns.map V.int
 |[],ns,vs,h,r=>by
  cases h;exact r
 |t::ts,ns,vs,h,r=>by
  cases t<;>try(cases h;done)
  rename_i i;obtain⟨ms,c,rfl⟩:=ck.mp h;obtain⟨v,d,rfl,b,a⟩:=r;cases(show v=.int i from b);rw[ints_rep c a];rfl
end D
namespace PySem
section
variable{A:ek}
def mO(a b:bj):i4 "max" ⟨[a],[(et "default",b)]⟩=pure ():=by kernel_rfl
def yI(i:A.in1.handled=Y)(g:s.heap.IsList l #[])
  (k:∀h',(∀b o,s.heap.get? b=U o->h'.get? b=U o)->Q d {s with heap:=h'}) :
  cq (cv prog w) A (call (.builtin "max") [.ref l] [(et "default",d)]) Q E s:=by
 have h:(toString "max" ++ toString ".loop" : String) = "max.loop" := by decide
 refine f7<|fu F.plain_max F.entry_max<|qx (mO _ _) ?_;show cq _ A.in1 (hB "max" ["key","default"] 0 ⟨[],[(et "default",d)]⟩ >>= _) _ _ s;refine ar<|qx (show hB "max" ["key","default"] 0 ⟨[],[(et "default",d)]⟩=pure [Y,U d]from J) ?_;refine ar<|dk ?_;refine ar<|hJ g ?_;refine ar<|n6 ?_;rw[h];refine dk ⟨ox F.plain_max_loop _,?_⟩;obtain⟨a,f⟩:∃a,a=s.heap.push {cls:=.type "list_iterator",data:=.fields #[.ref l,.int 0 0]}:=⟨_,J⟩;rw[<- f];obtain⟨c,e⟩:∃c,c=a.push {cls:=.type "list",data:=.seq #[]}:=⟨_,J⟩;have j:c.get? a.objs.size=U {cls:=.type "list",data:=.seq #[]}:=by rw[e];exact de _ J
 have hit:c.IsListIter s.heap.objs.size l 0:=⟨_,by rw[e];exact ax _<|by rw[f];exact de _ J,J,J⟩
 have n:c.IsList l #[]:=by
  obtain⟨o,q1,q2⟩:=g;exact⟨o,by rw[e];exact ax _<|by rw[f];exact ax _ q1,q2⟩
 refine mZ F.entry_max_loop ?_;rw[oT F.plain_max_loop _];show cq _ A.in1 (seqItems? (.ref a.objs.size) >>= _) _ _ {s with heap:=a.push {cls:=.type "list",data:=.seq #[]}}
 rw[<- e];refine ar<|zv j J ?_;show cq _ A.in1 (tryCatch (HI<|.ref s.heap.objs.size) _ >>= _) _ _ _;refine ar<|p0<|I0 i hit n J λh' m=>?_;refine ar<|wpAny_rule<|dk ?_;refine k h' λb o q=>m b o (λz=>?_) ?_
 .have:=b7 q
  rw[z]at this;exact qp _ this
 .rw[e,f]
  exact ax _<|ax _ q
end
section
variable{A:ek}
abbrev KJ(old:Array bj)(c:Nat):Obj:={cls:=.type "list",dict:=Y,data:=.seq old c,slots:=#[]}
def Ė(P:Nat->bj->Prop)(Q:Nat->Nat->Bool)(i:Nat)(old:Array bj):Prop:=(old=#[]/\i=0)\/∃v j,old=#[v,v]/\i=j+1/\P (rz Q j) v
theorem k8(W:Walks prog w A.in1 I L M n P St)(KL:CmpOf prog w A.in1 .Gt P Q)(h:S∉L)(G:0<n):∀(k i:Nat)(s:av)(old:Array bj)(c:Nat),i+k=n->St i s.heap->Ė P Q i old->s.heap.get? S=U (KJ old c) ->
  (∀v h' tk,P (rz Q<|n-1) v->(∀b o,b∉M->b≠S->s.heap.get? b=U o->h'.get? b=U o)->R (.ok<|.ret v) {s with heap:=h',toks:=tk}) ->
  hW (cv prog w) A (.builtin "max.loop" ⟨[.ref I,.none,.ref S],[(et "default",d)]⟩) R s
 |0,i,s,old,c,K,st,B,r,t=>by
  rcases B with⟨_,z⟩|⟨v,j,rfl,E,m⟩
  .lia
  have e:n=i:=by lia
  refine mZ F.entry_max_loop ?_;rw[oT F.plain_max_loop _];change cq _ A.in1 (seqItems? (Value.ref S) >>= _) _ _ s;refine ar<|zv r J ?_;change cq _ A.in1 (tryCatch (HI<|Value.ref I) _ >>= _) _ _ s;refine ar<|p0<|W.done s _ _ (by rw[e];exact st) λh' tk kk=>?_
  have g:=kk S _ (λz=>h<|W.sub _ z) r;change cq _ A.in1 (updateSeq S (λ_=>#[]) >>= _) _ _ _;refine ar<|xp g J<|ar<|vu<|dk<|t v _ tk (by rw[e,E];exact m) λb o a f q=>?_
  exact(eo _ _<|eL f).trans<|kk b o a q
 |k+1,i,s,old,c,K,st,B,r,t=>by
  have C:(toString "max" ++ toString ".loop" : String) = "max.loop" := by decide
  refine mZ F.entry_max_loop ?_;rw[oT F.plain_max_loop _];change cq _ A.in1 (seqItems? (Value.ref S) >>= _) _ _ s;refine ar<|zv r J ?_;change cq _ A.in1 (tryCatch (HI<|Value.ref I) _ >>= _) _ _ s;refine ar<|p0<|W.item i s _ _ (by lia) st λv h' tk m D kk=>?_
  have g:=kk S _ (λz=>h<|W.sub _ z) r;rcases B with⟨rfl,z⟩|⟨l,j,rfl,E,H⟩
  .subst z
   change cq _ A.in1 (updateSeq S (λ_=>#[v,v]) >>= _) _ _ _;refine ar<|xp g J ?_;rw[C];refine dk ⟨ox F.plain_max_loop _,k8 W KL h G k 1 _ #[v,v] _ (by lia) (W.frame _ _ _ D λb a o q=>?_) (.inr ⟨v,0,J,J,m⟩) (gs _ g J) λu x y p k2=>t u x y p λb o a f q=>k2 b o a f ?_⟩
   .exact(eo _ _ λz:S=b=>h<|by rw[z];exact a).trans q
   .exact(eo _ _<|eL f).trans<|kk b o a q
  .subst E
   change cq _ A.in1 (tryCatch (n8 [v,v]<|richCompare .Gt v l >>= _) _ >>= _) _ _ _;refine ar<|p0<|gE<|ar<|KL (j+1) (rz Q j) v l _ _ _ m H<|ar<|gE<|hG<|ar<|vu<|dk ?_;cases a:Q (j+1) (rz Q j)with
   |true=>
    simp only[s9];refine ar<|xp g J<|ar<|vu ?_;rw[C];refine dk ⟨ox F.plain_max_loop _,k8 W KL h G k (j+2) _ #[v,v] _ (by lia) (W.frame _ _ _ D λb a o q=>?_) (.inr ⟨v,j+1,J,J,by simp only[rz,a,s9];exact m⟩) (gs _ g J) λu x y p k2=>t u x y p λb o a f q=>k2 b o a f ?_⟩
    .exact(eo _ _ λz:S=b=>h<|by rw[z];exact a).trans q
    .exact(eo _ _<|eL f).trans<|kk b o a q
   |false=>
    simp only[z8,xW];refine ar<|vu ?_;rw[C];exact dk ⟨ox F.plain_max_loop _,k8 W KL h G k (j+2) _ #[l,l] c (by lia) D (.inr ⟨l,j+1,J,J,by simp only[rz,a,z8,xW];exact H⟩) g λu x y p k2=>t u x y p λb o a f q=>k2 b o a f<|kk b o a q⟩
end
section
variable{A:ek}
def yJ(p:A.handled=Y)(hl:s.heap.IsList l<|th xs)(n:0<xs.size)
  (h:∀v h' tk,(th xs)[rz (λi j=>decide<|numAt xs i > numAt xs j) (xs.size-1)]?=U v->(∀b o,s.heap.get? b=U o->h'.get? b=U o)->Q v {s with heap:=h',toks:=tk}) :
  cq (cv prog w) A (call (.builtin "max") [.ref l] [(et "default",d)]) Q E s:=by
 have m:(toString "max" ++ toString ".loop" : String) = "max.loop" := by decide
 refine f7<|fu F.plain_max F.entry_max<|qx (mO _ _) ?_;change cq _ A.in1 (hB "max" ["key","default"] 0 ⟨[],[(et "default",d)]⟩ >>= _) _ _ s;refine ar<|qx (show hB "max" ["key","default"] 0 ⟨[],[(et "default",d)]⟩=pure [Y,U d]from J) ?_;refine ar<|dk<|ar<|iter_intList hl λs2 e st c a=>?_;subst e;refine ar<|n6 ?_;rw[m];have f:(th xs).size=xs.size:=by simp[th]
 have g:=Walks.list (prog:=prog) (w:=w) (A:=A.in1) p s.heap.objs.size l a<|th xs;refine dk ⟨ox F.plain_max_loop _,k8 g (CmpOf.ints_gt (numAt xs) λ_ _=>intItems_at) (λz=>qp _<|c _ z) (by rw[f];exact n) (th xs).size 0 _ #[] 0 (by lia) (g.frame 0 _ _ st λb _ o q=>ax _ q) (.inl ⟨J,J⟩) (de _ J) λv h' tk k kk=>h v h' tk (by rw[<- f];exact k)<|old_kept λb o r q=>kk b o r ?_<|ax _ q⟩
 exact dO<|b7 q
end
end PySem
namespace D
open PySem L2
def mx:Int->Dx->Int
 |a,[]=>a
 |a,b::l=>mx (if a<b then b else a) l
theorem GS:∀(a:Int)(l:Dx),(mx a l=a\/mx a l∈l)/\a<=mx a l/\∀b∈l,b<=mx a l
 |a,[]=>⟨.inl J,Int.le_refl _,λ_ h=>by cases h⟩
 |a,b::l=>by
  obtain⟨i,g,f⟩:=GS (if a<b then b else a) l
  rw[mx];by_cases h:a<b
  .rw[bU h]at i g f ⊢
   refine⟨.inr ?_,by lia,λc d=>?_⟩
   .rcases i with e|e
    .rw[e];exact eO ..
    .exact ee _ e
   .rcases cu.mp d with rfl|d
    .exact g
    .exact f c d
  .rw[bp h]at i g f ⊢
   refine⟨?_,g,λc d=>?_⟩
   .rcases i with e|e
    .exact .inl e
    .exact .inr<|ee _ e
   .rcases cu.mp d with rfl|d
    .lia
    .exact f c d
def Xc(h:M∈a::l)(c:∀b∈a::l,b<=M):M=mx a l:=by
 obtain⟨k1,k2,k3⟩:=GS a l
 have:mx a l<=M:=by
  rcases k1 with e|e
  .rw[e];exact c _<|eO ..
  .exact c _<|ee _ e
 have:M<=mx a l:=by
  rcases cu.mp h with rfl|h
  .exact k2
  .exact k3 _ h
 lia
section
variable{k1:Nat}
def KN(S:Gl X "max")(N:X.mg "max" = Y)(D:X.calm=O)(T:PA X [a] ta)(B:dy [a] X.env=[(Zc,eR a X.env)]) :
  PE X (.Call (.Name "max" p) [a] [⟨U<|et "default",.Constant (.int i) k1 p1,kp⟩] pos) λf H Q=>ta f H λvs H1=>(∃l,vs=[.ref l]/\dm X.K H1 l []/\Q (.int i) H1)\/∃l n,∃ns:Dx,vs=[.ref l]/\dm X.K H1 l ((n::ns).map V.int)/\Q (.int<|mx n ns) H1:=by
 intro y s f H Q I h;refine ff<|gP I S N PyProof.Rows.boot_max ?_;refine MD (P:=λ_=>True) (by rw[B];rfl) (λh _=>⟨.machine,.inr<|.inl J,.now⟩) ?_
 refine Nr J (cA (T pos y s f H _ I h) λZ b F=>?_) B;obtain⟨vs,H1,E,z,q1⟩:=F;show cq _ _ (evalAll [(do let v <- eR (.Constant (.int i) k1 p1) X.env;n7 pos;pure v)]) _ _ b
 refine wpAny_evalAll_cons<|ar<|sF<|ar<|j1<|dk<|wpAny_evalAll_nil ⟨trivial,?_⟩;rcases q1 with⟨l,e,w,q⟩|⟨l,n,ns,e,w,q⟩
 .subst e
  obtain⟨u,rfl,o⟩:=vals1 z;cases o;have k:Inv X y f H1 {b with toks:=b.toks+1}:=E.tok _
  obtain⟨g,r,pl,L⟩:=k.list w;have m:g=[]:=MZ.mp r.length.symm;subst m;show cq _ _ (call (.builtin "max") [.ref l] [(et "default",.int i b.toks)]) _ _ {b with toks:=b.toks+1}
  exact yI (I.ok.hd D) pl.isList λW kk=>⟨.int i,H1,k.kept (t':=b.toks+1) kk,⟨_,J⟩,q⟩
 subst e;obtain⟨u,rfl,o⟩:=vals1 z;cases o;have k:Inv X y f H1 {b with toks:=b.toks+1}:=E.tok _
 obtain⟨g,r,pl,L⟩:=k.list w;have m:=intsAre_of r;obtain⟨d,A⟩:=m.allInts.items;have x:d.toList.map (·.1)=n::ns:=by
  rw[<- nums_intItems,<- A];exact m.numsOf
 have hn:d.size=Mo ns+1:=by
  have:=ej Cf x
  simpa using this
 show cq _ _ (call (.builtin "max") [.ref l] [(et "default",.int i b.toks)]) _ _ {b with toks:=b.toks+1}
 refine yJ (xs:=d) (I.ok.hd D) (by rw[<- A];exact pl.isList) (by lia) λv W tk G kk=>?_
 obtain⟨t,rfl⟩:=intItems_at G;obtain⟨b1,b2⟩:=argBest_gt (numAt d)<|d.size-1;refine⟨.int<|mx n ns,H1,k.kept (t':=tk) kk,⟨t,?_⟩,q⟩;rw[Xc (a:=n) (l:=ns) (M:=numAt d<|rz (λi j=>decide<|numAt d i > numAt d j)<|d.size-1) ?_ λc C=>?_]
 .rw[<- x,numAt_eq];exact getD_mem (by rw[cz,f5];lia)
 .rw[<- x]at C
  obtain⟨j,R,rfl⟩:=mem_getD C;rw[cz,f5]at R;rw[<- numAt_eq];exact b2 j (by lia)
def KO(i:Int)(a:FE):FE:=λs=>(a s).bind λp=>match p.1 with
 |.lst ts=>(match wm ts with
  |some []=>.ok (.int i,p.2)
  |U<|n::ns=>.ok (.int<|mx n ns,p.2)
  |none=>.bad)
 |_=>.bad
def Rp(n:Gl X "max")(m:X.mg "max" = Y)(u:X.calm=O)(o:PE X a<|tE B F)(e:noStar a=O) :
  PE X (.Call (.Name "max" p) [a] [⟨U<|et "default",.Constant (.int i) k1 p1,kp⟩] pos)<|tE B<|KO i F:=by
 refine aR (KN n m u (aL o bP<|aq e)<|aq e) λw H Q z=>?_;obtain⟨g,s,t,C,x,h,k⟩:=z;obtain⟨⟨y,A⟩,f,h⟩:=ae h;dsimp only at h;split at h
 .split at h
  .rename_i d
   cases h;refine⟨g,s,_,_,x,f,λv g1 H1 p1 b c=>?_⟩;obtain⟨l,j,rfl,q,r⟩:=c;cases ints_rep d r;exact .inl ⟨l,J,dm.of<|b.sub _ _ q,k _ g1 H1 p1 b J⟩
  .rename_i d
   cases h;refine⟨g,s,_,_,x,f,λv g1 H1 p1 b c=>?_⟩;obtain⟨l,j,rfl,q,r⟩:=c;cases ints_rep d r;exact .inr ⟨l,_,_,J,dm.of<|b.sub _ _ q,k _ g1 H1 p1 b J⟩
  .cases h
 .cases h
end
def Rq:FR->FV
 |[.int i,.int j]=>U<|.int<|if j<i then j else i
 |_=>Y
def Xd:LN X Rq λxs H Q=>∃i j,xs=[.int i,.int j]/\Q (.int<|if j<i then j else i) H:=λB e al HF H xs t ts Q sm r h k=>by
 match ts,h with
 |[.int i,.int j],h=>
  cases h;obtain⟨v,d,rfl,b,r⟩:=r;obtain⟨w,c,rfl,a,r⟩:=r;cases r;cases b;cases a;exact⟨i,j,J,k _ HF H (.refl sm) J⟩
def KP(i:Nat):FS:=λs=>(aZ<|oQ s.r[i]?).bind λts=>(aZ<|gd (ts≠[]) ()).bind λ_=>.ok (.nx,jF s i<|.ol ts.dropLast)
def Dh(c:B1):T->FK
 |.str l=>match c with
  |[c]=>gd (Mo l<=100000)<|(a_ c l).map .str
  |_=>Y
 |_=>Y
def Xe(m:X.N[i]?=U y)(l:kI X.env.scope y)(hd:bA y)(p:fF y)(n:(L.endLine == M.line)=O) :
  PS X (.Expr (.Call (.Attribute (.Name y f) "pop" L) [] [] M) pos)<|tS B<|KP i:=by
 refine cM (jD (PD ix wq wk PK (cy m l hd p) (fW J) n) J) λD P H d=>?_;obtain⟨g,s,o,s',x,h,k⟩:=d;obtain⟨ts,r,h⟩:=ae h;obtain⟨_,q,h⟩:=ae h;obtain⟨z,_⟩:=bu<|ao q;cases h;have c:=iQ<|ao r;obtain⟨l0,a,q1,q2,b,q4⟩:=x.yE c;have hl:=q4.len;have t:0<Mo ts:=List.length_pos_iff.mpr z;obtain⟨e,j⟩:=x.chg c q1 (ts':=ts.dropLast) (vs':=a.dropLast) (by rw[M1,M1,hl];exact q4.take _)
 refine⟨_,q1,.inl ⟨J,_,dm.of b⟩,l0,a,a[Mo a-1]'(by lia),J,J,b,c5 _,k P g _ j e⟩
def Rr{c:Str}(G:PE X a<|tE B R)(E:bx a=O)(K:(L.endLine == M.line)=O):PE X (.Call (.Attribute a "split" L) [.Constant (.str c) k cp] [] M)<|tO B<|o1 (Dh c.cps.toList) R:=by
 refine aR (vj vk vi vh vQ G (aL EE bP J) (fW E) (sU J<|by decide) K J J) λP H Q z=>?_
 obtain⟨g,s,t,s',x,h,k⟩:=z;obtain⟨⟨j,w⟩,I,h⟩:=ae h;obtain⟨ts,b,h⟩:=ae h;cases h;have b:=ao b;refine⟨g,s,j,w,x,I,λv g1 H1 n f i=>?_⟩;obtain⟨⟨c⟩⟩:=c
 match j,c,b,i with
 |.str l,[d],b,i=>
 obtain⟨rfl,C⟩:=i;obtain⟨z,rfl⟩:=bu b;have r:=split_len ⟨l.toArray⟩ ⟨([d]:B1).toArray⟩;rw[fV]at r;refine⟨J,?_⟩;refine⟨_,_,J,J,J,by rw[fV,eJ];exact bG z<|by decide,by rw[eJ];exact bG r<|by lia,λq o=>?_⟩
 have e:(Txt.split ⟨l.toArray⟩ ⟨([d]:B1).toArray⟩).map V.str=(a_ d l).map λl=>SV l:=by
  rw[show(⟨([d]:B1).toArray⟩:Str)=⟨#[d]⟩from J,vU,gM];rfl
 rw[e];obtain⟨p,A,y⟩:=iM (u:=.lst<|(a_ d l).map λl=>SV l) f o;exact k q _ _ _ (n.trans<|f.gB p) (f.grow p) (n.there q o) A y ai<|l_ λm D=>by have:=iN d l m D;exact bG this C
end D
namespace D
open PySem L2 PyProof.Rows
def DM:Res α->Res α
 |.ok a=>.ok a
 |_=>.bad
def jH(F:FS):FS:=λs=>DM<|F s
def gX(c:FT):FT:=λs=>DM<|c s
def tQ{a:α}(h:DM x=.ok a):x=.ok a:=by cases x<;>first|exact h|cases h
def tR{x:Res α}(h:DM x=.exc c fs s):False:=by cases x<;>cases h
def k9{x:Res α}{f:α->Res b}(h:x.bind f=.exc c fs s):x=.exc c fs s\/∃a,x=.ok a/\f a=.exc c fs s:=by
 cases x with
 |ok a=>exact .inr ⟨a,J,h⟩
 |bad=>cases h
 |exc _ _ _=>cases h;exact .inl J
structure XN where
 C:bt
 f:Str
 g:Str
def XQ(N:XN)(E:XK)(fs:FR)(H:Hp):Prop:=∀i j d,fs=[.int i,.int j]->H d=U (XD d [(N.f,.int i),(N.g,.int j)])->E (.ref N.C) (U d) H
def tX(B:KT)(N:XN)(E:XK)(f:FS):TS:=λD e H=>∃g s,SR B g H e s/\((∃o a,f s=.ok (o,a)/\yD B g H D o a)\/(∃c fs a,f s=.exc c fs a/\∀d b,dB g H d b->d_ B d b a.m->XQ N E fs b))
def Je(B:KT)(N:XN)(f:Fn):Sp:=λh H Q E=>∃g ts m,d_ B g H m/\aC B g.al g.HF ts h/\((∃t e,f ts m=.ok (t,e)/\∀v a b,dB g H a b->d_ B a b e->Rep B a.al a.HF t v->Q v b)\/(∃c fs d,f ts m=.exc c fs d/\∀a b,dB g H a b->d_ B a b d.m->XQ N E fs b))
section
variable{N:XN}{rest:Ee}{st:gi}{x:Str}
def ė(h:PS X st<|tS B F):PS X st<|tX B N E<|jH F:=cM h λD b H z=>by
 obtain⟨g,s,x,z⟩:=z;rcases z with⟨o,a,h,k⟩|⟨c,fs,a,h,k⟩
 .exact⟨g,s,o,a,x,tQ h,k⟩
 .exact(tR h).elim
def Xf:gO X []<|tX B N E aG:=lX nI λD a H z=>by
 obtain⟨g,s,x,z⟩:=z;rcases z with⟨o,b,h,k⟩|⟨c,fs,b,h,k⟩
 .cases h
  exact k a g H .refl x
 .cases h
def Rt(m:PS X st<|tX B N E F)(l:gO X rest<|tX B N E v):gO X (st::rest)<|tX B N E<|ah F v:=lX (hU m l) λD q H z=>by
 obtain⟨g,s,x,z⟩:=z;rcases z with⟨o,b,h,k⟩|⟨c,fs,b,h,k⟩
 .obtain⟨⟨o1,a⟩,i,h⟩:=ae h
  refine⟨g,s,x,.inl ⟨o1,a,i,?_⟩⟩;cases o1 with
  |nx=>exact λd g1 H1 f e=>⟨g1,a,e,.inl ⟨o,b,h,k.mv f⟩⟩
  |rt t=>cases h;exact k
  |bk=>cases h;exact k
  |ct=>cases h;exact k
 .rcases k9 h with h|⟨⟨o1,a⟩,i,h⟩
  .exact⟨g,s,x,.inr ⟨c,fs,b,h,k⟩⟩
  .cases o1 with
   |nx=>exact⟨g,s,x,.inl ⟨.nx,a,i,λd g1 H1 f e=>⟨g1,a,e,.inr ⟨c,fs,b,h,λn p j=>k n p<|f.trans j⟩⟩⟩⟩
   |rt t=>cases h
   |bk=>cases h
   |ct=>cases h
def Ę(q:PT X c<|tT B ft)(t:gO X a<|tX B N E F)(r:gO X b<|tX B N E v):PS X (.If c a b pos)<|tX B N E<|aV (gX ft) F v:=cM (EI q t r) λD u H z=>by
 obtain⟨g,s,x,z⟩:=z;rcases z with⟨o,i,h,k⟩|⟨c,fs,i,h,k⟩
 .obtain⟨⟨d,e⟩,n,h⟩:=ae h
  refine⟨g,s,d,e,x,tQ n,λg1 H1 j f=>?_⟩;cases d with
  |true=>exact nh ⟨g1,e,f,.inl ⟨o,i,h,k.mv j⟩⟩
  |false=>exact oF ⟨g1,e,f,.inl ⟨o,i,h,k.mv j⟩⟩
 .rcases k9 h with h|⟨⟨d,e⟩,n,h⟩
  .exact(tR h).elim
  refine⟨g,s,d,e,x,tQ n,λg1 H1 j f=>?_⟩;cases d with
  |true=>exact nh ⟨g1,e,f,.inr ⟨c,fs,i,h,λm p l=>k m p<|j.trans l⟩⟩
  |false=>exact oF ⟨g1,e,f,.inr ⟨c,fs,i,h,λm p l=>k m p<|j.trans l⟩⟩
def KQ(n:Nat)(hc:PT X c<|tT B ft)(hb:gO X l<|tX B N E F)(hp:nX (cv X.prog X.w) X.A X.env X.xe):PS X (.While c l [] pos)<|tX B N E<|dQ n (gX ft) F:=by
 refine cM (u5 hp hc hb) λD σ H z=>?_;obtain⟨g,s,x,z⟩:=z;obtain⟨R,hR,fin⟩:∃R,aO (gX ft) F n s=R/\((∃o j,R=.ok (o,j)/\yD B g H D o j)\/(∃c fs j,R=.exc c fs j/\∀f i,dB g H f i->d_ B f i j.m->XQ N E fs i)):=⟨_,J,z⟩;clear z;refine⟨λm y W=>∃g2 s2,dB g H g2 W/\SR B g2 W y s2/\aO (gX ft) F m s2=R,⟨n,g,s,.refl,x,hR⟩,?_⟩
 rintro m y W ⟨g2,s2,p2,x2,e⟩
 cases m with
 |zero=>subst e;rcases fin with⟨_,_,h,_⟩|⟨_,_,_,h,_⟩<;>cases h
 |succ m=>
  have e:((gX ft s2).bind λp=>if p.1 then(F p.2).bind λq=>(match q.1 with
   |.nx=>aO (gX ft) F m q.2
   |.ct=>aO (gX ft) F m q.2
   |.bk=>.ok (.nx,q.2)
   |.rt t=>.ok (.rt t,q.2))else .ok (.nx,p.2))=R:=e
  cases S:ft s2 with
  |bad=>rw[gX,S]at e;subst e;rcases fin with⟨_,_,h,_⟩|⟨_,_,_,h,_⟩<;>cases h
  |exc _ _ _=>rw[gX,S]at e;subst e;rcases fin with⟨_,_,h,_⟩|⟨_,_,_,h,_⟩<;>cases h
  |ok q=>
  obtain⟨d,K⟩:=q;rw[gX,S]at e;refine⟨g2,s2,d,K,x2,S,λg3 H3 p3 T=>?_⟩;have GC:=p2.trans p3;cases d with
  |false=>
   have e:Res.ok (Out.nx,K)=R:=e;subst e;rcases fin with⟨o,j,h,k⟩|⟨_,_,_,h,_⟩
   .cases h
    exact oF<|k y g3 H3 GC T
   .cases h
  |true=>
   replace e:((F K).bind λq=>(match q.1 with
   |.nx=>aO (gX ft) F m q.2
   |.ct=>aO (gX ft) F m q.2
   |.bk=>.ok (.nx,q.2)
   |.rt t=>.ok (.rt t,q.2)))=R:=e
   refine nh ⟨λL i=>∃f Q,dB g H f i/\SR B f i L Q/\aO (gX ft) F m Q=R,by rintro L i ⟨f,Q,a,b,c⟩;exact⟨m,mT m,f,Q,a,b,c⟩,?_⟩
   cases M:F K with
   |bad=>rw[M]at e;subst e;rcases fin with⟨_,_,h,_⟩|⟨_,_,_,h,_⟩<;>cases h
   |exc c1 V G=>
    rw[M]at e;subst e;rcases fin with⟨_,_,h,_⟩|⟨_,_,_,h,k⟩
    .cases h
    .cases h
     exact⟨g3,K,T,.inr ⟨c1,V,G,M,λf i p'=>k f i<|GC.trans p'⟩⟩
   |ok q=>
    obtain⟨Z,G⟩:=q;rw[M]at e;refine⟨g3,K,T,.inl ⟨Z,G,M,?_⟩⟩;cases Z with
    |nx=>exact λu g5 P I C=>⟨g5,G,GC.trans I,C,e⟩
    |ct=>exact λu g5 P I C=>⟨g5,G,GC.trans I,C,e⟩
    |bk=>
     have e:Res.ok (Out.nx,G)=R:=e;subst e;rcases fin with⟨o,j,h,k⟩|⟨_,_,_,h,_⟩
     .cases h
      exact λu g5 P I C=>k u g5 P (GC.trans I) C
     .cases h
    |rt t=>
     have e:Res.ok (Out.rt t,G)=R:=e;subst e;rcases fin with⟨o,j,h,k⟩|⟨_,_,_,h,_⟩
     .cases h
      exact λv g5 P I C r=>k v g5 P (GC.trans I) C r
     .cases h
def Zq(fl:FL):FS:=λs=>(DM<|fl s).bind λp=>match p.1 with
 |[.int i,.int j]=>.exc 0 [.int i,.int j] p.2
 |_=>.bad
structure XMk(K:bq)(P:dn)(w:dv)(mg:Str->D1)(base:ey)(N:XN)(x:Str):Prop where
 ex:∃fI fd ps,JV K N.C fI=O/\Cb K (.ref fI)=O/\cT P w K mg base i8 1 fI fd ps (Vv N.C N.f N.g)/\Binds K fd ps []
 kp:lJ K (.ref N.C)=O
 at_:mg x=U (.ref N.C)
def x_raise(Z:NO X N.C E)(M:XMk X.K X.prog X.w X.mg X.base N x)(hr:bJ 2 X.A)(I:PA X (e::es)<|tA B fl)(G:Gl X x)(F:bA x)(b:(e::es).all noStar=O) :
  PS X (.Raise (U<|.Call (.Name x np) (e::es) [] bZ) Y pos)<|tX B N E<|Zq fl:=by
 obtain⟨Q,fd,ps,m1,m2,m3,m4⟩:=M.ex;rw[e7,cL]at b;refine cM (CY Z m1 M.kp m2 m3 m4 hr M.at_ I G F (aq b.1)<|dq b.2) λD L H z=>?_;obtain⟨g,s,x,z⟩:=z;rcases z with⟨o,t,h,k⟩|⟨c,fs,t,h,k⟩
 .obtain⟨⟨ts,r⟩,n,h⟩:=ae h
  dsimp only at h;split at h<;>cases h
 .rcases k9 h with h|⟨⟨ts,r⟩,n,h⟩
  .exact(tR h).elim
  dsimp only at h;split at h
  .rename_i i j
   cases h;refine⟨g,s,_,_,x,tQ n,λP g1 H1 y a l=>?_⟩;obtain⟨q,l,rfl,q1,p,u,rfl,q2,v⟩:=l;cases(show q=.int i from q1);cases(show p=.int j from q2);cases(show u=[]from v);refine⟨_,_,J,λd hd=>?_⟩;have m:=Gr.iM (o:=XD d [(N.f,V.int i),(N.g,V.int j)]) a.sub hd;exact k _ _ (y.trans<|a.gB m) (a.grow m).st i j d J ai
  .cases h
end
section
variable{K:bq}
def KR{st:gi}(Fn:v_ K x qual st f fd)(R:fR b ps<|az st)
  (e:∀(d:bj)(A:ek)(outer:List Env)(s:av)(H:Hp)(E:XK),bJ k (A.deeper<|EB qual (az st) s.heap.objs.size f d)->NO (i7 (An P w N.C) P w K mg base b qual (az st) f d A outer s H E) N.C E ->
   gO (i7 (An P w N.C) P w K mg base b qual (az st) f d A outer s H E) (b8 st) (tX B N E F)) :
  cT P w K mg base (An P w N.C) (k+1) f fd ps<|Je B N<|aI ps.length b.length F:=by
 have exc:∀{ts:FR}{m:FX}{c:Nat}{fs:FR}{a:S},aI ps.length b.length F ts m=.exc c fs a->Mo ts=Mo ps/\F ⟨ts.map (λt=>U<|.val t)++bL (Mo b-Mo ts) Y,m⟩=.exc c fs a:=λ{ts m c fs a} h=>by
  unfold aI at h;split at h
  .rename_i hl
   refine⟨hl,?_⟩;rcases k9 h with h|⟨⟨o,T⟩,l,h⟩
   .exact h
   .cases o<;>cases h
  .cases h
 obtain⟨X,od,Z,kV,M,W,an,d,ct,V,rfl,G,L⟩:=Fn.ex;refine NC G L R (λu H Q E h=>?_) λA outer s H u Q E hr h=>?_
 .obtain⟨g,ts,m,x,r,h⟩:=h
  rw[<- r.len];rcases h with⟨t,D,h,_⟩|⟨c,fs,a,h,_⟩
  .exact(nO h).1
  .exact(exc h).1
 .obtain⟨g,ts,m,x,r,h⟩:=h
  refine⟨_,e d A outer s H E hr ⟨λ_ _ h=>h,J,J,J,J⟩,g,⟨ts.map (λt=>U<|.val t)++bL (Mo b-Mo ts) Y,m⟩,⟨x,rq r⟩,?_⟩;rcases h with⟨t,D,h,q⟩|⟨c,fs,a,h,q⟩
  .obtain⟨_,o,a,l,rfl,I⟩:=nO h
   refine .inl ⟨o,a,l,?_⟩;rcases I with rfl|⟨rfl,rfl⟩
   .exact λv i j p y z=>q v i j p y z
   .exact λn i j p y=>q _ i j p y.st J
  .exact .inr ⟨c,fs,a,(exc h).2,q⟩
def Ru(F:cT P w K mg base (An P w N.C) k f fd ps<|Je B N fn):cT P w K mg base i8 k f fd ps<|qo B fn:=by
 have a:∀{b H Q E},qo B fn b H Q E->Je B N fn b H Q λ_ _ _=>False:=by
  rintro _ _ _ _ ⟨g,ts,m,t,l,x,r,h,q⟩;exact⟨g,ts,m,x,r,.inl ⟨t,l,h,q⟩⟩
 refine⟨λb H Q E h=>F.len b H Q _<|a h,λA outer s H c i b Q E hr p n j h=>gg (F.run A outer s H c i b Q _ hr p n j<|a h) λr u d=>?_⟩;cases r with
 |ok o=>cases o<;>exact d
 |error e=>
  obtain⟨_,_,_,_,_,_,_,_,_,_,z⟩:=d;exact z.elim
end
structure Xg(P:Pg)(Pr:dn)(w:dv)(K:bq)(mg:Str->D1)(base:ey)(N:XN)(k:Nat)(c:Nat)(m:Str)(f:Fn):Prop where
 ex:∃(Ca fa:bt)(fd:eh)(ps:Bi)(ns:Bi),ig (iP P K Pr w) c Ca ns/\qk K Ca/\Meth K Ca m fa/\cT Pr w K mg base (An Pr w N.C) k fa fd ps (Je (iP P K Pr w) N f)/\Binds K fd ps []/\m∉ns
def Ud(c:Nat)(m:FX):T->Option Unit
 |.own k=>(m[k]?).bind λob=>if ob.c=c then U ()else Y
 |_=>Y
def KS(h:Ud c m t=U u):∃k ob,t=.own k/\m[k]?=U ob/\ob.c=c:=by
 cases t<;>try(cases h;done)
 obtain⟨ob,b,a⟩:=bM.mp<|show(m[_]?).bind _=U u from h;split at a
 .rename_i e;exact⟨_,ob,J,b,e⟩
 .cases a
def jX(c:Nat)(g:Fn)(o:FE)(fl:FL):FS:=λs=>(DM<|o s).bind λp=>(DM<|aZ<|Ud c p.2.m p.1).bind λ_=>(DM<|fl p.2).bind λr=>match g (p.1::r.1) r.2.m with
 |.ok q=>.ok (.nx,{r.2 with m:=q.2})
 |.exc c fs a=>.exc c fs {r.2 with m:=a.m}
 |.bad=>.bad
section
variable{P:Pg}{ta:TA}
def yK(h:jX c f fo fl s=R)(g:R≠.bad):∃e s1 ts s2,fo s=.ok (e,s1)/\(∃kk ob,e=.own kk/\s1.m[kk]?=U ob/\ob.c=c)/\fl s1=.ok (ts,s2)/\((∃t m',f (e::ts) s2.m=.ok (t,m')/\R=.ok (.nx,{s2 with m:=m'}))\/∃c fs i,f (e::ts) s2.m=.exc c fs i/\R=.exc c fs {s2 with m:=i.m}):=by
 unfold jX at h;cases l:fo s with
 |bad=>rw[l]at h;exact ef h.symm g
 |exc _ _ _=>rw[l]at h;exact ef h.symm g
 |ok p=>
  rw[l]at h;obtain⟨e,s1⟩:=p
  replace h:((DM<|aZ<|Ud c s1.m e).bind λ_=>_)=R:=h
  cases k:Ud c s1.m e with
  |none=>rw[k]at h;exact ef h.symm g
  |some u=>
   rw[k]at h
   replace h:((DM<|fl s1).bind λr=>_)=R:=h
   cases j:fl s1 with
   |bad=>rw[j]at h;exact ef h.symm g
   |exc _ _ _=>rw[j]at h;exact ef h.symm g
   |ok r=>
    rw[j]at h;obtain⟨ts,s2⟩:=r;refine⟨e,s1,ts,s2,J,KS k,j,?_⟩
    replace h:(match f (e::ts) s2.m with|.ok q=>Res.ok (Out.nx,{s2 with m:=q.2})|.exc c fs i=>.exc c fs {s2 with m:=i.m}|.bad=>.bad)=R:=h
    cases e4:f (e::ts) s2.m with
    |bad=>rw[e4]at h;exact ef h.symm g
    |ok q=>rw[e4]at h;exact .inl ⟨q.1,q.2,J,h.symm⟩
    |exc a b d=>rw[e4]at h;exact .inr ⟨a,b,d,J,h.symm⟩
def A3{F:bt}(Z:ig (P.kt X) c F ns)(T:m∉ns)(S:∀b H Q,tA (P.kt X) fl b H Q->ta b H Q)(z:tX (P.kt X) N E (jX c f fo fl) D b H) :
  u_ F m (Je (P.kt X) N f) [] E (tE (P.kt X) fo) ta b H λ_ r=>D.nx b r:=by
 obtain⟨g,s,x,z⟩:=z;obtain⟨R,p⟩:∃R,jX c f fo fl s=R:=⟨_,J⟩;have M:R≠.bad:=by rcases z with⟨_,_,h,_⟩|⟨_,_,_,h,_⟩<;>(rw[<- p,h];exact λz=>by cases z)
 obtain⟨w,y,ts,s2,h1,G,h3,d⟩:=yK p M;refine⟨g,s,w,y,x,h1,λv g1 H1 B u A=>?_⟩;obtain⟨a,dx,vs,rfl,W⟩:=pe u Z A<|.inl G;refine⟨a,dx,_,J,W,ir T,S _ _ _ ⟨g1,y,ts,s2,u,h3,λC g2 r e k K=>?_⟩⟩;show Je (P.kt X) N f (V.ref a::(C++[])) r _ E;rw[bF];refine⟨g2.aj,w::ts,s2.m,k.st.aj,⟨_,C,J,A.mv e.pre e.fr,K⟩,?_⟩;rw[p]at z;rcases d with⟨t,L,d,rfl⟩|⟨c',fs,I,d,rfl⟩
 .rcases z with⟨o,I,h,kk⟩|⟨_,_,_,h,_⟩
  .cases h
   refine .inl ⟨t,L,d,λv3 g3 q n i _=>?_⟩;obtain⟨l,j⟩:=k.back n i;exact kk b _ q ((B.trans e).trans l) j
  .cases h
 .rcases z with⟨_,_,h,_⟩|⟨_,_,_,h,kk⟩
  .cases h
  .cases h
   refine .inr ⟨_,_,_,d,λg3 q n i=>?_⟩;obtain⟨l,j⟩:=k.back n i;exact kk _ q ((B.trans e).trans l) j.st
def x_call(g:Passes (An X.prog X.w N.C) X E)(D:Xg P X.prog X.w X.K X.mg X.base N k c m f)(hr:bJ j X.A)(d:k<=j)(h:PE X o<|tE (P.kt X) fo)(n:PA X (e::es)<|tA (P.kt X) fl)(b:(e::es).all noStar=O)(a:o_ X o m B (e::es) F) :
  PS X (.Expr (.Call (.Attribute o m B) (e::es) [] F) pos)<|tX (P.kt X) N E<|jX c f fo fl:=by
 obtain⟨pl,a⟩:=a;obtain⟨v,t,fd,ps,ns,p,cl,M,r,l,i⟩:=D.ex;rw[e7,cL]at b;exact cM (jD (Ag (pl:=pl) h cl M r (hr.mono d) l .nil g n (aq b.1) (dq b.2) a) J) λu s H z=>A3 p i (λ_ _ _ q=>q) z
def KU(e:Passes (An X.prog X.w N.C) X E)(D:Xg P X.prog X.w X.K X.mg X.base N k c m f)(hr:bJ j X.A)(d:k<=j)(i:PE X o<|tE (P.kt X) fo)(a:o_ X o m B [] F) :
  PS X (.Expr (.Call (.Attribute o m B) [] [] F) pos)<|tX (P.kt X) N E<|jX c f fo aY:=by
 obtain⟨pl,a⟩:=a;obtain⟨y,u,fd,ps,ns,p,cl,M,r,n,l⟩:=D.ex;refine cM (jD (vc (pl:=pl) i cl M r (hr.mono d) n .nil e a) J) λv b H z=>A3 p l (λb H Q q=>?_) z;obtain⟨g,s,ts,t,x,h,q⟩:=q;cases h;exact q [] g H .refl x J
end
end D
namespace L2
open PySem PySem.W PyProof.Rows PySem.Calls PySem.Builtin PySem.Builtin.ObjectAttr PySem.Builtin.Getset_descriptor
section
variable{K:C9}{C a:bt}{A:ek}
def GU(X:K.In h)(c:pf K (.ref C) name=U (U f))(b:specialIn K f "__get__" = U (U g))(a:takesIn K f=U O) :
  sx M h (Jn (.ref x) (.ref C) name)<|.bind g f:=
 (kS X c).andThen<|(looks_specialIn X b).andThen<|(show sx M h (JB (U f)<|U g) (U (g,f))from(looks_takesIn (M:=M) X a).andThen .now).andThen<|Looks.tag .now
def GW(X:K.In s.heap)(he:s.heap.get? x=U p)(c:p.cls=.ref C)(a:mroIn K C (.type "object")=U O)
  (h:R (.ok<|.ret<|.ref C) s):hW (cv prog w) A (.call (.builtin "getset_descriptor.__get__") ⟨[.builtin Md,.ref x,tp],[]⟩) R s:=by
 obtain⟨b,g,dr,t,os⟩:=s;have d:sx (cv prog w) b (sG<|.ref x)<|.ref C:=c▸(o7 he).andThen .now;have L1:=rb (M:=cv prog w) X a;refine fu KF.slot_gs.plain KF.entry_gs<|KF.slot_gs.check _ _ _ _ _ _ _ _ KF.type_class (KF.args_gs _ _ _) ?_;unfold Builtin.«getset_descriptor.__get__» descrGet;rw[dga_obj];refine ar<|dk ?_;unfold descrGetter descrCheckInstance descrNameAndClass pd;simp only[KF.owner_class]
 repeat lk
 refine⟨mN _<|by decide +kernel,mZ KF.entry_class ?_⟩
 unfold Builtin.«object.__class__» shownTypeOf
 repeat lk
 exact h
structure wo(K:C9)(C:bt):Prop where
 ga:pf K (.ref C) "__getattribute__" = U (U<|.builtin L9)
 gn:pf K (.ref C) "__getattr__" = U Y
 cl:pf K (.ref C) "__class__" = U (U<|.builtin Md)
 gt:specialIn K (.builtin Md) "__get__" = U (U<|.builtin "getset_descriptor.__get__")
 tk:takesIn K (.builtin Md)=U O
 mb:mroIn K C (.type "BaseException")=U O
 mo:mroIn K C (.type "object")=U O
def Di(Z:wo K C)(X:K.In s.heap)(he:s.heap.get? a=U p)(i:p.cls=.ref C)(e:Q () s) :
  cq M A (i4 L9 ⟨[.ref a,b],[]⟩) Q E s:=by
 obtain⟨h,g,d,t,os⟩:=s;have L0:sx M h (sG<|.ref a)<|.ref C:=i▸(o7 he).andThen .now;have L4:=rb (M:=M) X Z.mb;have f:builtinKind L9 = U .slot:=by decide +kernel
 have c:splitId L9 = U ("BaseException","__getattribute__"):=by decide +kernel
 have j:=F.args_bexc_ga (.ref a) b;simp only[i4,f,c];apply ar;unfold pd;refine ar<|L0.at<|L4.at ?_
 repeat (first|wp_step)
 exact e
def Rv(Z:wo K C)(X:K.In s.heap)(he:s.heap.get? a=U p)(b:p.cls=.ref C)(h:Q (U<|.ref C) {s with toks:=s.toks+1}) :
  cq (cv prog w) A (getAttr? (.ref a) "__class__") Q E s:=by
 obtain⟨c,g,d,t,os⟩:=s;have L0:sx (cv prog w) c (sG<|.ref a)<|.ref C:=b▸(o7 he).andThen .now;have L1:=kS (M:=cv prog w) X Z.ga;have L2:=kS (M:=cv prog w) X Z.gn;have k:=GU (M:=cv prog w) (x:=a) X Z.cl Z.gt Z.tk;have j:=rb (M:=cv prog w) X Z.mb;have e:=F.excAttr_ValueError.ga.bind<|.ref a;have i:builtinKind L9 = U .slot:=by decide +kernel
 have f:splitId L9 = U ("BaseException","__getattribute__"):=by decide +kernel
 have ß:(gV L9 == gV "object.__getattribute__")=Zc:=by decide +kernel
 have à:(onTheHeap (Value.ref C)&&gV L9 == gV "object.__getattribute__")=Zc:=by rw[ß];rfl
 unfold getAttr? getAttrBy? getAttrBy;refine ar<|wpAny_mkText<|ar<|Cz<|gE<|ar<|L0.at<|ar<|L1.at ?_;dsimp only;rw[à,bp<|by decide]
 unfold getAttrByItsOwn;apply ar;show cq _ _ (o8 (.ref C) "__getattr__") _ _ _;refine L2.at ?_;refine ar<|Cz<|gE ?_;show cq _ _ (rd _ _ _) _ _ _;unfold rd;rw[e];refine ar<|dk ?_;refine f7<|fu F.excAttr_ValueError.ga.plain F.entry_bexc_ga ?_;refine Di Z X he b ?_;unfold «object.__getattribute__»
 repeat ((fail_if_success (with_reducible show cq _ _ (PySem.call _ _ _) _ _ _));lk)
 refine f7<|GW X he b Z.mo ?_
 repeat lk
 exact h
end
section
variable{K:C9}
def A4(Z:wo K C):∃a,clsIn K C=U a:=by
 have h:=Z.mo;unfold mroIn at h;obtain⟨a,e,_⟩:=bM.mp h;exact⟨a,e⟩
def GX(Z:wo K C)(g:v.cls=.ref C):KitX K (.ref a) (.ref C) λh=>h.get? a=U v where
 ty:=λ_ _ _ e=>g▸(o7 e).andThen .now
 it:=λ_ _ X _=>by
  obtain⟨d,b⟩:=A4 Z;unfold clsIn at b;split at b
  .rename_i m l f o c
   intro u s t p k q;unfold isType loadHead;exact ar<|qB (k _ _<|X _ _ c)<|dk q
  .cases b
 ne:=λh i r j n sl X Č=>by
  obtain⟨d,b⟩:=A4 Z;refine Eu.mpr λq=>?_;have e:C=i:=Value.ref.inj<|beq_iff_eq.mp q;subst e;unfold clsIn at b;split at b
  .rename_i m l f o c
   have z:=(X _ _ c).symm.trans Č;cases z
  .cases b
 ca:=λX e k=>Rv Z X e g k
end
end L2
namespace D
open PySem L2 PySem.W PyProof.Rows
def tEi(i:Nat)(a:bt)(d:Obj)(b:Bool):TE:=λc H Q=>c[i]?=U (U<|.ref a)/\H a=U (EX a d)/\Q (.bl b) H
def Rw(i:Nat)(a:bt)(c:Obj)(bs:Fh):TA:=λb H Q=>b[i]?=U (U<|.ref a)/\H a=U (EX a c)/\Q (bs.map V.bl) H
def XiF(K:C9)(mg:Str->D1)(C:bt)(y:Str)(b:Bool):Prop:=bA y/\((∃D,mg y=U (.ref D)/\kitOne K (.ref C) (.ref D)=U b)\/∃T,mg y=Y/\hM y=U (.type T)/\y ≠ "__name__" /\ kitOne K (.ref C) (.type T)=U b)
section
variable{a C:bt}{W:Obj}{i j:Nat}
def GY(Z:wo X.K C)(h:W.cls=.ref C):fJ X (.builtin "isinstance") λvs H Q=>∃c u b,vs=[.ref a,c]/\(∀d,RelV c d->d=u)/\H a=U (EX a W)/\kitOne X.K (.ref C) u=U b/\Q (.bl b) H:=by
 rintro l s j H vs k Q I r ⟨c,u,b,rfl,g,i,č,q⟩
 cases r with
 |cons f r=>
  cases r with
  |cons e r=>
   cases r;cases(show _=Value.ref a from f);cases g _ e;exact kia_one (GX Z h) I.iE (EX.at_<|I.bC a _ i) č (λz=>nomatch z) λtk=>⟨.bl b,H,I.tok tk,J,q⟩
def Rx(Z:wo X.K C)(k:W.cls=.ref C)(F:XiF X.K X.mg C y b)(r:X.mg "isinstance" = Y)(l:X.N[i]?=U n)(h:kI X.env.scope n)(hd:bA n)(m:fF n)(j:Gl X "isinstance")(q:Gl X y) :
  PE X (.Call (.Name "isinstance" p) [.Name n pn,.Name y B] [] pos)<|tEi i a W b:=by
 obtain⟨o,⟨D,g,f⟩|⟨T,g,f,u,t⟩⟩:=F
 .exact aR (gh (GY Z k) j r uZ (aL (cy l h hd m) (aL (nH (v:=.ref D) q g J o) bP J) J) (he:=J) (hpl:=J)) λs H Q ⟨e,d,c⟩=>⟨.ref a,e,_,.ref D,b,J,λ_ z=>z,d,f,c⟩
 .exact aR (gh (GY Z k) j r uZ (aL (cy l h hd m) (aL (Ac q g f (v:=.ty T) J u o) bP J) J) (he:=J) (hpl:=J)) λs H Q ⟨e,d,c⟩=>⟨.ref a,e,_,.type T,b,J,λ_ z=>z,d,t,c⟩
def Ry:PA X []<|Rw i a W []:=AB bP λ_ _ _ h=>h.2.2
def KW(h:PE X e<|tEi i a W b)(hr:PA X es<|Rw i a W bs)(f:dy (e::es) X.env=(Zc,eR e X.env)::dy es X.env):PA X (e::es)<|Rw i a W<|b::bs:=
 AB (aL h hr f) λ_ _ _ ⟨d,c,g⟩=>⟨d,c,d,c,g⟩
def tKi(i j:Nat)(a:bt)(W:Obj)(bs:Fh):TS:=λE b H=>b[i]?=U (U<|.ref a)/\H a=U (EX a W)/\j<Mo b/\j≠i/\∀l H1,(∀HF,aM HF H->Gr HF H HF H1)->H l=Y->H1 l=U (.lst<|bs.map V.bl)->E.rt (.ref l) H1
def Rz{L K I G q1 q2 F q4 q5 D C B:Pos}(r:X.N.Nodup)(g:X.N[j]?=U x)(m:Loc X.env.scope x)(S:PA X á<|Rw i a W b1)(R:PA X t<|Rw i a W b2)(Q:PA X u<|Rw i a W b3)(P:Mo b1+Mo b2+Mo b3<=1000)
  (n:kI X.env.scope x) (hd:bA x) (s:fF x) (p:Kx X x) :
  gO X [.Assign [.Name x L] (.List á q1) D,.Assign [.Name x K] (.BinOp (.Name x I) .Add (.List t q2) F) C,.Return (U<|.BinOp (.Name x G) .Add (.List u q4) q5) B]<|tKi i j a W<|b1++b2++b3:=by
 refine lX (hU (j5 r g m (oz S) J p)<|hU (j5 r g m (kL yk (cy g n hd s)<|oz R) J p)<|jC<|EH<|kL yk (cy g n hd s)<|oz Q) ?_;intro E h H ⟨q,c,y,w,k⟩;have M:1000<=cC:=by decide
 have A:∀v,(h.set j v)[i]?=U (U<|.ref a):=λv=>by rw[cW w];exact q
 refine⟨q,c,by rw[cz];lia,λl1 f=>?_⟩
 have a1:a≠l1:=λz=>by rw[<- z,c]at f;cases f
 refine⟨.ref l1,dG y,A _,by rw[ak a1];exact c,by rw[cz];lia,λl2 b=>?_⟩
 have ę:l1≠l2:=by rintro rfl;rw[ai]at b;cases b
 have a2:a≠l2:=λz=>by rw[<- z,ak a1,c]at b;cases b
 refine⟨l1,l2,_,_,J,J,by rw[ak ę];exact ai,ai,by rw[cz,cz];lia,λl3 e=>?_⟩
 have a3:a≠l3:=λz=>by rw[<- z,ak a2,ak a1,c]at e;cases e
 have Ě:j<(h.set j<|U<|V.ref l1).length:=by rw[eT];exact y
 refine⟨.ref l3,dG Ě,?_,by rw[ak a3,ak a2,ak a1];exact c,by rw[cz];lia,λl4 d=>?_⟩
 .rw[cW w];exact A _
 have ě:l3≠l4:=by rintro rfl;rw[ai]at d;cases d
 refine⟨l3,l4,_,_,J,J,by rw[ak ě];exact ai,ai,by rw[cQ,cz,cz,cz];exact bG P<|by decide,λl5 l=>?_⟩
 refine k l5 _ (λHF sm=>?_) ?_ (by rw[ai,eF,eF])
 .have g1:=Gr.iM (o:=.lst<|b1.map V.bl) sm f
  have g2:=g1.trans<|Gr.iM (o:=.lst<|b2.map V.bl) g1.sub b;have g3:=g2.trans<|Gr.iM (o:=.lst<|b1.map V.bl++b2.map V.bl) g2.sub e;have g4:=g3.trans<|Gr.iM (o:=.lst<|b3.map V.bl) g3.sub d;exact g4.trans<|Gr.iM (o:=.lst<|b1.map V.bl++b2.map V.bl++b3.map V.bl) g4.sub l
 .exact((aT f).trans<|(aT b).trans<|(aT e).trans<|aT d).free l
def Om(Z:lV X.K C)(nf:bB X.K C f)(y:W.cls=.ref C)(l:W.data=.fields g)(t:W.dict=U d)(hl:fs.lookup f=U v)(z:X.N[i]?=U n)(m:kI X.env.scope n)(hd:bA n)(E:fF n) :
  PE X (.Attribute (.Name n pn) f pos) λb H Q=>b[i]?=U (U<|.ref a)/\H a=U (EX a W)/\H d=U (XD d fs)/\Q v H:=by
 intro G s b H Q I ⟨D,B,A,q⟩;refine Af J<|cA (cy z m hd E G s b H (λx H1=>x=.ref a/\H1=H) I ⟨.ref a,D,J,J⟩) λu h e=>?_;obtain⟨x,H1,I1,j,ex,F⟩:=e;subst ex F
 obtain rfl:u=Value.ref a:=j
 obtain⟨⟨k,ns,_,r⟩,_⟩:=(show cj X.prog X.w H1 h.heap d (XD d fs)from I1.bC d _ A);obtain⟨u,p,c⟩:=g_.some_of (v:=v) (o:=k f) (by rw[<- hl];exact r f)
 exact Þ I1.iE Z nf (EX.at_<|I1.bC a _ B) y l t ns p (qP c) ⟨v,H1,I1.tok _,c,q⟩
end
end D
namespace D
open PySem L2 PyProof.Rows
section
variable{P:Pg}{X:Cx}{N:XN}{k j c i:Nat}{m y n:Str}{f:Fn}{o e cnd:cw}{p pos bQ bZ kN np Ĝ:Pos}{st Jc Nz:gi}{F F1 F2:FS}
def Ue(P:Pg)(X:Cx)(N:XN)(h:dD)(b:L2.St)(g:G)(H:Hp)(fs:FR)(s':S)(k:Kk):Prop:=∀a t d i j c sa H1 g1 e sh,Inv X h b c sa->sh.os=sa.os->lb sh.gens->Lies X.prog X.w X.stack c sa H1 e sh.heap->kQ e X.stack a (.ref N.C) (.ref t) (U d) sh.heap->dB g H g1 H1->SR (P.kt X) g1 H1 b s'->fs=[.int i,.int j]->H1 d=U (XD d [(N.f,.int i),(N.g,.int j)])->k (.ref a) sh
def wu(P:Pg)(X:Cx)(N:XN)(st:gi)(f:FS):Prop:=∀(e:dD)(s:av)(a:L2.St)(H:Hp)(Q:Flow->av->Prop)(j:Kk)(g:G)(d:S),Inv X e a H s->SR (P.kt X) g H a d ->
 ((∃b,f d=.ok (.nx,b)/\∀sh i h,Inv X e a h sh->dB g H i h->SR (P.kt X) i h a b->Q .next sh)\/(∃c fs b,f d=.exc c fs b/\Ue P X N e a g H fs b j)) ->
 L6 X (exec st X.env) Q j s
def Ue.mv{c:dD}{e:Kk}(q:Ue P X N c b g H fs s' e)(p:dB g H g1 H1):Ue P X N c b g1 H1 fs s' e:=
 λa t d i j m sa H1 g1 n sh I h l L F f x k hd=>q a t d i j m sa H1 g1 n sh I h l L F (p.trans f) x k hd
def Oo{y:L2.St}{Q:Kk}{n:S}
  (FF:cT X.prog X.w X.K X.mg X.base (An X.prog X.w N.C) k Z fd ps<|Je (P.kt X) N f) (hr:bJ k X.A) (hb:Binds X.K fd ps []) (I:Inv X aa y H s) (x:SR (P.kt X) g H y n) (rv:Vals vs us) (r:aC (P.kt X) g.al g.HF ts vs)
  (M:(∃t m',f ts n.m=.ok (t,m')/\∀v sh g' H',Inv X aa y H' sh->dB g H g' H'->SR (P.kt X) g' H' y {n with m:=m'}->Q v sh)\/(∃c fs o,f ts n.m=.exc c fs o/\Ue P X N aa y g H fs {n with m:=o.m} Ex)) :
  L6 X (call (.ref Z) us) Q Ex s:=by
 have run:∀(D:VK)(E:XK),Je (P.kt X) N f vs H D E->hW (cv X.prog X.w) X.A (.call (.ref Z) ⟨us,[]⟩) (CR (An X.prog X.w N.C) X.stack X.prog X.w H s D E) s:=λD E sp=>by
  have hl:us.length=ps.length:=by rw[<- rv.length];exact FF.len _ _ _ _ sp
  have CZ:=hb s us I.iE (by rw[bF];exact hl)
  rw[bF]at CZ;exact FF.run X.A X.stack s H ⟨us,[]⟩ us vs D E hr I.ES CZ rv sp
 rcases M with⟨t,m',W,q⟩|⟨c,fs,o,W,q⟩
 .refine f7<|gg (run (λ_ h=>∃g2,dB g.aj H g2 h/\d_ (P.kt X) g2 h m') (λ_ _ _=>False) ⟨g.aj,ts,n.m,x.st.aj,r,.inl ⟨t,m',W,λv g' H' p l _=>⟨g',p,l⟩⟩⟩) λr o b=>?_
  cases r with
  |error e=>
   obtain⟨_,_,_,_,_,_,_,_,_,_,z⟩:=b;exact z.elim
  |ok fo=>
   cases fo with
   |ret u=>
    obtain⟨v,h,I2,_,g2,p,l⟩:=I.after b;obtain⟨R,F⟩:=x.back p l;exact q u o _ h I2 R F
   |next=>exact eI b
   |brk=>exact eI b
   |cont=>exact eI b
 .refine f7<|gg (run (λ_ _=>False) (λ_ d h=>∃g2 i j B,d=U B/\fs=[.int i,.int j]/\h B=U (XD B [(N.f,.int i),(N.g,.int j)])/\dB g.aj H g2 h/\d_ (P.kt X) g2 h o.m) ⟨g.aj,ts,n.m,x.st.aj,r,.inr ⟨c,fs,o,W,λg' H' p l i j d T hd=>⟨g',i,j,d,J,T,hd,p,l⟩⟩⟩) λr s2 b=>?_
  cases r with
  |error e=>
   obtain⟨a,t,d,h,Bh,rfl,ho,A5,L,Fl,g2,i,j,B,ed,T,hd,p,l⟩:=b;cases ed;obtain⟨R,F⟩:=x.back p l;exact q a t d i j H s h _ Bh s2 I ho A5 L Fl R F T hd
  |ok fo=>
   cases fo with
   |ret u=>
    obtain⟨v,h,I2,_,z⟩:=I.after b;exact z.elim
   |next=>exact eI b
   |brk=>exact eI b
   |cont=>exact eI b
def RB(Kw:X.xe=λ_ _=>False)(D:Xg P X.prog X.w X.K X.mg X.base N k c m f)(hr:bJ j X.A)(qF:k<=j)(ho:PE X o<|tE (P.kt X) fo)(ha:PA X (e::es)<|tA (P.kt X) fl)(Z:(e::es).all noStar=O)(W:o_ X o m bQ (e::es) bZ) :
  wu P X N (.Expr (.Call (.Attribute o m bQ) (e::es) [] bZ) pos)<|jX c f fo fl:=by
 intro aa s p H Q Ex g ss I x d;obtain⟨pl,W⟩:=W;obtain⟨Ca,fa,fd,ps,ns,hC,cl,M,FF,hb,hn⟩:=D.ex;rw[e7,cL]at Z;obtain⟨R,l⟩:∃R,jX c f fo fl ss=R:=⟨_,J⟩;have jV:R≠.bad:=by
  rcases d with⟨y,h,_⟩|⟨_,_,y,h,_⟩<;>(rw[<- l,h];exact λz=>by cases z)
 obtain⟨L,S,ts,s2,h1,sE,h3,n⟩:=yK l jV;have el:∀{Q':Prop}{a b},X.xe a b->Q':=λz=>by rw[Kw]at z;exact z.elim
 refine z4 (zx (pl:=pl) (eC (ho aa s p H (λv H1=>∃g1,dB g H g1 H1/\SR (P.kt X) g1 H1 p S/\Rep (P.kt X) g1.al g1.HF L v) I ⟨g,ss,L,S,x,h1,λv g1 H1 C r B=>⟨g1,C,r,B⟩⟩) (λu sh F=>?_) λ_ _ z=>el z) W) I.quiet J;obtain⟨v,H1,I1,rv,g1,C,r,B⟩:=F;obtain⟨a,dx,vs0,rfl,hi⟩:=pe r hC B<|.inl sE
 obtain rfl:u=Value.ref a:=rv
 refine iJ I1 hi cl M (ir hn) ?_;refine DW (first:=[.ref a]) (h₀:=X.base) I.ok.mod.kin M.kp (eC (ha bZ aa sh p H1 (λvs E=>∃g2,dB g1 H1 g2 E/\SR (P.kt X) g2 E p s2/\aC (P.kt X) g2.al g2.HF ts vs) I1 ⟨g1,S,ts,s2,r,h3,λvs g2 E i G V=>⟨g2,i,G,V⟩⟩) (λus s3 F=>?_) λ_ _ z=>el z) (aq Z.1)<|dq Z.2
 obtain⟨vs,E,I2,T,g2,i,G,V⟩:=F;refine⟨I2.iE,?_⟩;refine Oo (us:=.ref a::us) (vs:=.ref a::vs) (ts:=L::ts) FF (hr.mono qF) hb I2 G (.cons J T) ⟨_,vs,J,B.mv i.pre i.fr,V⟩ ?_;rcases n with⟨t,m',n,rfl⟩|⟨c',fs,y,n,rfl⟩
 .rcases d with⟨y,h,q⟩|⟨_,_,y,h,_⟩
  .rw[l]at h
   cases h;exact .inl ⟨t,m',n,λv sh g' H' I' p' x'=>q sh g' H' I' ((C.trans i).trans p') x'⟩
  .rw[l]at h;cases h
 .rcases d with⟨CF,h,_⟩|⟨_,_,CF,h,q⟩
  .rw[l]at h;cases h
  .rw[l]at h
   cases h;exact .inr ⟨_,_,_,n,q.mv<|C.trans i⟩
def KY(Kw:X.xe=λ_ _=>False)(D:Xg P X.prog X.w X.K X.mg X.base N k c m f)(hr:bJ j X.A)(Z:k<=j)(ho:PE X o<|tE (P.kt X) fo)(B:o_ X o m bQ [] bZ) :
  wu P X N (.Expr (.Call (.Attribute o m bQ) [] [] bZ) pos)<|jX c f fo aY:=by
 intro aa s E H Q Ex g F I x d;obtain⟨pl,B⟩:=B;obtain⟨Ca,fa,fd,ps,ns,hC,cl,M,FF,hb,hn⟩:=D.ex;obtain⟨R,e⟩:∃R,jX c f fo aY F=R:=⟨_,J⟩;have jV:R≠.bad:=by
  rcases d with⟨n,h,_⟩|⟨_,_,n,h,_⟩<;>(rw[<- e,h];exact λz=>by cases z)
 obtain⟨y,G,ts,s2,h1,V,h3,i⟩:=yK e jV;cases h3;have el:∀{Q':Prop}{a b},X.xe a b->Q':=λz=>by rw[Kw]at z;exact z.elim
 refine z4 (zx (pl:=pl) (eC (ho aa s E H (λv H1=>∃g1,dB g H g1 H1/\SR (P.kt X) g1 H1 E G/\Rep (P.kt X) g1.al g1.HF y v) I ⟨g,F,y,G,x,h1,λv g1 H1 r l p=>⟨g1,r,l,p⟩⟩) (λu sh L=>?_) λ_ _ z=>el z) B) I.quiet J;obtain⟨v,H1,C,W,g1,r,l,p⟩:=L;obtain⟨a,dx,T,rfl,hi⟩:=pe l hC p<|.inl V
 obtain rfl:u=Value.ref a:=W
 refine iJ C hi cl M (ir hn) ?_;refine zw (first:=[.ref a]) C.iE M.kp ?_
 refine Oo (us:=[.ref a]) (vs:=[.ref a]) (ts:=[y]) FF (hr.mono Z) hb C l (.cons J .nil) (.one p) ?_;rcases i with⟨t,m',i,rfl⟩|⟨c',fs,n,i,rfl⟩
 .rcases d with⟨n,h,q⟩|⟨_,_,n,h,_⟩
  .rw[e]at h
   cases h;exact .inl ⟨t,m',i,λv sh g' H' I' p' S=>q sh g' H' I' (r.trans p') S⟩
  .rw[e]at h;cases h
 .rcases d with⟨CF,h,_⟩|⟨_,_,CF,h,q⟩
  .rw[e]at h;cases h
  .rw[e]at h
   cases h;exact .inr ⟨_,_,_,i,q.mv r⟩
def KZ(L:X.xe=λ_ _=>False)(E:PT X cnd<|tT (P.kt X) ft)(G:wu P X N Jc F1)(F:wu P X N Nz F2):wu P X N (.If cnd [Jc] [Nz] pos)<|aV (gX ft) F1 F2:=by
 intro o s j H Q v g t I x f;cases e:ft t with
 |bad=>rcases f with⟨a,h,_⟩|⟨_,_,a,h,_⟩<;>(unfold aV gX at h;rw[e]at h;cases h)
 |exc _ _ _=>rcases f with⟨a,h,_⟩|⟨_,_,a,h,_⟩<;>(unfold aV gX at h;rw[e]at h;cases h)
 |ok q=>
  obtain⟨b,i⟩:=q;have D:aV (gX ft) F1 F2 t=if b then F1 i else F2 i:=by unfold aV gX;rw[e];rfl
  rw[D]at f;refine wpAny_If<|eC (E o s j H (λd H1=>d=b/\∃g1,dB g H g1 H1/\SR (P.kt X) g1 H1 j i) I ⟨g,t,b,i,x,e,λg1 H1 m p=>⟨J,g1,m,p⟩⟩) (λd sh ⟨H1,M,hd,g1,m,p⟩=>?_) λ_ _ z=>by rw[L]at z;exact z.elim
  subst hd;have fin:∀{u:FS}{k:gi},wu P X N k u->((∃a,u i=.ok (.nx,a)/\∀sh n l,Inv X o j l sh->dB g H n l->SR (P.kt X) n l j a->Q .next sh)\/(∃c fs a,u i=.exc c fs a/\Ue P X N o j g H fs a v))->L6 X (execs [k] X.env) Q v sh:=λC r=>by
   refine i0<|C o sh j H1 _ v g1 i M p ?_;rcases r with⟨a,h,q⟩|⟨K,fs,a,h,q⟩
   .exact .inl ⟨a,h,λsh n l R B y=>f6<|q sh n l R (m.trans B) y⟩
   .exact .inr ⟨K,fs,a,h,q.mv m⟩
  cases d with
  |true=>exact fin G f
  |false=>exact fin F f
def K0(Pr:dn)(w:dv)(K:bq)(mg:Str->D1)(base:ey)(C:bt)(kn:Str)(bs:Fh):Prop:=∃b,mg kn=U (.ref b)/\lJ K (.ref b)=O/\∀(A:ek)(outer:List Env)(s:av)(H:Hp)(a:bt)(c:Obj)(Q:VK),A.depth<kz->qv Pr w K mg base A outer s H->H a=U (EX a c)->c.cls=.ref C->(∀l H1,(∀HF,aM HF H->Gr HF H HF H1)->H l=Y->H1 l=U (.lst<|bs.map V.bl)->Q (.ref l) H1) ->
 hW (cv Pr w) A (.call (.ref b) ⟨[.ref a],[]⟩) (CR i8 outer Pr w H s Q λ_ _ _=>False) s
def G0(D:K0 X.prog X.w X.K X.mg X.base N.C kn bs)(L:X.A.depth<kz)(v:Gl X kn)(o:bA kn)(y:X.N[i]?=U n)(p:kI X.env.scope n)(hd:bA n)(E:fF n) :
  PE (DH X a) (.Call (.Name kn kp) [.Name n np] [] cp) λd H Q=>d[i]?=U (U<|.ref a)/\∃c,H a=U (EX a c)/\c.cls=.ref N.C/\∀l H1,(∀HF,aM HF H->Gr HF H HF H1)->H l=Y->H1 l=U (.lst<|bs.map V.bl)->Q (.ref l) H1:=by
 intro G s d H Q I ⟨B,c,z,x,k⟩;obtain⟨R,q,t,run⟩:=D;refine ff<|gC I v q ?_ o;refine DW (h₀:=X.base) I.ok.mod.kin t (cA (aL (X:=DH X a) (cy y p hd E) bP J cp G s d H (λg H1=>g=[.ref a]/\H1=H) I ⟨.ref a,B,J,J⟩) λM j h=>?_) J J;obtain⟨g,H1,f,r,ev,F⟩:=h;refine⟨f.iE,?_⟩;subst ev F;cases r with
 |cons m r=>
 cases r;cases(show _=Value.ref a from m);refine f7<|gg (run _ _ j H1 a c Q L f.ES z x k) λr P b=>?_;cases r with
 |error e=>exact b.elim
 |ok fl=>
  cases fl with
  |ret u=>exact f.after b
  |next=>exact eI b
  |brk=>exact eI b
  |cont=>exact eI b
def RC{e:Obj}{W:Array bj}{m:Nat}{tk T:Nat}
  (D:K0 X.prog X.w X.K X.mg X.base N.C kn<|O::bs) (P7:X.A.depth<kz) (Z:lV X.K N.C) (nf:bB X.K N.C N.f) (ng:bB X.K N.C N.g) (fg:N.g≠N.f)
  (t:e.cls=.ref N.C) (L:e.data=.fields W) (M:e.dict=U d)
  (hg:Gl X kn) (jN:bA kn) (r:X.N.Nodup) (B:X.N[i]?=U n) (s:kI X.env.scope n) (hd:bA n) (I:fF n)
  (P:X.N[j]?=U x) (lx:Loc X.env.scope x) (vx:kI X.env.scope x) (dx:bA x) (cx:fF x) (fx:Kx X x)
  (hm:X.N[m]?=U y) (ly:Loc X.env.scope y) (fy:X.fn y=O\/X.env.scope.names.lookup y=U .local) :
  gO (DH X a) [.Assign [.Name x p1] (.Call (.Name kn p2) [.Name n p3] [] p4) q1,.If (.Subscript (.Name x q2) (.Constant (.int 0) T q3) q4) [.Assign [.Name y r1] (.Tuple [.Attribute (.Name n r2) N.f r3,.Attribute (.Name n r4) N.g r5] tk r6) t1] [] q5]
   λE c H=>c[i]?=U (U<|.ref a)/\H a=U (EX a e)/\H d=U (XD d [(N.f,v),(N.g,u)])/\j<Mo c/\j≠i/\∀l p H1,(∀HF,aM HF H->Gr HF H HF H1)->H l=Y->H p=Y->p≠l->H1 l=U (.lst<|(O::bs).map V.bl)->H1 p=U (.tup [v,u])->E.nx ((c.set j<|U<|.ref l).set m<|U<|.ref p) H1:=by
 have Ú:fP N.g [(N.f,v),(N.g,u)]=U u:=by
  have hb:(N.g == N.f)=Zc:=beq_eq_false_iff_ne.mpr fg;simp only[fP,hb,pF]
 have PX:fP N.f [(N.f,v),(N.g,u)]=U v:=by simp only[fP,pF]
 refine lX (hU (j5 (X:=DH X a) r P lx (G0 D P7 hg jN B s hd I) J fx)<|jC<|EI (OZ<|EZ E1 (cy (X:=DH X a) P vx dx cx) xX λ_ _=>J) (jC<|j5 (X:=DH X a) r hm ly (ye<|aL (Om (a:=a) Z nf t L M PX B s hd I) (aL (Om (a:=a) Z ng t L M Ú B s hd I) bP J) J) J fy) nI) ?_;intro E c H ⟨Q,F,R,Od,Ol,k⟩;refine⟨Q,e,F,t,λl H1 G n1 hl=>?_⟩;have Zk:=G (λ_=>Y) (λ_ _ z=>nomatch z);have S:(c.set j<|U<|V.ref l)[i]?=U (U<|.ref a):=by rw[cW Ol];exact Q
 have kp:∀b o,H b=U o->H1 b=U o:=λb o z=>(Zk.rest b o z J).1;refine⟨.ref l,dG Od,.inl ⟨l,_,0,.bl O,J,J,dm.of hl,by unfold DG IW;rw[bU<|by decide,bU<|by simp];rfl,?_⟩⟩
 refine⟨O,J,nh ?_⟩;refine⟨S,kp _ _ F,kp _ _ R,S,kp _ _ F,kp _ _ R,by show 2<=cC;decide,λp h=>?_⟩
 have ne:l≠p:=λz=>by rw[<- z,hl]at h;cases h
 refine k l p _ (λHF sm=>(G HF sm).trans<|.iM (G HF sm).sub h) n1 ?_ (eL ne) (by rw[ak ne];exact hl) ai
 cases q:H p with
 |none=>rfl
 |some o=>rw[kp _ _ q]at h;cases h
def wx(i j m:Nat)(bs:Fh)(fs:FR):FS:=λs=>match s.r[i]? with
 |some none=>.ok (.nx,jF (jF s j<|.val<|.lst<|bs.map .bl) m<|.val<|.tup fs)
 |_=>.bad
def pO(F:FS)(A:FR->FS):FS:=λs=>match F s with
 |.ok (.nx,a)=>.ok (.nx,a)
 |.exc _ fs a=>A fs a
 |_=>.bad
def G3{A:FR->FS}{o:Out}(h:pO F A s=.ok (o,s')):(F s=.ok (.nx,s')/\o=.nx)\/∃c fs s2,F s=.exc c fs s2/\A fs s2=.ok (o,s'):=by
 unfold pO at h;split at h
 .rename_i a e
  cases h;exact .inl ⟨e,J⟩
 .rename_i c fs s2 e
  exact .inr ⟨c,fs,s2,e,h⟩
 .cases h
def SR.slot(x:SR B g H a s)(b:s.r[i]?=U Y)(w:Option V):SR B g H (a.set i w) s:=
 ⟨x.st,by rw[eT];exact x.lc.len,λm c h=>by
  have:i≠m:=λz=>by rw[z,h]at b;cases b
  rw[cW this];exact x.lc.at_ m c h⟩
theorem A6:∀bs:Fh,aC B al HF (bs.map T.bl)<|bs.map V.bl
 |[]=>J
 |b::bs=>⟨_,_,J,J,A6 bs⟩
def RD{mH:Ee}{m:Nat}{bs:Fh}{CB:bt}(Kw:X.xe=λ_ _=>False)(ht:wu P X N Jc F)
  (hm:X.mg y=U (.ref CB)) (hxm:D7 X.K (.ref N.C) (.ref CB)=U O) (hgy:Gl X y) (Zr:bA y)
  (hN:X.N.Nodup) (hi:X.N[i]?=U n) (hj:j<Mo X.N) (Ol:j≠i) (Jf:m≠i) (hmj:m≠j) (hk:X.env.scope.names.lookup n=U .local)
  (hsu:∀a d k W v u,k.cls=.ref N.C->k.data=.fields W->k.dict=U d->gO (DH X a) (st::mH) (λE e H=>e[i]?=U (U<|.ref a)/\H a=U (EX a k)/\H d=U (XD d [(N.f,v),(N.g,u)])/\j<Mo e/\j≠i/\∀l p H1,(∀HF,aM HF H->Gr HF H HF H1)->H l=Y->H p=Y->p≠l->H1 l=U (.lst<|bs.map V.bl)->H1 p=U (.tup [v,u])->E.nx ((e.set j<|U<|.ref l).set m<|U<|.ref p) H1))
  (IV:X.stack=X.env::X.outer) (xM:X.env.frame=U X.env.locals) :
  PS X (.Try [Jc] [.ExceptHandler (U<|.Name y np) (U n) (st::mH) Ĝ] [] [] kN)<|tS (P.kt X)<|pO F<|wx i j m bs:=by
 rintro S s e H Dn I ⟨g,ss,o,s',xr,h,kk⟩
 rw[Kw];refine wpAny_Try_except<|i0<|ht S s e H _ _ g ss I xr ?_;rcases G3 h with⟨h0,rfl⟩|⟨c',fs,s2,h2,R⟩
 .exact .inl ⟨s',h0,λsh g' H' I' p' x'=>f6<|f6 ⟨e,H',I',kk e g' H' p' x'⟩⟩
 .refine .inr ⟨c',fs,s2,h2,λa t d M Q Ha sa H1 g1 Bh sh Ia ho A5 L Fl p1 x hf hd=>?_⟩
  subst hf;have hρ:s2.r[i]?=U Y/\o=.nx/\s'=jF (jF s2 j<|.val<|.lst<|bs.map .bl) m (.val<|.tup [.int M,.int Q]):=by
   unfold wx at R;split at R
   .rename_i q
    cases R;exact⟨q,J,J⟩
   .cases R
  obtain⟨A,rfl,rfl⟩:=hρ;refine P6 Ia IV xM ho A5 L Fl hm hxm (λh5 L5 F5=>JW Ia ho A5 hN hi hk L5 F5 λk W s6 hco hcw gc new I6=>?_) hgy Zr;have Od:j<Mo e:=by rw[I.len];exact hj
  have da:d≠a:=λz=>by rw[z,new]at hd;cases hd
  refine eC (hsu a d k W (.int M) (.int Q) hco hcw gc S s6 (e.set i<|U<|.ref a) (upd H1 a<|EX a k) {nx:=λw H8=>∀Z,Inv X S (w.set i Y) H8 Z->SP X S Dn .next Z,rt:=λ_ _=>False} I6 ⟨dG<|by rw[I.len];exact(bK.mp hi).1,ai,by rw[ak da];exact hd,by rw[eT];exact Od,Ol,λl p H2 gr nl np B hl hp Z I9=>?_⟩) (λf s8 q=>?_) λ_ _ z=>z
  .refine⟨_,H2,I9,?_⟩
   have Ug:∀{b},upd H1 a (EX a k) b=Y->H1 b=Y:=λ{b} z=>by
    by_cases q:b=a
    .rw[q];exact new
    .rw[ak q]at z;exact z
   have g0:=Gr.iM (o:=EX a k) x.sub new;have g2:=g0.trans<|gr g1.HF g0.sub;have x2:=x.grow g2;have no:∀{b},H1 b=Y->g1.o b=Y:=λ{b} z=>by
    cases q:g1.o b with
    |none=>rfl
    |some p=>obtain⟨_,u,y⟩:=x.st.live b p q;rw[z]at y;cases y
   have G:g1.HF l=Y:=x.sub.free<|Ug nl;have x3:=x2.sM (l:=l) G (no<|Ug nl) hl;have p3:=(p1.trans<|x.gB g2).sM (l:=l) (u:=.lst<|bs.map V.bl) (p1.there l<|Ug nl) G;have D:upd g1.HF l (.lst<|bs.map V.bl) p=Y:=by rw[ak B];exact x.sub.free<|Ug np
   have T:=x3.sM (l:=p) D (no<|Ug np) hp;have p3':=p3.sM (l:=p) (u:=.tup [.int M,.int Q]) (p1.there p<|Ug np) D;have x4:=(T.set (i:=j) (t:=.lst<|bs.map .bl) (v:=.ref l) ⟨l,_,J,by show upd _ p _ l=_;rw[ak<|eL B];exact ai,A6 bs⟩).set (i:=m) (t:=.tup [.int M,.int Q]) (v:=.ref p) ⟨p,_,J,.inl<|.inl ai,⟨_,_,J,J,_,_,J,J,J⟩⟩
   have x5:=x4.slot (i:=i) (by show((s2.r.set j _).set m _)[i]?=_;rw[cW Jf,cW Ol];exact A) Y
   have e1:(((e.set i<|U<|.ref a).set j<|U<|.ref l).set m<|U<|.ref p).set i Y=((e.set j<|U<|.ref l).set m<|U<|.ref p).set i Y:=by
    have c:(e.set i<|U<|V.ref a).set j (U<|V.ref l)=(e.set j<|U<|V.ref l).set i (U<|V.ref a):=M3 _ _<|eL Ol;have c2:((e.set j<|U<|V.ref l).set i<|U<|V.ref a).set m (U<|V.ref p)=((e.set j<|U<|V.ref l).set m<|U<|V.ref p).set i (U<|V.ref a):=M3 _ _<|eL Jf;rw[c,c2,List.set_set]
   rw[e1];exact kk _ _ H2 p3' x5
  .cases f with
   |next=>
    obtain⟨w,H8,I8,q⟩:=q;exact⟨w,H8,I8,q⟩
   |brk=>obtain⟨_,_,_,q⟩:=q;exact q.elim
   |cont=>obtain⟨_,_,_,q⟩:=q;exact q.elim
   |ret u=>obtain⟨_,_,_,_,_,q⟩:=q;exact q.elim
end
end D
namespace D
open PySem
structure Lc where
 N:Bi
 sc:gL
 mu:Bi
inductive Ck where
 |fz (c n:Nat)|z0 (c:Nat)|cp (c:Nat)|nw (c i:Nat)
structure Gm where
 P:Pg
 cs:List<|Str×T
 fs:List<|Str×FR×Nat
 cl:List<|Str×Ck
 ms:List<|Str×List (Nat×Nat)
 bl:Bi
 bf:Bi:=[]
 xc:Str := ""
 xf:Str := ""
 xg:Str := ""
 xk:Nat:=0
 xt:List<|Str×Nat×Nat:=[]
 xu:List<|Str×Nat×Nat:=[]
 kn:Str := ""
 kb:Fh:=[]
 kk:Nat:=0
 xm:Str := ""
def Gm.bc(M:Gm):Nat:=Mo M.P.cn+Mo M.P.tab
def Gm.pP(M:Gm):M.P.cn[M.bc]?=Y:=zQ<|bD _ _
def Gm.Xh(M:Gm):M.P.fn[M.bc]?=Y:=zQ (by unfold Pg.fn;rw[cz];exact uK _ _)
def k_(N:Bi)(x:Str):Option Nat:=N.idxOf? x
def iy(x:Str):Bool:=x == ("__debug__" : Str) ||x == ("__classdict__" : Str)
def jR(L:Lc)(x:Str):Bool:=match L.sc.names.lookup x with
 |some .local=>!iy x
 |some .cell=>!iy x
 |_=>Zc
def yL(L:Lc)(x:Str):Bool:=decide (L.sc.names.lookup x=U .globalImplicit)&&!iy x
def Oq:cw->Option Bz
 |.Tuple es _ _=>U es
 |_=>Y
structure Rc where
 E:Lc->cw->FE
 T:Lc->cw->FT
 I:Lc->cw->cw->FL
 O:Lc->cw->FL
def fh:List FE->FL
 |[]=>aY
 |a::r=>bw a<|fh r
def G4:List FE->FE
 |[]=>aX
 |[a]=>a
 |a::r=>nj a<|G4 r
def RE:List FT->FT
 |[]=>qD
 |[a]=>a
 |a::r=>yn a<|RE r
def G5:List FT->FT
 |[]=>qD
 |[a]=>a
 |a::r=>i_ a<|G5 r
def G6(sc outer:gL):gL:={sc with names:=sc.names.map λ(n,k)=>if(k == NameKind.free&&outer.kind == .function&&outer.names.lookup n == U .cell)then(n,NameKind.cell)else(n,k)}
def locals(sc:gL):Bi:=sc.names.filterMap λp=>if p.2=.local then U p.1 else Y
def frees(sc:gL):Bi:=sc.names.filterMap λp=>if p.2=.free then U p.1 else Y
def idxs(N:Bi):Bi->Option B1
 |[]=>U []
 |x::xs=>(k_ N x).bind λi=>(idxs N xs).map (i::·)
def RG(L:Lc)(sc:gL):Bool:=decide (sc.kind=.function)&&sc.names.all (λp=>decide (p.2≠.cell)&&(decide (p.2=.local)->decide (sc.names.lookup p.1=U .local))&&(decide (p.2=.free)->(decide (sc.names.lookup p.1=U .free)&&decide (L.sc.names.lookup p.1=U .cell))))&&decide (L.sc.kind=.function)
def Uh(N:Bi)(ok:Str->Bool):cw->Option (FG×B1)
 |.Name x _=>if ok x then(k_ N x).map λi=>(setG i,[i])else Y
 |.Tuple es _ _=>(namesOf es).bind λa=>if a.all ok then(idxs N a).map λis=>(eS is,is)else Y
 |_=>Y
def isSet:cw->Bool
 |.Set _ _ _=>O
 |_=>Zc
def Ot(r:Rc)(L:Lc):Bz->FT
 |[]=>ie
 |[c]=>r.T L c
 |_=>qD
def G7(L:Lc)(sc:gL):Lc:=⟨locals sc++frees sc,G6 sc L.sc,[]⟩
def pQ(r:Rc)(L:Lc)(elt:cw)(q:Comprehension)(sc:gL):FL:=if q.is_async=0/\(RG L sc&&decide ((locals sc++frees sc).Nodup)&&!isSet q.iter&&decide (Mo q.ifs<=1))=O then(match idxs L.N (frees sc),Uh (locals sc) (λx=>decide<|sc.names.lookup x=U .local) q.target with
  |some a,some (g,_)=>dI (r.I L q.target q.iter) (locals sc).length a g (Ot r (G7 L sc) q.ifs)<|r.E (G7 L sc) elt
  |_,_=>fG)else fG
def rD(r:Rc)(L:Lc):cw->FL
 |.ListComp a b sc _=>(match b with
  |[g]=>pQ r L a g sc
  |_=>fG)
 |_=>fG
def G8(r:Rc)(L:Lc):Option cw->FO
 |none=>xN
 |some e=>nK<|r.E L e
def wz(M:Gm)(L:Lc):Bi->Option B1
 |[]=>U []
 |y::ys=>if yL L y&&((k_ M.P.cn y).bind λd=>M.P.fn[d]?).isSome then(k_ M.P.cn y).bind λd=>(wz M L ys).map (d::·)else Y
def blt(M:Gm)(L:Lc)(x:Str):Bool:=M.bl.contains x&&yL L x
def isF(M:Gm)(r:Rc)(L:Lc)(a:cw):cw->FE
 |.Name y _=>(match vW.lookup y with
  |some ty=>if M.bl.contains y&&yL L y then dX (QG ty) (r.E L a)else aX
  |none=>(match wz M L [y]with
   |some ds=>dX (jb M.P.sub ds)<|r.E L a
   |none=>aX))
 |.Tuple es _ _=>if Mo es<=100 then(match(namesOf es).bind (wz M L)with
  |some ds=>dX (jb M.P.sub ds)<|r.E L a
  |none=>aX)else aX
 |_=>aX
def au(l:List<|Nat×Nat)(aj:Nat->Fn)(c:Nat):Option Fn:=(l.lookup c).map aj
def DN(M:Gm)(r:Rc)(L:Lc)(o:cw):Option FE:=(gy o).bind λq=>if M.bf.contains q.2.1&&bx q.1 then(k_ M.P.an q.2.1).map λj=>aE M.P.tab j (r.E L q.1)else Y
def Xi(L:Lc):cw->Option Nat
 |.Name y _=>if L.mu.contains y&&jR L y then k_ L.N y else Y
 |_=>Y
def wB(M:Gm)(r:Rc)(L:Lc)(a:cw)(op:nz)(b:cw):FE:=match rB op,DN M r L b with
 |some c,some f=>tL M.bc c (r.E L a) f
 |_,_=>(match rB op,Xi L b with
  |some c,some i=>GG c i<|r.E L a
  |_,_=>bX (aN op) (r.E L a)<|r.E L b)
def yM(M:Gm)(L:Lc)(f:Str)(a:Bz):Option cw:=(yG a ([]:B1)).bind λe=>(Zm e).bind λq=>if f=("list" : Str)/\q.1=("range" : Str)/\blt M L ("range" : Str)=O/\noStar q.2=O then U q.2 else Y
def RH(M:Gm)(r:Rc)(L:Lc)(f:Str)(b:Bz):Option FE:=match b with
 |[a]=>if f=("len" : Str)then(DN M r L a).map λg=>pK M.bc g else Y
 |_=>Y
def Xj:List<|Str×(FR->FV):=("min",Rq)::yy
def yN(M:Gm)(aj:Nat->Fn)(r:Rc)(L:Lc)(f:Str)(b:Bz):FE:=
 if b.all noStar then(match M.fs.lookup f with
  |some (ds,i)=>if yL L f then aB (aj i) ds (fh<|b.map<|r.E L)else aX
  |none=>(match M.cl.lookup f with
   |U<|.fz c n=>if yL L f&&!b.isEmpty then gq c n (fh<|b.map<|r.E L)else aX
   |U<|.z0 c=>if yL L f&&b.isEmpty then gq c 0 aY else aX
   |U<|.cp c=>(match b with
    |[a]=>if yL L f then dX (Qg c) (r.E L a)else aX
    |_=>aX)
   |U<|.nw c i=>if yL L f&&!b.isEmpty then oS c (aj i) (fh<|b.map<|r.E L)else aX
   |none=>if blt M L f then(match RH M r L f b with
    |some g=>g
    |none=>match f == ("isinstance" : Str),b with
     |true,[a,q]=>isF M r L a q
     |_,_=>(match yM M L f b with
        |some a=>gx<|o1 Df<|r.E L a
        |none=>(match Xj.lookup f,b with
         |some g,_::_=>bV g<|fh<|b.map<|r.E L
         |_,_=>aX)))else aX))else aX
def G9:Const->FE
 |.int i=>cF<|.int i
 |.bool b=>cF<|.bl b
 |.none=>cF .non
 |.str s=>if s.length<=1000000 then cF (.str s.cps.toList)else aX
 |_=>aX
def G_(M:Gm)(L:Lc)(x:Str):FE:=match k_ L.N x with
 |some i=>if jR L x then vF i else aX
 |none=>(match M.cs.lookup x with
  |some t=>if yL L x then cF t else aX
  |none=>aX)
def unE(a:FE):UnaryOp->FE
 |.USub=>dX jP a
 |.Not=>vI a
 |_=>aX
def boE(l:List FE):BoolOp->FE
 |.And=>G4 l
 |.Or=>aX
def ĝ(M:Gm)(r:Rc)(L:Lc)(a:cw):List nz->Bz->FE
 |[op],[b]=>if fA op b then aX else wB M r L a op b
 |_,_=>aX
def Ğ:cw->Bool
 |.Attribute _ _ _=>O
 |.Dict _ _ _=>O
 |_=>Zc
def Zt(M:Gm)(r:Rc)(L:Lc)(o i:cw):FE:=match DN M r L o with
 |some f=>GL M.bc f<|r.E L i
 |none=>if Ğ o then bX Au (r.E L o) (r.E L i)else match(asName o).bind λy=>(k_ L.N y).map λk=>(y,k)with
 |some (y,k)=>if L.mu.contains y&&jR L y then nk k (r.E L i)else bX il (r.E L o) (r.E L i)
 |none=>bX il (r.E L o)<|r.E L i
def RI(M:Gm)(r:Rc)(L:Lc)(o:cw):cw->FE
 |.Slice lo a st _=>(match st with
  |none=>(match DN M r L o with
   |some f=>GR M.bc f (G8 r L lo)<|G8 r L a
   |none=>rj (r.E L o) (G8 r L lo)<|G8 r L a)
  |some _=>aX)
 |i=>Zt M r L o i
def ğ(M:Gm)(r:Rc)(L:Lc)(o:cw)(f:Str):FE:=if bx o then(match k_ M.P.an f with
  |some j=>if M.bf.contains f then Dd M.bc M.P.tab j (r.E L o)else aE M.P.tab j (r.E L o)
  |none=>aX)else aX
def RJ(M:Gm)(r:Rc)(L:Lc)(o:cw)(m:Str)(a:Bz):Option FE:=match a with
 |[b]=>(match fZ b with
  |U<|.int 0=>if m=("pop" : Str)then(DN M r L o).map λf=>pL M.bc f else Y
  |_=>Y)
 |_=>Y
def RK(M:Gm)(aj:Nat->Fn)(r:Rc)(L:Lc)(o:cw)(m:Str)(b:Pos)(a:Bz)(cp:Pos):FE:=if bx o&&a.all noStar&&decide (Mo a<29)&&b.endLine == cp.line then(match RJ M r L o m a with
   |some f=>f
   |none=>match M.ms.lookup m with
   |some l=>aA (au l aj) (r.E L o)<|fh<|a.map<|r.E L
   |none=>(match yx.lookup m,a with
    |some g,_::_=>qm g (r.E L o)<|fh<|a.map<|r.E L
    |_,_=>aX))else aX
def Ġ(M:Gm)(aj:Nat->Fn)(r:Rc)(L:Lc)(a:Bz)(cp:Pos):cw->FE
 |.Name f _=>yN M aj r L f a
 |.Attribute o m b=>RK M aj r L o m b a cp
 |_=>aX
def RL(M:Gm)(r:Rc)(L:Lc)(f:cw)(b:Bz)(ks:List pq):FE:=match asName f,b,ks with
 |some y,[a],[w]=>(match fZ w.value with
  |U<|.int i=>if y=("max" : Str)/\blt M L ("max" : Str)=O/\noStar a=O/\w.arg=U ("default" : Str)then KO i (r.E L a)else aX
  |_=>aX)
 |_,_,_=>aX
def Ou(M:Gm)(aj:Nat->Fn)(r:Rc)(L:Lc):cw->FE
 |.Constant c _ _=>G9 c
 |.Name x _=>G_ M L x
 |.BinOp a e b _=>bX (eA e) (r.E L a)<|r.E L b
 |.UnaryOp e a _=>unE (r.E L a) e
 |.BoolOp e es _=>boE (es.map<|r.E L) e
 |.Compare a g bs _=>ĝ M r L a g bs
 |.IfExp c a b _=>FP (r.T L c) (r.E L a)<|r.E L b
 |.Tuple es _ _=>if es.all noStar then bV fU (fh<|es.map<|r.E L)else aX
 |.List es _=>if es.all noStar then bV eG (fh<|es.map<|r.E L)else aX
 |.Subscript o i _=>RI M r L o i
 |.Attribute o f _=>ğ M r L o f
 |.ListComp j l sc p=>gx<|rD r L<|.ListComp j l sc p
 |.Call f d h cp=>(match h with
  |[]=>Ġ M aj r L d cp f
  |k::h=>RL M r L f d<|k::h)
 |_=>aX
def boT(l:List FT):BoolOp->FT
 |.And=>G5 l
 |.Or=>RE l
def ġ(M:Gm)(r:Rc)(L:Lc)(a:cw):List nz->Bz->FT
 |[op],[b]=>if fA op b then qD else b9 (wB M r L a op b)
 |_,_=>qD
def stepT(M:Gm)(r:Rc)(L:Lc)(e:cw):FT:=match e with
 |.BoolOp c es _=>boT (es.map<|r.T L) c
 |.UnaryOp c a _=>(match c with
  |.Not=>dZ<|r.T L a
  |_=>tB<|r.E L e)
 |.Compare a b bs _=>ġ M r L a b bs
 |.IfExp _ _ _ _=>qD
 |_=>tB<|r.E L e
def A7(e:cw):Option Bz:=(jt e).bind λq=>if q.1=("range" : Str)/\q.2.2.isEmpty=O then U q.2.1 else Y
def wC(e:cw):Option<|cw×Int:=(jt e).bind λq=>if q.1=("enumerate" : Str)then(match q.2.1 with
 |[a]=>(match q.2.2 with
  |[]=>U (a,0)
  |[w]=>(match fZ w.value with
   |U<|.int n=>if w.arg=U ("start" : Str)/\n=1 then U (a,n)else Y
   |_=>Y)
  |_=>Y)
 |_=>Y)else Y
def RM:cw->Bool
 |.Tuple _ _ _=>O
 |_=>Zc
def A8:cw->Bool
 |.Name _ _=>O
 |_=>Zc
def Hb(e:cw):Option cw:=(Zm e).bind λq=>if q.1=("reversed" : Str)/\noStar q.2=O then U q.2 else Y
def stepI(M:Gm)(r:Rc)(L:Lc)(tg e:cw):FL:=match A7 e with
 |some d=>if blt M L ("range" : Str)&&d.all noStar then(match d with
   |[a]=>C3 oV<|fh [r.E L a]
   |[a,b]=>C3 oV<|fh [r.E L a,r.E L b]
   |[a,b,c]=>C3 Dg<|fh [r.E L a,r.E L b,r.E L c]
   |_=>fG)else fG
 |none=>(match wC e with
  |some (a,n)=>if blt M L ("enumerate" : Str)&&RM tg&&noStar a then jn n (r.E L a)else fG
  |none=>match Hb e with
  |some a=>if blt M L ("reversed" : Str)then o1 Ri (r.E L a)else fG
  |none=>if A8 tg then oU (r.E L e)else Kq (r.E L e))
def RN(M:Gm)(r:Rc)(L:Lc)(f:Str)(b:Bz):FL:=if blt M L f then match yM M L f b with
 |some a=>o1 Df<|r.E L a
 |none=>(match b with
  |[a]=>if f=("list" : Str)/\noStar a=O then o1 ē (r.E L a)else fG
  |_=>fG)else fG
def RO(r:Rc)(L:Lc)(f:cw)(b:Bz)(cp:Pos):FL:=match gy f,b with
 |some w,[a]=>(match GQ a with
  |some c=>if w.2.1=("split" : Str)/\bx w.1=O/\(w.2.2.endLine == cp.line)=O then o1 (Dh c.cps.toList) (r.E L w.1)else fG
  |none=>fG)
 |_,_=>fG
def Ov(M:Gm)(r:Rc)(L:Lc):cw->FL
 |.IfExp c a b _=>Zo (r.T L c) (r.O L a)<|r.O L b
 |.BinOp a g b _=>(match g with
  |.Mult=>o2 GP (r.E L a)<|r.E L b
  |_=>fG)
 |.Call f d h cp=>(match h with
  |[]=>(match asName f with
   |some y=>RN M r L y d
   |none=>RO r L f d cp)
  |_::_=>fG)
 |.List es _=>if es.all noStar then kg (fh<|es.map<|r.E L)else fG
 |.ListComp e i sc p=>rD r L<|.ListComp e i sc p
 |_=>fG
def comp(M:Gm)(aj:Nat->Fn):Nat->Rc
 |0=>⟨λ_ _=>aX,λ_ _=>qD,λ_ _ _=>fG,λ_ _=>fG⟩
 |n+1=>⟨Ou M aj<|comp M aj n,stepT M<|comp M aj n,stepI M<|comp M aj n,Ov M<|comp M aj n⟩
def Hc(L:Lc)(t:Str)(tp:Pos):cw->Bool
 |.ListComp _ _ sc p=>(if L.sc.kind.isAnnotationScope then ScopeKind.function else L.sc.kind) == .function&&L.sc.names.lookup t == U .local&&tp.line == p.line&&!(sc.names.any λ(n,k)=>n == t&&(k == .local ||k == .cell))
 |_=>Zc
def yO:cw->Bool
 |.ListComp _ _ _ _=>O
 |.SetComp _ _ _ _=>O
 |.DictComp _ _ _ _ _=>O
 |_=>Zc
def A9(nm:Str)(mu:Bi)(e:cw):Option<|Str×cw:=(Ċ e).bind λw=>(asName w.1).bind λy=>if w.2.1=nm/\mu.contains y=O then U (y,w.2.2)else Y
def Xk(mu:Bi)(e:cw):Option Str:=(pA e).bind λq=>(gy q.1).bind λw=>(asName w.1).bind λy=>if q.2.1.isEmpty=O/\q.2.2.1.isEmpty=O/\w.2.1=("pop" : Str)/\mu.contains y=O/\(w.2.2.endLine == q.2.2.2.line)=O then U y else Y
def A_:cw->Bool
 |.Dict [] [] _=>O
 |_=>Zc
def Hd(M:Gm)(aj:Nat->Fn)(n:Nat)(L:Lc)(x:Str)(e:cw):FS:=match k_ L.N x with
 |some i=>if jR L x then(if L.mu.contains x then(if A_ e then wc i else jQ i ((comp M aj n).O L e))else aH i ((comp M aj n).E L e))else c6
 |none=>c6
def Ow:cw->Bool
 |.Tuple a _ _=>a.all<|foldedForSure 8
 |_=>O
abbrev many:Nat:=1000000
def tupS(M:Gm)(aj:Nat->Fn)(n:Nat)(L:Lc)(es:Bz)(e:cw):FS:=if yO e || !Ow e || !es.all noStar then c6 else(match Uh L.N (jR L) (.Tuple es 0 ⟨0,0,0,0⟩)with
  |some (g,_)=>yo g<|(comp M aj n).E L e
  |none=>c6)
def RP(M:Gm)(aj:Nat->Fn)(n:Nat)(L:Lc)(f:Str)(e:cw):FE:=if M.bf.contains f then(if A_ e then nt M.bc else kT M.bc ((comp M aj n).O L e))else(comp M aj n).E L e
def RQ(M:Gm)(aj:Nat->Fn)(n:Nat)(L:Lc)(o:cw)(f:Str)(e:cw):FS:=match k_ M.P.an f with
  |some j=>aJ M.P.tab j ((comp M aj n).E L o)<|RP M aj n L f e
  |none=>c6
def RS(M:Gm)(aj:Nat->Fn)(n:Nat)(L:Lc)(o b e:cw):FS:=if yO e then c6 else match DN M (comp M aj n) L o with
 |some f=>Dc M.bc f ((comp M aj n).E L b)<|(comp M aj n).E L e
 |none=>match(asName o).bind λy=>if jR L y then k_ L.N y else Y with
  |some i=>if isSlice b then c6 else Oi i ((comp M aj n).E L b) ((comp M aj n).E L e)
  |none=>c6
def asS(M:Gm)(aj:Nat->Fn)(n:Nat)(L:Lc)(e:cw):cw->FS
 |.Name x _=>Hd M aj n L x e
 |.Tuple es _ _=>tupS M aj n L es e
 |.Attribute o f _=>RQ M aj n L o f e
 |.Subscript o b _=>RS M aj n L o b e
 |_=>c6
def RT(M:Gm)(aj:Nat->Fn)(n:Nat)(L:Lc)(t:cw)(op:n3)(e:cw):FS:=match(gy t).bind λq=>(k_ M.P.an q.2.1).map λj=>(q.1,j)with
  |some (o,j)=>if op=.Add then pJ M.P.tab j gF ((comp M aj n).E L o) ((comp M aj n).E L e)else c6
  |none=>match(asName t).bind λx=>(k_ L.N x).map λi=>(x,i)with
  |some (x,i)=>if op=.Add/\jR L x=O then FQ gF i ((comp M aj n).E L e)else c6
  |none=>c6
def Xl(M:Gm)(r:Rc)(L:Lc)(e:cw):Option<|FE×cw:=(Ċ e).bind λw=>(DN M r L w.1).bind λf=>if w.2.1=("append" : Str)then U (f,w.2.2)else Y
def Ģ(M:Gm)(aj:Nat->Fn)(n:Nat)(L:Lc)(e:cw):FS:=match Xl M (comp M aj n) L e with
  |some (f,a)=>e_ M.bc f<|(comp M aj n).E L a
  |none=>match A9 "append" L.mu e with
  |some (y,a)=>(match k_ L.N y with
   |some i=>if jR L y then ja i ((comp M aj n).E L a)else c6
   |none=>c6)
  |none=>match Xk L.mu e with
  |some y=>(match k_ L.N y with
   |some i=>if jR L y then KP i else c6
   |none=>c6)
  |none=>if yO e then c6 else aP ((comp M aj n).E L e)
def retS(M:Gm)(aj:Nat->Fn)(n:Nat)(L:Lc):Option cw->FS
 |some e=>aD<|(comp M aj n).E L e
 |none=>aD<|cF .non
def RU(M:Gm)(aj:Nat->Fn)(n:Nat)(L:Lc)(b:FS)(tg it:cw):FS:=if isSet it then c6 else(match Uh L.N (jR L) tg with
  |some (g,_)=>gU ((comp M aj n).I L tg it) g b
  |none=>c6)
def RV:gi->Option cw
 |.Expr e _=>U e
 |_=>Y
def wD:gi->Option (Str×cw)
 |.Assign ts e _=>(match ts with
  |[t]=>(asName t).map λx=>(x,e)
  |_=>Y)
 |_=>Y
def RW:gi->Option (cw×Ee×Ee)
 |.If c a b _=>U (c,a,b)
 |_=>Y
def Hf:cw->Option cw
 |.Subscript o i _=>(match fZ i with
  |U<|.int n=>if n=0 then U o else Y
  |_=>Y)
 |_=>Y
def ģ(M:Gm)(e:cw):Option<|Nat×Nat×cw×Bz:=(pA e).bind λq=>(gy q.1).bind λw=>((if A8 w.1 then M.xt else M.xu).lookup w.2.1).bind λa=>if q.2.2.1.isEmpty=O/\bx w.1=O/\q.2.1.all noStar=O/\q.2.1.length<29/\(w.2.2.endLine == q.2.2.2.line)=O then U (a.1,a.2,w.1,q.2.1)else Y
def yP(M:Gm)(aj:Nat->Fn)(n:Nat)(L:Lc):Nat->gi->Option FS
 |0,_=>Y
 |d+1,st=>(match(RV st).bind (ģ M)with
  |some (c,i,o,a)=>U<|jX c (aj i) ((comp M aj n).E L o)<|fh<|a.map<|(comp M aj n).E L
  |none=>(RW st).bind λq=>(yG q.2.1 ([]:B1)).bind λs=>(yG q.2.2 ([]:B1)).bind λt=>(yP M aj n L d s).bind λF=>(yP M aj n L d t).map λG=>aV (gX<|(comp M aj n).T L q.1) F G)
def K1(M:Gm)(nm:Str)(e:cw):Bool:=match Oq e with
 |some [a,b]=>(match gy a,gy b with
  |some u,some v=>decide (asName u.1=U nm)&&decide (asName v.1=U nm)&&decide (u.2.1=M.xf)&&decide (v.2.1=M.xg)
  |_,_=>Zc)
 |_=>Zc
def Zu(M:Gm)(nm:Str)(e:cw):Bool:=match Zm e with
 |some q=>decide (q.1=M.kn)&&decide (asName q.2=U nm)
 |none=>Zc
def Ĥ(M:Gm)(nm:Str):Ee->Option (Str×Str)
 |[s1,s2]=>(wD s1).bind λq=>(RW s2).bind λt=>(yG t.2.1 t.2.2).bind λa=>(wD a).bind λp=>if Zu M nm q.2=O/\(Hf t.1).bind asName=U q.1/\K1 M nm p.2=O then U (q.1,p.1)else Y
 |_=>Y
def hdA(M:Gm)(L:Lc)(nm:Str)(su:Ee):Option<|FR->FS:=(Ĥ M nm su).bind λq=>(k_ L.N nm).bind λi=>(k_ L.N q.1).bind λj=>(k_ L.N q.2).bind λm=>if(jR L q.1=O/\jR L q.2=O/\jR L nm=O/\yL L M.kn=O)/\L.sc.names.lookup nm=U .local/\j≠i/\m≠i/\m≠j then U (wx i j m<|O::M.kb)else Y
def RY(M:Gm)(aj:Nat->Fn)(n:Nat)(L:Lc):Ee->List oC->Option FS
 |[s],[.ExceptHandler ty a su _]=>(yP M aj n L 3 s).bind λF=>(ty.bind asName).bind λy=>a.bind λa=>if yL L y=O/\y=M.xm then(hdA M L a su).map λA=>pO F A else Y
 |_,_=>Y
def Xm(M:Gm)(aj:Nat->Fn)(n:Nat)(f:Lc->Ee->FS)(L:Lc):gi->FS
 |.Assign ts e _=>(match ts with
  |[t]=>asS M aj n L e t
  |_=>c6)
 |.AugAssign t j e _=>RT M aj n L t j e
 |.Expr e _=>Ģ M aj n L e
 |.Return o _=>retS M aj n L o
 |.If c a b _=>aV ((comp M aj n).T L c) (f L a)<|f L b
 |.For i it d g _=>(match g with
  |[]=>RU M aj n L (f L d) i it
  |_::_=>c6)
 |.While c d g _=>(match g with
  |[]=>dQ many ((comp M aj n).T L c)<|f L d
  |_::_=>c6)
 |.Try d h g k _=>(match h,g,k with
  |_::_,[],[]=>(match RY M aj n L d h with
   |some F=>F
   |none=>f L d)
  |_,_,_=>c6)
 |.Pass _=>aG
 |_=>c6
def km(M:Gm)(aj:Nat->Fn)(n:Nat):Nat->Lc->Ee->FS
 |0,_,_=>c6
 |_+1,_,[]=>aG
 |k+1,L,[st]=>Xm M aj n (km M aj n k) L st
 |k+1,L,st::rest=>ah (Xm M aj n (km M aj n k) L st)<|km M aj n k L rest
def Xn:gi->Option cw
 |.Raise e c _=>(match e,c with
  |some e,none=>U e
  |_,_=>Y)
 |_=>Y
def rsE(M:Gm)(L:Lc)(e:cw):Option Bz:=(jt e).bind λq=>if q.1=M.xc/\q.2.2.isEmpty=O/\q.2.1.isEmpty=Zc/\yL L q.1=O/\q.2.1.all noStar=O then U q.2.1 else Y
def Zv(M:Gm)(aj:Nat->Fn)(n:Nat)(f:Lc->Ee->FS)(L:Lc)(st:gi):FS:=match(Xn st).bind (rsE M L)with
 |some d=>Zq<|fh<|d.map<|(comp M aj n).E L
 |none=>(match(RV st).bind (ģ M)with
  |some (c,i,o,d)=>jX c (aj i) ((comp M aj n).E L o)<|fh<|d.map<|(comp M aj n).E L
  |none=>(match st with
   |.If c a b _=>aV (gX<|(comp M aj n).T L c) (f L a)<|f L b
   |.While c e g _=>(match g with
    |[]=>dQ many (gX<|(comp M aj n).T L c)<|f L e
    |_::_=>c6)
   |st=>jH<|Xm M aj n (km M aj n 200) L st))
def wF(M:Gm)(aj:Nat->Fn)(n:Nat):Nat->Lc->Ee->FS
 |0,_,_=>c6
 |_+1,_,[]=>aG
 |k+1,L,[st]=>Zv M aj n (wF M aj n k) L st
 |k+1,L,st::rest=>ah (Zv M aj n (wF M aj n k) L st)<|wF M aj n k L rest
end D
namespace D
open PySem L2
structure Hg(M:Gm)(Pr:dn)(w:dv)(K:bq)(mg:Str->D1)(base:ey)(N:XN):Prop where
 mx:XMk K Pr w mg base N M.xc
 nf:N.f=M.xf
 ng:N.g=M.xg
 es:lV K N.C
 af:bB K N.C N.f
 ag:bB K N.C N.g
 fg:N.g≠N.f
 kn:K0 Pr w K mg base N.C M.kn<|O::M.kb
 xm:∃CB,mg M.xm=U (.ref CB)/\D7 K (.ref N.C) (.ref CB)=U O
structure yQ(M:Gm)(Pr:dn)(w:dv)(K:bq)(mg:Str->D1)(base:ey)(aj:Nat->Fn)(k:Nat):Prop where
 pg:nq K mg M.P
 cst:∀x t,M.cs.lookup x=U t->AX K mg x t
 fns:∀x ds i,M.fs.lookup x=U (ds,i)->Ă M.P Pr w K mg base k x ds (aj i)
 fz:∀x c n,M.cl.lookup x=U (.fz c n)->DnC M.P Pr w K mg base k c n x
 z0:∀x c,M.cl.lookup x=U (.z0 c)->Wq M.P Pr w K mg c x
 cp:∀x c,M.cl.lookup x=U (.cp c)->DnP M.P Pr w K mg base k c x
 nw:∀x c i,M.cl.lookup x=U (.nw c i)->DnN M.P Pr w K mg base k c x (aj i)
 mts:∀m l c i,M.ms.lookup m=U l->l.lookup c=U i->Zj M.P Pr w K mg base k c m (aj i)
 bl:∀x,x∈M.bl->mg x=Y
 xt:∀m c i,M.xt.lookup m=U (c,i)\/M.xu.lookup m=U (c,i)->∃N,Hg M Pr w K mg base N/\Xg M.P Pr w K mg base N k c m (aj i)
structure CxOk(M:Gm)(aj:Nat->Fn)(k:Nat)(L:Lc)(X:Cx):Prop where
 gm:yQ M X.prog X.w X.K X.mg X.base aj k
 N:X.N=L.N
 sc:X.env.scope=L.sc
 calm:X.calm=O
 room:∃j,k+1<=j/\bJ j X.A
variable{X:Cx}{a b c e o:cw}{M:Gm}{L:Lc}{i k:Nat}{aj:Nat->Fn}{K:bq}{r:Rc}{x y:Str}
def gW(h:k_ N x=U i):N[i]?=U x:=by
 unfold k_ at h;rw[MW,MX]at h;obtain⟨a,b,_⟩:=h;rw[c5 a,eq_of_beq b]
def DO(h:iy x=Zc):bA x/\fF x:=by
 unfold iy at h;exact Bool.or_eq_false_iff.mp h
def fH(C:CxOk M aj k L X)(h:jR L x=O):Loc X.env.scope x/\kI X.env.scope x/\bA x/\fF x:=by
 rw[C.sc];unfold jR at h;split at h
 .rename_i e
  obtain⟨b,a⟩:=DO (by simpa using h)
  exact⟨.inl e,.inl e,b,a⟩
 .rename_i e
  obtain⟨b,a⟩:=DO (by simpa using h)
  exact⟨.inr e,.inr<|.inl e,b,a⟩
 .cases h
def iW(C:CxOk M aj k L X)(h:yL L x=O):Gl X x/\bA x:=by
 unfold yL at h;rw[cL]at h;obtain⟨b,a⟩:=h;refine⟨?_,(DO<|by simpa using a).1⟩
 show X.env.scope.names.lookup x=_;rw[C.sc];exact c3 b
def Ba(M:Gm)(X:Cx)(r:Rc)(L:Lc):Prop:=∀e,PE X e<|tE (M.P.kt X)<|r.E L e
def ĥ(M:Gm)(X:Cx)(r:Rc)(L:Lc):Prop:=∀e,PT X e<|tT (M.P.kt X)<|r.T L e
def OkI(M:Gm)(X:Cx)(r:Rc)(L:Lc):Prop:=∀a e,PI X a e<|tI (M.P.kt X)<|r.I L a e
def OkO(M:Gm)(X:Cx)(r:Rc)(L:Lc):Prop:=∀e,PE X e<|tO (M.P.kt X)<|r.O L e
def yR(M:Gm)(aj:Nat->Fn)(k:Nat)(r:Rc):Prop:=∀L X,CxOk M aj k L X->Ba M X r L/\ĥ M X r L/\OkI M X r L/\OkO M X r L
theorem f9(a:Ba M X r L):∀es:Bz,es.all noStar=O->PA X es (tA (M.P.kt X)<|fh<|es.map<|r.E L)
 |[],_=>yr
 |e::es,h=>by
  rw[e7,cL]at h;exact sL (a e) (f9 a es h.2)<|aq h.1
theorem wG(c:Ba M X r L):∀es:Bz,PE X (.BoolOp .And es pos)<|tE (M.P.kt X)<|G4<|es.map<|r.E L
 |[]=>bo
 |[a]=>Qk<|c a
 |a::b::es=>Ql (c a)<|wG c<|b::es
def Xo:PW X e<|tT (M.P.kt X) qD:=λ_ _ _ _ _ _ _ a=>by obtain⟨_,_,_,_,_,h,_⟩:=a;cases h
theorem wH(c:ĥ M X r L):∀es:Bz,PW X (.BoolOp .And es pos)<|tT (M.P.kt X)<|G5<|es.map<|r.T L
 |[]=>Xo
 |[a]=>Qj<|c a
 |a::b::es=>VX (c a)<|wH c<|b::es
theorem Bb(c:ĥ M X r L):∀es:Bz,PW X (.BoolOp .Or es pos)<|tT (M.P.kt X)<|RE<|es.map<|r.T L
 |[]=>Xo
 |[a]=>VW<|c a
 |a::b::es=>î (c a)<|Bb c<|b::es
def c8{α:Type}{l:List<|Str×α}{a:α}(h:l.lookup x=U a):(x,a)∈l:=by
 induction l with
 |nil=>simp at h
 |cons p l c=>
  obtain⟨q,b⟩:=p;rw[jZ]at h;split at h
  .rename_i e
   cases h;rw[eq_of_beq e];exact eO ..
  .exact ee _<|c h
theorem yS(C:CxOk M aj k L X):∀{ys:Bi}{ds:B1},wz M L ys=U ds->Mo ys=Mo ds/\∀(i d:Nat)(y:Str),ds[i]?=U d->ys[i]?=U y->M.P.cn[d]?=U y/\(M.P.fn[d]?).isSome=O/\Gl X y/\bA y
 |[],ds,h=>by
  cases h;exact⟨J,λi d y h=>by simp at h⟩
 |y::ys,ds,h=>by
  unfold wz at h;split at h
  .rename_i q
   rw[cL]at q;obtain⟨d,c,l⟩:=bM.mp h;obtain⟨m,j,rfl⟩:=ck.mp l;obtain⟨g,f⟩:=yS C j;obtain⟨g1,g2⟩:=iW C q.1;refine⟨by simp[g],λi n e b a=>?_⟩
   cases i with
   |zero=>
    simp at b a;subst b a;refine⟨gW c,?_,g1,g2⟩;have q2:=q.2;rw[c]at q2;exact q2
   |succ i=>exact f i n e (by simpa using b) (by simpa using a)
  .cases h
def f_(C:CxOk M aj k L X)(h:blt M L x=O):Gl X x/\X.mg x=Y/\bA x:=by
 unfold blt at h;rw[cL]at h;obtain⟨g1,g2⟩:=iW C h.2;exact⟨g1,C.gm.bl x<|zT.mp h.1,g2⟩
def Xp(C:CxOk M aj k L X)(h:Ba M X r L)(j:blt M L ("isinstance" : Str)=O)(e:noStar a=O):PE X (.Call (.Name "isinstance" p) [a,q] [] pos)<|tE (M.P.kt X)<|isF M r L a q:=by
 obtain⟨g,f,_⟩:=f_ C j;cases q with
 |Name y x=>
  show PE X _<|tE (M.P.kt X)<|match vW.lookup y with|some ty=>_|none=>_
  split
  .rename_i ty t
   split
   .rename_i q
    rw[cL]at q;obtain⟨g1,g2⟩:=iW C q.2;exact QI J (c8 t) f (C.gm.bl _<|zT.mp q.1) (h a) g g1 e
   .exact bo
  .split
   .rename_i ds c
    obtain⟨i,b⟩:=yS C c
    match ds,i,b with
    |[d],_,b=>
     obtain⟨s,o,n,m⟩:=b 0 d y J J;exact Wn C.gm.pg s f (h a) g n e m o
   .exact bo
 |Tuple es v w=>
  show PE X _<|tE (M.P.kt X)<|if Mo es<=100 then _ else aX
  split
  .rename_i hl
   split
   .rename_i ds c
    obtain⟨u,l,c⟩:=bM.mp c;obtain⟨i,b⟩:=yS C c;exact WU C.gm.pg l i b hl f (h a) g e
   .exact bo
  .exact bo
 |_=>exact bo
def wI{c:Bz}(h:yM M L f c=U a):f=("list" : Str)/\blt M L ("range" : Str)=O/\noStar a=O/\∃i d,c=[.Call (.Name "range" i) [a] [] d]:=by
 obtain⟨e,l,h⟩:=bM.mp h;obtain⟨⟨g,b⟩,k,h⟩:=bM.mp h;obtain⟨⟨q1,q2,j,q4⟩,h⟩:=nW.mp h;cases h;obtain⟨i,d,m⟩:=sY k;exact⟨q1,j,q4,i,d,by rw[(iu l).1,m,q2]⟩
def jv(C:CxOk M aj k L X)(a:Ba M X r L)(h:DN M r L o=U f):PE X o (tE (M.P.kt X) f)/\bx o=O:=by
 obtain⟨q,c,h⟩:=bM.mp h;rw[fY c];split at h
 .rename_i z
  rw[cL]at z;obtain⟨j,b,rfl⟩:=ck.mp h;exact⟨N6 C.gm.pg (gW b) (a _) z.2,J⟩
 .cases h
def Hh(C:CxOk M aj k L X)(h:Xi L b=U i):∃y a,b=.Name y a/\X.N[i]?=U y/\kI X.env.scope y/\bA y/\fF y:=by
 cases b<;>try(cases h;done)
 replace h:(if _ then _ else Y)=U i:=h
 split at h
 .rename_i q
  rw[cL]at q;obtain⟨l1,l2,l3,l4⟩:=fH C q.2;exact⟨_,_,J,by rw[C.N];exact gW h,l2,l3,l4⟩
 .cases h
def K2(C:CxOk M aj k L X)(c:Ba M X r L)(h:fA op b=Zc):PE X (.Compare a [op] [b] pos)<|tE (M.P.kt X)<|wB M r L a op b:=by
 obtain⟨j,n,hr⟩:=C.room;unfold wB;split
 .rename_i d f g e
  exact Ra M.pP hr g (c a) (jv C c e).1 h
 split
 .rename_i d i g e
  obtain⟨y,m,rfl,q1,q2,l,q4⟩:=Hh C e;exact(GK hr g (c a) q1 q2 l q4).1
 .exact Q4 J hr (c a) (c b) h
def Hi(C:CxOk M aj k L X)(c:Ba M X r L)(h:fA op b=Zc):PT X (.Compare a [op] [b] pos)<|tT (M.P.kt X)<|b9<|wB M r L a op b:=by
 obtain⟨j,n,hr⟩:=C.room;unfold wB;split
 .rename_i d f g e
  exact Rb M.pP hr g (c a) (jv C c e).1 h
 split
 .rename_i d i g e
  obtain⟨y,m,rfl,q1,q2,l,q4⟩:=Hh C e;exact(GK hr g (c a) q1 q2 l q4).2
 .exact KA J hr (c a) (c b) h
def K3(C:CxOk M aj k L X)(c:Ba M X r L){a:Bz}(g1:Gl X f)(g2:X.mg f=Y)(b:a.all noStar=O)(h:RH M r L f a=U g):PE X (.Call (.Name f p) a [] pos)<|tE (M.P.kt X) g:=by
 unfold RH at h;split at h
 .split at h
  .rename_i e
   subst e;obtain⟨i,d,rfl⟩:=ck.mp h;exact Rl M.pP (jv C c d).1 (by simpa using b) g1 g2
  .cases h
 .cases h
def K4(a:X.calm=O):∀p∈Xj,þ X p.1 p.2:=by
 intro p h;rcases cu.mp h with rfl|h
 .exact⟨⟨_,Xd,.inl ⟨_,PyProof.Rows.boot_min,Cy a⟩⟩,by decide,by decide⟩
 .exact QF a p h
def Hj(C:CxOk M aj k L X)(m:Ba M X r L)(f:Str)(b:Bz):PE X (.Call (.Name f p) b [] pos)<|tE (M.P.kt X)<|yN M aj r L f b:=by
 obtain⟨j,l,hr⟩:=C.room;unfold yN;split
 case isFalse=>exact bo
 rename_i d;have o:=f9 m b d;split
 .rename_i ds i t
  split
  case isFalse=>exact bo
  rename_i q;obtain⟨g1,g2⟩:=iW C q;cases b with
  |nil=>exact Ko (C.gm.fns f ds i t) hr (bG (bD ..) l) g1 g2
  |cons a b=>exact s_call (C.gm.fns f ds i t) hr (bG (bD ..) l) o g1 g2 d
 .split
  .rename_i c n h
   split
   case isFalse=>exact bo
   rename_i q;rw[cL]at q;obtain⟨g1,g2⟩:=iW C q.1;cases b with
   |nil=>cases q.2
   |cons a b=>exact Wo (C.gm.fz f c n h) hr l o g1 g2 d
  .rename_i c h
   split
   case isFalse=>exact bo
   rename_i q;rw[cL]at q;obtain⟨g1,g2⟩:=iW C q.1;cases b with
   |nil=>exact QM (C.gm.z0 f c h) g1 g2
   |cons a b=>cases q.2
  .rename_i c h
   split
   .rename_i a
    split
    case isFalse=>exact bo
    rename_i q;obtain⟨g1,g2⟩:=iW C q;exact Q2 (C.gm.cp f c h) hr l (m a) g1 g2 (by simpa using d)
   .exact bo
  .rename_i c i h
   split
   case isFalse=>exact bo
   rename_i q;rw[cL]at q;obtain⟨g1,g2⟩:=iW C q.1;cases b with
   |nil=>cases q.2
   |cons a b=>exact Q0 (C.gm.nw f c i h) hr l o g1 g2 d
  .split
   case isFalse=>exact bo
   rename_i u;obtain⟨g1,g2,g3⟩:=f_ C u;split
   .rename_i g s
    exact K3 C m g1 g2 d s
   split
   .rename_i a q e _
    have e:=eq_of_beq e;subst e;rw[e7,cL]at d;exact Xp C m u d.1
   .split
    .rename_i a v
     obtain⟨rfl,x,w,z,y,rfl⟩:=wI v;obtain⟨k1,k2,k3⟩:=f_ C x;exact yu<|Oj C.calm g2 k2 g1 k1 (m a) w
    .split
     .rename_i g a A s _ _ _
      exact Wl (K4 C.calm (f,g)<|c8 s) J g1 g2 o d
     .exact bo
theorem pR(C:CxOk M aj k L X)(b:∀x∈frees sc,sc.names.lookup x=U .free/\L.sc.names.lookup x=U .cell):∀{xs:Bi}{js:B1},idxs L.N xs=U js->(∀x∈xs,x∈frees sc)->gj X sc js xs
 |[],js,h,_=>by cases h;exact .nil
 |x::xs,js,h,a=>by
  obtain⟨i,g,f⟩:=bM.mp<|show(k_ L.N x).bind _=U js from h;obtain⟨c,e,rfl⟩:=ck.mp f;obtain⟨l,j⟩:=b x<|a x<|eO ..;refine .cons (by rw[C.N];exact gW g) l ?_<|pR C b e λy d=>a y<|ee _ d
  show X.env.scope.names.lookup x=_;rw[C.sc];exact j
def Dj(h:x∈frees sc):(x,NameKind.free)∈sc.names:=by
 unfold frees at h;obtain⟨q,b,a⟩:=zJ.mp h;obtain⟨n,kk⟩:=q;split at a
 .rename_i e;cases a;have e:kk=.free:=e;subst e;exact b
 .cases a
def Hk(C:CxOk M aj k L X)(sc:gL):He sc X.env=G6 sc L.sc:=by
 unfold He G6 Env.kindOf;rw[C.sc]
theorem yT{ok:Str->Bool}(d:X.N.Nodup)(h:∀x i,ok x=O->k_ N x=U i->X.N[i]?=U x/\Loc X.env.scope x/\(Kx X x)):∀{es:Bz}{xs:Bi}{is:B1},namesOf es=U xs->xs.all ok=O->idxs N xs=U is ->
  UA X es (ph is)/\(hZ es X.env).length=Mo is/\(hZ es X.env).findIdx? (·.1)=Y
 |[],xs,is,a,_,b=>by
  cases a;cases b;exact⟨Ju,J,J⟩
 |e::es,xs,is,a,c,b=>by
  cases e<;>try(cases a;done)
  rename_i x p;obtain⟨o,n,rfl⟩:=ck.mp<|show(namesOf es).map (x::·)=U xs from a
  rw[e7,cL]at c;obtain⟨i,m,l⟩:=bM.mp<|show(k_ N x).bind _=U is from b;obtain⟨Ħ,k,rfl⟩:=ck.mp l;obtain⟨g1,g2,g3⟩:=h x i c.1 m;obtain⟨j,g,f⟩:=yT d h n c.2 k;refine⟨EJ (rY d g1 g2 g3) j J,?_,?_⟩
  .show((Zc,_)::hZ es X.env).length=_
   rw[dM,g];rfl
  .show List.findIdx? (·.1) ((Zc,_)::hZ es X.env)=Y
   rw[List.findIdx?_cons];simp only[f];rfl
def Ox(l:B.K=X.K){ok:Str->Bool}(k:X.calm=O)(d:X.N.Nodup)(h:∀x i,ok x=O->k_ N x=U i->X.N[i]?=U x/\Loc X.env.scope x/\(Kx X x))
  (a:Uh N ok tg=U (g,is)):∃gt,PG X tg gt/\sX B gt g is:=by
 cases tg<;>try(cases a;done)
 .rename_i x s
  replace a:(if ok x=O then _ else Y)=U (g,is):=a
  split at a
  .rename_i q
   obtain⟨i,c,b⟩:=ck.mp a;cases b;obtain⟨g1,g2,g3⟩:=h x i q c;exact⟨_,rY d g1 g2 g3,AL i⟩
  .cases a
 .rename_i es p r
  replace a:(namesOf es).bind _=U (g,is):=a
  obtain⟨o,c,b⟩:=bM.mp a;split at b
  .rename_i q
   obtain⟨Ħ,n,m⟩:=ck.mp b;cases m;obtain⟨j,f,e⟩:=yT d h c q n;refine⟨_,EK k j f e,?_⟩;rw[<- l];exact Gx _ J
  .cases b
def RZ(a:Uh N ok tg=U (g,is)):∀i∈is,i<Mo N:=by
 have lt:∀{x i},k_ N x=U i->i<Mo N:=λh=>(bK.mp<|gW h).1;cases tg<;>try(cases a;done)
 .rename_i x t
  replace a:(if ok x=O then _ else Y)=U (g,is):=a
  split at a
  .obtain⟨i,f,c⟩:=ck.mp a
   cases c;intro j e;rw[iF.mp e];exact lt f
  .cases a
 .rename_i es r s
  replace a:(namesOf es).bind _=U (g,is):=a
  obtain⟨b,f,c⟩:=bM.mp a;split at c
  .obtain⟨Ħ,q,p⟩:=ck.mp c
   cases p
   have:∀(b:Bi)(is:B1),idxs N b=U is->∀i∈is,i<Mo N:=by
    intro b
    induction b with
    |nil=>intro is h;cases h;intro i l;cases l
    |cons x b k=>
     intro is h;obtain⟨i,o,n⟩:=bM.mp<|show(k_ N x).bind _=U is from h;obtain⟨d,m,rfl⟩:=ck.mp n;intro j e;rcases cu.mp e with z|z
     .rw[z];exact lt o
     .exact k d m j z
   exact this b _ q
  .cases c
def Bc(h:isSet it=Zc):∀x,fv it X.env x=pure x:=λx=>by
 unfold fv;cases it<;>first|rfl|(cases h)
structure R0(M:Gm)(X:Cx)(r:Rc)(L:Lc)(elt tg iter:cw)(ifs:Bz)(sc:gL)(js:B1)(g:FG)(is:B1):Prop where
 sco:gD X sc
 fr:gj X sc js<|frees sc
 nd:(locals sc++frees sc).Nodup
 it:PI X tg iter<|tI (M.P.kt X)<|r.I L tg iter
 ex:∃gt,(∀cl C fp s H,PG (X.block (locals sc++frees sc) sc cl C fp s H) tg gt)/\sX (M.P.kt X) gt g is
 ts:∀cl C fp s H,IY (X.block (locals sc++frees sc) sc cl C fp s H) ifs<|tT (M.P.kt X)<|Ot r (G7 L sc) ifs
 el:∀cl C fp s H,PE (X.block (locals sc++frees sc) sc cl C fp s H) elt<|tE (M.P.kt X)<|r.E (G7 L sc) elt
 lt:∀i∈is,i<(locals sc).length
 st:∀x,fv iter X.env x=pure x
def Bd(R:yR M aj k r)(C:CxOk M aj k L X){j:Bz}(h:(RG L sc&&decide ((locals sc++frees sc).Nodup)&&!isSet d&&decide (Mo j<=1))=O)(A:idxs L.N (frees sc)=U js)
  (f:Uh (locals sc) (λx=>decide<|sc.names.lookup x=U .local) tg=U (g,is)):R0 M X r L elt tg d j sc js g is:=by
 obtain⟨hE,Z,E,hO⟩:=R L X C;simp only[cL,ec,Ew]at h;obtain⟨⟨⟨l,u⟩,Q⟩,I⟩:=h;unfold RG at l;simp only[cL,ec,iG]at l;obtain⟨⟨k1,k2⟩,k3⟩:=l;have z:∀x∈frees sc,sc.names.lookup x=U .free/\L.sc.names.lookup x=U .cell:=λx p=>by
  have:=(k2 _<|Dj p).2 J
  exact this
 have bs:gD X sc:=⟨k1,λq n=>(k2 q n).1.1,λq n e=>(k2 q n).1.2 e,λq n e=>by
  show X.env.scope.names.lookup q.1=_;rw[C.sc];exact((k2 q n).2 e).2⟩
 have Zb:∀cl b a s H,CxOk M aj k (G7 L sc)<|X.block (locals sc++frees sc) sc cl b a s H:=λcl b a s H=>⟨C.gm,J,Hk C sc,C.calm,C.room⟩;refine⟨bs,pR C z A λ_ h=>h,u,E tg d,?_,λcl b a s H=>?_,λcl b a s H=>(R _ _<|Zb cl b a s H).1 elt,RZ f,Bc Q⟩
 .-- the target's names are the block's own
  have m:∀cl b a s H,∀x i,decide (sc.names.lookup x=U .local)=O->k_ (locals sc) x=U i->(X.block (locals sc++frees sc) sc cl b a s H).N[i]?=U x/\Loc (X.block (locals sc++frees sc) sc cl b a s H).env.scope x/\((X.block (locals sc++frees sc) sc cl b a s H).fn x=O\/(X.block (locals sc++frees sc) sc cl b a s H).env.scope.names.lookup x=U .local):=λcl b a s H x i p D=>by
   have hl:(He sc X.env).names.lookup x=U .local:=lookup_relabel_local<|c3 p;have l:=gW D;refine⟨?_,.inl hl,.inr hl⟩;show(locals sc++frees sc)[i]?=U x;rw[gY (bK.mp l).1];exact l
  cases tg<;>try(cases f;done)
  .rename_i x W
   replace f:(if _ then _ else Y)=U (g,is):=f
   split at f
   .rename_i q
    obtain⟨i,t,o⟩:=ck.mp f;cases o;exact⟨_,λcl b a s H=>by
     obtain⟨g1,g2,g3⟩:=m cl b a s H x i q t;exact rY u g1 g2 g3,AL i⟩
   .cases f
  .rename_i es T V
   replace f:(namesOf es).bind _=U (g,is):=f
   obtain⟨S,t,o⟩:=bM.mp f;split at o
   .rename_i q
    obtain⟨Ħ,G,F⟩:=ck.mp o;cases F;refine⟨O7 X.K is.length<|ph is,λcl b a s H=>?_,Gx (B:=M.P.kt X) is J⟩;obtain⟨y,w,v⟩:=yT (X:=X.block (locals sc++frees sc) sc cl b a s H) u (m cl b a s H) t q G;exact EK (X:=X.block (locals sc++frees sc) sc cl b a s H) C.calm y w v
   .cases o
 .match j,I with
  |[],_=>exact Ws
  |[c],_=>exact Wt<|(R _ _<|Zb cl b a s H).2.1 c
def lh(R:yR M aj k r)(C:CxOk M aj k L X)(e:cw):PE X e<|tO (M.P.kt X)<|rD r L e:=by
 cases e<;>first|exact dH|skip
 rename_i elt f sc p
 match f with
 |[]=>exact dH
 |_::_::_=>exact dH
 |[⟨tg,iter,ifs,ay⟩]=>
  show PE X _<|tO (M.P.kt X)<|pQ r L elt ⟨tg,iter,ifs,ay⟩ sc;unfold pQ;split
  case isFalse=>exact dH
  rename_i h;obtain⟨rfl,h⟩:=h;split
  .rename_i i g is b a
   have K:=Bd R C (elt:=elt) h b a;obtain⟨gt,d,c⟩:=K.ex;exact QT (locals sc) C.calm K.sco K.fr K.it d c K.ts K.el K.lt K.st
  .exact dH
def tU(a:Ba M X r L):∀e:Option cw,PO X e<|tP (M.P.kt X)<|G8 r L e
 |none=>Wb
 |some e=>Wc<|a e
def K5(h:isSlice e=Zc):jE e:=λo i=>by
 unfold ra;cases e<;>first|rfl|(cases h)
def K6{a:Bz}(h:RJ M r L o m a=U f):m=("pop" : Str)/\∃k1 d c,a=[.Constant (.int 0) k1 d]/\DN M r L o=U c/\f=pL M.bc c:=by
 unfold RJ at h;split at h
 .rename_i b
  split at h
  .rename_i g
   split at h
   .rename_i e
    obtain⟨c,i,rfl⟩:=ck.mp h;obtain⟨k1,d,rfl⟩:=iw g;exact⟨e,_,_,c,J,i,J⟩
   .cases h
  .cases h
 .cases h
def Be(C:CxOk M aj k L X)(h:M.ms.lookup m=U l):∀c f,au l aj c=U f->Zj M.P X.prog X.w X.K X.mg X.base k c m f:=λc f a=>by
 obtain⟨i,b,rfl⟩:=ck.mp a;exact C.gm.mts m l c i h b
def Hl(c:Const):PE X (.Constant c kk pos)<|tE (M.P.kt X)<|G9 c:=by
 cases c with
 |int i=>exact kX xX λ_ _=>J
 |bool b=>exact kX Ut λ_ _=>J
 |none=>exact kX OY λ_ _=>J
 |str s=>
  show PE X _<|tE _<|if s.length<=1000000 then cF (.str s.cps.toList)else aX
  split
  .rename_i h
   obtain⟨⟨l⟩⟩:=s;exact kX EE λ_ _=>⟨J,by rw[<- fV l];exact h⟩
  .exact bo
 |_=>exact bo
def K7(C:CxOk M aj k L X)(x:Str):PE X (.Name x pos)<|tE (M.P.kt X)<|G_ M L x:=by
 unfold G_;split
 .rename_i i b
  split
  .rename_i q
   obtain⟨l1,l2,l3,l4⟩:=fH C q;exact VT (by rw[C.N];exact gW b) l2 l3 l4
  .exact bo
 .split
  .rename_i t a
   split
   .rename_i q
    obtain⟨g1,g2⟩:=iW C q;exact WY (C.gm.cst _ _ a) J g1 g2
   .exact bo
  .exact bo
def Xr(C:CxOk M aj k L X)(a:Ba M X r L){i:cw}(h:jE i):PE X (.Subscript o i pos)<|tE (M.P.kt X)<|Zt M r L o i:=by
 unfold Zt;split
 .rename_i f e
  obtain⟨j,d,hr⟩:=C.room;exact W4 M.pP hr (jv C a e).1 (a _) h
 split
 .obtain⟨j,d,hr⟩:=C.room
  exact W_ J hr (a _) (a _) h
 split
 .rename_i y kk c
  obtain⟨m,l,b⟩:=bM.mp c;obtain⟨p,b,g⟩:=ck.mp b;cases g;obtain⟨n,rfl⟩:=ba l;split
  .rename_i q
   rw[cL]at q;obtain⟨l1,l2,l3,l4⟩:=fH C q.2;exact Q3 (by rw[C.N];exact gW b) l2 l3 l4 (a _) h
  .exact Qw J (a _) (a _) h
 .exact Qw J (a _) (a _) h
def R3(C:CxOk M aj k L X)(c:Ba M X r L)(o:cw)(m:Str)(s:Pos)(b:Bz)(cp:Pos):PE X (.Call (.Attribute o m s) b [] cp)<|tE (M.P.kt X)<|RK M aj r L o m s b cp:=by
 obtain⟨j,p,hr⟩:=C.room;unfold RK;split
 case isFalse=>exact bo
 rename_i h;simp only[cL,ec]at h;obtain⟨⟨⟨n,d⟩,i⟩,e⟩:=h;have q:=f9 c b d;split
 .rename_i f u
  obtain⟨rfl,k1,w,x,rfl,v,rfl⟩:=K6 u;obtain⟨b1,b2⟩:=jv C c v;exact Rm M.pP b1 b2 e
 split
 .rename_i l hl
  cases b with
  |nil=>exact Kp (Be C hl) hr (bG (bD ..) p) (c o)<|rA n d (dN i<|by decide) e
  |cons a b=>exact QJ (Be C hl) hr (bG (bD ..) p) (c o) q d<|rA n d (dN i<|by decide) e
 .split
  .rename_i g a y t _
   exact Wf (QD (m,g)<|c8 t) J (c o) q n d (by rw[dM]at i;exact jd (bD ..) i) e
  .exact bo
def R4(C:CxOk M aj k L X)(h:Ba M X r L)(f:cw)(b:Bz)(ks:List pq):PE X (.Call f b ks pos)<|tE (M.P.kt X)<|RL M r L f b ks:=by
 unfold RL;split
 .rename_i y a w d
  split
  .rename_i i g
   split
   .rename_i q
    obtain⟨q1,q2,c,q4⟩:=q;obtain⟨p,rfl⟩:=ba d;obtain⟨k1,j,e⟩:=iw g;obtain⟨g1,g2,_⟩:=f_ C q2;obtain⟨an,v,kp⟩:=w;cases(show an=U ("default" : Str)from q4);cases(show v=_ from e);subst q1;exact Rp g1 g2 C.calm (h a) c
   .exact bo
  .exact bo
 .exact bo
def Hm(R:yR M aj k r)(C:CxOk M aj k L X)(e:cw):PE X e<|tE (M.P.kt X)<|Ou M aj r L e:=by
 obtain⟨d,y,E,D⟩:=R L X C;cases e with
 |Constant c _ _=>exact Hl c
 |Name x _=>exact K7 C x
 |BinOp a l b _=>exact V7 J _ (d _)<|d _
 |UnaryOp l a _=>cases l with
  |USub=>exact V8 J<|d _
  |Not=>exact Qm<|d _
  |_=>exact bo
 |BoolOp l es _=>cases l with
  |And=>exact wG d _
  |Or=>exact bo
 |Compare a n bs _=>
  match n,bs with
  |[l],[b]=>
   show PE X _<|tE (M.P.kt X)<|if fA l b then aX else wB M r L a l b
   split
   .exact bo
   .rename_i h
    exact K2 C d (by simpa using h)
  |[],_=>exact bo
  |_::_::_,_=>exact bo
  |[_],[]=>exact bo
  |[_],_::_::_=>exact bo
 |IfExp c a b _=>exact VZ (y _) (d _)<|d _
 |Tuple es _ _=>
  show PE X _<|tE (M.P.kt X)<|if es.all noStar then _ else aX
  split
  .rename_i h;exact VU<|f9 d _ h
  .exact bo
 |List es _=>
  show PE X _<|tE (M.P.kt X)<|if es.all noStar then _ else aX
  split
  .rename_i h;exact VV<|f9 d _ h
  .exact bo
 |Subscript o i _=>
  show PE X _<|tE (M.P.kt X)<|RI M r L o i;cases q:isSlice i with
  |false=>
   rw[show RI M r L o i=Zt M r L o i by cases i<;>first|rfl|cases q]
   exact Xr C d<|K5 q
  |true=>
   cases i<;>try(cases q;done)
   rename_i lo B st _;cases st with
   |none=>
    show PE X _<|tE (M.P.kt X)<|match DN M r L o with|some f=>_|none=>_
    cases v:DN M r L o with
    |none=>exact ù J (d _) (tU d _)<|tU d _
    |some f=>exact Xa M.pP (jv C d v).1 (tU d _)<|tU d _
   |some _=>exact bo
 |Attribute o f _=>
  show PE X _<|tE (M.P.kt X)<|if bx o then _ else aX
  split
  .rename_i h
   split
   .rename_i j s
    split
    .exact Rg C.gm.pg M.pP (gW s) (d _) h
    .exact N6 C.gm.pg (gW s) (d _) h
   .exact bo
  .exact bo
 |ListComp z F sc p=>exact yu<|lh R C _
 |Call f g u cp=>
  cases u with
  |cons w t=>exact R4 C d f g<|w::t
  |nil=>cases f with
   |Name f _=>exact Hj C d _ _
   |Attribute o m A=>exact R3 C d o m A g cp
   |_=>exact bo
 |_=>exact bo
def Hn(R:yR M aj k r)(C:CxOk M aj k L X)(e:cw):PT X e<|tT (M.P.kt X)<|stepT M r L e:=by
 obtain⟨g,f,l,j⟩:=R L X C;cases e with
 |BoolOp c es _=>cases c with
  |And=>exact(wH f _).pt
  |Or=>exact(Bb f _).pt
 |UnaryOp c a _=>cases c with
  |Not=>exact VY<|f _
  |_=>exact NY (g _) J λi=>J
 |Compare a d bs _=>
  match d,bs with
  |[c],[b]=>
   show PT X _<|tT (M.P.kt X)<|if fA c b then qD else b9 (wB M r L a c b)
   split
   .exact kc
   .rename_i h
    exact Hi C g (by simpa using h)
  |[],_=>exact kc
  |_::_::_,_=>exact kc
  |[_],[]=>exact kc
  |[_],_::_::_=>exact kc
 |IfExp _ _ _ _=>exact kc
 |_=>exact NY (g _) J λi=>J
def K8{a:Bz}(h:A7 e=U a):∃p pos,e=.Call (.Name "range" p) a [] pos:=by
 obtain⟨⟨f,as,c⟩,d,b⟩:=bM.mp h;clear h;obtain⟨p,pos,rfl⟩:=eV d;have h:=b;clear b;split at h
 .rename_i q
  obtain⟨rfl,q⟩:=q;cases h;rw[show c=[]from mV.mp q];exact⟨_,_,J⟩
 .cases h
def Ho(h:wC e=U (a,n)):∃p pos,(n=0/\e=.Call (.Name "enumerate" p) [a] [] pos)\/(n=1/\∃k1 d kp,e=.Call (.Name "enumerate" p) [a] [⟨U<|et "start",.Constant (.int 1) k1 d,kp⟩] pos):=by
 obtain⟨⟨f,as,i⟩,j,g⟩:=bM.mp h;clear h;obtain⟨p,pos,rfl⟩:=eV j;have h:=g;clear g;split at h
 case isFalse=>cases h
 rename_i q
 replace q:f=("enumerate" : Str):=q
 subst q
 match as,i,h with
 |[a'],[],h=>cases h;exact⟨_,_,.inl ⟨J,J⟩⟩
 |[a'],[⟨an,v,kp⟩],h=>
  dsimp only at h;cases b:fZ v with
  |none=>rw[b]at h;cases h
  |some c=>
   rw[b]at h;cases c<;>try(cases h;done)
   obtain⟨k1,d,rfl⟩:=iw b;dsimp only at h;split at h
   .rename_i q;obtain⟨rfl,rfl⟩:=q;cases h;exact⟨_,_,.inr ⟨J,_,_,_,J⟩⟩
   .cases h
def K9(h:Hb e=U a):∃p pos,e=.Call (.Name "reversed" p) [a] [] pos/\noStar a=O:=by
 obtain⟨q,b,h⟩:=bM.mp h;obtain⟨⟨q1,q2⟩,h⟩:=nW.mp h;cases h;obtain⟨p,r,c⟩:=sY b;exact⟨p,r,by rw[c,q1],q2⟩
def K_(C:CxOk M aj k L X)(c:Ba M X r L)(f:Str)(b:Bz):PE X (.Call (.Name f p) b [] pos)<|tO (M.P.kt X)<|RN M r L f b:=by
 unfold RN;split
 case isFalse=>exact dH
 rename_i d;obtain⟨g1,g2,g3⟩:=f_ C d;split
 .rename_i a e
  obtain⟨rfl,h,g,j,i,rfl⟩:=wI e;obtain⟨k1,k2,k3⟩:=f_ C h;exact Oj C.calm g2 k2 g1 k1 (c a) g
 .split
  .split
   .rename_i q
    obtain⟨rfl,q⟩:=q;exact W7 J g2 g1 (c _) q
   .exact dH
  .exact dH
def Hq(R:yR M aj k r)(C:CxOk M aj k L X)(tg e:cw):PI X tg e<|tI (M.P.kt X)<|stepI M r L tg e:=by
 obtain⟨b,s,u,t⟩:=R L X C;unfold stepI;split
 .rename_i l o
  obtain⟨p,pos,rfl⟩:=K8 o;split
  case isFalse=>exact v9
  rename_i h;rw[cL]at h;obtain⟨g1,g2,_⟩:=f_ C h.1;have c:=h.2;split
  .exact Gy g1 g2 (b _) (by simpa using c)
  .simp only[e7,cL]at c
   exact GA g1 g2 (b _) (b _) c.1 c.2.1
  .exact Rk g1 g2 (b _) (b _) (b _) c
  .exact v9
 .split
  .rename_i a n m
   split
   case isFalse=>exact v9
   rename_i h;simp only[cL]at h;obtain⟨⟨i,g⟩,j⟩:=h;obtain⟨g1,g2,_⟩:=f_ C i;cases tg<;>try(cases g;done)
   obtain⟨p,pos,f|f⟩:=Ho m
   .obtain⟨rfl,rfl⟩:=f
    exact WK J g1 g2 (b a) j
   .obtain⟨rfl,k1,q,kp,rfl⟩:=f
    exact WM J g1 g2 (b a) j
  split
  .rename_i a d
   obtain⟨p,pos,rfl,g⟩:=K9 d;split
   .rename_i i
    obtain⟨g1,g2,_⟩:=f_ C i;exact W8 g1 g2 (b a) g
   .exact v9
  .split
   .rename_i h
    cases tg<;>try(cases h;done)
    exact Wr J<|b e
   .exact N9 J<|b e
def La(h:∀e,PE X e<|tE (M.P.kt X)<|r.E L e)(f:cw)(b:Bz)(cp:Pos):PE X (.Call f b [] cp)<|tO (M.P.kt X)<|RO r L f b cp:=by
 unfold RO;split
 .rename_i w a d
  split
  .rename_i c g
   split
   .rename_i q
    obtain⟨k,p,rfl⟩:=str_inv g;rw[fY d,q.1];exact Rr (h _) q.2.1 q.2.2
   .exact dH
  .exact dH
 .exact dH
def Hr(R:yR M aj k r)(C:CxOk M aj k L X)(e:cw):PE X e<|tO (M.P.kt X)<|Ov M r L e:=by
 obtain⟨d,m,o,g⟩:=R L X C;cases e with
 |List es _=>
  show PE X _<|tO (M.P.kt X)<|if es.all noStar then _ else fG
  split
  .rename_i h;exact Qi<|f9 d _ h
  .exact dH
 |ListComp n q sc p=>exact lh R C _
 |IfExp c a b _=>exact W6 (m _) (g _)<|g _
 |BinOp a j b _=>cases j<;>first|exact Rj (d _)<|d _|exact dH
 |Call f i l _=>cases l with
  |cons _ _=>exact dH
  |nil=>cases f<;>first|exact K_ C d _ _|exact La d _ _ _
 |_=>exact dH
theorem cY:∀n,yR M aj k<|comp M aj n
 |0=>λL X C=>⟨λ_=>bo,λ_=>kc,λ_ _=>v9,λ_=>dH⟩
 |n+1=>λL X C=>⟨Hm (cY n) C,Hn (cY n) C,Hq (cY n) C,Hr (cY n) C⟩
structure yU(M:Gm)(aj:Nat->Fn)(k:Nat)(L:Lc)(X:Cx):Prop extends CxOk M aj k L X where
 fn:∀x,X.fn x=O
 nd:X.N.Nodup
 xe:X.xe=λ_ _=>False
 stk:X.stack=X.env::X.outer
 frm:X.env.frame=U X.env.locals
def mf(h:yO e=Zc):fC e t l X.env=pure Zc:=by
 cases e<;>first|rfl|(cases h)
def R5(C:CxOk M aj k L X)(h:yO e=O->∃elt a sc p,e=.ListComp elt a sc p):fC e (U<|.Name x tp) l X.env=pure (Hc L x tp e):=by
 cases e<;>first|rfl|skip
 .unfold fC Hc Env.blockKind Env.kindOf
  rw[C.sc];rfl
 .obtain⟨_,_,_,_,z⟩:=h J;cases z
 .obtain⟨_,_,_,_,z⟩:=h J;cases z
def passes(C:yU M aj k L X):nX (cv X.prog X.w) X.A X.env X.xe:=by rw[C.xe];exact PassesOwn.never
def Bf(h:A_ e=O):∃dp,e=.Dict [] [] dp:=by
 cases e<;>try(cases h;done)
 rename_i b a dp
 match b,a,h with
 |[],[],_=>exact⟨_,J⟩
def R6(h:yO e=O):A_ e=Zc:=by
 cases e<;>first|rfl|(cases h)
def jw{F:FS}(h:∀s,F s=.bad):PS X st<|tS B F:=λ_ _ _ _ _ _ z=>by
 obtain⟨g,s,o,a,_,e,_⟩:=z;rw[h]at e;cases e
def Lb(C:yU M aj k L X)(n:Nat)(e:cw):PS X (.Assign [.Name x F] e pos)<|tS (M.P.kt X)<|Hd M aj n L x e:=by
 obtain⟨y,D,E,w⟩:=cY (M:=M) (aj:=aj) (k:=k) n L X C.toCxOk;unfold Hd;split
 case h_2=>exact cP
 rename_i i v;split
 case isFalse=>exact cP
 rename_i q;obtain⟨l1,l2,l3,l4⟩:=fH C.toCxOk q;have p:X.N[i]?=U x:=by rw[C.N];exact gW v
 have o:Kx X x:=.inl<|C.fn x;by_cases hlc:yO e=Zc
 .split
  .split
   .rename_i hd
    obtain⟨dp,rfl⟩:=Bf hd;exact Q6 C.nd p l1 o
   .exact Oa C.nd p l1 (w e) (mf hlc) o
  .exact N_ C.nd p l1 (y e) (mf hlc) o
 .rw[R6<|by simpa using hlc,bp dw]
  cases n with
  |zero=>
   split
   .exact jw λ_=>J
   .exact jw λ_=>J
  |succ n=>
   cases e with
   |ListComp elt j sc cp=>
    have R:=cY (M:=M) (aj:=aj) (k:=k) n;have m:PS X (.Assign [.Name x F] (.ListComp elt j sc cp) pos) (tS (M.P.kt X)<|jQ i<|rD (comp M aj n) L<|.ListComp elt j sc cp)/\PS X (.Assign [.Name x F] (.ListComp elt j sc cp) pos) (tS (M.P.kt X)<|aH i<|gx<|rD (comp M aj n) L<|.ListComp elt j sc cp):=by
     have r:=R5 (X:=X) (x:=x) (tp:=F) (l:=pos.line) (e:=.ListComp elt j sc cp) C.toCxOk λ_=>⟨_,_,_,_,J⟩;cases s:Hc L x F (.ListComp elt j sc cp)with
     |false=>
      rw[s]at r;exact⟨Oa C.nd p l1 (lh R C.toCxOk _) r o,N_ C.nd p l1 (yu<|lh R C.toCxOk _) r o⟩
     |true=>
      rw[s]at r;have bad:PS X (.Assign [.Name x F] (.ListComp elt j sc cp) pos) (tS (M.P.kt X)<|jQ i fG)/\PS X (.Assign [.Name x F] (.ListComp elt j sc cp) pos) (tS (M.P.kt X)<|aH i<|gx fG):=
       ⟨jw λ_=>J,jw λ_=>J⟩
      match j with
      |[]=>exact bad
      |_::_::_=>exact bad
      |[⟨tg,iter,ifs,ay⟩]=>
       rw[show rD (comp M aj n) L (.ListComp elt [⟨tg,iter,ifs,ay⟩] sc cp)=pQ (comp M aj n) L elt ⟨tg,iter,ifs,ay⟩ sc from J];unfold pQ;split
       case isFalse=>exact bad
       rename_i h;obtain⟨rfl,h⟩:=h;split
       .rename_i B g is u t
        have K:=Bd R C.toCxOk (elt:=elt) h u t;obtain⟨gt,A,z⟩:=K.ex;exact QW (locals sc) C.calm C.nd p l1 K.sco K.fr K.it A z K.ts K.el K.lt K.st o r
       .exact bad
    split
    .exact m.1
    .exact m.2
   |SetComp a b c d=>
    split
    .exact jw λ_=>J
    .exact jw λ_=>J
   |DictComp a b c d f=>
    split
    .exact jw λ_=>J
    .exact jw λ_=>J
   |_=>exact ef J hlc
def Ld(h:A9 nm mu e=U (y,a)):noStar a=O/\∃d c cp,e=.Call (.Attribute (.Name y d) nm c) [a] [] cp/\(c.endLine == cp.line)=O:=by
 obtain⟨⟨o,m,b⟩,g,h⟩:=bM.mp h;obtain⟨z,f,h⟩:=bM.mp h;obtain⟨⟨q1,_⟩,h⟩:=nW.mp h;cases h;obtain⟨z,c,cp,k,j⟩:=AQ g;obtain⟨d,i⟩:=ba f;exact⟨z,_,_,_,by rw[k,<- q1,<- i],j⟩
def Hs(h:Xk mu e=U y):∃a b cp,e=.Call (.Attribute (.Name y a) "pop" b) [] [] cp/\(b.endLine == cp.line)=O:=by
 obtain⟨q,g,h⟩:=bM.mp h;obtain⟨w,f,h⟩:=bM.mp h;obtain⟨z,d,h⟩:=bM.mp h;obtain⟨⟨q1,q2,c,_,q4⟩,h⟩:=nW.mp h;cases h;obtain⟨a,i⟩:=ba d;exact⟨a,_,_,by rw[jG g,fY f,i,c,mV.mp q1,mV.mp q2],q4⟩
def tW{a:Nat}(h:Ow e=O):sr [.Tuple es a tp] e X.env=pure Y:=by
 cases e<;>first|rfl|skip
 rename_i b _ _;unfold sr;dsimp only;rw[show b.all (foldedForSure 8)=O from h];split
 .rfl
 split
 .rfl
 split
 .rfl
 rfl
def tgl(C:yU M aj k L X):∀x i,jR L x=O->k_ L.N x=U i->X.N[i]?=U x/\Loc X.env.scope x/\(Kx X x):=λx i b a=>⟨by rw[C.N];exact gW a,(fH C.toCxOk b).1,.inl<|C.fn x⟩
def Le(C:yU M aj k L X)(n:Nat)(es:Bz){a:Nat}(e:cw):PS X (.Assign [.Tuple es a tp] e pos)<|tS (M.P.kt X)<|tupS M aj n L es e:=by
 obtain⟨c,i,l,j⟩:=cY (M:=M) (aj:=aj) (k:=k) n L X C.toCxOk;unfold tupS;split
 .exact cP
 .rename_i h
  simp only[Ey,not_or,Bool.not_eq_true,Bool.not_eq_eq_eq_not,Ez,Nk]at h;obtain⟨⟨f,d⟩,m⟩:=h;split
  .rename_i g is b
   obtain⟨gt,q1,q2⟩:=Ox (B:=M.P.kt X) (tg:=.Tuple es a tp) J C.calm C.nd (tgl C) b;exact Wz (c e) q1 q2 (show fC e (U<|.Tuple es a tp) pos.line X.env=pure Zc from mf f) (tW<|by simpa using d) J
  .exact cP
def R7(C:yU M aj k L X)(n:Nat)(f:Str)(e:cw):PE X e<|tE (M.P.kt X)<|RP M aj n L f e:=by
 obtain⟨b,c,d,a⟩:=cY (M:=M) (aj:=aj) (k:=k) n L X C.toCxOk;unfold RP;split
 .split
  .rename_i hd
   obtain⟨dp,rfl⟩:=Bf hd;exact Q9 M.pP M.Xh
  .exact Q8 M.pP M.Xh<|a e
 .exact b e
def Ht{a:Pos}:fC e (U<|.Attribute o f a) l X.env=pure Zc:=by
 cases e<;>rfl
def Lf(C:yU M aj k L X)(n:Nat)(o:cw)(f:Str){c:Pos}(e:cw):PS X (.Assign [.Attribute o f c] e pos)<|tS (M.P.kt X)<|RQ M aj n L o f e:=by
 obtain⟨b,d,h,g⟩:=cY (M:=M) (aj:=aj) (k:=k) n L X C.toCxOk;unfold RQ;split
 .rename_i j a
  exact WH C.gm.pg (gW a) (b o) (R7 C n f e) Ht
 .exact cP
def Lg(C:yU M aj k L X)(n:Nat)(o b:cw)(e:cw):PS X (.Assign [.Subscript o b sp] e pos)<|tS (M.P.kt X)<|RS M aj n L o b e:=by
 obtain⟨a,s,u,t⟩:=cY (M:=M) (aj:=aj) (k:=k) n L X C.toCxOk;obtain⟨j,r,hr⟩:=C.room;unfold RS;split
 .exact cP
 rename_i h;split
 .rename_i f l
  exact W3 M.pP hr (a e) (jv C.toCxOk a l).1 (a b)<|mf<|by simpa using h
 split
 .rename_i i g
  obtain⟨y,m,c⟩:=bM.mp g;obtain⟨p,rfl⟩:=ba m;split at c
  .rename_i q
   obtain⟨l1,l2,l3,l4⟩:=fH C.toCxOk q;split
   .exact cP
   .rename_i d
    exact Ĕ hr (a b) (a e) (by rw[C.N];exact gW c) l2 l3 l4 (mf<|by simpa using h) (by simpa using d)
  .cases c
 .exact cP
def Lh(C:yU M aj k L X)(n:Nat)(t:cw)(op:n3)(e:cw):PS X (.AugAssign t op e pos)<|tS (M.P.kt X)<|RT M aj n L t op e:=by
 obtain⟨c,p,s,r⟩:=cY (M:=M) (aj:=aj) (k:=k) n L X C.toCxOk;unfold RT;split
 .rename_i o j b
  obtain⟨q,f,a⟩:=bM.mp b;obtain⟨l,a,d⟩:=ck.mp a;cases d;rw[fY f];split
  .rename_i e;subst e
   exact W5 C.gm.pg (gW a) (c _)<|c _
  .exact cP
 split
 case h_2=>exact cP
 rename_i x i b;obtain⟨g,f,a⟩:=bM.mp b;obtain⟨m,a,d⟩:=ck.mp a;cases d;obtain⟨h,rfl⟩:=ba f;split
 .rename_i q
  obtain⟨rfl,q⟩:=q;obtain⟨l1,l2,l3,l4⟩:=fH C.toCxOk q;exact WW C.nd (by rw[C.N];exact gW a) l1 (c _)<|.inl<|C.fn _
 .exact cP
def Li(h:Xl M r L e=U (f,a)):∃o c cp,e=.Call (.Attribute o "append" c) [a] [] cp/\DN M r L o=U f/\noStar a=O/\(c.endLine == cp.line)=O:=by
 obtain⟨⟨o,m,b⟩,g,h⟩:=bM.mp h;obtain⟨z,d,h⟩:=bM.mp h;obtain⟨q1,h⟩:=nW.mp h;cases h;obtain⟨z,c,cp,j,i⟩:=AQ g;exact⟨o,_,_,by rw[j,<- q1],d,z,i⟩
def R8(C:yU M aj k L X)(n:Nat)(e:cw):PS X (.Expr e pos)<|tS (M.P.kt X)<|Ģ M aj n L e:=by
 obtain⟨d,r,t,s⟩:=cY (M:=M) (aj:=aj) (k:=k) n L X C.toCxOk;unfold Ģ;split
 .rename_i f a b
  obtain⟨o,l,cp,rfl,p,j,c⟩:=Li b;obtain⟨b1,b2⟩:=jv C.toCxOk d p;exact Q_ M.pP b1 b2 (d a) j c
 split
 .rename_i y a b
  obtain⟨j,m,l,cp,rfl,c⟩:=Ld b;split
  .rename_i i g
   split
   .rename_i q
    obtain⟨l1,l2,l3,l4⟩:=fH C.toCxOk q;exact WC (d a) (by rw[C.N];exact gW g) l2 l3 l4 j c
   .exact cP
  .exact cP
 split
 .rename_i y b
  obtain⟨m,l,cp,rfl,c⟩:=Hs b;split
  .rename_i i g
   split
   .rename_i q
    obtain⟨l1,l2,l3,l4⟩:=fH C.toCxOk q;exact Xe (by rw[C.N];exact gW g) l2 l3 l4 c
   .exact cP
  .exact cP
 .split
  .exact cP
  .rename_i h
   exact QY (d e)<|mf<|by simpa using h
def Hu(h:RV st=U e):∃p,st=.Expr e p:=by
 cases st<;>first|(cases h;done)|(cases h;exact⟨_,J⟩)
def nP{q}(h:wD st=U q):∃p a,st=.Assign [.Name q.1 p] q.2 a:=by
 cases st<;>try(cases h;done)
 rename_i ts e p
 match ts,h with
 |[t],h=>
  obtain⟨x,b,rfl⟩:=ck.mp<|show(asName t).map _=U q from h;obtain⟨p,rfl⟩:=ba b;exact⟨_,_,J⟩
def Hv{q}(h:RW st=U q):∃p,st=.If q.1 q.2.1 q.2.2 p:=by
 cases st<;>first|(cases h;done)|(cases h;exact⟨_,J⟩)
def Lj(h:Oq e=U es):∃t p,e=.Tuple es t p:=by
 cases e<;>first|(cases h;done)|(cases h;exact⟨_,_,J⟩)
def Lk(h:Hf e=U o):∃t p q,e=.Subscript o (.Constant (.int 0) t p) q:=by
 cases e<;>try(cases h;done)
 rename_i a i q
 replace h:(match fZ i with|U<|.int n=>if n=0 then U a else Y|_=>Y)=U o:=h
 split at h
 .rename_i n b
  split at h
  .rename_i z
   cases h;subst z;obtain⟨t,p,rfl⟩:=iw b;exact⟨_,_,_,J⟩
  .cases h
 .cases h
def yV(h:ģ M e=U z):∃m b cp,e=.Call (.Attribute z.2.2.1 m b) z.2.2.2 [] cp/\(M.xt.lookup m=U (z.1,z.2.1)\/M.xu.lookup m=U (z.1,z.2.1))/\bx z.2.2.1=O/\z.2.2.2.all noStar=O/\z.2.2.2.length<29/\(b.endLine == cp.line)=O:=by
 obtain⟨⟨g,as,d,cp⟩,i,h⟩:=bM.mp h;obtain⟨w,f,h⟩:=bM.mp h;obtain⟨j,a,h⟩:=bM.mp h;dsimp only at h;split at h
 .rename_i q
  obtain⟨q1,q2,c,q4,q5⟩:=q;cases h;have q1:d=[]:=mV.mp q1;subst q1;exact⟨w.2.1,w.2.2,cp,by rw[jG i,fY f],by split at a;exact .inl a;exact .inr a,q2,c,q4,q5⟩
 .cases h
def Hw{N a:XN}(F:Hg M Pr w K mg base N)(G:Hg M Pr w K mg base a):N=a:=by
 have:=F.mx.at_.symm.trans G.mx.at_
 injection this with this
 injection this with this
 obtain⟨C,f,g⟩:=N;obtain⟨d,c,b⟩:=a;cases F.nf;cases F.ng;cases G.nf;cases G.ng;cases this;rfl
theorem tY(C:yU M aj k L X)(x:Hg M X.prog X.w X.K X.mg X.base N)(n:Nat):∀(d:Nat)(st:gi){F:FS},yP M aj n L d st=U F->wu M.P X N st F
 |0,_,_,h=>by cases h
 |d+1,st,F,h=>by
  obtain⟨l,B,Q,I⟩:=cY (M:=M) (aj:=aj) (k:=k) n L X C.toCxOk;obtain⟨H,y,hr⟩:=C.room;rw[yP]at h;split at h
  .rename_i c i o b A
   cases h;obtain⟨e,v,u⟩:=bM.mp A;obtain⟨R,rfl⟩:=Hu v;obtain⟨m,S,cp,rfl,r,q,f,j,z⟩:=yV u;obtain⟨W,ħ,D⟩:=C.gm.xt m c i r;cases Hw x ħ;dsimp only at q f j ⊢;have E:=f9 l b f;cases b with
   |nil=>exact KY C.xe D hr (bG (bD ..) y) (l o)<|rA q J (by decide) z
   |cons a b=>exact RB C.xe D hr (bG (bD ..) y) (l o) E f<|rA q f (dN j<|by decide) z
  .obtain⟨⟨c,l1,l2⟩,v,g⟩:=bM.mp h
   obtain⟨p,rfl⟩:=Hv v;obtain⟨s,f,g⟩:=bM.mp g;obtain⟨t,j,g⟩:=bM.mp g;cases(iu f).1;cases(iu j).1;obtain⟨V,u,G⟩:=bM.mp g;obtain⟨T,r,rfl⟩:=ck.mp G;exact KZ C.xe (B _) (tY C x n d _ u)<|tY C x n d _ r
def Xs:∀{st:gi}{F:FS},yP M aj n L d st=U F->∃m c i,M.xt.lookup m=U (c,i)\/M.xu.lookup m=U (c,i):=by
 induction d with
 |zero=>intro st F h;cases h
 |succ d f=>
  intro st F h;rw[yP]at h;split at h
  .rename_i c i o b g
   obtain⟨e,k,a⟩:=bM.mp g;obtain⟨m,l,cp,rfl,j,_⟩:=yV a;exact⟨m,_,_,j⟩
  .obtain⟨⟨c,l1,l2⟩,k,h⟩:=bM.mp h
   obtain⟨s,_,h⟩:=bM.mp h;obtain⟨t,_,h⟩:=bM.mp h;obtain⟨p,a,h⟩:=bM.mp h;exact f a
def R9(h:Zu M nm e=O):∃p q r,e=.Call (.Name M.kn p) [.Name nm q] [] r:=by
 unfold Zu at h;split at h
 case h_2=>cases h
 rename_i k b;rw[cL,ec,ec]at h;obtain⟨p,r,z⟩:=sY b;obtain⟨q,a⟩:=ba h.2;exact⟨p,q,r,by rw[z,a,h.1]⟩
def R_(h:K1 M nm e=O):∃a b c d t p,e=.Tuple [.Attribute (.Name nm a) M.xf b,.Attribute (.Name nm c) M.xg d] t p:=by
 unfold K1 at h;split at h
 case h_2=>cases h
 rename_i a b f;split at h
 case h_2=>cases h
 rename_i k j i g;simp only[cL,ec]at h;obtain⟨⟨⟨m1,m2⟩,m3⟩,m4⟩:=h;obtain⟨tk,l,z⟩:=Lj f;obtain⟨n,m1⟩:=ba m1;obtain⟨m,m2⟩:=ba m2;exact⟨_,_,_,_,_,_,by rw[z,fY i,fY g,m1,m2,m3,m4]⟩
def Ll(h:Ĥ M nm su=U q):∃v c u b q1 q5 a t1,(Zu M nm v=O/\(Hf c).bind asName=U q.1/\K1 M nm u=O)/\su=[.Assign [.Name q.1 b] v q1,.If c [.Assign [.Name q.2 a] u t1] [] q5]:=by
 rcases su with _|⟨n,_|⟨s2,_|⟨_,_⟩⟩⟩<;>try(cases h;done)
 obtain⟨⟨x,v⟩,f,h⟩:=bM.mp h;obtain⟨⟨c,l1,l2⟩,e,h⟩:=bM.mp h;obtain⟨m,g,h⟩:=bM.mp h;obtain⟨⟨y,u⟩,d,h⟩:=bM.mp h;obtain⟨z,h⟩:=nW.mp h;cases h;obtain⟨b,q1,l⟩:=nP f;obtain⟨q5,k⟩:=Hv e;obtain⟨a,t1,j⟩:=nP d;obtain⟨e4,i⟩:=iu g;exact⟨v,c,u,b,q1,q5,a,t1,z,by rw[l,k,e4,i,j]⟩
def Sa(h:Ĥ M nm su=U q):∃n m l k q1 q2 j q4 q5 i g f e d b t1 tk a,su=[.Assign [.Name q.1 n] (.Call (.Name M.kn m) [.Name nm l] [] k) q1,.If (.Subscript (.Name q.1 q2) (.Constant (.int 0) a j) q4) [.Assign [.Name q.2 i] (.Tuple [.Attribute (.Name nm g) M.xf f,.Attribute (.Name nm e) M.xg d] tk b) t1] [] q5]:=by
 obtain⟨v,c,u,n,q1,q5,i,t1,⟨a,t,s⟩,z⟩:=Ll h;obtain⟨m,l,k,y⟩:=R9 a;obtain⟨g,f,e,d,tk,b,w⟩:=R_ s;obtain⟨o,r,p⟩:=bM.mp t;obtain⟨w1,j,q4,x⟩:=Lk r;obtain⟨q2,e4⟩:=ba p;rw[z,y,x,w,e4];exact⟨_,_,_,_,_,_,_,_,_,_,_,_,_,_,_,_,_,_,J⟩
def Lm(C:yU M aj k L X)(n:Nat){c:Ee}{F:FS}(h:RY M aj n L c l=U F):PS X (.Try c l [] [] pos)<|tS (M.P.kt X) F:=by
 match c,l,h with
 |[s],[.ExceptHandler ty nm su hp],h=>
  obtain⟨F1,E,h⟩:=bM.mp h;obtain⟨y,r,h⟩:=bM.mp h;obtain⟨I,PF,r⟩:=bM.mp r;obtain⟨g,o,h⟩:=bM.mp h;split at h
  case isFalse=>cases h
  rename_i q;obtain⟨q2,B⟩:=q;obtain⟨A,b,z⟩:=ck.mp h;subst z;obtain⟨yp,z⟩:=ba r;subst z;subst PF o B;obtain⟨m0,c0,S,V⟩:=Xs E;obtain⟨N,e,_⟩:=C.gm.xt m0 c0 S V;have T:=tY C e n 3 s E;obtain⟨g3,g4⟩:=iW C.toCxOk q2;obtain⟨CB,m1,m2⟩:=e.xm;obtain⟨⟨x,H⟩,W,b⟩:=bM.mp b;obtain⟨i,G,b⟩:=bM.mp b;obtain⟨j,w,b⟩:=bM.mp b;obtain⟨m,t,b⟩:=bM.mp b;dsimp only at w t b;split at b
  case isFalse=>cases b
  rename_i q;obtain⟨⟨w1,w2,w3,w4⟩,w5,w6,w7,w8⟩:=q;cases b;obtain⟨p1,p2,p3,p4,q1,q2,B,q4,q5,r1,r2,r3,r4,r5,r6,t1,tk,z1,rfl⟩:=Sa W;obtain⟨l1,l2,l3,l4⟩:=fH C.toCxOk w1;obtain⟨k1,k2,k3,k4⟩:=fH C.toCxOk w2;obtain⟨n1,R,Q,K⟩:=fH C.toCxOk w3;obtain⟨g5,g6⟩:=iW C.toCxOk w4;obtain⟨jr,hj,hr⟩:=C.room;have D:X.N[i]?=U g:=by rw[C.N];exact gW G
  have f:X.N[j]?=U x:=by rw[C.N];exact gW w
  have p:X.N[m]?=U H:=by rw[C.N];exact gW t
  refine RD C.xe T m1 m2 g3 g4 C.nd D (bK.mp f).1 w6 w7 w8 (by rw[C.sc];exact w5) (λa d oe ws v u c1 c2 Z=>?_) C.stk C.frm
  rw[<- e.nf,<- e.ng];exact RC e.kn hr.depth e.es e.af e.ag e.fg c1 c2 Z g5 g6 C.nd D R Q K f l1 l2 l3 l4 (.inl<|C.fn _) p k1<|.inl<|C.fn _
def yW(C:yU M aj k L X)(n:Nat){l:Lc->Ee->FS}(j:∀r,gO X r<|tS (M.P.kt X)<|l L r)(st:gi):PS X st<|tS (M.P.kt X)<|Xm M aj n l L st:=by
 obtain⟨y,q,v,A⟩:=cY (M:=M) (aj:=aj) (k:=k) n L X C.toCxOk;cases st with
 |Assign ts e pos=>
  match ts with
  |[]=>exact cP
  |_::_::_=>exact cP
  |[t]=>cases t with
   |Name x _=>exact Lb C n _
   |Tuple es _ _=>exact Le C n es e
   |Attribute o f _=>exact Lf C n o f e
   |Subscript o b _=>exact Lg C n o b e
   |_=>exact cP
 |AugAssign t s e pos=>exact Lh C n t s e
 |Expr e pos=>exact R8 C n e
 |Return o pos=>cases o with
  |none=>exact QX
  |some e=>
   exact WA<|y _
 |If c a b pos=>exact ć (q _) (j _)<|j _
 |For p it d i pos=>cases i with
  |cons _ _=>exact cP
  |nil=>
   show PS X _<|tS (M.P.kt X)<|RU M aj n L (l L d) p it;unfold RU;split
   .exact cP
   .rename_i h
    split
    .rename_i g is u
     obtain⟨gt,q1,q2⟩:=Ox (B:=M.P.kt X) J C.calm C.nd (tgl C) u;exact WD C.calm (v p it) q1 q2 (j d) (passes C)<|Bc<|by simpa using h
    .exact cP
 |While c d i pos=>cases i with
  |cons _ _=>exact cP
  |nil=>exact Kr _ (q _) (j _)<|passes C
 |Try d m i z pos=>
  match m,i,z with
  |[],_,_=>exact cP
  |_::_,_::_,_=>exact cP
  |_::_,[],_::_=>exact cP
  |h::m,[],[]=>
   show PS X _<|tS (M.P.kt X)<|match RY M aj n L d (h::m)with|some F=>F|none=>l L d
   split
   .rename_i F w
    exact Lm C n w
   .exact WZ C.xe<|j _
 |Pass _=>exact QV
 |_=>exact cP
theorem iz(n:Nat):∀(m:Nat)(L:Lc)(X:Cx),yU M aj k L X->∀a,gO X a<|tS (M.P.kt X)<|km M aj n m L a
 |0,_,_,_,_=>Ww
 |m+1,L,X,C,[]=>Wx
 |m+1,L,X,C,[st]=>Wy<|yW C n (iz n m L X C) st
 |m+1,L,X,C,st::s2::rest=>QU (yW C n (iz n m L X C) st)<|iz n m L X C<|s2::rest
def Sb(h:Xn st=U e):∃p,st=.Raise (U e) Y p:=by
 cases st<;>try(cases h;done)
 rename_i o c p
 match o,c,h with
 |some a,none,h=>cases h;exact⟨_,J⟩
def Ln(h:rsE M L e=U as):∃a r p q,as=a::r/\e=.Call (.Name M.xc p) (a::r) [] q/\yL L M.xc=O/\(a::r).all noStar=O:=by
 obtain⟨⟨f,l,j⟩,k,h⟩:=bM.mp h;obtain⟨⟨i,g,d,c,b⟩,h⟩:=nW.mp h;cases h;obtain⟨p,q,rfl⟩:=eV k;cases(i:f=M.xc);cases(mV.mp g:j=[]);cases l with
 |nil=>cases d
 |cons a r=>exact⟨a,r,p,q,J,J,c,b⟩
def Hx(n:Nat)(hk:1<=k)(C:CxOk M aj k L X)(S:yU M aj k L X.DC)(Z:NO X N.C E)(hp:nX (cv X.prog X.w) X.A X.env X.xe)(F:Hg M X.prog X.w X.K X.mg X.base N){x:Lc->Ee->FS}(l:∀T,gO X T<|tX (M.P.kt X) N E<|x L T)(st:gi) :
  PS X st<|tX (M.P.kt X) N E<|Zv M aj n x L st:=by
 obtain⟨g,B,hI,hO⟩:=cY (M:=M) (aj:=aj) (k:=k) n L X C;obtain⟨jr,y,hr⟩:=C.room;have plain:PS X st<|tX (M.P.kt X) N E<|jH<|Xm M aj n (km M aj n 200) L st:=ė λaa s V H D I h=>eC (yW S n (iz n 200 L X.DC S) st aa s V H D (I.oi _) h) (λ_ _ q=>q.iH) λ_ _ z=>z.elim;unfold Zv;split
 .rename_i d h
  obtain⟨e,v,u⟩:=bM.mp h;obtain⟨p,rfl⟩:=Sb v;obtain⟨a,r,q1,q2,rfl,rfl,t,f⟩:=Ln u;obtain⟨g1,g2⟩:=iW C t;exact x_raise Z F.mx (hr.mono<|by lia) (f9 g _ f) g1 g2 f
 split
 .rename_i c i o d hx
  obtain⟨e,v,u⟩:=bM.mp hx;obtain⟨ep,rfl⟩:=Hu v;obtain⟨m,ap,cp,rfl,t,f,j,Q,G⟩:=yV u;obtain⟨C2,ħ,D⟩:=C.gm.xt m c i t;cases Hw F ħ;dsimp only at f j Q ⊢;have hA:=f9 g d j;cases d with
  |nil=>exact KU (NP Z) D hr (bG (bD ..) y) (g o)<|rA f J (by decide) G
  |cons a d=>exact x_call (NP Z) D hr (bG (bD ..) y) (g o) hA j<|rA f j (dN Q<|by decide) G
 .cases st with
  |If c a b pos=>exact Ę (B _) (l _)<|l _
  |While c R oe pos=>cases oe with
   |nil=>exact KQ many (B _) (l _) hp
   |cons _ _=>exact λ_ _ _ _ _ _ W=>(by obtain⟨_,_,_,z⟩:=W;rcases z with⟨_,_,h,_⟩|⟨_,_,_,h,_⟩<;>cases h)
  |_=>exact plain
theorem lj(n:Nat)(b:1<=k)(C:CxOk M aj k L X)(c:yU M aj k L X.DC)(Z:NO X N.C E)(a:nX (cv X.prog X.w) X.A X.env X.xe)(F:Hg M X.prog X.w X.K X.mg X.base N):∀m d,gO X d<|tX (M.P.kt X) N E<|wF M aj n m L d
 |0,_=>λ_ _ _ _ _ _ e=>(by obtain⟨_,_,_,z⟩:=e;rcases z with⟨_,_,h,_⟩|⟨_,_,_,h,_⟩<;>cases h)
 |m+1,[]=>Xf
 |m+1,[st]=>jC<|Hx n b C c Z a F (lj n b C c Z a F m) st
 |m+1,st::s2::rest=>Rt (Hx n b C c Z a F (lj n b C c Z a F m) st)<|lj n b C c Z a F m<|s2::rest
structure Fe where
 cls:Option Str
 x:Str
 qual:Str
 st:gi
 N:Bi
 ps:Bi
 mu:Bi
 sl:Bool
 ds:FR
def noFn:Fn:=λ_ _=>.bad
def Sd(b:Bool)(f:Fn):Fn:=if b then aU f else f
def Jg(e:Fe):Bool:=e.mu.contains ("raise" : Str)
def Bg(M:Gm)(aj:Nat->Fn)(e:Fe):FS:=match Jg e with
 |false=>km M aj 60 200 ⟨e.N,az e.st,e.mu⟩<|b8 e.st
 |true=>wF M aj 60 200 ⟨e.N,az e.st,e.mu⟩<|b8 e.st
def wJ(M:Gm)(aj:Nat->Fn)(e:Fe):Fn:=Sd e.sl<|aI e.ps.length e.N.length<|Bg M aj e
def iA(M:Gm)(Ft:List Fe):Nat->Nat->Fn
 |0,_=>noFn
 |n+1,i=>match Ft[i]? with
  |some e=>wJ M (iA M Ft n) e
  |none=>noFn
def Dk(K:bq)(x:Str):Option bt:=match mS K eP x with
 |U<|U<|.ref a=>U a
 |_=>Y
def gH{a:bt}(h:Dk K x=U a):mS K eP x=U (U<|.ref a):=by
 unfold Dk at h;split at h
 .rename_i e;cases h;exact e
 .cases h
def Ĩ(K:bq)(C:bt)(m:Str):Option bt:=match eY K (.ref C) m with
 |U<|U<|.ref a=>U a
 |_=>Y
def Zw(K:bq)(C:bt)(ns:Bi):Bool:=DT K C y6&&DU K C&&DZ K C&&decide (eY K (.ref C) "__setattr__" = U (U<|.builtin "object.__setattr__")) &&
 decide (eY K (.ref C) "__class__" = U (U<|.builtin Md))&&decide (Cc K C (.type "object")=U O)&&ns.all (λf=>decide<|eY K (.ref C) f=U Y)&&decide ns.Nodup&&decide (Mo ns<=100)
def subB(K:bq)(cn:Bi)(C:bt)(l:B1):Bool:=(cK cn.length).all λd=>match cn[d]? with
 |none=>O
 |some n=>(match Dk K n with
  |some D=>decide<|nT K (.ref C) (.ref D)=U (decide<|d∈l)
  |none=>Zc)
def Xu(K:bq)(P:Pg):Bool:=(cK P.cn.length).all λc=>match P.cn[c]? with
 |none=>O
 |some n=>(match Dk K n,P.fn[c]?,P.sub[c]? with
  |some C,some ns,some l=>Zw K C ns&&subB K P.cn C l
  |_,_,_=>Zc)
def gtB(K:bq):Bool:=decide (zt K (.builtin Md) "__get__" = U (U<|.builtin "getset_descriptor.__get__"))&&decide (zu K (.builtin Md)=U O)
def Hy(K:bq)(mg:Str->D1):Prop:=∀x o,mS K eP x=U o->mg x=o
def Se(X:K.In h)(G:h.Ns eP mg):Hy K mg:=λx o e=>by
 cases o with
 |none=>exact PySem.W.mg_none_of X G e
 |some v=>exact PySem.W.mg_of X G e
def rE(h:Xu K P=O){c:Nat}(a:P.cn[c]?=U n):∃C ns l,Dk K n=U C/\P.fn[c]?=U ns/\P.sub[c]?=U l/\Zw K C ns=O/\subB K P.cn C l=O:=by
 unfold Xu at h
 have:=iG.mp h c<|jL.mpr (bK.mp a).1
 rw[a]at this;dsimp only at this;split at this
 .rename_i C ns l e d b
  rw[cL]at this;exact⟨C,ns,l,e,d,b,this.1,this.2⟩
 .cases this
def pS(g:Hy K mg){C:bt}(c:Dk K n=U C)(h:Zw K C ns=O):TZ K mg n ns C:=by
 unfold Zw at h;simp only[cL,ec]at h;obtain⟨⟨⟨⟨⟨⟨⟨⟨p,o⟩,m⟩,l⟩,k⟩,j⟩,i⟩,e⟩,d⟩:=h;have a:=gH c;exact⟨a,g _ _ a,e,d,⟨p,o,m,l⟩,λf b=>show eY K (.ref C) f=U Y from c3<|iG.mp i f b,k,j⟩
def Xv(g:Hy K mg)(h:Xu K P=O)(a:gtB K=O):nq K mg P:=by
 refine⟨λc n ns i b=>?_,λc d n s C D l i b q p o=>?_,?_⟩
 .obtain⟨C,r,l,f,k,_,m,_⟩:=rE h i
  rw[b]at k;cases k;exact⟨C,pS g f m⟩
 .obtain⟨v,r,t,f,_,hl,_,j⟩:=rE h i
  rw[o]at hl;cases hl;have e:=(g _ _<|gH f).symm.trans q;cases e;unfold subB at j
  have:=iG.mp j d<|jL.mpr (bK.mp b).1
  rw[b]at this;dsimp only at this;split at this
  .rename_i u hd
   have e:=(g _ _<|gH hd).symm.trans p;cases e;exact c3 this
  .cases this
 .unfold gtB at a
  rw[cL]at a;exact⟨c3 a.1,c3 a.2⟩
def Lo(K:bq)(e:Fe):Option bt:=match e.cls with
 |none=>Dk K e.x
 |some c=>(Dk K c).bind λC=>Ĩ K C e.x
def Oz(K:bq)(e:Fe):Option eh:=(Lo K e).bind λf=>match K.lookup f with
 |some ⟨_,_,.func fd,_⟩=>U fd
 |_=>Y
def Hz(e:Fe)(fd:eh):eh:=Cd e.x e.qual (kP e.st) (b8 e.st) (az e.st) fd.defaults fd.kwdefaults fd.doc fd.pyModule fd.annotations fd.code fd.closureTuple
def scB(e:Fe):Bool:=decide ((az e.st).kind=.function)&&!(az e.st).isCoroutine&&!(az e.st).isGenerator&&decide e.N.Nodup&&decide (e.N.take e.ps.length=e.ps)&&e.ps.all (λx=>decide ((az e.st).names.lookup x=U .local) ||decide ((az e.st).names.lookup x=U .cell))&&(az e.st).names.all (λy=>decide<|y.2≠.free)
def Bj:T->bj->Bool
 |.int i,.int j _=>decide<|i=j
 |.str l,.str s _=>decide (s.cps.toList=l)&&decide (Mo l<=1000000)
 |.bl b,.bool c=>b == c
 |.non,.none=>O
 |_,_=>Zc
def e8:T->V
 |.int i=>.int i
 |.str l=>SV l
 |.bl b=>.bl b
 |_=>.non
def Bk{u:bj}(h:Bj t u=O):RelV (e8 t) u/\∀(B:KT)al H,Rep B al H t<|e8 t:=by
 unfold Bj at h;split at h
 .have h:=c3 h
  subst h;exact⟨⟨_,J⟩,λ_ _ _=>J⟩
 .rename_i l s tk
  rw[cL]at h;have a:=c3 h.1;subst a;exact⟨⟨tk,J⟩,λ_ _ _=>⟨J,c3 h.2⟩⟩
 .have h:=eq_of_beq h
  subst h;exact⟨J,λ_ _ _=>J⟩
 .exact⟨J,λ_ _ _=>J⟩
 .cases h
def ko:FR->B2->Bool
 |[],[]=>O
 |t::ts,u::us=>Bj t u&&ko ts us
 |_,_=>Zc
theorem pU:∀{ts:FR}{us:B2},ko ts us=O->Vals (ts.map e8) us/\∀(B:KT)al H,aC B al H ts<|ts.map e8
 |[],[],_=>⟨.nil,λ_ _ _=>J⟩
 |t::ts,u::us,h=>by
  rw[ko,cL]at h;obtain⟨a,b⟩:=Bk h.1;obtain⟨c,d⟩:=pU h.2;exact⟨.cons a c,λB al H=>⟨_,_,J,b B al H,d B al H⟩⟩
 |[],_::_,h=>by cases h
 |_::_,[],h=>by cases h
def ĩ(K:bq)(ds:FR)(c:bj):Bool:=match ds with
 |[]=>(match c with
  |.none=>O
  |_=>Zc)
 |_::_=>(match c with
  |.ref a=>(match K.lookup a with
   |some ⟨_,_,.seq b _,_⟩=>ko ds b.toList
   |_=>Zc)
  |_=>Zc)
def Zx(K:bq)(e:Fe):Bool:=match Lo K e,Oz K e with
 |some f,some fd=>lJ K (.ref f)&&Cb K (.ref f)&&D5 K fd.code e.qual&&scB e&&ĩ K e.ds fd.defaults
 |_,_=>Zc
def Bn(e:Fe):Prop:=match e.ds with
 |[]=>∀(kV c f:bj)(an:Option bt)(g ct:bj)(b:B2),Mo b=Mo e.ps->bindArgs (Cd e.x e.qual (kP e.st) (b8 e.st) (az e.st) .none kV c f an g ct) ⟨b,[]⟩=pure (e.ps.zip b)
 |ds=>∀(kV c f:bj)(an:Option bt)(g ct:bj)(s:av)(a:bt)(o:Obj)(d:B2)(n:Nat)(b:B2),s.heap.get? a=U o->o.data=.seq d.toArray n->Mo d=Mo ds->(b++d).length=Mo e.ps ->
  IZ s (Cd e.x e.qual (kP e.st) (b8 e.st) (az e.st) (.ref a) kV c f an g ct) ⟨b,[]⟩ (e.ps.zip<|b++d)
structure ny(K:bq)(e:Fe)(f:bt)(fd:eh):Prop where
 at_:Lo K e=U f
 fn:v_ K e.x e.qual e.st f fd
 sc:fR e.N e.ps<|az e.st
 isf:Cb K (.ref f)=O
 bs:e.ds=[]->∀us:B2,Mo us=Mo e.ps->bindArgs fd ⟨us,[]⟩=pure (e.ps.zip us)
 bd:∃(gR:B2)(dV:List V),Binds K fd e.ps gR/\Vals dV gR/\∀(B:KT)al H,aC B al H e.ds dV
def ny.bn{e:Fe}(F:ny K e f fd)(h:e.ds=[]):Binds K fd e.ps []:=.all<|F.bs h
theorem rF:∀{ts:FR}{us:B2},ko ts us=O->Mo us=Mo ts
 |[],[],_=>J
 |t::ts,u::us,h=>by
  rw[ko,cL]at h;simp[rF h.2]
 |[],_::_,h=>by cases h
 |_::_,[],h=>by cases h
def Xw{e:Fe}(h:Zx K e=O)(q:Oz K e=(Oz K e).map (Hz e))(b:Bn e):∃f fd,ny K e f fd:=by
 unfold Zx at h;split at h
 case h_2=>cases h
 rename_i f fd p i;simp only[cL]at h;obtain⟨⟨⟨⟨L,I⟩,G⟩,o⟩,c⟩:=h;rw[i]at q;injection q with q
 have l:∃k od j,K.lookup f=U ⟨k,od,.func fd,j⟩:=by
  unfold Oz at i;rw[p]at i;dsimp only[Option.bind]at i;split at i
  .rename_i k od M j e
   cases i;exact⟨k,od,j,e⟩
  .cases i
 obtain⟨k,od,j,l⟩:=l;have F:v_ K e.x e.qual e.st f fd:=⟨⟨k,od,fd.defaults,fd.kwdefaults,fd.doc,fd.pyModule,fd.annotations,fd.code,fd.closureTuple,j,q,l,G⟩,L⟩;have bs:e.ds=[]->∀g:B2,Mo g=Mo e.ps->bindArgs fd ⟨g,[]⟩=pure (e.ps.zip g):=λh g hl=>by
  unfold Bn at b;rw[h]at b c;unfold ĩ at c;dsimp only at b c;split at c
  .rename_i hd
   rw[q];unfold Hz;rw[hd];exact b _ _ _ _ _ _ g hl
  .cases c
 have bd:∃(r:B2)(t:List V),Binds K fd e.ps r/\Vals t r/\∀(B:KT)al H,aC B al H e.ds t:=by
  cases u:e.ds with
  |nil=>exact⟨[],[],.all<|bs u,.nil,λ_ _ _=>J⟩
  |cons d ds=>
   unfold Bn at b;rw[u]at b c;unfold ĩ at c;dsimp only at b c;split at c
   case h_2=>cases c
   rename_i a hd;split at c
   case h_2=>cases c
   rename_i A z m C P n;obtain⟨w,v⟩:=pU c;refine⟨m.toList,_,λs g N hl=>?_,w,λB al H=>v B al H⟩;rw[q];unfold Hz;rw[hd];exact b _ _ _ _ _ _ s a _ m.toList C g (N _ _ n) J (rF c) hl
 refine⟨f,fd,p,F,?_,I,bs,bd⟩;unfold scB at o;simp only[cL,ec]at o;obtain⟨⟨⟨⟨⟨⟨g1,g2⟩,g3⟩,g4⟩,g5⟩,g6⟩,g7⟩:=o;refine⟨g1,by simpa using g2,by simpa using g3,g4,g5,λx E=>?_,λy D=>c3<|iG.mp g7 y D⟩
 have:=iG.mp g6 x E
 rw[Ey]at this;exact this.imp c3 c3
abbrev Lp:=List<|Str×Nat
section
variable{Ft:List Fe}{It:Lp}
def Ī(e:Fe):Bool:=e.N.all λx=>(decide ((az e.st).names.lookup x=U .local) ||decide ((az e.st).names.lookup x=U .cell))&&!iy x
def OA{e:Fe}(h:Ī e=O):∀(i:Nat)(x:Str),e.N[i]?=U x->kI (az e.st) x/\bA x/\fF x:=λi x a=>by
 have:=iG.mp h x<|gz a
 rw[cL,Ey]at this;refine⟨this.1.elim (λh=>.inl<|c3 h) λh=>.inr<|.inl<|c3 h,DO<|by simpa using this.2⟩
def mkB(K:bq)(C f:bt):Bool:=DV K C&&decide (eY K (.ref C) "__init__" = U (U<|.ref f))&&lJ K (.ref C)
def HA(K:bq)(M:Gm)(Ft:List Fe)(It:Lp)(c:Nat)(x:Str)(t:Bi->Fe->Bool):Bool:=match M.P.cn[c]?,M.P.fn[c]?,(It.lookup x).bind λi=>Ft[i]? with
 |some n,some ns,some e=>decide (n=x)&&(match Dk K x,Lo K e with
  |some C,some f=>mkB K C f&&e.ds.isEmpty&&t ns e
  |_,_=>Zc)
 |_,_,_=>Zc
def fzB(n:Nat)(ns:Bi)(e:Fe):Bool:=Ī e&&pC e.N 1 (b8 e.st) ns&&decide (Mo e.ps=Mo ns+1)&&decide (Mo ns=n)
def cpB(K:bq)(ns:Bi)(e:Fe):Bool:=Ī e&&decide (Mo e.ps=2)&&decide (mS K eP "list" = U Y)&&decide ((az e.st).names.lookup ("list" : Str)=U .globalImplicit)&&(match b8 e.st with
 |[Jc]=>(match tF Jc with
  |some (a,n,q)=>decide (ns=[n])&&decide (e.N[0]?=U a)&&decide (e.N[1]?=U q)
  |none=>Zc)
 |_=>Zc)
def Zy(K:bq)(M:Gm)(Ft:List Fe)(It:Lp)(x:Str):Ck->Bool
 |.fz c n=>HA K M Ft It c x<|fzB n
 |.z0 c=>(match M.P.cn[c]?,Dk K x with
  |some n,some C=>decide (n=x)&&DV K C&&decide (eY K (.ref C) "__init__" = U (U<|.builtin "object.__init__"))&&lJ K (.ref C)
  |_,_=>Zc)
 |.cp c=>HA K M Ft It c x<|cpB K
 |.nw c i=>decide (It.lookup x=U i)&&HA K M Ft It c x λ_ _=>O
def ī:FR->FR->Bool
 |[],[]=>O
 |[.int i],[.int j]=>decide<|i=j
 |_,_=>Zc
def Lq{a b:FR}(h:ī a b=O):a=b:=by
 unfold ī at h;split at h
 .rfl
 .rw[c3 h]
 .cases h
def Ĭ(K:bq)(Ft:List Fe)(p:Str×FR×Nat):Bool:=match Ft[p.2.2]? with
 |some e=>decide (e.cls=Y)&&decide (e.x=p.1)&&ī p.2.1 e.ds
 |none=>Zc
def Xx(K:bq)(M:Gm)(Ft:List Fe)(m:Str)(p:Nat×Nat):Bool:=match M.P.cn[p.1]?,M.P.fn[p.1]?,Ft[p.2]? with
 |some n,some ns,some e=>(match Dk K n,Lo K e with
  |some C,some f=>decide (eY K (.ref C) m=U (U<|.ref f))&&e.ds.isEmpty&&!ns.contains m
  |_,_=>Zc)
 |_,_,_=>Zc
def ecB(K:bq)(C:bt):Bool:=decide (eY K (.ref C) "__getattribute__" = U (U<|.builtin L9))&&decide (eY K (.ref C) "__getattr__" = U Y)&&decide (eY K (.ref C) "__class__" = U (U<|.builtin Md))&&decide (Cc K C (.type "BaseException")=U O)&&decide (Cc K C (.type "object")=U O) &&
 decide (eY K (.ref C) "__setattr__" = U (U<|.builtin "object.__setattr__"))&&DU K C&&(PySem.W.clsIn K C).any (λa=>Am a.mro)&&lJ K (.ref C)
def Zz(K:bq)(C:bt)(f:Str):Bool:=decide<|eY K (.ref C) f=U Y
def xmB(K:bq)(C:bt)(y:Str):Bool:=match Dk K y with
 |some D=>decide<|D7 K (.ref C) (.ref D)=U O
 |none=>Zc
def Lr(s f p:Str)(st:gi):Bool:=match AR st with
 |some (a,b,e)=>decide (a=s)&&decide (b=f)&&decide (asName e=U p)
 |none=>Zc
def un{α:Type}:List α->Option (α×List α)
 |[]=>Y
 |a::r=>U (a,r)
def r8{l:List α}{p}(h:un l=U p):l=p.1::p.2:=by
 cases l<;>cases h;rfl
def l2{α:Type}(l:List α):Option<|α×α:=(un l).bind λp=>(un p.2).bind λq=>if q.2.isEmpty=O then U (p.1,q.1)else Y
def tZ{l:List α}{p}(h:l2 l=U p):l=[p.1,p.2]:=by
 obtain⟨a,d,h⟩:=bM.mp h;obtain⟨b,c,h⟩:=bM.mp h;obtain⟨z,h⟩:=nW.mp h;cases h;rw[r8 d,r8 c,mV.mp z]
def l3{α:Type}(l:List α):Option<|α×α×α:=(un l).bind λp=>(l2 p.2).map λq=>(p.1,q)
def HB{l:List α}{p}(h:l3 l=U p):l=[p.1,p.2.1,p.2.2]:=by
 obtain⟨a,d,h⟩:=bM.mp h;obtain⟨b,c,rfl⟩:=ck.mp h;rw[r8 d,tZ c]
def mkV(M:Gm)(e:Fe):Bool:=(l2<|b8 e.st).any λb=>(l3 e.ps).any λs=>decide (e.N=[s.1,s.2.1,s.2.2])&&Lr s.1 M.xf s.2.1 b.1&&Lr s.1 M.xg s.2.2 b.2&&!iy s.1&&!iy s.2.1&&!iy s.2.2&&e.ds.isEmpty
def Xy(K:bq)(M:Gm)(Ft:List Fe)(C:bt):Bool:=match Ft[M.xk]? with
 |some e=>(match Lo K e with
  |some f=>JV K C f&&mkV M e
  |none=>Zc)
 |none=>Zc
def Dl(nm:Str):Bz->Option Bi
 |[]=>U []
 |e::es=>(jt e).bind λq=>(l2 q.2.1).bind λp=>if q.1=("isinstance" : Str)/\q.2.2.isEmpty=O/\asName p.1=U nm then(asName p.2).bind λy=>(Dl nm es).map (y::·)else Y
def HC:cw->Option Bz
 |.List es _=>U es
 |_=>Y
def OB:cw->Option (cw×cw)
 |.BinOp a c b _=>if c=.Add then U (a,b)else Y
 |_=>Y
def Xz:gi->Option cw
 |.Return o _=>o
 |_=>Y
def Sf(nm x:Str)(e:cw):Option Bi:=(OB e).bind λw=>if asName w.1=U x then(HC w.2).bind (Dl nm)else Y
def knV(e:Fe):Option<|Bi×Bi×Bi:=(l3<|b8 e.st).bind λb=>(l2 e.N).bind λn=>(wD b.1).bind λq1=>(wD b.2.1).bind λq2=>(Xz b.2.2).bind λf=>if e.ps=[n.1]/\q1.1=n.2/\q2.1=n.2/\iy n.1=Zc/\iy n.2=Zc/\e.ds.isEmpty=O/\(az e.st).names.lookup n.2=U .local then(HC q1.2).bind λl1=>(Dl n.1 l1).bind λd=>(Sf n.1 n.2 q2.2).bind λc=>(Sf n.1 n.2 f).map λa=>(d,c,a)else Y
def ZA(K:bq)(C:bt)(y:Str):Option Bool:=if iy y then Y else match mS K eP y with
 |U<|U<|.ref D=>nT K (.ref C)<|.ref D
 |some none=>if y=("ValueError" : Str)then nT K (.ref C) (.type "ValueError")else Y
 |_=>Y
def t_(K:bq)(C:bt):Bi->Option Fh
 |[]=>U []
 |y::ys=>(ZA K C y).bind λb=>(t_ K C ys).map (b::·)
def Sg(e:Fe)(ys:Bi):Bool:=ys.all λy=>decide<|(az e.st).names.lookup y=U .globalImplicit
def knB(K:bq)(M:Gm)(Ft:List Fe)(C:bt):Bool:=match Ft[M.kk]? with
 |some e=>decide (e.cls=Y)&&decide (e.x=M.kn)&&decide (mS K eP "isinstance" = U Y)&&(match knV e with
  |some (c,b,a)=>Sg e ("isinstance" :: (c++b++a))&&(match t_ K C c,t_ K C b,t_ K C a with
   |some b1,some b2,some b3=>decide (b1++b2++b3=O::M.kb)&&decide (Mo b1+Mo b2+Mo b3<=1000)
   |_,_,_=>Zc)
  |none=>Zc)
 |none=>Zc
def xcB(K:bq)(M:Gm)(Ft:List Fe):Bool:=match Dk K M.xc with
 |some C=>ecB K C&&Zz K C M.xf&&Zz K C M.xg&&decide (M.xg≠M.xf)&&Xy K M Ft C&&knB K M Ft C&&xmB K C M.xm
 |none=>Zc
def XA(K:bq)(M:Gm)(Ft:List Fe):Bool:=xcB K M Ft&&(M.xt++M.xu).all (λp=>Xx K M Ft p.1 p.2&&(match Ft[p.2.2]? with
  |some e=>Jg e
  |none=>Zc))&&Ft.all λe=>!(Jg e&&e.sl)
def Sh(K:bq)(M:Gm)(Ft:List Fe)(It:Lp):Bool:=Xu K M.P&&gtB K&&Ft.all (Zx K)&&M.fs.all (Ĭ K Ft)&&M.cl.all (λp=>Zy K M Ft It p.1 p.2)&&M.ms.all (λp=>p.2.all<|Xx K M Ft p.1)&&M.bl.all (λx=>decide<|mS K eP x=U Y)&&XA K M Ft
structure ModOk(K:bq)(M:Gm)(Ft:List Fe)(It:Lp):Prop where
 b:Sh K M Ft It=O
 q:Ft.map (Oz K)=Ft.map λe=>(Oz K e).map<|Hz e
 bn:∀e∈Ft,Bn e
theorem HD{α c:Type}{f g:α->c}:∀{l:List α},l.map f=l.map g->∀a∈l,f a=g a
 |[],_,a,h=>by simp at h
 |b::l,e,a,h=>by
  rw[fq,fq]at e;injection e with e1 e2
  rcases cu.mp h with rfl|h
  .exact e1
  .exact HD e2 a h
def ModOk.split(n:ModOk K M Ft It):Xu K M.P=O/\gtB K=O/\(∀e∈Ft,Zx K e=O)/\(∀p∈M.fs,Ĭ K Ft p=O)/\(∀p∈M.cl,Zy K M Ft It p.1 p.2=O)/\(∀p∈M.ms,∀q∈p.2,Xx K M Ft p.1 q=O)/\(∀x∈M.bl,mS K eP x=U Y)/\XA K M Ft=O:=by
 have h:=n.b;unfold Sh at h;simp only[cL]at h;obtain⟨⟨⟨⟨⟨⟨⟨m,l⟩,k⟩,j⟩,i⟩,g⟩,f⟩,d⟩:=h;exact⟨m,l,iG.mp k,iG.mp j,iG.mp i,λp c=>iG.mp<|iG.mp g p c,λx a=>c3<|iG.mp f x a,d⟩
def ModOk.fe(a:ModOk K M Ft It){e:Fe}(h:e∈Ft):∃f fd,ny K e f fd:=Xw (a.split.2.2.1 e h) (HD a.q e h)<|a.bn e h
def Ls:cT P w K mg base i8 k f fd ps<|qo B noFn:=
 ⟨by rintro a H Q E ⟨_,_,_,_,_,_,_,h,_⟩;exact(by cases h),by rintro _ _ _ _ _ _ _ _ _ _ _ _ _ ⟨_,_,_,_,_,_,_,h,_⟩;exact(by cases h)⟩
def yX(g:Hy K mg)(u:ModOk K M Ft It){c:Nat}(h:HA K M Ft It c x t=O):∃C ns e i f fd,M.P.cn[c]?=U x/\M.P.fn[c]?=U ns/\It.lookup x=U i/\Ft[i]?=U e/\ny K e f fd/\Mk K C f/\TZ K mg x ns C/\t ns e=O/\e.ds=[]:=by
 unfold HA at h;split at h
 case h_2=>cases h
 rename_i n ns e k j p;obtain⟨i,o,d⟩:=bM.mp p;rw[cL]at h;obtain⟨a,h⟩:=h;have a:=c3 a;subst a;split at h
 case h_2=>cases h
 rename_i C f b m;rw[cL]at h;obtain⟨q,fd,F⟩:=u.fe<|gz d
 have:=F.at_.symm.trans m
 cases this;obtain⟨s,r,l,g1,g2,_,g3,_⟩:=rE u.split.1 k;rw[b]at g1;cases g1;rw[j]at g2;cases g2;unfold mkB at h;simp only[cL,ec]at h;exact⟨C,ns,e,i,_,fd,k,j,o,d,F,⟨h.1.1.1.1,h.1.1.1.2,F.isf,h.1.1.2⟩,pS g b g3,h.2,mV.mp h.1.2⟩
def Dm{α:Type}{l:List<|Nat×α}{x:Nat}{a:α}(h:l.lookup x=U a):(x,a)∈l:=by
 induction l with
 |nil=>simp at h
 |cons p l c=>
  obtain⟨q,b⟩:=p;rw[jZ]at h;split at h
  .rename_i e
   cases h;rw[eq_of_beq e];exact eO ..
  .exact ee _<|c h
def TZ.Dp{c:Nat}{C:bt}(F:TZ K mg x ns C)(b:P.cn[c]?=U x)(a:P.fn[c]?=U ns):ig (iP P K Pr w) c C ns:=⟨x,b,a,F.nd,F.at_⟩
def wK{a b c:Str}(h:Lr a b c st=O):∃j i f g,st=.Assign [.Attribute (.Name a j) b i] (.Name c f) g:=by
 unfold Lr at h;split at h
 .rename_i x y e d
  simp only[cL,ec]at h;obtain⟨⟨rfl,rfl⟩,k⟩:=h;obtain⟨f,rfl⟩:=ba k;obtain⟨_,_,_,d⟩:=sZ d;exact⟨_,_,_,_,d⟩
 .cases h
def HE{C:bt}{e:Fe}(F:ny K e f fd)(Z:lV K C)(n:bB K C M.xf)(m:bB K C M.xg)(ne:M.xg≠M.xf)(h:mkV M e=O):cT Pr w K mg base i8 1 f fd e.ps (Vv C M.xf M.xg)/\e.ds=[]:=by
 obtain⟨⟨a,b⟩,d,h⟩:=D3 h;obtain⟨⟨s,p,q⟩,c,h⟩:=D3 h;have d:=tZ d;have c:=HB c;dsimp only at d c h;simp only[cL,ec,Ew]at h;obtain⟨⟨⟨⟨⟨⟨L,I⟩,G⟩,D⟩,B⟩,y⟩,t⟩:=h;refine⟨?_,mV.mp t⟩;obtain⟨_,_,_,_,r⟩:=wK I;obtain⟨_,_,_,_,R⟩:=wK G;have sc:=F.sc;rw[L,c]at sc;rw[c];have g:∀x∈[s,p,q],kI (az e.st) x:=λx o=>(sc.par x o).elim .inl λz=>.inr<|.inl z;refine F.fn.ok (N:=[s,p,q]) sc (λi H Q E j=>by obtain⟨_,_,_,_,_,z,_⟩:=j;rw[z];rfl) λP A outer sh H i Q E hr h=>?_
 rw[d,r,R];refine⟨_,P1 (X:=(i7 i8 Pr w K mg base [s,p,q] e.qual (az e.st) f P A outer sh H E).DC) Z n m ne J (g s<|by simp) (g p<|by simp) (g q<|by simp) (DO D) (DO B)<|DO y,i,?_,?_⟩
 .obtain⟨_,_,_,_,_,z,_⟩:=h
  rw[z];rfl
 .obtain⟨a,u,v,l,k,z,h⟩:=h
  exact⟨a,u,v,l,k,z,h⟩
def Lu{e:Fe}(h:Sg e ys=O):∀y∈ys,(az e.st).names.lookup y=U .globalImplicit:=λy a=>c3<|iG.mp h y a
def XC(g:Hy K mg){C:bt}{b:Bool}(h:ZA K C y=U b):XiF K mg C y b:=by
 unfold ZA at h;split at h
 .cases h
 rename_i hd;refine⟨(DO<|by simpa using hd).1,?_⟩
 split at h
 .rename_i D a
  exact .inl ⟨D,g _ _ a,h⟩
 .rename_i a
  split at h
  .rename_i e
   subst e;exact .inr ⟨"ValueError",g _ _ a,PyProof.Rows.Boot.«ValueError»,by decide,h⟩
  .cases h
 .cases h
def lst_inv(h:HC e=U es):∃p,e=.List es p:=by
 cases e<;>first|(cases h;done)|(cases h;exact⟨_,J⟩)
def Lv{q}(h:OB e=U q):∃p,e=.BinOp q.1 .Add q.2 p:=by
 cases e<;>try(cases h;done)
 replace h:(if _ then U _ else Y)=U q:=h
 split at h
 .rename_i z;cases h;subst z;exact⟨_,J⟩
 .cases h
def Si(h:Xz st=U e):∃p,st=.Return (U e) p:=by
 cases st<;>first|(cases h;done)|(cases(show _=U e from h);exact⟨_,J⟩)
section
variable{a C:bt}
theorem Bl(g:Hy X.K X.mg)(Z:wo X.K C)(m:Q.cls=.ref C)(o:X.mg "isinstance" = Y)(k:Gl X "isinstance")(n:X.N[i]?=U nm)(j:kI X.env.scope nm)(hd:iy nm=Zc):∀{es:Bz}{ys:Bi}{bs:Fh},Dl nm es=U ys->(∀y∈ys,Gl X y)->t_ X.K C ys=U bs->PA X es (Rw i a Q bs)
 |[],_,_,h,_,c=>by cases h;cases c;exact Ry
 |e::es,_,_,h,d,c=>by
  obtain⟨⟨f,l,F⟩,r,h⟩:=bM.mp<|show(jt e).bind _=U _ from h;obtain⟨⟨u,v⟩,hl,h⟩:=bM.mp h;obtain⟨⟨q1,p,q2⟩,h⟩:=nW.mp h;obtain⟨y,x,h⟩:=bM.mp h;obtain⟨ys,w,rfl⟩:=ck.mp h;obtain⟨b,t,c⟩:=bM.mp<|show(ZA X.K C y).bind _=U _ from c;obtain⟨bs,s,rfl⟩:=ck.mp c;obtain⟨E,D,rfl⟩:=eV r;obtain⟨B,rfl⟩:=ba q2;obtain⟨A,rfl⟩:=ba x;cases mV.mp p;cases tZ hl;dsimp only at q1 ⊢;subst q1;exact KW (Rx Z m (XC g t) o n j (DO hd).1 (DO hd).2 k<|d y<|by simp) (Bl g Z m o k n j hd w (λz q=>d z<|by simp[q]) s) J
end
def wL(h:Sf nm x e=U ys):∃p q r es,e=.BinOp (.Name x p) .Add (.List es q) r/\Dl nm es=U ys:=by
 obtain⟨w,b,h⟩:=bM.mp h;split at h
 .rename_i z
  obtain⟨es,a,c⟩:=bM.mp h;obtain⟨p,z⟩:=ba z;obtain⟨q,a⟩:=lst_inv a;obtain⟨r,b⟩:=Lv b;rw[b,z,a];exact⟨_,_,_,_,J,c⟩
 .cases h
def HG(g:Hy K mg){C:bt}{e:Fe}{r q p:Bi}(F:ny K e f fd)(sE:e.cls=Y)(Z:wo K C)(Jf:mg "isinstance" = Y)(h:knV e=U (r,q,p))(hg:Sg e ("isinstance" :: (r++q++p))=O)
  (h1:t_ K C r=U b1) (h2:t_ K C q=U b2) (h3:t_ K C p=U b3) (hz:Mo b1+Mo b2+Mo b3<=1000):K0 Pr w K mg base C e.x<|b1++b2++b3:=by
 obtain⟨⟨s1,s2,s3⟩,m,h⟩:=bM.mp h;obtain⟨⟨c,x⟩,n,h⟩:=bM.mp h;have m:=HB m;have n:=tZ n;obtain⟨⟨x1,v1⟩,k1,h⟩:=bM.mp h;obtain⟨⟨b,v2⟩,k2,h⟩:=bM.mp h;obtain⟨v3,k3,h⟩:=bM.mp h;obtain⟨⟨l,I,G,T,E,S,D⟩,h⟩:=nW.mp h;obtain⟨l1,m1,h⟩:=bM.mp h;obtain⟨y1',m2,h⟩:=bM.mp h;obtain⟨W,m3,h⟩:=bM.mp h;obtain⟨V,m4,h⟩:=ck.mp h;cases h;obtain⟨p1,r1,R⟩:=nP k1;obtain⟨p2,r2,P⟩:=nP k2;obtain⟨r3,M⟩:=Si k3;obtain⟨q1,e4⟩:=lst_inv m1;obtain⟨p3,q2,u,Zs,L,w3⟩:=wL m3;obtain⟨p5,q4,q5,PN,e6,w4⟩:=wL m4;dsimp only at R P M e4 L I G m n l;subst I G;have j:b8 e.st=[.Assign [.Name b p1] (.List l1 q1) r1,.Assign [.Name b p2] (.BinOp (.Name b p3) .Add (.List Zs q2) u) r2,.Return (U<|.BinOp (.Name b p5) .Add (.List PN q4) q5) r3]:=by rw[m,R,P,M,e4,L,e6]
 have sc:=F.sc;rw[l,n]at sc;have gl:=Lu hg;have B:=F.at_;unfold Lo at B;rw[sE]at B;obtain⟨oc,od,dV,kV,doc,pm,an,fS,ct,ql,v,lk,gc⟩:=F.fn.ex;refine⟨f,g _ _<|gH B,F.fn.kp,λA outer s H a oe Q P7 e0 hH hc k=>?_⟩;have bs:=F.bs (mV.mp S) [.ref a] (by rw[l];rfl)
 rw[l]at bs;subst v;refine JX (N:=[c,b]) (ps:=[c]) (us:=[.ref a]) (vs:=[.ref a]) (t:=tKi 0 1 a oe<|b1++b2++b3) lk gc sc P7 e0 (.of_eq bs) (.cons J .nil) J ?_ ⟨J,hH,mT 1,by decide,k⟩
 rw[j];have vn:kI (az e.st) c:=(sc.par c<|by simp).elim .inl λz=>.inr<|.inl z
 have all:=λ{es:Bz} {o:Bi} {bs:Fh} (q1:Dl c es=U o) (q2:∀y∈o,(az e.st).names.lookup y=U .globalImplicit) (u:t_ K C o=U bs)=>Bl (X:={i7 i8 Pr w K mg base [c,b] e.qual (az e.st) f fS A outer s H (λ_ _ _=>False)with calm:=Zc,xe:=λ_ _=>False}) (a:=a) (i:=0) g Z hc Jf (gl _<|by simp) J vn T q1 q2 u
 exact Rz sc.nd J (.inl D) (all m2 (λy d=>gl y<|by simp[d]) h1) (all w3 (λy d=>gl y<|by simp[d]) h2) (all w4 (λy d=>gl y<|by simp[d]) h3) hz (.inl D) (DO E).1 (DO E).2<|.inl J
def HH(g:Hy K mg)(Q:ModOk K M Ft It):∃N,Hg M Pr w K mg base N:=by
 have h:=Q.split.2.2.2.2.2.2.2;unfold XA at h;rw[cL,cL]at h
 replace h:=h.1.1
 unfold xcB at h;split at h
 case h_2=>cases h
 rename_i C t;simp only[cL]at h;obtain⟨⟨⟨⟨⟨⟨j,o⟩,n⟩,d⟩,b⟩,a⟩,c⟩:=h;have d:=c3 d;unfold ecB at j;simp only[cL,ec]at j;obtain⟨⟨⟨⟨⟨⟨⟨⟨a1,a2⟩,a3⟩,a6⟩,a7⟩,a8⟩,a9⟩,kB⟩,lU⟩:=j;have gt:=Q.split.2.1;unfold gtB at gt;simp only[cL,ec]at gt;have es:lV K C:=⟨a1,a2,a8,a9,kB⟩;have m:bB K C M.xf:=by unfold bB;unfold Zz at o;exact decide_eq_true_eq.mp o
 have l:bB K C M.xg:=by unfold bB;unfold Zz at n;exact decide_eq_true_eq.mp n
 unfold Xy at b;split at b
 case h_2=>cases b
 rename_i z E;split at b
 case h_2=>cases b
 rename_i y f;rw[cL]at b;obtain⟨x,k,e⟩:=Q.fe<|gz E;cases e.at_.symm.trans f;obtain⟨m1,m2⟩:=HE (Pr:=Pr) (w:=w) (mg:=mg) (base:=base) e es m l d b.2;unfold knB at a;split at a
 case h_2=>cases a
 rename_i P i;simp only[cL,ec]at a;obtain⟨⟨⟨c1,c2⟩,B⟩,a⟩:=a;split at a
 case h_2=>cases a
 rename_i I H G s;rw[cL]at a;obtain⟨A,a⟩:=a;split at a
 case h_2=>cases a
 rename_i b1 b2 b3 r q p;rw[cL,ec,ec]at a;obtain⟨L,v,F⟩:=Q.fe<|gz i;have kk:=HG (Pr:=Pr) (w:=w) (base:=base) g F c1 ⟨a1,a2,a3,gt.1,gt.2,a6,a7⟩ (g _ _ B) s A r q p a.2;rw[c2,a.1]at kk;unfold xmB at c;split at c
 case h_2=>cases c
 rename_i D u;exact⟨⟨C,M.xf,M.xg⟩,⟨⟨y,k,z.ps,b.1,e.isf,m1,e.bn m2⟩,lU,g _ _<|gH t⟩,J,J,es,m,l,d,kk,D,g _ _<|gH u,c3 c⟩
def HJ(a:ModOk K M Ft It){e:Fe}(he:e∈Ft):(Jg e&&e.sl)=Zc:=by
 have h:=a.split.2.2.2.2.2.2.2;unfold XA at h;rw[cL]at h;exact Ew _▸iG.mp h.2 e he
def wM{e:Fe}(F:ny K e f fd)(G:yQ M Pr w K mg base aj k)(c:1<=k)(d:Hg M Pr w K mg base N)(a:Jg e=O)(b:e.sl=Zc):cT Pr w K mg base (An Pr w N.C) (k+2) f fd e.ps<|Je (iP M.P K Pr w) N<|wJ M aj e:=by
 unfold wJ Sd Bg;rw[a,b];refine KR F.fn F.sc λg A outer s H E hr Z=>?_;exact lj 60 c ⟨G,J,J,J,k+1,cV _,hr⟩ ⟨⟨G,J,J,J,k+1,cV _,hr⟩,λ_=>J,F.sc.nd,J,J,J⟩ Z PassesOwn.leaving d 200<|b8 e.st
def Lw{e:Fe}(F:ny K e f fd)(G:yQ M Pr w K mg base aj k)(d:1<=k)(g:∃N,Hg M Pr w K mg base N)(c:(Jg e&&e.sl)=Zc):cT Pr w K mg base i8 (k+2) f fd e.ps<|qo (iP M.P K Pr w)<|wJ M aj e:=by
 cases b:Jg e with
 |true=>
  obtain⟨N,i⟩:=g;rw[b]at c;exact Ru<|wM F G d i b c
 |false=>
 have a:cT Pr w K mg base i8 (k+2) f fd e.ps<|qo (iP M.P K Pr w)<|aI e.ps.length e.N.length<|Bg M aj e:=by
  refine QZ F.fn F.sc λh A outer s H E hr=>?_;unfold Bg;rw[b];exact iz 60 200 ⟨e.N,az e.st,e.mu⟩ (i7 i8 Pr w K mg base e.N e.qual (az e.st) f h A outer s H E).DC ⟨⟨G,J,J,J,k+1,cV _,hr⟩,λ_=>J,F.sc.nd,J,J,J⟩<|b8 e.st
 unfold wJ Sd;split
 .exact Ks a
 .exact a
def Bm{e:Fe}(F:ny K e f fd)(he:Ft[i]?=U e)(b:∃N,Hg M Pr w K mg base N)(a:(Jg e&&e.sl)=Zc)(h:∀m,n=m+1->yQ M Pr w K mg base (iA M Ft m) (2*m+1)):cT Pr w K mg base i8 (2*n+1) f fd e.ps<|qo (iP M.P K Pr w)<|iA M Ft n i:=by
 cases n with
 |zero=>exact Ls
 |succ m=>
  have:=Lw F (h m J) (uK ..) b a
  unfold iA;rw[he];exact this
def HK{e:Fe}(F:ny K e f fd)(he:Ft[i]?=U e)(d:Hg M Pr w K mg base N)(b:Jg e=O)(c:(Jg e&&e.sl)=Zc)(h:∀m,n=m+1->yQ M Pr w K mg base (iA M Ft m) (2*m+1)):cT Pr w K mg base (An Pr w N.C) (2*n+1) f fd e.ps<|Je (iP M.P K Pr w) N<|iA M Ft n i:=by
 cases n with
 |zero=>exact⟨λg H Q E a=>(by obtain⟨_,_,_,_,_,z⟩:=a;rcases z with⟨_,_,h,_⟩|⟨_,_,_,h,_⟩<;>cases h),λ_ _ _ _ _ _ _ _ _ _ _ _ _ a=>(by obtain⟨_,_,_,_,_,z⟩:=a;rcases z with⟨_,_,h,_⟩|⟨_,_,_,h,_⟩<;>cases h)⟩
 |succ m=>
  rw[b]at c
  have:=wM F (h m J) (uK ..) d b c
  unfold iA;rw[he];exact this
def Sj(g:Hy K mg)(qd:ModOk K M Ft It)(X:∀x t,M.cs.lookup x=U t->AX K mg x t):∀n,yQ M Pr w K mg base (iA M Ft n)<|2*n+1:=by
 intro n
 induction n using Nat.strongRecOn with
 |ind n B=>
 have call:∀{i:Nat}{e:Fe}{f:bt}{fd:eh},ny K e f fd->Ft[i]?=U e->cT Pr w K mg base i8 (2*n+1) f fd e.ps (qo (iP M.P K Pr w)<|iA M Ft n i):=λF b=>Bm F b (HH g qd) (HJ qd<|gz b) λm V=>B m (by omega)
 obtain⟨o1,o2,o3,S,d,R,Q,u⟩:=qd.split;have pg:=Xv g o1 o2;refine⟨pg,X,λx ds i h=>?_,λx c k h=>?_,λx c h=>?_,λx c h=>?_,λx c i h=>?_,λm l c i p o=>?_,λx h=>g x Y<|Q x h,λm c i h=>?_⟩
 .have q:=S _<|c8 h
  unfold Ĭ at q;dsimp only at q;split at q
  case h_2=>cases q
  rename_i e b;rw[cL,cL]at q;obtain⟨⟨q2,a⟩,q1⟩:=q;have q2:=c3 q2;have a:=c3 a;subst a;obtain⟨f,fd,F⟩:=qd.fe<|gz b;have v:=F.at_;unfold Lo at v;rw[q2]at v;obtain⟨gR,dV,b1,b2,b3⟩:=F.bd;exact⟨f,fd,e.ps,gR,dV,call F b,g _ _<|gH v,F.fn.kp,b1,b2,λal H=>Lq q1▸b3 _ al H⟩
 .obtain⟨C,ns,e,i,f,fd,c1,c2,r,y,F,m,cl,q,q9⟩:=yX g qd<|d _<|c8 h
  unfold fzB at q;simp only[cL,ec]at q;obtain⟨⟨⟨q1,q2⟩,a⟩,q4⟩:=q;exact⟨C,f,fd,e.ps,ns,cl.Dp c1 c2,q4,cl.gl,m,tD F.fn F.sc (OA q1) q2 a cl.cl cl.na cl.nd cl.sU,F.bn q9⟩
 .have q:=d _<|c8 h
  unfold Zy at q;dsimp only at q;split at q
  case h_2=>cases q
  rename_i j C p o;simp only[cL,ec]at q;obtain⟨⟨⟨q1,q2⟩,a⟩,q4⟩:=q;subst q1;obtain⟨E,ns,l,g1,g2,_,g3,_⟩:=rE o1 p;rw[o]at g1;cases g1;have cl:=pS g o g3;exact⟨C,ns,cl.Dp p g2,cl.gl,q2,a,q4⟩
 .obtain⟨C,ns,e,i,f,fd,c1,c2,r,y,F,m,cl,q,q9⟩:=yX g qd<|d _<|c8 h
  unfold cpB at q;simp only[cL,ec]at q;obtain⟨⟨⟨⟨q1,q2⟩,a⟩,q4⟩,q5⟩:=q;split at q5
  case h_2=>cases q5
  rename_i Jc Z;split at q5
  case h_2=>cases q5
  rename_i s0 j q' W;simp only[cL,ec]at q5;obtain⟨⟨L,I⟩,G⟩:=q5;subst L;exact⟨C,f,fd,e.ps,j,cl.Dp c1 c2,cl.gl,m,GF F.fn F.sc Z W I G (OA q1) (g _ _ a) q4 q2 cl.cl<|cl.na _<|eO ..,F.bn q9⟩
 .have q:=d _<|c8 h
  unfold Zy at q;dsimp only at q;rw[cL]at q;obtain⟨s,q⟩:=q;have s:=c3 s;obtain⟨C,ns,e,i',f,fd,c1,c2,r,y,F,m,cl,_,q9⟩:=yX g qd q;rw[s]at r;cases r;exact⟨C,f,fd,e.ps,ns,cl.Dp c1 c2,cl.gl,m,call F y,F.bn q9⟩
 .have q:=R _ (c8 p) (c,i)<|Dm o
  unfold Xx at q;dsimp only at q;split at q
  case h_2=>cases q
  rename_i j ns e d1 d2 d3;split at q
  case h_2=>cases q
  rename_i C f d4 d5;rw[cL,cL]at q;obtain⟨⟨q1,q9⟩,q2⟩:=q;obtain⟨E,DI,T,g1,g2,_,g3,_⟩:=rE o1 d1;rw[d4]at g1;cases g1;rw[d2]at g2;cases g2;have cl:=pS g d4 g3;obtain⟨f',fd,F⟩:=qd.fe<|gz d3
  have:=F.at_.symm.trans d5
  cases this;exact⟨C,_,fd,e.ps,ns,cl.Dp d1 d2,cl.cl,⟨c3 q1,F.isf,F.fn.kp⟩,call F d3,F.bn<|mV.mp q9,λz=>by rw[zT.mpr z]at q2;cases q2⟩
 .obtain⟨N,D⟩:=HH (Pr:=Pr) (w:=w) (base:=base) g qd
  refine⟨N,D,?_⟩;unfold XA at u;rw[cL,cL]at u;have q:=iG.mp u.1.2 (m,c,i)<|i6.mpr<|h.imp c8 c8;rw[cL]at q;obtain⟨q,A⟩:=q;unfold Xx at q;dsimp only at q;split at q
  case h_2=>cases q
  rename_i j ns e d1 d2 d3;split at q
  case h_2=>cases q
  rename_i C f d4 d5;rw[cL,cL]at q;obtain⟨⟨q1,q9⟩,q2⟩:=q;obtain⟨E,DI,T,g1,g2,_,g3,_⟩:=rE o1 d1;rw[d4]at g1;cases g1;rw[d2]at g2;cases g2;have cl:=pS g d4 g3;obtain⟨f',fd,F⟩:=qd.fe<|gz d3
  have:=F.at_.symm.trans d5
  cases this;exact⟨C,_,fd,e.ps,ns,cl.Dp d1 d2,cl.cl,⟨c3 q1,F.isf,F.fn.kp⟩,HK F d3 D (by rw[d3]at A;exact A) (HJ qd<|gz d3) λm V=>B m<|by omega,F.bn<|mV.mp q9,λz=>by rw[zT.mpr z]at q2;cases q2⟩
end
section
variable{Ft:List Fe}{It:Lp}
def Lx(K:bq)(p:Str×T):Bool:=match mS K eP p.1 with
 |U<|U u=>(match p.2,u with
  |.tup ts,.ref a=>(match K.lookup a with
   |some ⟨.type c,_,.seq b _,_⟩=>decide (c = "tuple")&&decide (b.size<=cC)&&ko ts b.toList
   |_=>Zc)
  |t,u=>Bj t u)
 |_=>Zc
def Sk(g:Hy K mg)(h:Lx K (x,t)=O):AX K mg x t:=by
 unfold Lx at h;dsimp only at h;split at h
 case h_2=>cases h
 rename_i u i;have f:=g _ _ i;split at h
 .rename_i ts a
  split at h
  .rename_i c od e n sl hl
   simp only[cL,ec]at h;obtain⟨⟨m,l⟩,k⟩:=h;subst m;obtain⟨d,b⟩:=pU k;exact⟨_,.ref a,f,J,λB al H j=>⟨a,ts.map e8,J,.inr ⟨_,e,n,j▸hl,J,J,l,d⟩,b B al H⟩⟩
  .cases h
 .obtain⟨d,b⟩:=Bk h
  exact⟨u,e8 t,f,d,λB al H _=>b B al H⟩
structure HL(K:bq)(M:Gm)(Ft:List Fe)(It:Lp):Prop extends ModOk K M Ft It where
 cs:M.cs.all (Lx K)=O
def Ly(g:Hy K mg)(a:HL K M Ft It)(n:Nat):yQ M Pr w K mg base (iA M Ft n)<|2*n+1:=Sj g a.toModOk (λx t h=>Sk g<|iG.mp a.cs _<|c8 h) n
def Lz{f:Fn}{k:Nat}(ns:Dx)(h:∃m',f [.scr ns] []=.ok (.bl O,m')){a:bt}(d:PM H)(c:dm B.K H a<|ns.map V.int):qo B f [.ref a] H (λv _=>v=.bl O) λ_ _ _=>False:=by
 obtain⟨m',h⟩:=h;refine⟨⟨H,λ_=>Y,[]⟩,[.scr ns],[],_,m',⟨λ_ _ e=>e,λb p e=>(by cases e),J,λk ob e=>(by simp at e)⟩,⟨_,_,J,⟨a,J,c⟩,J⟩,h,λv g i _ _ r=>r⟩
end
def XE{l:PySem.W.OpenLaw}{YP:dv->ey->Prop}{K:mr->bq}{It:Lp}{e:Fe}
  (Z:l.most=U m) (y:m<=cC) (C:d.params.defaults=[]) (hr:bJ (2*n+1) tj) (hY:∀(w:dv)(h:ey),YP w h->(K w.params).In h)
  (he:Ft[i]?=U e) (A:e.ps=[("_law_script" : Str)]) (S:e.x=d.name) (R:e.cls=Y) (AJ:e.ds=[]) (qd:∀P,HL (K P) M Ft It) (hT:∀ns:Dx,Mo ns<=m->(∀i∈ns,i.natAbs.log2<1048577)->∃m',iA M Ft n i [.scr ns] []=.ok (.bl O,m')) :
  PySem.W.WalkO q loose XP YP l.row.toRowW d [] λf vs=>PySem.call f vs:=by
 intro w s₀ c mg mb G qr fa o pm cd doc dV kV ho hd gc I B hg N E as JL ĭ V Tw hlo
 obtain rfl:dV=.none:=ME.none I C
 obtain rfl:kV=.none:=ME.noKw I
 obtain⟨a,vs,ns,rfl,rfl,Į,j,L⟩:=Att.CK Z JL Tw;have t:∀i∈ns,i.natAbs.log2<1048577:=λi hi=>by
  have h1:=PySem.W.layableW_item (PySem.W.layableW_arg ĭ _<|iF.mpr J) (.int i)<|je.mpr ⟨i,hi,J⟩;have p:=PyData.bits_of_layable<|PyProof.Rows.Da.lay0_int<|PySem.W.layable_int h1;unfold h9 at p;split at p
  .rename_i z
   rw[show i=0 from c3 z];decide
  .exact dN p (by decide)
 refine PySem.W.enter_call<|gg (?_:hW (cv l.prog w) tj (.call (.ref fa) ⟨[.ref a],[]⟩) (λr v=>r=.ok (.ret<|.bool O)/\OldK c.heap v.heap/\v.os=c.os/\PyProof.Rows.AllBare v.gens) c) λr v X=>?_
 .have Q:=hY w _ qr
  have g:=Se Q G.T.g;obtain⟨f,fd,F⟩:=(qd w.params).fe<|gz he;have D:=F.at_;unfold Lo at D;rw[R]at D;have ea:=(g _ _<|gH D).symm.trans<|S▸B;cases ea;refine E9 (k:=2*n+1) (fd:=fd) (x:=("_law_script" : Str)) (CX:=i8) (sp:=qo (iP M.P (K w.params) l.prog w)<|iA M Ft n i) Q G.T.g G.T.b G.T.builtins G.T.nolimit hg Į j (bG L y) hr (λbase KB GB=>?_) (λs u=>?_) (λH hO hS=>Lz (k:=0) ns (hT ns L t) hO hS) λ_ _ _ z=>z
  .have:=Bm (Pr:=l.prog) (w:=w) (base:=base) (mg:=mg) F he (HH g (qd w.params).toModOk) (HJ (qd w.params).toModOk<|gz he) (n:=n) λm y=>Ly g (qd w.params) m
   rw[A]at this;exact this
  .have:=F.bs AJ [u] (by rw[A];rfl)
   rw[A]at this;exact .of_eq this
 .obtain⟨rfl,p,h3,h4⟩:=X
  exact⟨.inl ⟨.bool O,.bool O,[],J,λ_=>J,.bool O,Att.CL l _,λ_=>⟨M4.nil,λ_ y=>(nomatch y)⟩⟩,p,h3,h4⟩
end D
namespace D
def mQ(a:α)(f:α->Res b):Res.bind (.ok a) f=f a:=J
def dF{f:α->Res b}(h:f a=r):Res.bind (.ok a) f=r:=h
def uH(a:α):aZ (U a)=.ok a:=J
section
variable{a b:FS}{s s':S}{t:T}{j n:Nat}{ts:FR}{m m':FX}
def seq1(h:a s=.ok (.nx,s'))(k:b s'=r):ah a b s=r:=by unfold ah;rw[h];exact k
def Sl(h:a s=.ok (.rt t,s')):ah a b s=.ok (.rt t,s'):=by unfold ah;rw[h];rfl
def Ui(h:c s=.ok (O,s'))(k:a s'=r):aV c a b s=r:=by unfold aV;rw[h];exact k
def yY(h:c s=.ok (Zc,s'))(k:b s'=r):aV c a b s=r:=by unfold aV;rw[h];exact k
def fj(h:e s=.ok (t,s')):aD e s=.ok (.rt t,s'):=by unfold aD;rw[h];rfl
def eK(h:Mo ts=j)(k:b ⟨ts.map (λt=>U<|.val t)++bL (n-Mo ts) Y,m⟩=.ok (.rt t,s'))(a:s'.m=m'):aI j n b ts m=.ok (t,m'):=by
 unfold aI;rw[bU h,k,<- a];rfl
def yZ(h:Mo ts=j)(k:b ⟨ts.map (λt=>U<|.val t)++bL (n-Mo ts) Y,m⟩=.ok (.nx,s'))(a:s'.m=m'):aI j n b ts m=.ok (.non,m'):=by
 unfold aI;rw[bU h,k,<- a];rfl
def Bo(h:aQ ts=O)(k:g ts []=.ok (t,m'))(a:noOwn t=O):aU g ts m=.ok (t,m):=by
 unfold aU;rw[bU h,k];exact bU a
def iB(h:fl s=.ok (ts,s'))(k:g (ts++ds) s'.m=.ok (t,m')):aB g ds fl s=.ok (t,⟨s'.r,m'⟩):=by
 unfold aB;rw[h];show(match g (ts++ds) s'.m with|.ok q=>_|.bad=>_|.exc c fs s'=>_)=_;rw[k]
end
def Bp(h:o s=.ok (.own k,s1))(a:s1.m[k]?=U ob)(b:g ob.c=U f)(e:fl s1=.ok (ts,s2))(d:f (.own k::ts) s2.m=.ok (t,m')) :
  aA g o fl s=.ok (t,⟨s2.r,m'⟩):=by
 unfold aA;rw[h];show Res.bind (aZ<|(s1.m[k]?).bind λob=>g ob.c) _=_;rw[a];show Res.bind (aZ<|g ob.c) _=_;rw[b];refine Eq.trans (mQ f _) ?_;exact iB (ts:=.own k::ts) (s':=s2) (by rw[e];rfl) (by rw[bF];exact d)
def jI[Decidable p]{x:α}(h:p):gd p x=U x:=bU h
def ev:(∀t s,cF t s=.ok (t,s))/\(∀g a s,dX g a s=(a s).bind λp=>(aZ<|g p.1).bind λt=>.ok (t,p.2))/\(∀g a b s,bX g a b s=(a s).bind λp=>(b p.2).bind λq=>(aZ<|g p.1 q.1).bind λt=>.ok (t,q.2)) /\
  (∀s,aY s=.ok ([],s))/\(∀a r s,bw a r s=(a s).bind λp=>(r p.2).bind λq=>.ok (p.1::q.1,q.2))/\(∀g a s,bV g a s=(a s).bind λp=>(aZ<|g p.1).bind λt=>.ok (t,p.2)) /\
  (∀a s,tB a s=(a s).bind λp=>(aZ<|J1 p.1).bind λb=>.ok (b,p.2))/\(∀a s,b9 a s=(a s).bind λp=>(aZ<|TM p.1).bind λb=>.ok (b,p.2))/\(∀a s,dZ a s=(a s).bind λp=>.ok (!p.1,p.2)) /\
  (∀s,xN s=.ok (Y,s))/\(∀a s,nK a s=(a s).bind λp=>(aZ<|VP p.1).bind λi=>.ok (U i,p.2))/\(∀a lo d s,rj a lo d s=(a s).bind λp=>(lo p.2).bind λq=>(d q.2).bind λz=>(aZ<|Ja q.1 z.1 p.1).bind λt=>.ok (t,z.2)) /\
  (∀i a s,aH i a s=(a s).bind λp=>.ok (.nx,jF p.2 i<|.val p.1))/\(∀a s,aP a s=(a s).bind λp=>.ok (.nx,p.2))/\(∀s,aG s=.ok (.nx,s)) /\
  (∀r m i c,jF ⟨r,m⟩ i c=⟨r.set i<|U c,m⟩)/\(∀f o fl s,qm f o fl s=(o s).bind λp=>(aZ<|Kg p.1).bind λl=>(fl p.2).bind λq=>(aZ<|f l q.1).bind λt=>.ok (t,q.2)) /\
  (∀t,J1 (.bl t)=U t)/\(∀t,TM (.bl t)=U t)/\(∀i,VP (.int i)=U i)/\(∀l,Kg (.str l)=U l):=
 ⟨λ_ _=>J,λ_ _ _=>J,λ_ _ _ _=>J,λ_=>J,λ_ _ _=>J,λ_ _ _=>J,λ_ _=>J,λ_ _=>J,λ_ _=>J,λ_=>J,λ_ _=>J,λ_ _ _ _=>J,λ_ _ _=>J,λ_ _=>J,λ_=>J,λ_ _ _ _=>J,λ_ _ _ _=>J,λ_=>J,λ_=>J,λ_=>J,λ_=>J⟩
def xO:(∀r m t,vF 0 ⟨U (.val t)::r,m⟩=.ok (t,⟨U (.val t)::r,m⟩))/\(∀a r m t,vF 1 ⟨a::U (.val t)::r,m⟩=.ok (t,⟨a::U (.val t)::r,m⟩))/\(∀a b r m t,vF 2 ⟨a::b::U (.val t)::r,m⟩=.ok (t,⟨a::b::U (.val t)::r,m⟩))/\(∀a b d r m t,vF 3 ⟨a::b::d::U (.val t)::r,m⟩=.ok (t,⟨a::b::d::U (.val t)::r,m⟩))/\(∀a b d e r m t,vF 4 ⟨a::b::d::e::U (.val t)::r,m⟩=.ok (t,⟨a::b::d::e::U (.val t)::r,m⟩))/\(∀a b d e f r m t,vF 5 ⟨a::b::d::e::f::U (.val t)::r,m⟩=.ok (t,⟨a::b::d::e::f::U (.val t)::r,m⟩))/\(∀a b d e f g r m t,vF 6 ⟨a::b::d::e::f::g::U (.val t)::r,m⟩=.ok (t,⟨a::b::d::e::f::g::U (.val t)::r,m⟩))/\(∀a b d e f g h r m t,vF 7 ⟨a::b::d::e::f::g::h::U (.val t)::r,m⟩=.ok (t,⟨a::b::d::e::f::g::h::U (.val t)::r,m⟩))/\(∀y r c,uQ (α:=Option C) (y::r) 0 c=c::r)/\(∀a y r c,uQ (α:=Option C) (a::y::r) 1 c=a::c::r)/\(∀a b y r c,uQ (α:=Option C) (a::b::y::r) 2 c=a::b::c::r)/\(∀a b d y r c,uQ (α:=Option C) (a::b::d::y::r) 3 c=a::b::d::c::r)/\(∀a b d e y r c,uQ (α:=Option C) (a::b::d::e::y::r) 4 c=a::b::d::e::c::r)/\(∀a b d e f y r c,uQ (α:=Option C) (a::b::d::e::f::y::r) 5 c=a::b::d::e::f::c::r)/\(∀a b d e f g y r c,uQ (α:=Option C) (a::b::d::e::f::g::y::r) 6 c=a::b::d::e::f::g::c::r)/\(∀a b d e f g h y r c,uQ (α:=Option C) (a::b::d::e::f::g::h::y::r) 7 c=a::b::d::e::f::g::h::c::r):=
 ⟨λ_ _ _=>J,λ_ _ _ _=>J,λ_ _ _ _ _=>J,λ_ _ _ _ _ _=>J,λ_ _ _ _ _ _ _=>J,λ_ _ _ _ _ _ _ _=>J,λ_ _ _ _ _ _ _ _ _=>J,λ_ _ _ _ _ _ _ _ _ _=>J,λ_ _ _=>J,λ_ _ _ _=>J,λ_ _ _ _ _=>J,λ_ _ _ _ _ _=>J,λ_ _ _ _ _ _ _=>J,λ_ _ _ _ _ _ _ _=>J,λ_ _ _ _ _ _ _ _ _=>J,λ_ _ _ _ _ _ _ _ _ _=>J⟩
end D
namespace D
open PySem L2 PyProof.Rows
def OC(l:B1):(⟨l.toArray⟩:Str).length=Mo l:=by show l.toArray.size=_;simp
open PySem.StrLaws in
theorem wN(s sub:Str)(hi:Nat):∀(l:B1)(a fr:Nat),(forIn l ((#[a]:Array Nat),fr)<|occBody s sub hi 1).run.fst=#[a]
 |[],_,_=>J
 |b::l,a,fr=>by
  rw[zM];unfold occBody;rw[bp<|by simp]
  exact wN s sub hi l a fr
open PySem.StrLaws Builtin.Str in
theorem occ_first(s sub:Str)(hi:Nat):∀(n lo fr:Nat),fr<=lo ->
  ((forIn (uR lo n) ((#[]:Array Nat),fr)<|occBody s sub hi 1).run.fst=#[]/\∀i,lo<=i->i<lo+n->¬ (i+sub.length<=hi/\subAt s sub i=O)) \/
  ∃i,(forIn (uR lo n) ((#[]:Array Nat),fr)<|occBody s sub hi 1).run.fst=#[i]/\lo<=i/\i<lo+n/\(i+sub.length<=hi/\subAt s sub i=O)/\∀j,lo<=j->j<i->¬ (j+sub.length<=hi/\subAt s sub j=O)
 |0,lo,fr,_=>.inl ⟨J,λi a b=>by lia⟩
 |n+1,lo,fr,h=>by
  rw[M5,zM];by_cases hc:lo+sub.length<=hi/\subAt s sub lo=O
  .right
   refine⟨lo,?_,cV _,by lia,hc,λj a b=>by lia⟩
   unfold occBody;rw[bU ⟨⟨⟨by simp,h⟩,hc.1⟩,hc.2⟩]
   exact wN s sub hi _ lo _
  .have e:∀k,(occBody s sub hi 1 lo ((#[]:Array Nat),fr) >>= k:Id<|Array Nat×Nat)=k (fX ((#[]:Array Nat),fr)):=λk=>by
    unfold occBody;rw[bp λz=>hc ⟨z.1.2,z.2⟩];rfl
   rw[e];rcases occ_first s sub hi n (lo+1) fr (bG h<|bD ..)with⟨a,b⟩|⟨i,a,b,c,d,g⟩
   .refine .inl ⟨a,λi h1 h2=>?_⟩
    by_cases z:i=lo
    .subst z;exact hc
    .exact b i (by lia) (by lia)
   .refine .inr ⟨i,a,bG (bD ..) b,by lia,d,λj h1 h2=>?_⟩
    by_cases z:j=lo
    .subst z;exact hc
    .exact g j (by lia) h2
def y9(c:Nat)(r:B1)(i:Nat):(i+(⟨[c].toArray⟩:Str).length<=Mo r/\Builtin.Str.subAt ⟨r.toArray⟩ ⟨[c].toArray⟩ i=O) ↔ r[i]?=U c:=by
 rw[kl,OC,H9];show(i + [c].length<=Mo r/\(r.drop i).take [c].length=[c]) ↔ _;constructor
 .rintro⟨d,b⟩
  have:=ej (λq=>q[0]?) b
  simpa using this
 .intro h
  have a:=(bK.mp h).1;refine⟨a,?_⟩;rw[rT a]
  have:=(bK.mp h).2
  simp[this]
def LA(c:Nat)(D S R:B1)(h:c∉S):eg ⟨(D++(S++c::R)).toArray⟩ ⟨[c].toArray⟩ D.length (D++(S++c::R)).length 1=[D.length+S.length]:=by
 have e:(D++(S++c::R))[D.length+S.length]?=U c:=by
  rw[eZ<|bD ..,eZ<|by lia]
  simp
 have f:∀j,D.length<=j->j<D.length+S.length->¬ (D++(S++c::R))[j]?=U c:=λj l m z=>by
  rw[eZ l,gY<|by lia]at z
  exact h<|gz z
 rw[StrLaws.occ_eq];rcases occ_first ⟨(D++(S++c::R)).toArray⟩ ⟨[c].toArray⟩ (D++(S++c::R)).length ((D++(S++c::R)).length+1-D.length) D.length D.length (cV _)with⟨a,b⟩|⟨i,a,b,n,d,g⟩
 .exact ef ((y9 c _ _).mpr e)<|b _ (bD ..)<|by simp;lia
 .rw[a]
  have k:=(y9 c _ _).mp d
  have:i=D.length+S.length:=by
   rcases Nat.lt_trichotomy i (D.length+S.length)with z|z|z
   .exact ef k<|f i b z
   .exact z
   .exact ef ((y9 c _ _).mpr e)<|g _ (bD ..) z
  rw[this]
def Dq(c:Nat)(S R:B1)(h:c∉S):vV (S++c::R) [.str [c]]=U (.int ((Mo S:Nat):Int)):=by
 have:=LA c [] S R h
 rw[lK]at this;show U (T.int<|vb _ _)=_;unfold vb;rw[OC];have e:eg ⟨(S++c::R).toArray⟩ ⟨[c].toArray⟩ 0 (S++c::R).length 1=[0+Mo S]:=this;rw[e,D_]
def gb(n d k:Nat):ia n d (U (k:Int))=min k n:=by
 unfold ia;dsimp only;rw[bp<|by lia];rfl
def HM(n d:Nat):ia n d Y=d:=J
def lu(w r:List α):bW (w++r) (U (Mo w:Int)) Y=r:=by
 unfold bW;rw[gb,HM,cQ,uL<|bD ..,Eo];simp
def HN(w r:List α):bW (w++r) Y (U (Mo w:Int))=w:=by
 unfold bW;rw[gb,HM,cQ,uL<|bD ..];simp
def ua(a b c:List α):bW (a++(b++c)) (U (Mo a:Int)) (U ((Mo a+Mo b:Nat):Int))=b:=by
 unfold bW;rw[gb,gb,cQ,cQ,uL<|by lia,uL<|bD ..,Eo]
 have:Mo a+Mo b-Mo a=Mo b:=by lia
 rw[this,List.take_left]
def pre_app(w r:B1):pre w (w++r)=O:=by unfold pre;simp
def dS(h:c≠d):pre (c::w) (d::r)=Zc:=by
 unfold pre;rw[dM,dM,uW]
 have:(d::Ep w.length r == c::w)=Zc:=by
  rw[beq_eq_false_iff_ne];intro z;injection z with z _
  exact h z.symm
 rw[this,Nh]
def HP(c:Nat)(w r:B1):pre (c::w) (c::r)=pre w r:=by
 unfold pre;rw[dM,dM,uW]
 have:(c::Ep w.length r == c::w)=(Ep w.length r == w):=by
  rw[zY];simp
 rw[this]
 congr 1
 apply decide_eq_decide.mpr
 lia
end D
namespace D
abbrev sv(t:T):Option C:=U<|.val t
abbrev J4(i:Int):=sv<|.int i
abbrev Kb(l:List Nat):=sv<|.str l
abbrev Ki(l:List T):=sv<|.lst l
abbrev Kj(k:Nat):=sv<|.own k
abbrev cI(i:Int):FE:=cF<|.int i
abbrev cS(l:B1):FE:=cF<|.str l
abbrev oA:FE->FE->FE:=bX<|eA .Add
abbrev oM:FE->FE->FE:=bX<|eA .Mod
abbrev oD:FE->FE->FE:=bX<|eA .FloorDiv
abbrev oE:FE->FE->FE:=bX<|aN .Eq
abbrev oI:FE->FE->FE:=bX il
abbrev k1(a:FE):FL:=bw a aY
abbrev k2(a b:FE):FL:=bw a<|k1 b
abbrev k3(a b c:FE):FL:=bw a<|k2 b c
abbrev zA:FE:=vF 0
abbrev zB:FE:=vF 1
abbrev zC:FE:=vF 2
abbrev zD:FE:=vF 3
abbrev zO:FE:=cI 0
abbrev zI:FE:=cI 1
abbrev zg:B1:=[103,105,118,101]
def W(x:Res α)(Q:α->Prop):Prop:=∃a,x=.ok a/\Q a
section
variable{f:α->Res j}{P:α->Prop}
def W.mono(h:W x Q)(k:∀a,Q a->P a):W x P:=let⟨a,e,q⟩:=h;⟨a,e,k a q⟩
theorem W.bind(h:W x λa=>W (f a) R):W (x.bind f) R:=by
 obtain⟨a,rfl,b,e,q⟩:=h;exact⟨b,e,q⟩
def W.of(e:x=.ok a)(h:P a):W x P:=⟨a,e,h⟩
def wO(e:o=U a)(h:W (f a) R):W ((aZ o).bind f) R:=by rw[e];exact h
end
section
variable{a b:FE}{fl:FL}{z:FR->FV}{Q:T×S->Prop}{t u:T}{ts:FR}{c:FT}{A B:FS}{j:Out×S->Prop}{p:Bool×S->Prop}{v:FR×S->Prop}{G:T×FX->Prop}
def į(h:W (fl s) λp=>∃v,z p.1=U v/\Q (v,p.2)):W (bV z fl s) Q:=W.bind<|h.mono λ_ ⟨_,e,q⟩=>wO e ⟨_,J,q⟩
def XF(h:W (a s) λp=>W (fl p.2) λq=>v (p.1::q.1,q.2)):W (bw a fl s) v:=W.bind<|h.mono λ_ k=>W.bind<|k.mono λ_ q=>⟨_,J,q⟩
def XG{f:Fn}(h:W (fl s) λp=>W (f p.1 p.2.m) λq=>Q (q.1,⟨p.2.r,q.2⟩)):W (aB f [] fl s) Q:=W.bind<|h.mono λp k=>by
 obtain⟨q,e,k⟩:=k;refine⟨_,?_,k⟩;rw[bF,e]
def WB(b:FS)(s:S)(G:T×FX->Prop):Prop:=W (b s) λp=>∃t,p.1=.rt t/\G (t,p.2.m)
def Sm(h:W (a s) λp=>G (p.1,p.2.m)):WB (aD a) s G:=W.bind<|h.mono λp q=>⟨_,J,_,J,q⟩
def Bq(e:a s=.ok (t,s'))(h:G (t,s'.m)):WB (aD a) s G:=Sm ⟨_,e,h⟩
def eE(h:W (A s) λp=>p.1=.nx/\WB B p.2 G):WB (ah A B) s G:=W.bind<|h.mono λp a=>by
 obtain⟨e,k⟩:=a;obtain⟨o,s'⟩:=p;cases e;exact k
def OD(h:WB A s G):WB (ah A B) s G:=W.bind<|W.mono h λp ⟨t,e,k⟩=>⟨p,by obtain⟨o,s'⟩:=p;cases e;rfl,t,e,k⟩
def İ(h:W (a s) λp=>j (.nx,jF p.2 i<|.val p.1)):W (aH i a s) j:=W.bind<|h.mono λ_ q=>⟨_,J,q⟩
def ı(h:W (a s) λp=>WB B (jF p.2 i<|.val p.1) G):WB (ah (aH i a) B) s G:=eE<|İ<|h.mono λ_ q=>⟨J,q⟩
def Ĳ(e:a s=.ok (t,s'))(h:WB B (jF s' i<|.val t) G):WB (ah (aH i a) B) s G:=ı ⟨_,e,h⟩
def XH(h:W (c s) λp=>(p.1=O->W (A p.2) j)/\(p.1=Zc->W (B p.2) j)):W (aV c A B s) j:=W.bind<|h.mono λp a=>by
 obtain⟨k1,k2⟩:=a;cases e:p.1 with
 |true=>exact k1 e
 |false=>exact k2 e
def mh(e:c s=.ok (O,s'))(h:W (A s') j):W (aV c A B s) j:=XH ⟨_,e,⟨λ_=>h,λz=>by cases z⟩⟩
def dC(e:c s=.ok (Zc,s'))(h:W (B s') j):W (aV c A B s) j:=XH ⟨_,e,⟨λz=>(by cases z),λ_=>h⟩⟩
def bHt(e:c s=.ok (O,s'))(h:WB A s' G):WB (ah (aV c A B) a') s G:=OD<|mh e h
def bSk(e:c s=.ok (Zc,s'))(h:WB B s' G):WB (ah (aV c A aG) B) s G:=eE<|dC e ⟨_,J,J,h⟩
def qI{a n:Nat}{m:FX}(h:Mo ts=a)(k:WB B ⟨ts.map (λt=>U<|.val t)++bL (n-Mo ts) Y,m⟩ G):W (aI a n B ts m) G:=by
 unfold aI;rw[bU h];exact W.bind<|W.mono k λp ⟨t,e,k⟩=>⟨_,by rw[e],k⟩
def OE{f:Fn}(h:aQ ts=O)(k:W (f ts []) λp=>noOwn p.1=O/\G (p.1,m)):W (aU f ts m) G:=by
 obtain⟨p,e,b,a⟩:=k;refine⟨_,?_,a⟩;unfold aU;rw[bU h,e];exact bU b
def iC(h:W (A s) λp=>p.1=.nx/\W (B p.2) j):W (ah A B s) j:=W.bind<|h.mono λp a=>by
 obtain⟨e,k⟩:=a;obtain⟨o,s'⟩:=p;cases e;exact k
def XI{b:FG}(h:W (a s) λp=>∃r,b p.1 p.2.r=U r/\j (.nx,⟨r,p.2.m⟩)):W (yo b a s) j:=W.bind<|h.mono λ_ ⟨_,e,q⟩=>wO e ⟨_,J,q⟩
def ĳ(h:W (fl s) λp=>Q (.lst p.1,p.2)):W (gx fl s) Q:=W.bind<|h.mono λ_ q=>⟨_,J,q⟩
def XJ{a:FG}(h:W (fl s) λp=>Mo p.1<=1000000/\W (c_ a c e (jq n js<|j9 js p.2.r) p.1 p.2.m) λq=>v (q.1,⟨j9 js p.2.r,q.2⟩)):W (dI fl n js a c e s) v:=W.bind<|h.mono λp b=>by
 obtain⟨z,k⟩:=b;rw[bU z];exact W.bind<|k.mono λ_ q=>⟨_,J,q⟩
theorem XM{a:FG}{I:S->Prop}:∀{ts:FR}{s:S},(∀t∈ts,∀s,I s->∃r,a t s.r=U r/\W (B ⟨r,s.m⟩) λp=>p.1=.nx/\I p.2)->I s->W (bH a B ts s) λp=>p.1=.nx/\I p.2
 |[],s,_,h=>⟨_,J,J,h⟩
 |t::ts,s,k,h=>by
  obtain⟨r,g,⟨o,s1⟩,f,e,d⟩:=k t (eO ..) s h;cases e;obtain⟨p,e4,c⟩:=XM (ts:=ts) (λt b=>k t<|ee _ b) d;refine⟨p,?_,c⟩;rw[bH,g];apply dF;show Res.bind (B ⟨r,s.m⟩) _=_;rw[f];exact e4
end
end D
namespace K45
open PySem D L2
variable(n:Nat)
abbrev HQ:B1:=[97,98,99,100,101,102,103,104,105,106,107,108,109,110,111,112,113,114,115,116,117,118,119,120,121,122,65,66,67,68,69,70,71,72,73,74,75,76,77,78,79,80,81,82,83,84,85,86,87,88,89,90,48,49,50,51,52,53,54,55,56,57,32,33,34,35,36,38,39,40,41,42,43,44,45,46,47,58,59,60,61,62,63,64,91,92,93,94,95,96,123,124,125,126]
abbrev Sn:B1:=[97,98,99,100,101,102,103,104,105,106,107,108,109,110,111,112,113,114,115,116,117,118,119,120,121,122]
abbrev XO:B1:=[32,33,34,35,38,39,40,41,44,45,48,49,50,51,52,53,54,55,56,57,58,59,60,61,62,64,65,66,67,68,69,70,71,72,73,74,75,76,77,78,79,80,81,82,83,84,85,86,87,88,89,90,92,95,96,97,98,99,100,101,102,103,104,105,106,107,108,109,110,111,112,113,114,115,116,117,118,119,120,121,122,123,124,125,126]
abbrev XR:B1:=[32,33,34,35,36,38,39,40,41,42,43,44,45,46,47,48,49,50,51,52,53,54,55,56,57,58,59,60,61,62,63,64,65,66,67,68,69,70,71,72,73,74,75,76,77,78,79,80,81,82,83,84,85,86,87,88,89,90,91,92,93,94,95,96,97,98,99,100,101,102,103,104,105,106,107,108,109,110,111,112,113,114,115,116,117,118,119,120,121,122,123,124,125,126]
abbrev fx(x:Str)(i:Nat):Str×FR×Nat:=(x,[],i)
def M:Gm:={
 P:={cn:=("Program" :: "Line" :: "Always" :: "RowIs" :: "Last" :: "Like" :: "Soon" :: "FromTo" :: "Not" :: "End" :: "Mark" :: "Drop" :: "Print" :: "Done" :: "Say" :: "Swap" :: "Join" :: "Pile" :: "Bring" :: "Go" :: "Add" :: "Tell" :: "TextRow" :: "Truths" :: "Walker" :: "Blade" :: "Scan" :: []),an:=("lines" :: "cond" :: "deed" :: "number" :: "pattern" :: "many" :: "first" :: "second" :: "inner" :: "name" :: "words" :: "every" :: "most" :: "shelf" :: "text" :: "known" :: "conds" :: "up" :: "behind_marks" :: "teller" :: "truths" :: "passed" :: "met" :: "taken" :: "hand" :: "hand_rows" :: "shelves" :: "sums" :: "noted" :: "log" :: "wanting" :: "walker" :: "seen" :: "came" :: "waiting" :: "rest" :: "finished" :: []),tab:=[[0],[1,2],[],[3],[],[4],[5,4],[6,7],[8],[],[9],[],[],[],[10],[4,10,11],[12],[13,12],[13],[9],[6,7],[],[14,3,15],[16,17],[0,18,19,20,21,22,23,24,25,26,27,28,29,30],[31,32,33,34,35,36],[35,3]],sub:=[[0],[1],[2],[3],[4],[5],[6],[7],[8],[9],[10],[11],[12],[13],[14],[15],[16],[17],[18],[19],[20],[21],[22],[23],[24],[25],[26]]},
 cs:=[("SIGNS",.str HQ),("SMALL_LETTERS",.str Sn),("FIGURES",.str [48,49,50,51,52,53,54,55,56,57]),("MOST_ITEMS",.int 8),("MOST_SIGNS",.int 12),("NEVER_PLAIN",.str [94,36,46,91,93,42,43,63,47]),("NEVER_IN_A_SET",.str [93,94,47]),("ONCE",.str [49]),("HOW_MANY",.str [42,43,63]),("NOWHERE",.int<|-1),("MOST_FIGURES_pieces",.int 60),("COND_BEGINNINGS",.tup [.str [114,111,119,32],.str [108,97,115,116],.str [47],.str [115,111,111,110,32],.str [102,114,111,109,32],.str [110,111,116,32],.str [101,110,100]]),("MOST_ROW",.int 999),("MOST_FIGURES_linereading",.int 3),("MOST_SOON",.int 3),("LEAST_JOIN",.int 2),("MOST_SMALL",.int 9),("MOST_LETTERS",.int 8),("MOST_TEXT",.int 40),("MOST_LINES",.int 24)],
 fs:=(fx "made_of" 0::fx "beginning_of" 1::fx "may_stand_plain" 2::fx "pattern" 3::fx "items_of" 4::fx "place_behind_core" 5::fx "many_at" 6::fx "item_of" 7::fx "is_written_plain" 8::fx "written" 9::fx "written_core" 10::fx "may_be_left_out" 11::fx "may_come_again" 12::("stretch",[.int 0],13)::fx "found" 14::fx "greatest_ends" 15::fx "ends_behind_items" 16::fx "ends_with_item" 17::fx "holds" 18::fx "given_in" 19::fx "numbers_of_marks" 20::fx "ahead" 21::fx "rows_seen_by" 22::fx "line_of" 23::fx "line_next" 24::fx "cond_next" 25::fx "plain_cond_next" 26::fx "row_or_pattern_next" 27::fx "deed_next" 28::fx "number_next" 29::fx "name_next" 30::fx "words_next" 31::fx "pattern_next" 32::fx "may_stand" 33::fx "cut" 34::fx "read" 35::fx "lines_of" 36::fx "marks_of" 37::fx "refuse_go_without_mark" 38::fx "_law_cell_at" 39::fx "_law_whole" 40::fx "_law_plain" 41::fx "_law_word" 42::fx "_law_sign" 43::fx "_law_pieces" 44::fx "_law_rows" 45::fx "_law_given" 46::fx "_law_lines" 47::fx "_law_kinds" 48::fx "_law_refused" 49::fx "_law_alike" 50::fx "law" 51::[]),
 cl:=(("Program",.cp 0)::("Line",.fz 1 2)::("Always",.z0 2)::("Last",.z0 4)::("Like",.fz 5 1)::("Soon",.fz 6 2)::("Not",.fz 8 1)::("End",.z0 9)::("Mark",.fz 10 1)::("Drop",.z0 11)::("Print",.z0 12)::("Done",.z0 13)::("Say",.fz 14 1)::("Go",.fz 19 1)::("Tell",.z0 21)::("TextRow",.nw 22 60)::("Truths",.nw 23 62)::("Walker",.nw 24 65)::("Blade",.nw 25 79)::("Scan",.nw 26 85)::[]),
 ms:=(("has",[(22,61)])::("told_of",[(23,63)])::("truth",[(23,64)])::("want",[(24,66)])::("take",[(24,67)])::("take_with",[(24,68)])::("go_on",[(24,69)])::("meet",[(24,70)])::("hand_over",[(24,71)])::("finish",[(24,72),(25,81)])::("find_none",[(24,73)])::("give",[(24,74)])::("end_turn",[(24,75)])::("give_hand_and_end",[(24,76)])::("do",[(24,77)])::("do_giving",[(24,78)])::("feed",[(25,80)])::("refuse_once_finished",[(25,82)])::("come",[(25,83)])::("take_all_but",[(25,84)])::("passes",[(26,86)])::("must_pass",[(26,87)])::("while_made_of",[(26,88)])::("between",[(26,89)])::[]),
 bl:=["isinstance","len","all","any","str","int","list","range","enumerate","bool","min","max","reversed"],bf:=["log","met","up","known","shelves","sums","noted","waiting"],xc := "Endless",xf := "row",xg := "line",xk:=90,xt:=[("meet",24,70),("go_on",24,69),("take_with",24,68),("take_all_but",25,84),("feed",25,80),("finish",25,81)],xu:=[("take",24,67)],kn := "_law_kinds",kb:=[O,Zc,Zc,Zc,Zc,Zc,Zc,Zc],kk:=48,xm := "BladeError"}
abbrev Fu(x:Str)(k:Nat)(N:Bi)(a:Nat)(u:Bi)(b:Bool):Fe:=⟨Y,x,x,top k,N,N.take a,u,b,[]⟩
abbrev Fm(c x q:Str)(k h:Nat)(N:Bi)(a:Nat):Fe:=⟨U c,x,q,inClass (top k) h,"self" :: N,"self" :: N.take a,[],Zc,[]⟩
def Ft:List Fe:=[
 Fu "made_of" 40 ["text","signs"] 9 [] O,
 Fu "beginning_of" 41 ["text","signs","many"] 2 [] O,
 Fu "may_stand_plain" 49 ["sign"] 9 [] O,
 Fu "pattern" 50 ["text","front","body","back","items"] 1 [] O,
 Fu "items_of" 51 ["body","items","place","behind","many"] 1 ["items"] O,
 Fu "place_behind_core" 52 ["body","place","bracket"] 2 [] O,
 Fu "many_at" 53 ["body","place"] 9 [] O,
 Fu "item_of" 54 ["core","many"] 9 [] O,
 Fu "is_written_plain" 56 ["signs","others"] 9 [] O,
 Fu "written" 57 ["one","parts","signs","others","many"] 1 ["parts"] O,
 Fu "written_core" 58 ["signs","others"] 9 [] O,
 Fu "may_be_left_out" 61 ["item"] 9 [] O,
 Fu "may_come_again" 62 ["item"] 9 [] O,
 ⟨Y,"stretch","stretch",top 65,["one","row","start","ends","begin"],["one","row","start"],[],O,[.int 0]⟩,
 Fu "found" 66 ["one","row"] 9 [] O,
 Fu "greatest_ends" 67 ["one","row","ends","item"] 2 [] O,
 Fu "ends_behind_items" 68 ["row","back"] 9 [] O,
 Fu "ends_with_item" 69 ["item","row","behind","signs","others","again","ends","place","end"] 3 ["ends"] O,
 Fu "holds" 73 ["cond","row"] 9 [] Zc,
 Fu "given_in" 84 ["log"] 9 [] Zc,
 Fu "numbers_of_marks" 85 ["lines","numbers","number","line"] 1 ["numbers"] O,
 Fu "ahead" 87 ["program"] 9 [] O,
 Fu "rows_seen_by" 88 ["cond"] 9 [] O,
 Fu "line_of" 100 ["row","number","scan","line"] 2 [] O,
 Fu "line_next" 101 ["scan","cond"] 1 [] Zc,
 Fu "cond_next" 102 ["scan"] 9 [] Zc,
 Fu "plain_cond_next" 103 ["scan","many","first"] 1 [] Zc,
 Fu "row_or_pattern_next" 104 ["scan"] 9 [] Zc,
 Fu "deed_next" 105 ["scan"] 9 [] Zc,
 Fu "number_next" 109 ["scan","least","most","figures","number"] 3 [] Zc,
 Fu "name_next" 110 ["scan","name"] 1 [] Zc,
 Fu "words_next" 111 ["scan","words"] 1 [] Zc,
 Fu "pattern_next" 112 ["scan","text"] 1 [] Zc,
 Fu "may_stand" 113 ["cond","deed"] 9 [] O,
 Fu "cut" 116 ["text","rows"] 1 [] O,
 Fu "read" 119 ["text","lines","marks"] 1 [] O,
 Fu "lines_of" 120 ["rows","lines","number","row"] 1 ["lines"] O,
 Fu "marks_of" 121 ["lines","marks","number","line"] 1 ["marks"] O,
 Fu "refuse_go_without_mark" 122 ["lines","marks","number","line"] 2 [] O,
 Fu "_law_cell_at" 124 ["_law_script","_law_k"] 9 [] O,
 Fu "_law_whole" 125 ["_law_answer"] 9 [] O,
 Fu "_law_plain" 126 ["_law_number","_law_some"] 1 [] O,
 Fu "_law_word" 127 ["_law_number","_law_signs","_law_k","_law_way"] 1 [] O,
 Fu "_law_sign" 128 ["_law_number","_law_some","_law_spot"] 1 [] O,
 Fu "_law_pieces" 129 ["_law_cells","_law_room","_law_pieces_here","_law_cell","_law_many","_law_number","_law_signs","_law_k"] 1 ["_law_pieces_here"] O,
 Fu "_law_rows" 130 ["_law_text","_law_rows_here"] 1 ["_law_rows_here"] O,
 Fu "_law_given" 131 ["_law_ways","_law_words","_law_rows_here","_law_at","_law_given_here"] 4 ["_law_given_here"] O,
 Fu "_law_lines" 132 ["_law_ways","_law_words","_law_lines_here","_law_spot"] 2 [] O,
 Fu "_law_kinds" 133 ["_law_e","_law_sorts"] 1 [] Zc,
 Fu "_law_refused" 134 ["_law_blade","_law_piece","_law_finished","_law_row","_law_line","_law_sorts","_law_place","_law_e"] 5 [] Zc,
 Fu "_law_alike" 135 ["_law_answer","_law_due"] 9 [] O,
 Fu "law" 136 ["_law_script","_law_first","_law_ways","_law_second","_law_words","_law_pieces_here","_law_rows_here","_law_blade","_law_whole_here","_law_taken","_law_piece","_law_due","_law_lines_here","_law_line","_law_given_here","_law_ring"] 1 [] O,
 Fm "Program" "__init__" "Program.__init__" 12 0 ["lines"] 9,
 Fm "Line" "__init__" "Line.__init__" 13 0 ["cond","deed"] 9,
 Fm "Like" "__init__" "Like.__init__" 18 0 ["pattern"] 9,
 Fm "Soon" "__init__" "Soon.__init__" 19 0 ["many","pattern"] 9,
 Fm "Not" "__init__" "Not.__init__" 21 0 ["inner"] 9,
 Fm "Mark" "__init__" "Mark.__init__" 24 0 ["name"] 9,
 Fm "Say" "__init__" "Say.__init__" 28 0 ["words"] 9,
 Fm "Go" "__init__" "Go.__init__" 33 0 ["name"] 9,
 Fm "TextRow" "__init__" "TextRow.__init__" 71 0 ["text","number"] 9,
 Fm "TextRow" "has" "TextRow.has" 71 1 ["one","name"] 1,
 Fm "Truths" "__init__" "Truths.__init__" 72 0 ["lines"] 9,
 ⟨U "Truths","told_of","Truths.told_of",inClass (top 72) 1,["self","row","behind","truths","place","cond"],["self","row","behind"],["truths"],Zc,[]⟩,
 Fm "Truths" "truth" "Truths.truth" 72 2 ["place","cond","row","behind"] 9,
 Fm "Walker" "__init__" "Walker.__init__" 83 0 ["program"] 9,
 Fm "Walker" "want" "Walker.want" 83 1 [] 9,
 ⟨U "Walker","take","Walker.take",inClass (top 83) 2,["self","row","behind"],["self","row","behind"],["raise"],Zc,[]⟩,
 ⟨U "Walker","take_with","Walker.take_with",inClass (top 83) 3,["self","text","truths"],["self","text","truths"],["raise"],Zc,[]⟩,
 ⟨U "Walker","go_on","Walker.go_on",inClass (top 83) 4,["self"],["self"],["raise"],Zc,[]⟩,
 ⟨U "Walker","meet","Walker.meet",inClass (top 83) 5,["self","line","number","truth"],["self","line","number"],["raise"],Zc,[]⟩,
 Fm "Walker" "hand_over" "Walker.hand_over" 83 6 ["rows"] 0,
 Fm "Walker" "finish" "Walker.finish" 83 7 ["line"] 0,
 Fm "Walker" "find_none" "Walker.find_none" 83 8 [] 9,
 Fm "Walker" "give" "Walker.give" 83 9 ["row"] 9,
 Fm "Walker" "end_turn" "Walker.end_turn" 83 10 [] 9,
 Fm "Walker" "give_hand_and_end" "Walker.give_hand_and_end" 83 11 [] 9,
 Fm "Walker" "do" "Walker.do" 83 12 ["deed","number"] 9,
 Fm "Walker" "do_giving" "Walker.do_giving" 83 13 ["deed"] 9,
 Fm "Blade" "__init__" "Blade.__init__" 89 0 ["program"] 9,
 ⟨U "Blade","feed","Blade.feed",inClass (top 89) 1,["self","piece","parts","part"],["self","piece"],["raise"],Zc,[]⟩,
 ⟨U "Blade","finish","Blade.finish",inClass (top 89) 2,["self"],["self"],["raise"],Zc,[]⟩,
 Fm "Blade" "refuse_once_finished" "Blade.refuse_once_finished" 89 3 [] 9,
 Fm "Blade" "come" "Blade.come" 89 4 ["text"] 9,
 ⟨U "Blade","take_all_but","Blade.take_all_but",inClass (top 89) 5,["self","many","row"],["self","many"],["raise"],Zc,[]⟩,
 Fm "Scan" "__init__" "Scan.__init__" 99 0 ["row","number"] 9,
 Fm "Scan" "passes" "Scan.passes" 99 2 ["words"] 9,
 Fm "Scan" "must_pass" "Scan.must_pass" 99 3 ["words"] 9,
 Fm "Scan" "while_made_of" "Scan.while_made_of" 99 4 ["signs","taken"] 1,
 Fm "Scan" "between" "Scan.between" 99 5 ["sign","place","inside"] 1,
 Fm "Endless" "__init__" "Endless.__init__" 10 0 ["row","line"] 9]
def It:Lp:=[("Program",52),("Line",53),("Like",54),("Soon",55),("Not",56),("Mark",57),("Say",58),("Go",59),("TextRow",60),("Truths",62),("Walker",65),("Blade",79),("Scan",85)]
abbrev cN:=iA M Ft
set_option maxHeartbeats 0
abbrev TF:=(Nat->Fn)->Fn
abbrev WT(i:Nat)(t:TF):Prop:=∀n,cN (n+1) i=t (cN n)
def t0:TF:=λaj=>aU<|aI 2 2<|aD<|bV C5<|k1<|gx<|dI (oU zA) 2 [1] (setG 1) ie<|bX (aN .In) zB zC
def w0:WT 0 t0:=λ_=>J
def t1:TF:=λaj=>aU<|aI 2 3<|ah (aH 2 zO)
<|ah (dQ many (i_ (b9<|bX (aN .Lt) zC<|bV cX<|k1 zA)<|b9<|bX (aN .In) (oI zA zC) zB)
 <|FQ gF 2 zI)
<|aD<|rj zA xN<|nK zC
def w1:WT 1 t1:=λ_=>J
def t2:TF:=λaj=>aU<|aI 1 1<|aD<|nj (bX (aN .In) zA<|cS HQ)<|bX (aN .NotIn) zA<|cS [94,36,46,91,93,42,43,63,47]
def w2:WT 2 t2:=λ_=>J
def t3:TF:=λaj=>aU<|aI 1 5<|ah (aV (dZ<|tB<|dX (QG "str") zA)
  c6
  aG)
<|ah (aV (dZ<|tB<|aB (aj 0) []<|k2 zA<|cS HQ)
  c6
  aG)
<|ah (aH 1<|qm Gn zA<|k1<|cS [94])
<|ah (aH 2<|FP (tB zB) (rj zA (nK zI) xN) zA)
<|ah (aH 3<|qm û zC<|k1<|cS [36])
<|ah (aH 4<|aB (aj 4) []<|k1<|FP (tB zD) (rj zC xN<|nK<|dX jP zI) zC)
<|ah (aV (b9<|bX (aN .Gt) (bV cX<|k1<|vF 4)<|cI 8)
  c6
  aG)
<|aD<|bV fU<|k3 zB (vF 4) zD
def w3:WT 3 t3:=λ_=>J
abbrev y4a(aj:Nat->Fn):FS:=ah (aH 3<|aB (aj 5) []<|k2 zA zC)
<|ah (aH 4<|aB (aj 6) []<|k2 zA zD)
<|ah (ja 1<|aB (aj 7) []<|k2 (rj zA (nK zC)<|nK zD)<|vF 4)
<|aH 2<|FP (b9<|oE (vF 4)<|cS [49]) zD<|oA zD zI
def t4:TF:=λaj=>aU<|aI 1 5<|ah (jQ 1<|kg aY)
<|ah (aH 2 zO)
<|ah (dQ many (b9<|bX (aN .Lt) zC<|bV cX<|k1 zA)
 <|y4a aj)
<|aD zB
def w4:WT 4 t4:=λ_=>J
def t5:TF:=λaj=>aU<|aI 2 3<|ah (aV (b9<|bX (aN .NotEq) (oI zA zB)<|cS [91])
  (aD<|oA zB zI)
  aG)
<|ah (aH 2<|qm vV zA<|k2 (cS [93]) zB)
<|ah (aV (b9<|oE zC<|dX jP zI)
  c6
  aG)
<|aD<|oA zC zI
def w5:WT 5 t5:=λ_=>J
def t6:TF:=λaj=>aU<|aI 2 2<|ah (aV (i_ (b9<|bX (aN .Lt) zB<|bV cX<|k1 zA)<|b9<|bX (aN .In) (oI zA zB)<|cS [42,43,63])
  (aD<|oI zA zB)
  aG)
<|aD<|cS [49]
def w6:WT 6 t6:=λ_=>J
def t7:TF:=λaj=>aU<|aI 2 2<|ah (aV (b9<|oE zA<|cS [46])
  (aD<|bV fU<|k3 (cS []) (cF<|.bl O) zB)
  aG)
<|ah (aV (tB<|qm Gn zA<|k1<|cS [91])
  (aD aX)
  aG)
<|ah (aV (dZ<|tB<|aB (aj 2) []<|k1 zA)
  c6
  aG)
<|aD<|bV fU<|k3 zA (cF<|.bl Zc) zB
def w7:WT 7 t7:=λ_=>J
def t8:TF:=λaj=>aU<|aI 2 2<|aD<|nj (vI zB)<|nj (oE (bV cX<|k1 zA) zI)<|aB (aj 2) []<|k1 zA
def w8:WT 8 t8:=λ_=>J
abbrev y9a(aj:Nat->Fn):FS:=ah (ja 1<|aB (aj 10) []<|k2 zC zD)
<|ja 1<|FP (b9<|oE (vF 4)<|cS [49]) (cS [])<|vF 4
def t9:TF:=λaj=>aU<|aI 1 5<|ah (jQ 1<|kg<|k1<|FP (tB<|oI zA zO) (cS [94])<|cS [])
<|ah (gU (Kq<|oI zA zI) (eS [2,3,4])
 <|y9a aj)
<|ah (ja 1<|FP (tB<|oI zA<|cI 2) (cS [36])<|cS [])
<|aD<|qm joinM (cS [])<|k1 zB
def w9:WT 9 t9:=λ_=>J
def t10:TF:=λaj=>aU<|aI 2 2<|ah (aV (b9<|oE zA<|cS [])
  (aD<|cS [46])
  aG)
<|ah (aV (tB zB)
  (aD aX)
  aG)
<|ah (aV (tB<|aB (aj 8) []<|k2 zA zB)
  (aD zA)
  aG)
<|aD aX
def Ò:WT 10 t10:=λ_=>J
def t11:TF:=λaj=>aU<|aI 1 1<|aD<|bX (aN .In) (oI zA<|cI 2)<|bV fU<|k2 (cS [42])<|cS [63]
def w11:WT 11 t11:=λ_=>J
def t12:TF:=λaj=>aU<|aI 1 1<|aD<|bX (aN .In) (oI zA<|cI 2)<|bV fU<|k2 (cS [42])<|cS [43]
def w12:WT 12 t12:=λ_=>J
abbrev XS:FS:=aV (b9<|bX (aN .NotEq) (oI zD<|vF 4)<|cI<|-1)
  (aD<|bV fU<|k2 (vF 4)<|oI zD<|vF 4)
  aG
def t13:TF:=λaj=>aU<|aI 3 5<|ah (aH 3<|aB (aj 15) []<|k2 zA zB)
<|ah (gU (C3 oV<|k2 zC<|bV cX<|k1 zD) (setG 4)
  XS)
<|aD<|cF .non
def w13:WT 13 t13:=λ_=>J
def t14:TF:=λaj=>aU<|aI 2 2<|aD<|bX (aN .IsNot) (aB (aj 13) [(.int<|0)]<|k2 zA zB)<|cF .non
def w14:WT 14 t14:=λ_=>J
def t15:TF:=λaj=>aU<|aI 2 4<|ah (aH 2<|aB (aj 16) []<|k2 zB<|oI zA<|cI 2)
<|ah (gU (o1 Ri<|oI zA zI) (setG 3)
 <|aH 2<|aB (aj 17) []<|k3 zD zB zC)
<|aD<|FP (tB<|oI zA zO) (rj zC xN<|nK zI) zC
def w15:WT 15 t15:=λ_=>J
def t16:TF:=λaj=>aU<|aI 2 2<|ah (aV (tB zB)
  (aD<|oA (bX (eA .Mult) (bV eG<|k1<|cI<|-1)<|bV cX<|k1 zA)<|bV eG<|k1<|bV cX<|k1 zA)
  aG)
<|aD<|gx<|o1 Df<|oA (bV cX<|k1 zA) zI
def w16:WT 16 t16:=λ_=>J
abbrev Ĵ:FS:=aV (b9<|bX (aN .NotEq) (bX (aN .In) (oI zB<|vF 7) zD)<|vF 4)
  (ah (aH 8<|oI zC<|oA (vF 7) zI)
<|ah (aV (i_ (tB<|vF 5)<|b9<|bX (aN .Gt) (nk 6<|oA (vF 7) zI)<|vF 8)
  (aH 8<|nk 6<|oA (vF 7) zI)
  aG)
<|aV (b9<|bX (aN .Gt) (vF 8)<|nk 6<|vF 7)
  (Oi 6 (vF 7)<|vF 8)
  aG)
  aG
def t17:TF:=λaj=>aU<|aI 3 9<|ah (aH 3<|oI zA zO)
<|ah (aH 4<|oI zA zI)
<|ah (aH 5<|aB (aj 12) []<|k1 zA)
<|ah (jQ 6<|Zo (tB<|aB (aj 11) []<|k1 zA) (o1 ē zC)<|o2 GP (bV eG<|k1<|cI<|-1)<|bV cX<|k1 zC)
<|ah (gU (C3 Dg<|k3 (bX (eA .Sub) (bV cX<|k1 zB) zI) (dX jP zI)<|dX jP zI) (setG 7)
  Ĵ)
<|aD<|vF 6
def w17:WT 17 t17:=λ_=>J
def t18:TF:=λaj=>aI 2 2<|ah (aV (tB<|dX (jb M.P.sub [3]) zA)
  (aD<|oE (aE M.P.tab 3 zA)<|aE M.P.tab 3 zB)
  aG)
<|ah (aV (tB<|dX (jb M.P.sub [5]) zA)
  (aD<|aA (au [(22,61)] aj) zB<|k1<|aE M.P.tab 4 zA)
  aG)
<|aD<|cF<|.bl O
def w18:WT 18 t18:=λ_=>J
def t19:TF:=λaj=>aI 1 1<|aD<|gx<|dI (oU zA) 2 [] (setG 1) (b9<|oE (oI zB zO)<|cS zg)<|oI zB zI
def w19:WT 19 t19:=λ_=>J
abbrev ĵ:FS:=aV (tB<|dX (jb M.P.sub [10])<|aE M.P.tab 2 zD)
  (Oi 1 (aE M.P.tab 9<|aE M.P.tab 2 zD) zC)
  aG
def t20:TF:=λaj=>aU<|aI 1 4<|ah (wc 1)
<|ah (gU (jn 1 zA) (eS [2,3])
  ĵ)
<|aD zB
def w20:WT 20 t20:=λ_=>J
def t21:TF:=λaj=>aU<|aI 1 1<|aD<|KO (0)<|gx<|dI (oU<|aE M.P.tab 0 zA) 2 [] (setG 1) ie<|aB (aj 22) []<|k1<|aE M.P.tab 1 zB
def w21:WT 21 t21:=λ_=>J
def t22:TF:=λaj=>aU<|aI 1 1<|ah (aV (tB<|dX (jb M.P.sub [8]) zA)
  (aD<|aB (aj 22) []<|k1<|aE M.P.tab 8 zA)
  aG)
<|ah (aV (tB<|dX (jb M.P.sub [4]) zA)
  (aD zI)
  aG)
<|ah (aV (tB<|dX (jb M.P.sub [6]) zA)
  (aD<|aE M.P.tab 5 zA)
  aG)
<|aD zO
def XT:WT 22 t22:=λ_=>J
def t23:TF:=λaj=>aU<|aI 2 4<|ah (aH 2<|oS 26 (aj 85)<|k2 zA zB)
<|ah (aH 3<|aB (aj 24) []<|k1 zC)
<|ah (aV (yn (b9<|bX (aN .NotEq) (aE M.P.tab 35 zC)<|cS [])<|dZ<|tB<|aB (aj 33) []<|k2 (aE M.P.tab 1 zD)<|aE M.P.tab 2 zD)
  (aP aX)
  aG)
<|aD zD
def w23:WT 23 t23:=λ_=>J
def t24:TF:=λaj=>aI 1 2<|ah (aV (tB<|aA (au [(26,86)] aj) zA<|k1<|cS [109,97,114,107,32])
  (aD<|gq 1 2<|k2 (gq 2 0 aY)<|gq 10 1<|k1<|aB (aj 30) []<|k1 zA)
  aG)
<|ah (aV (dZ<|tB<|bV sV<|k1<|gx<|dI (oU<|cF<|.tup [(.str [114,111,119,32]),(.str [108,97,115,116]),(.str [47]),(.str [115,111,111,110,32]),(.str [102,114,111,109,32]),(.str [110,111,116,32]),(.str [101,110,100])]) 2 [0] (setG 1) ie<|qm Gn (aE M.P.tab 35 zC)<|k1 zB)
  (aD<|gq 1 2<|k2 (gq 2 0 aY)<|aB (aj 28) []<|k1 zA)
  aG)
<|ah (aH 1<|aB (aj 25) []<|k1 zA)
<|ah (aP<|aA (au [(26,87)] aj) zA<|k1<|cS [58,32])
<|aD<|gq 1 2<|k2 zB<|aB (aj 28) []<|k1 zA
def Ķ:WT 24 t24:=λ_=>J
def t25:TF:=λaj=>aI 1 1<|ah (aV (tB<|aA (au [(26,86)] aj) zA<|k1<|cS [101,110,100])
  (aD<|gq 9 0 aY)
  aG)
<|ah (aV (tB<|aA (au [(26,86)] aj) zA<|k1<|cS [110,111,116,32])
  (aD<|gq 8 1<|k1<|aB (aj 26) []<|k1 zA)
  aG)
<|aD<|aB (aj 26) []<|k1 zA
def w25:WT 25 t25:=λ_=>J
def t26:TF:=λaj=>aI 1 3<|ah (aV (tB<|aA (au [(26,86)] aj) zA<|k1<|cS [108,97,115,116])
  (aD<|gq 4 0 aY)
  aG)
<|ah (aV (tB<|aA (au [(26,86)] aj) zA<|k1<|cS [115,111,111,110,32])
  (ah (aH 1<|aB (aj 29) []<|k3 zA zI<|cI 3)
<|ah (aP<|aA (au [(26,87)] aj) zA<|k1<|cS [32])
<|aD<|gq 6 2<|k2 zB<|aB (aj 32) []<|k1 zA)
  aG)
<|ah (aV (tB<|aA (au [(26,86)] aj) zA<|k1<|cS [102,114,111,109,32])
  (ah (aH 2<|aB (aj 27) []<|k1 zA)
<|ah (aP<|aA (au [(26,87)] aj) zA<|k1<|cS [32,116,111,32])
<|aD aX)
  aG)
<|aD<|aB (aj 27) []<|k1 zA
def ķ:WT 26 t26:=λ_=>J
def t27:TF:=λaj=>aI 1 1<|ah (aV (tB<|aA (au [(26,86)] aj) zA<|k1<|cS [114,111,119,32])
  (aD aX)
  aG)
<|aD<|gq 5 1<|k1<|aB (aj 32) []<|k1 zA
def w27:WT 27 t27:=λ_=>J
def t28:TF:=λaj=>aI 1 1<|ah (aV (tB<|aA (au [(26,86)] aj) zA<|k1<|cS [100,114,111,112])
  (aD<|gq 11 0 aY)
  aG)
<|ah (aV (tB<|aA (au [(26,86)] aj) zA<|k1<|cS [112,114,105,110,116])
  (aD<|gq 12 0 aY)
  aG)
<|ah (aV (tB<|aA (au [(26,86)] aj) zA<|k1<|cS [100,111,110,101])
  (aD<|gq 13 0 aY)
  aG)
<|ah (aV (tB<|aA (au [(26,86)] aj) zA<|k1<|cS [116,101,108,108])
  (aD<|gq 21 0 aY)
  aG)
<|ah (aV (tB<|aA (au [(26,86)] aj) zA<|k1<|cS [115,97,121,32])
  (aD<|gq 14 1<|k1<|aB (aj 31) []<|k1 zA)
  aG)
<|ah (aV (tB<|aA (au [(26,86)] aj) zA<|k1<|cS [115,119,97,112,32,101,118,101,114,121,32])
  (aD aX)
  aG)
<|ah (aV (tB<|aA (au [(26,86)] aj) zA<|k1<|cS [115,119,97,112,32])
  (aD aX)
  aG)
<|ah (aV (tB<|aA (au [(26,86)] aj) zA<|k1<|cS [106,111,105,110,32])
  (aD aX)
  aG)
<|ah (aV (tB<|aA (au [(26,86)] aj) zA<|k1<|cS [112,105,108,101,32])
  (aD aX)
  aG)
<|ah (aV (tB<|aA (au [(26,86)] aj) zA<|k1<|cS [98,114,105,110,103,32])
  (aD aX)
  aG)
<|ah (aV (tB<|aA (au [(26,86)] aj) zA<|k1<|cS [103,111,32])
  (aD<|gq 19 1<|k1<|aB (aj 30) []<|k1 zA)
  aG)
<|ah (aP<|aA (au [(26,87)] aj) zA<|k1<|cS [97,100,100,32])
<|aD aX
def w28:WT 28 t28:=λ_=>J
def t29:TF:=λaj=>aI 3 5<|ah (aH 3<|aA (au [(26,88)] aj) zA<|k1<|cS [48,49,50,51,52,53,54,55,56,57])
<|ah (aV (yn (b9<|oE zD<|cS [])<|yn (tB<|qm Gn zD<|k1<|cS [48])<|b9<|bX (aN .Gt) (bV cX<|k1 zD)<|cI 3)
  (aP aX)
  aG)
<|ah (aH 4<|bV Gq<|k1 zD)
<|ah (aV (yn (b9<|bX (aN .Lt) (vF 4) zB)<|b9<|bX (aN .Gt) (vF 4) zC)
  (aP aX)
  aG)
<|aD<|vF 4
def w29:WT 29 t29:=λ_=>J
def t30:TF:=λaj=>aI 1 2<|ah (aH 1<|aA (au [(26,88)] aj) zA<|k1<|cS Sn)
<|ah (aV (yn (b9<|oE zB<|cS [])<|b9<|bX (aN .Gt) (bV cX<|k1 zB)<|cI 8)
  (aP aX)
  aG)
<|aD zB
def w30:WT 30 t30:=λ_=>J
def t31:TF:=λaj=>aI 1 2<|ah (aH 1<|aA (au [(26,89)] aj) zA<|k1<|cS [34])
<|ah (aV (yn (b9<|bX (aN .Gt) (bV cX<|k1 zB)<|cI 40)<|dZ<|tB<|aB (aj 0) []<|k2 zB<|cS HQ)
  (aP aX)
  aG)
<|aD zB
def w31:WT 31 t31:=λ_=>J
def t32:TF:=λaj=>aI 1 2<|ah (aH 1<|aA (au [(26,89)] aj) zA<|k1<|cS [47])
<|aD<|aB (aj 3) []<|k1 zB
def w32:WT 32 t32:=λ_=>J
def t33:TF:=λaj=>aU<|aI 2 2<|ah (aV (tB<|dX (jb M.P.sub [9]) zA)
  (aD<|dX (jb M.P.sub [14,18,21]) zB)
  aG)
<|ah (aV (tB<|dX (jb M.P.sub [15]) zB)
  (aD aX)
  aG)
<|aD<|vI<|dX (jb M.P.sub [21]) zB
def w33:WT 33 t33:=λ_=>J
def t34:TF:=λaj=>aU<|aI 1 2<|ah (aH 1<|qm splitM zA<|k1<|cS [10])
<|ah (aV (b9<|oE (oI zB<|dX jP zI)<|cS [])
  (aD<|bV fU<|k2 (rj zB xN<|nK<|dX jP zI)<|cF<|.bl O)
  aG)
<|aD<|bV fU<|k2 zB<|cF<|.bl Zc
def w34:WT 34 t34:=λ_=>J
def t35:TF:=λaj=>aU<|aI 1 3<|ah (aH 1<|aB (aj 36) []<|k1<|oI (aB (aj 34) []<|k1 zA) zO)
<|ah (aH 2<|aB (aj 37) []<|k1 zB)
<|ah (aP<|aB (aj 38) []<|k2 zB zC)
<|aD<|dX (Qg 0) zB
def w35:WT 35 t35:=λ_=>J
abbrev XU(aj:Nat->Fn):FS:=ah (aV (b9<|bX (aN .Gt) zC<|cI 24)
  c6
  aG)
<|ja 1<|aB (aj 23) []<|k2 zD zC
def t36:TF:=λaj=>aU<|aI 1 4<|ah (jQ 1<|kg aY)
<|ah (gU (jn 1 zA) (eS [2,3])
 <|XU aj)
<|aD zB
def w36:WT 36 t36:=λ_=>J
abbrev Ĺ:FS:=aV (tB<|dX (jb M.P.sub [10])<|aE M.P.tab 2 zD)
  (ah (aV (b9<|GG Zc 1<|aE M.P.tab 9<|aE M.P.tab 2 zD)
  c6
  aG)
<|Oi 1 (aE M.P.tab 9<|aE M.P.tab 2 zD)<|cF<|.bl O)
  aG
def t37:TF:=λaj=>aU<|aI 1 4<|ah (wc 1)
<|ah (gU (jn 1 zA) (eS [2,3])
  Ĺ)
<|aD zB
def w37:WT 37 t37:=λ_=>J
abbrev ĺ:FS:=aV (i_ (tB<|dX (jb M.P.sub [19])<|aE M.P.tab 2 zD)<|b9<|bX (aN .NotIn) (aE M.P.tab 9<|aE M.P.tab 2 zD) zB)
  c6
  aG
def t38:TF:=λaj=>aU<|aI 2 4<|gU (jn 1 zA) (eS [2,3])
  ĺ
def w38:WT 38 t38:=λ_=>J
def t39:TF:=λaj=>aU<|aI 2 2<|ah (aV (b9<|bX (aN .Lt) zB<|bV cX<|k1 zA)
  (aD<|oI zA zB)
  aG)
<|aD zO
def w39:WT 39 t39:=λ_=>J
def t40:TF:=λaj=>aU<|aI 1 1<|aD<|nj (dX (QG "int") zA)<|vI<|dX (QG "bool") zA
def w40:WT 40 t40:=λ_=>J
def t41:TF:=λaj=>aU<|aI 1 2<|ah (aH 1<|cS XO)
<|aD<|oI zB<|oM zA<|bV cX<|k1 zB
def w41:WT 41 t41:=λ_=>J
abbrev XW(aj:Nat->Fn):FS:=ah (aH 3<|oM (oD zA<|oA (cI 2)<|bX (eA .Mult) (cI 5) zC)<|cI 9)
<|aV (b9<|bX (aN .Lt) zD<|cI 8)
  (aH 1<|oA zB<|oI (cS [97,97,97,98,98,98,98,97]) zD)
 <|aH 1<|oA zB<|aB (aj 41) []<|k1<|oD zA<|cI 7
def t42:TF:=λaj=>aU<|aI 1 4<|ah (aH 1<|cS [])
<|ah (gU (C3 oV<|k1<|oA zI<|oM zA<|cI 2) (setG 2)
 <|XW aj)
<|aD zB
def w42:WT 42 t42:=λ_=>J
def t43:TF:=λaj=>aU<|aI 1 3<|ah (aH 1<|cS XR)
<|ah (aH 2<|oM zA<|cI 250)
<|ah (aV (b9<|bX (aN .Lt) zC<|cI 70)
  (aD<|oI (cS [97,98])<|bV Gq<|k1<|bX (aN .Lt) zC<|cI 35)
  aG)
<|ah (aV (b9<|bX (aN .Lt) zC<|oA (cI 70)<|bV cX<|k1 zB)
  (aD<|oI zB<|bX (eA .Sub) zC<|cI 70)
  aG)
<|aD<|cS [10]
def w43:WT 43 t43:=λ_=>J
abbrev XX(aj:Nat->Fn):FS:=ah (aH 6<|oA (vF 6)<|aB (aj 43) []<|k1<|oA (vF 5)<|bX (eA .Mult) (bX (eA .Mult) (vF 7)<|vF 7)<|cI 31)
<|aH 5<|oD (vF 5)<|cI 250
abbrev XY(aj:Nat->Fn):FS:=ah (aH 4<|oM zD<|cI 4)
<|ah (aV (b9<|oE (oM (oD zD<|cI 4)<|cI 9) zI)
  (aH 4<|oM (oD zD<|cI 36)<|cI 21)
  aG)
<|ah (aH 5<|oM (oD zD<|cI 36)<|bX (eA .Pow) (cI 10)<|cI 60)
<|ah (aH 6<|cS [])
<|ah (gU (C3 oV<|k1<|bV Rq<|k2 (vF 4) zB) (setG 7)
 <|XX aj)
<|ah (aH 1<|bX (eA .Sub) zB<|bV cX<|k1<|vF 6)
<|ja 2<|vF 6
def t44:TF:=λaj=>aU<|aI 1 8<|ah (aH 1<|cI 190)
<|ah (jQ 2<|kg aY)
<|ah (gU (oU zA) (setG 3)
 <|XY aj)
<|aD zC
def w44:WT 44 t44:=λ_=>J
def t45:TF:=λaj=>aU<|aI 1 2<|ah (jQ 1<|o1 (Dh [10]) zA)
<|ah (aV (b9<|oE (nk 1<|dX jP zI)<|cS [])
  (KP 1)
  aG)
<|aD zB
def w45:WT 45 t45:=λ_=>J
def t46:TF:=λaj=>aU<|aI 4 5<|ah (jQ 4<|kg aY)
<|ah (aV (i_ (b9<|oE (oI zA zO) zI)<|b9<|oE (oA zD zI)<|bV cX<|k1 zC)
  (ja 4<|oI zC zD)
  aG)
<|ah (aV (i_ (b9<|oE (oI zA zO)<|cI 2)<|tB<|bV sV<|k1<|gx<|dI (oU<|rj zC (nK<|oA zD zI)<|nK<|oA zD<|cI 3) 2 [1] (setG 1) ie<|bX (aN .In) (oI zC zO) zB)
  (ja 4<|oI zC zD)
  aG)
<|ah (aV (i_ (b9<|oE (oI zA zI) zI)<|b9<|bX (aN .In) (oI zB zI)<|oI zC zD)
  (aD<|bV fU<|k2 (vF 4)<|cF<|.bl Zc)
  aG)
<|ah (aV (b9<|oE (oI zA<|cI 2) zI)
  (ja 4<|cS [98,121,32,116,104,101,32,114,105,110,103])
  aG)
<|ah (aV (b9<|bX (aN .NotEq) (bX (aN .In) (oI zB<|cI 2)<|oI zC zD)<|oE (oI zA<|cI 3) zI)
  (aD<|bV fU<|k2 (vF 4)<|cF<|.bl O)
  aG)
<|ah (aV (b9<|oE (oI zA<|cI 4) zI)
  (ja 4<|cS [98,101,104,105,110,100,32,105,116])
  aG)
<|aD<|bV fU<|k2 (oA (vF 4)<|bV eG<|k1<|oI zC zD)<|cF<|.bl Zc
def w46:WT 46 t46:=λ_=>J
def t47:TF:=λaj=>aU<|aI 2 4<|ah (aH 2<|bX (eA .Mult) (bV eG<|k1<|cS [101,110,100,58,32,115,97,121,32,34,97,116,32,116,104,101,32,101,110,100,34])<|oI zA<|cI 5)
<|ah (aH 2<|oA zC<|oI (bV eG<|k3 (bV eG aY) (bV eG<|k1<|cS [108,97,115,116,58,32,112,114,105,110,116])<|bV eG<|k1<|oA (oA (cS [115,111,111,110,32,50,32,47])<|oI zB zO)<|cS [47,58,32,112,114,105,110,116])<|oI zA zO)
<|ah (aV (b9<|oE (oI zA zI) zI)
  (aH 2<|oA zC<|bV eG<|k1<|oA (oA (cS [47])<|oI zB zI)<|cS [47,58,32,100,114,111,112])
  aG)
<|ah (aH 2<|oA zC<|bV eG<|k1<|cS [109,97,114,107,32,114,105,110,103])
<|ah (aH 3<|bV cX<|k1 zC)
<|ah (aV (b9<|oE (oI zA<|cI 2) zI)
  (aH 2<|oA zC<|bV eG<|k1<|cS [115,97,121,32,34,98,121,32,116,104,101,32,114,105,110,103,34])
  aG)
<|ah (aH 2<|oA zC<|bV eG<|k1<|oA (oA (oA (oI (bV eG<|k2 (cS [])<|cS [110,111,116,32])<|oI zA<|cI 3)<|cS [47])<|oI zB<|cI 2)<|cS [47,58,32,103,111,32,114,105,110,103])
<|ah (aV (b9<|oE (oI zA<|cI 4) zI)
  (aH 2<|oA zC<|bV eG<|k1<|cS [115,97,121,32,34,98,101,104,105,110,100,32,105,116,34])
  aG)
<|aD<|bV fU<|k2 zC<|oA zD zI
def w47:WT 47 t47:=λ_=>J
def t49:TF:=λaj=>aI 5 8<|ah (aH 5<|bV eG aY)
<|ah (aH 6<|cF .non)
<|ah (pO (aV (gX<|tB zC)
  (jX 25 (aj 81) zA aY)
 <|jX 25 (aj 80) zA<|k1 zB)<|wx 7 5 6 [O,O,Zc,Zc,Zc,Zc,Zc,Zc,Zc])
<|ah (aV (b9<|bX (aN .NotEq) (vF 5)<|bV eG<|bw (cF<|.bl O)<|bw (cF<|.bl O)<|bw (cF<|.bl Zc)<|bw (cF<|.bl Zc)<|bw (cF<|.bl Zc)<|bw (cF<|.bl Zc)<|k3 (cF<|.bl Zc) (cF<|.bl Zc)<|cF<|.bl Zc)
  (aD<|cF<|.bl Zc)
  aG)
<|aD<|nj (aB (aj 40) []<|k1<|oI (vF 6) zO)<|nj (aB (aj 40) []<|k1<|oI (vF 6) zI)<|oE (vF 6)<|bV fU<|k2 zD<|vF 4
def w49:WT 49 t49:=λ_=>J
def t50:TF:=λaj=>aU<|aI 2 2<|aD<|nj (dX (QG "list") zA)<|nj (bV C5<|k1<|gx<|dI (oU zA) 2 [] (setG 1) ie<|dX (QG "str") zB)<|oE zA zB
def w50:WT 50 t50:=λ_=>J
abbrev Ļ(aj:Nat->Fn):FS:=ah (yo (eS [14,15])<|aB (aj 46) []<|bw zC<|k3 (vF 4) (vF 6)<|vF 9)
<|ah (aH 9<|oA (vF 9) zI)
<|ah (aV (tB<|vF 15)
  (aD<|aB (aj 49) []<|bw (vF 7)<|bw (vF 10)<|k3 (cF<|.bl Zc) (vF 9)<|vF 13)
  aG)
<|aH 11<|oA (vF 11)<|vF 14
abbrev So(aj:Nat->Fn):FS:=ah (aH 8<|oA (vF 8)<|qm Kl (vF 10)<|k1<|cS [10])
<|ah (aH 11<|bV eG aY)
<|ah (dQ many (b9<|bX (aN .Lt) (vF 9)<|bX (eA .Sub) (vF 8)<|oI zC zO)
 <|Ļ aj)
<|aV (dZ<|tB<|aB (aj 50) []<|k2 (aA (au [(25,80)] aj) (vF 7)<|k1<|vF 10)<|vF 11)
  (aD<|cF<|.bl Zc)
  aG
abbrev XZ(aj:Nat->Fn):FS:=ah (yo (eS [14,15])<|aB (aj 46) []<|bw zC<|k3 (vF 4) (vF 6)<|vF 9)
<|ah (aH 9<|oA (vF 9) zI)
<|ah (aV (tB<|vF 15)
  (aD<|aB (aj 49) []<|bw (vF 7)<|bw (cS [])<|k3 (cF<|.bl O) (vF 9)<|vF 13)
  aG)
<|aH 11<|oA (vF 11)<|vF 14
def t51:TF:=λaj=>aU<|aI 1 16<|ah (aH 1<|aB (aj 39) []<|k2 zA zO)
<|ah (aH 2<|bV eG<|bw (oM zB<|cI 3)<|bw (oM (oD zB<|cI 3)<|cI 2)<|bw (oM (oD zB<|cI 6)<|cI 2)<|k3 (oD (oM (oD zB<|cI 12)<|cI 4)<|cI 3) (oM (oD zB<|cI 48)<|cI 2)<|oM (oD zB<|cI 96)<|cI 2)
<|ah (aH 3<|aB (aj 39) []<|k2 zA zI)
<|ah (aH 4<|bV eG<|k3 (aB (aj 42) []<|k1<|oM zD<|cI 1009) (aB (aj 42) []<|k1<|oM (oD zD<|cI 1009)<|cI 1013)<|aB (aj 42) []<|k1<|oM (aB (aj 39) []<|k2 zA<|cI 2)<|cI 1019)
<|ah (aH 5<|aB (aj 44) []<|k1<|rj zA (nK<|cI 3) xN)
<|ah (aH 6<|aB (aj 45) []<|k1<|qm joinM (cS [])<|k1<|vF 5)
<|ah (yo (eS [12,13])<|aB (aj 47) []<|k2 zC<|vF 4)
<|ah (aH 7<|oS 25 (aj 79)<|k1<|aB (aj 35) []<|k1<|qm joinM (cS [])<|k1<|gx<|dI (oU<|vF 12) 2 [] (setG 1) ie<|oA zB<|cS [10])
<|ah (aH 8 zO)
<|ah (aH 9 zO)
<|ah (gU (oU<|vF 5) (setG 10)
 <|So aj)
<|ah (aH 11<|bV eG aY)
<|ah (dQ many (b9<|bX (aN .Lt) (vF 9)<|bV cX<|k1<|vF 6)
 <|XZ aj)
<|aD<|aB (aj 50) []<|k2 (aA (au [(24,72),(25,81)] aj) (vF 7) aY)<|oA (vF 11)<|bX (eA .Mult) (bV eG<|k1<|cS [97,116,32,116,104,101,32,101,110,100])<|oI zC<|cI 5
def w51:WT 51 t51:=λ_=>J
def t60:TF:=λaj=>aI 3 3<|ah (aJ M.P.tab 14 zA zB)
<|ah (aJ M.P.tab 3 zA zC)
<|aJ M.P.tab 15 zA<|nt M.bc
def w60:WT 60 t60:=λ_=>J
def t61:TF:=λaj=>aI 2 3<|ah (aH 2<|aB (aj 9) []<|k1 zB)
<|ah (aV (b9<|tL M.bc O zC<|aE M.P.tab 15 zA)
  (Dc M.bc (aE M.P.tab 15 zA) zC<|aB (aj 14) []<|k2 zB<|aE M.P.tab 14 zA)
  aG)
<|aD<|GL M.bc (aE M.P.tab 15 zA) zC
def w61:WT 61 t61:=λ_=>J
def t62:TF:=λaj=>aI 2 2<|ah (aJ M.P.tab 16 zA<|gx<|dI (oU zB) 2 [] (setG 1) ie<|aE M.P.tab 1 zB)
<|aJ M.P.tab 17 zA<|nt M.bc
def w62:WT 62 t62:=λ_=>J
def t63:TF:=λaj=>aI 3 6<|ah (jQ 3<|kg aY)
<|ah (gU (jn 0<|aE M.P.tab 16 zA) (eS [4,5])
 <|ja 3<|aA (au [(23,64)] aj) zA<|bw (vF 4)<|k3 (vF 5) zB zC)
<|aD zD
def w63:WT 63 t63:=λ_=>J
def t64:TF:=λaj=>aI 5 5<|ah (aV (tB<|dX (jb M.P.sub [8]) zC)
  (aD<|vI<|aA (au [(23,64)] aj) zA<|bw zB<|k3 (aE M.P.tab 8 zC) zD<|vF 4)
  aG)
<|ah (aV (tB<|dX (jb M.P.sub [7]) zC)
  (aD aX)
  aG)
<|ah (aV (tB<|dX (jb M.P.sub [4]) zC)
  (aD<|oE (bV cX<|k1<|vF 4) zO)
  aG)
<|ah (aV (tB<|dX (jb M.P.sub [6]) zC)
  (aD<|bV sV<|k1<|gx<|dI (oU<|rj (vF 4) xN<|nK<|aE M.P.tab 5 zC) 2 [2] (setG 1) ie<|aA (au [(22,61)] aj) zB<|k1<|aE M.P.tab 4 zC)
  aG)
<|aD<|aB (aj 18) []<|k2 zC zD
def X0:WT 64 t64:=λ_=>J
def t65:TF:=λaj=>aI 2 2<|ah (aJ M.P.tab 0 zA<|bV Gs<|k1<|aE M.P.tab 0 zB)
<|ah (aJ M.P.tab 18 zA<|aB (aj 20) []<|k1<|aE M.P.tab 0 zA)
<|ah (aJ M.P.tab 19 zA<|oS 23 (aj 62)<|k1<|aE M.P.tab 0 zA)
<|ah (aJ M.P.tab 20 zA<|bV eG aY)
<|ah (aJ M.P.tab 21 zA zO)
<|ah (aJ M.P.tab 22 zA<|nt M.bc)
<|ah (aJ M.P.tab 23 zA zO)
<|ah (aJ M.P.tab 24 zA<|cF .non)
<|ah (aJ M.P.tab 25 zA zO)
<|ah (aJ M.P.tab 26 zA<|nt M.bc)
<|ah (aJ M.P.tab 27 zA<|nt M.bc)
<|ah (aJ M.P.tab 28 zA<|kT M.bc<|kg aY)
<|ah (aJ M.P.tab 29 zA<|kT M.bc<|kg aY)
<|ah (aJ M.P.tab 30 zA<|cF<|.bl Zc)
<|aP<|aA (au [(24,66)] aj) zA aY
def w65:WT 65 t65:=λ_=>J
def t66:TF:=λaj=>aI 1 1<|ah (e_ M.bc (aE M.P.tab 29 zA)<|bV fU<|k2 (cS [119,97,110,116])<|oA (aE M.P.tab 23 zA) zI)
<|aJ M.P.tab 30 zA<|cF<|.bl O
def w66:WT 66 t66:=λ_=>J
def t67:TF:=λaj=>aI 3 3<|jX 24 (aj 68) zA<|k2 (aE M.P.tab 14 zB)<|aA (au [(23,63)] aj) (aE M.P.tab 19 zA)<|k2 zB zC
def w67:WT 67 t67:=λ_=>J
def t68:TF:=λaj=>aI 3 3<|ah (jH<|pJ M.P.tab 23 gF zA zI)
<|ah (jH<|e_ M.bc (aE M.P.tab 29 zA)<|bV fU<|k2 (cS [116,97,107,101])<|aE M.P.tab 23 zA)
<|ah (jH<|aJ M.P.tab 24 zA<|FP (b9<|bX (aN .Is) (aE M.P.tab 24 zA)<|cF .non) zB<|oA (oA (aE M.P.tab 24 zA)<|cS [32]) zB)
<|ah (jH<|pJ M.P.tab 25 gF zA zI)
<|ah (jH<|aJ M.P.tab 20 zA zC)
<|ah (jH<|aJ M.P.tab 22 zA<|nt M.bc)
<|ah (jH<|aJ M.P.tab 30 zA<|cF<|.bl Zc)
<|dQ many (gX<|dZ<|tB<|aE M.P.tab 30 zA)
 <|jX 24 (aj 69) zA aY
def w68:WT 68 t68:=λ_=>J
def t69:TF:=λaj=>aI 1 1<|aV (gX<|b9<|oE (aE M.P.tab 21 zA)<|bV cX<|k1<|aE M.P.tab 0 zA)
  (jH<|aP<|aA (au [(24,76)] aj) zA aY)
 <|ah (jH<|pJ M.P.tab 21 gF zA zI)
<|jX 24 (aj 70) zA<|k2 (bX Au (aE M.P.tab 0 zA)<|bX (eA .Sub) (aE M.P.tab 21 zA) zI)<|aE M.P.tab 21 zA
def w69:WT 69 t69:=λ_=>J
def t70:TF:=λaj=>aI 3 4<|ah (aV (gX<|tB<|dX (jb M.P.sub [9])<|aE M.P.tab 1 zB)
  (jH<|aD<|cF .non)
  aG)
<|ah (aV (gX<|b9<|tL M.bc Zc zC<|aE M.P.tab 22 zA)
  (Zq<|k2 (aE M.P.tab 23 zA) zC)
  aG)
<|ah (jH<|Dc M.bc (aE M.P.tab 22 zA) zC<|cF<|.bl O)
<|ah (jH<|aH 3<|bX Au (aE M.P.tab 20 zA)<|bX (eA .Sub) zC zI)
<|ah (jH<|e_ M.bc (aE M.P.tab 29 zA)<|bV fU<|k3 (cS [109,101,101,116]) zC zD)
<|aV (gX<|tB zD)
  (jH<|aP<|aA (au [(24,77)] aj) zA<|k2 (aE M.P.tab 2 zB) zC)
  aG
def ļ:WT 70 t70:=λ_=>J
def t71:TF:=λaj=>aI 1 2<|ah (aH 1<|aB (aj 19) []<|k1<|Dd M.bc M.P.tab 29 zA)
<|ah (aJ M.P.tab 29 zA<|kT M.bc<|kg aY)
<|aD zB
def w71:WT 71 t71:=λ_=>J
abbrev X3(aj:Nat->Fn):FS:=aV (tB<|dX (jb M.P.sub [9])<|aE M.P.tab 1 zB)
  (aP<|aA (au [(24,78)] aj) zA<|k1<|aE M.P.tab 2 zB)
  aG
def t72:TF:=λaj=>aI 1 2<|ah (aP<|aA (au [(24,73)] aj) zA aY)
<|ah (aV (b9<|bX (aN .IsNot) (aE M.P.tab 24 zA)<|cF .non)
  (ah (aP<|aA (au [(24,76)] aj) zA aY)
<|aP<|aA (au [(24,73)] aj) zA aY)
  aG)
<|ah (e_ M.bc (aE M.P.tab 29 zA)<|bV fU<|k1<|cS [101,110,100])
<|gU (oU<|aE M.P.tab 0 zA) (setG 1)
 <|X3 aj
def w72:WT 72 t72:=λ_=>J
def t73:TF:=λaj=>aI 1 1<|e_ M.bc (aE M.P.tab 29 zA)<|bV fU<|k2 (cS [110,111,110,101])<|oA (aE M.P.tab 23 zA) zI
def w73:WT 73 t73:=λ_=>J
def t74:TF:=λaj=>aI 2 2<|e_ M.bc (aE M.P.tab 29 zA)<|bV fU<|k2 (cS zg) zB
def w74:WT 74 t74:=λ_=>J
def t75:TF:=λaj=>aI 1 1<|ah (e_ M.bc (aE M.P.tab 29 zA)<|bV fU<|k1<|cS [111,118,101,114])
<|ah (aJ M.P.tab 24 zA<|cF .non)
<|ah (aJ M.P.tab 25 zA zO)
<|ah (aJ M.P.tab 21 zA zO)
<|aP<|aA (au [(24,66)] aj) zA aY
def w75:WT 75 t75:=λ_=>J
def t76:TF:=λaj=>aI 1 1<|ah (aP<|aA (au [(24,74)] aj) zA<|k1<|aE M.P.tab 24 zA)
<|aP<|aA (au [(24,75)] aj) zA aY
def w76:WT 76 t76:=λ_=>J
def t77:TF:=λaj=>aI 3 3<|aV (tB<|dX (jb M.P.sub [11]) zB)
  (aP<|aA (au [(24,75)] aj) zA aY)
 <|aV (tB<|dX (jb M.P.sub [12]) zB)
  (aP<|aA (au [(24,74)] aj) zA<|k1<|aE M.P.tab 24 zA)
 <|aV (tB<|dX (jb M.P.sub [13]) zB)
  (aP<|aA (au [(24,76)] aj) zA aY)
 <|aV (tB<|dX (jb M.P.sub [15]) zB)
  (aP aX)
 <|aV (tB<|dX (jb M.P.sub [16]) zB)
  (aP aX)
 <|aV (tB<|dX (jb M.P.sub [17]) zB)
  (aP aX)
 <|aV (tB<|dX (jb M.P.sub [19]) zB)
  (aJ M.P.tab 21 zA<|bX Au (aE M.P.tab 18 zA)<|aE M.P.tab 9 zB)
 <|aV (tB<|dX (jb M.P.sub [20]) zB)
  (aP aX)
 <|aV (dZ<|tB<|dX (jb M.P.sub [10]) zB)
  (aP<|aA (au [(24,78)] aj) zA<|k1 zB)
  aG
def w77:WT 77 t77:=λ_=>J
def t78:TF:=λaj=>aI 2 2<|aV (tB<|dX (jb M.P.sub [14]) zB)
  (aP<|aA (au [(24,74)] aj) zA<|k1<|aE M.P.tab 10 zB)
 <|aV (tB<|dX (jb M.P.sub [18]) zB)
  (aP aX)
 <|aV (tB<|dX (jb M.P.sub [21]) zB)
  (aP aX)
  aG
def w78:WT 78 t78:=λ_=>J
def t79:TF:=λaj=>aI 2 2<|ah (aJ M.P.tab 31 zA<|oS 24 (aj 65)<|k1 zB)
<|ah (aJ M.P.tab 32 zA<|aB (aj 21) []<|k1 zB)
<|ah (aJ M.P.tab 33 zA zO)
<|ah (aJ M.P.tab 34 zA<|kT M.bc<|kg aY)
<|ah (aJ M.P.tab 35 zA<|cS [])
<|aJ M.P.tab 36 zA<|cF<|.bl Zc
def w79:WT 79 t79:=λ_=>J
def t80:TF:=λaj=>aI 2 4<|ah (jH<|aP<|aA (au [(25,82)] aj) zA aY)
<|ah (jH<|aH 2<|qm splitM (oA (aE M.P.tab 35 zA) zB)<|k1<|cS [10])
<|ah (jH<|aJ M.P.tab 35 zA<|oI zC<|dX jP zI)
<|ah (jH<|gU (oU<|rj zC xN<|nK<|dX jP zI) (setG 3)
 <|aP<|aA (au [(25,83)] aj) zA<|k1 zD)
<|ah (jX 25 (aj 84) zA<|k1<|aE M.P.tab 32 zA)
<|jH<|aD<|aA (au [(24,71)] aj) (aE M.P.tab 31 zA) aY
def w80:WT 80 t80:=λ_=>J
def t81:TF:=λaj=>aI 1 1<|ah (jH<|aP<|aA (au [(25,82)] aj) zA aY)
<|ah (jH<|aJ M.P.tab 36 zA<|cF<|.bl O)
<|ah (aV (gX<|b9<|bX (aN .NotEq) (aE M.P.tab 35 zA)<|cS [])
  (jH<|aP<|aA (au [(25,83)] aj) zA<|k1<|aE M.P.tab 35 zA)
  aG)
<|ah (jX 25 (aj 84) zA<|k1 zO)
<|ah (jH<|aP<|aA (au [(24,72),(25,81)] aj) (aE M.P.tab 31 zA) aY)
<|jH<|aD<|aA (au [(24,71)] aj) (aE M.P.tab 31 zA) aY
def w81:WT 81 t81:=λ_=>J
def t82:TF:=λaj=>aI 1 1<|aV (tB<|aE M.P.tab 36 zA)
  c6
  aG
def w82:WT 82 t82:=λ_=>J
def t83:TF:=λaj=>aI 2 2<|ah (pJ M.P.tab 33 gF zA zI)
<|e_ M.bc (aE M.P.tab 34 zA)<|oS 22 (aj 60)<|k2 zB<|aE M.P.tab 33 zA
def w83:WT 83 t83:=λ_=>J
abbrev X4(aj:Nat->Fn):FS:=ah (jH<|aH 2<|pL M.bc<|aE M.P.tab 34 zA)
<|jX 24 (aj 67) (aE M.P.tab 31 zA)<|k2 zC<|GR M.bc (aE M.P.tab 34 zA) xN<|nK<|aE M.P.tab 32 zA
def t84:TF:=λaj=>aI 2 3<|dQ many (gX<|b9<|bX (aN .Gt) (pK M.bc<|aE M.P.tab 34 zA) zB)
 <|X4 aj
def w84:WT 84 t84:=λ_=>J
def t85:TF:=λaj=>aI 3 3<|ah (aJ M.P.tab 35 zA zB)
<|aJ M.P.tab 3 zA zC
def w85:WT 85 t85:=λ_=>J
def t86:TF:=λaj=>aI 2 2<|ah (aV (dZ<|tB<|qm Gn (aE M.P.tab 35 zA)<|k1 zB)
  (aD<|cF<|.bl Zc)
  aG)
<|ah (aJ M.P.tab 35 zA<|rj (aE M.P.tab 35 zA) (nK<|bV cX<|k1 zB) xN)
<|aD<|cF<|.bl O
def w86:WT 86 t86:=λ_=>J
def t87:TF:=λaj=>aI 2 2<|aV (dZ<|tB<|aA (au [(26,86)] aj) zA<|k1 zB)
  (aP aX)
  aG
def w87:WT 87 t87:=λ_=>J
def t88:TF:=λaj=>aI 2 3<|ah (aH 2<|aB (aj 1) []<|k2 (aE M.P.tab 35 zA) zB)
<|ah (aJ M.P.tab 35 zA<|rj (aE M.P.tab 35 zA) (nK<|bV cX<|k1 zC) xN)
<|aD zC
def w88:WT 88 t88:=λ_=>J
def t89:TF:=λaj=>aI 2 4<|ah (aP<|aA (au [(26,87)] aj) zA<|k1 zB)
<|ah (aH 2<|qm vV (aE M.P.tab 35 zA)<|k1 zB)
<|ah (aV (b9<|oE zC<|dX jP zI)
  (aP aX)
  aG)
<|ah (aH 3<|rj (aE M.P.tab 35 zA) xN<|nK zC)
<|ah (aJ M.P.tab 35 zA<|rj (aE M.P.tab 35 zA) (nK<|oA zC zI) xN)
<|aD zD
def w89:WT 89 t89:=λ_=>J
end K45
namespace K45
open D
variable(n:Nat){m:List _root_.D.Ob}
section
variable{s s' s1 s2:S}
def jx{l:List α}(h:j<Mo l):atT l (j:Int)=l[j]?:=by
 unfold atT;rw[bU<|by lia,bU<|by lia];rfl
def uc{c m:Nat}(h:fl s=.ok (ts,s'))(hl:Mo ts=m):gq c m fl s=.ok (.obj c ts,s'):=by
 unfold gq;rw[h];exact bU hl
def aw(h:a s=.ok (t,s1))(b:fl s1=.ok (ts,s2)):bw a fl s=.ok (t::ts,s2):=by
 unfold bw;rw[h];show Res.bind (fl s1) _=_;rw[b];rfl
def dU(h:a s=.ok (t,s')):aH i a s=.ok (.nx,jF s' i<|.val t):=by unfold aH;rw[h];rfl
end
def LB(a b:B1):aN .Eq (.str a) (.str b)=U (.bl<|decide<|a=b):=J
def wQ(a b:Int):aN .Gt (.int a) (.int b)=U (.bl<|decide<|b<a):=J
def jS(a b:Int):aN .Lt (.int a) (.int b)=U (.bl<|decide<|a<b):=J
theorem dW:∀{ts:FR},(∀t∈ts,∃b1 b2,g t b=U b1/\e ⟨b1,m⟩=.ok (f t,⟨b2,m⟩))->c_ g ie e b ts m=.ok (ts.map f,m)
 |[],_=>J
 |t::ts,h=>by
  obtain⟨b1,b2,d,c⟩:=h t<|eO ..;unfold c_;rw[d];show Res.bind (e ⟨b1,m⟩) _=_;rw[c];show Res.bind (c_ g ie e b ts m) _=_;rw[dW λt a=>h t<|ee _ a];rfl
def Br{n:Nat}(h:src s=.ok (ts,s1))(z:Mo ts<=1000000)(q:c_ g c e (jq n js<|j9 js s1.r) ts s1.m=.ok (us,m')):dI src n js g c e s=.ok (us,⟨j9 js s1.r,m'⟩):=by
 unfold dI;rw[h];show(if Mo ts<=1000000 then _ else _)=_
 rw[bU z,q];rfl
def wR(h:fl s=.ok (ts,s')):gx fl s=.ok (.lst ts,s'):=by unfold gx;rw[h];rfl
def dJ(h:fl s=.ok (ts,s'))(q:g ts=U t):bV g fl s=.ok (t,s'):=by unfold bV;rw[h];show Res.bind (aZ<|g ts) _=_;rw[q];rfl
def aF{s s1 s2:S}(h:a s=.ok (t,s1))(c:b s1=.ok (u,s2))(k:g t u=U v):bX g a b s=.ok (v,s2):=by
 unfold bX;rw[h];apply dF;dsimp only;rw[c];apply dF;dsimp only;rw[k];rfl
def Bs(h:g t s.r=U r)(a:b ⟨r,s.m⟩=.ok (.nx,s1))(k:bH g b ts s1=q):bH g b (t::ts) s=q:=by
 unfold bH;rw[h];apply dF;rw[a];exact k
def Ľ(h:src s=.ok (ts,s1))(k:bH g b ts s1=q):gU src g b s=q:=by unfold gU;rw[h];exact k
def wU(c:s.r[i]?=U (U<|.ol Jd))(h:a s=.ok (t,s1))(b:s1.r[i]?=U (U<|.ol ts))(z:Mo ts<1000000):ja i a s=.ok (.nx,jF s1 i<|.ol<|ts++[t]):=by
 unfold ja;rw[c];refine Eq.trans (mQ Jd _) ?_;rw[h];apply dF;dsimp only;rw[b];refine Eq.trans (mQ ts _) ?_;rw[jI z];rfl
def W.eq{v:α}(h:W x λa=>a=v):x=.ok v:=by
 obtain⟨a,e,rfl⟩:=h;exact e
def iD{src:FL}(h:W (src s) λp=>W (bH g b p.1 p.2) a):W (gU src g b s) a:=W.bind h
def gI{a n:Nat}{B:FS}{G:T×FX->Prop}(h:Mo ts=a)(k:W (B ⟨ts.map (λt=>sv t)++bL (n-Mo ts) Y,m⟩) λp=>p.1=.nx/\G (.non,p.2.m)):W (aI a n B ts m) G:=by
 unfold aI;rw[bU h];exact W.bind<|k.mono λp ⟨e,k⟩=>⟨_,by rw[e],k⟩
def mi(h:a s=.ok (t,s))(k:g t=U (.bl b)):D.tB (dX g a) s=.ok (b,s):=by
 unfold D.tB dX;rw[h];refine Eq.trans (ej (λz=>Res.bind z _)<|mQ _ _) ?_;dsimp only;rw[k];rfl
def ľ(h:c s=.ok (Zc,s')):dZ c s=.ok (O,s'):=by unfold dZ;rw[h];rfl
def LC(h:c s=.ok (O,s')):dZ c s=.ok (Zc,s'):=by unfold dZ;rw[h];rfl
def orN(h:c s=.ok (Zc,s1))(a:d s1=q):yn c d s=q:=by unfold yn;rw[h];exact a
def LD(h:fl s=.ok (ts,s'))(k:g (.own s'.m.length::ts) (s'.m++[⟨c,[]⟩])=.ok (.non,m')):oS c g fl s=.ok (.own s'.m.length,⟨s'.r,m'⟩):=by
 unfold oS;rw[h];apply dF;dsimp only;rw[k]
section
variable{A B E:FS}{G:T×FX->Prop}
def bS(e:a s=.ok (t,s))(h:WB B (jF s i<|.val t) G):WB (ah (aH i a) B) s G:=Ĳ e h
def bN(e:c s=.ok (Zc,s))(h:WB B s G):WB (ah (aV c A aG) B) s G:=bSk e h
def bY(e:c s=.ok (O,s))(h:WB A s G):WB (ah (aV c A B) E) s G:=bHt e h
def bI(e:c s=.ok (O,s))(b:a s=.ok (t,s))(h:WB B (jF s i<|.val t) G):WB (ah (aV c (aH i a) aG) B) s G:=eE<|mh e<|W.of (dU b) ⟨J,h⟩
def bR(e:a s=.ok (t,s))(h:G (t,s.m)):WB (aD a) s G:=Bq e h
def sEq{a n:Nat}(h:aQ ts=O)(hl:Mo ts=a)(d:noOwn t=O)(k:WB b ⟨ts.map (λt=>sv t)++bL (n-Mo ts) Y,[]⟩ λp=>p.1=t):aU (aI a n b) ts m=.ok (t,m):=W.eq<|OE h<|(qI hl k).mono λp c=>⟨by rw[c];exact d,by rw[c]⟩
def cE(h:fl s=.ok (ts,s))(k:g ts s.m=.ok (t,s.m)):aB g [] fl s=.ok (t,s):=iB h (by rw[bF];exact k)
def mE(h:o s=.ok (.own k,s))(a:s.m[k]?=U ob)(b:g ob.c=U f)(e:fl s=.ok (ts,s))(d:f (.own k::ts) s.m=.ok (t,m')):aA g o fl s=.ok (t,⟨s.r,m'⟩):=Bp h a b e d
def dE(h:a s=.ok (t,⟨s.r,m'⟩))(k:j (.nx,⟨s.r,m'⟩)):W (aP a s) j:=⟨_,by unfold aP;rw[h];rfl,k⟩
def wS(e:a s=.ok (t,s))(h:W (B<|jF s i<|.val t) j):W (ah (aH i a) B s) j:=iC<|W.of (dU e) ⟨J,h⟩
def wA(b:s.r[i]?=U (U<|.ol ts))(h:a s=.ok (t,s))(z:Mo ts<1000000)(k:W (B<|jF s i<|.ol<|ts++[t]) j):W (ah (ja i a) B s) j:=iC<|W.of (wU b h b z) ⟨J,k⟩
def iX{a:FG}(h:a t s.r=U r)(k:W (B ⟨r,s.m⟩) λp=>p.1=.nx/\W (bH a B ts p.2) j):W (bH a B (t::ts) s) j:=by
 obtain⟨⟨o,c⟩,e,rfl,p,b,q⟩:=k;exact⟨p,Bs h e b,q⟩
def Jh(h:a s=.ok (.bl b,s)):D.tB a s=.ok (b,s):=by unfold D.tB;rw[h];rfl
def gJ(h:a s=.ok (.bl b,s)):D.b9 a s=.ok (b,s):=by unfold D.b9;rw[h];rfl
def rG(h:c s=.ok (x,s))(a:d s=.ok (y,s)):i_ c d s=.ok (x&&y,s):=by
 unfold i_;rw[h];cases x with
 |true=>exact a
 |false=>rfl
def Sq(h:fl s=.ok (ts,s1))(k:g ts=U us):C3 g fl s=.ok (us,s1):=by
 unfold C3;rw[h];apply dF;dsimp only;rw[k];rfl
def Ŀ(h:a s=.ok (.bl b,s1)):vI a s=.ok (.bl<|!b,s1):=by unfold vI;rw[h];rfl
def ZD(d:a s=.ok (t,s))(hl:lo s=.ok (x,s))(c:b s=.ok (y,s))(h:Ja x y t=U u):rj a lo b s=.ok (u,s):=by
 unfold rj;rw[d];apply dF;dsimp only;rw[hl];apply dF;dsimp only;rw[c];apply dF;dsimp only;rw[h];rfl
def Ss(h:a s=.ok (t,s))(k:Zh t=U ts):oU a s=.ok (ts,s):=by
 unfold oU;rw[h];apply dF;dsimp only;rw[k];rfl
def X5{n:Nat}(h:src s=.ok (ts,s))(z:Mo ts<=1000000)(a:j9 js s.r=s.r)(q:c_ g c e (jq n js s.r) ts s.m=.ok (us,s.m)):gx (dI src n js g c e) s=.ok (.lst us,s):=by
 have:=wR<|Br (n:=n) (js:=js) (g:=g) (c:=c) (e:=e) (us:=us) (m':=s.m) h z<|by rw[a];exact q
 rw[a]at this;exact this
def pE(h:a s=.ok (t,s))(c:b s=.ok (u,s))(k:g t u=U v):bX g a b s=.ok (v,s):=aF h c k
def OF{s s1 s2:S}(h:o s=.ok (.str l,s1))(b:fl s1=.ok (ts,s2))(a:f l ts=U t):qm f o fl s=.ok (t,s2):=by
 unfold qm;rw[h];apply dF;apply dF;dsimp only;rw[b];apply dF;dsimp only;rw[a];rfl
end
section
variable{m:FX}
def nA(h:a s=.ok (.own k,s1))(b:s1.m[k]?=U ob)(d:jm M.P.tab ob.c f=U j)(e:ob.fs[j]?=sv t):aE M.P.tab f a s=.ok (t,s1):=by
 unfold aE;rw[h];apply dF;show Res.bind (aZ<|(s1.m[k]?).bind _) _=_;rw[b];show Res.bind (aZ<|(jm M.P.tab ob.c f).bind _) _=_;rw[d];show Res.bind (aZ<|ob.fs[j]?) _=_;rw[e];rfl
def HR(h:m[kb]?=U ⟨p,[.od ks ts]⟩):tK p m (.own kb)=U (kb,ks,ts):=by
 have e:we p m (.own kb)=U (kb,.od ks ts):=by
  show(m[kb]?).bind _=_;rw[h];exact bU J
 unfold tK;rw[e];rfl
def pV(h:m[kb]?=U ⟨p,[.ol ts]⟩):qH p m (.own kb)=U (kb,ts):=by
 have e:we p m (.own kb)=U (kb,.ol ts):=by
  show(m[kb]?).bind _=_;rw[h];exact bU J
 unfold qH;rw[e];rfl
end
def ŀ(h:c s=.ok (Zc,s1)):i_ c d s=.ok (Zc,s1):=by
 unfold i_;rw[h];rfl
def Su{B:FS}(d:c s=.ok (O,s1))(h:W (B s1) λq=>q.1=.nx/\W (aO c B k q.2) b):W (aO c B (k+1) s) b:=by
 obtain⟨⟨o,s2⟩,e,rfl,h⟩:=h;obtain⟨a,f,h⟩:=h;refine⟨a,?_,h⟩;show Res.bind (c s) _=_;rw[d];show Res.bind (B s1) _=_;rw[e];exact f
def Sv(b:c s=.ok (Zc,s1))(h:a (.nx,s1)):W (aO c B (k+1) s) a:=by
 refine⟨_,?_,h⟩;show Res.bind (c s) _=_;rw[b];rfl
def SC(rest:B1)(k:Int):FX:=[⟨26,[.val<|.str rest,.val<|.int k]⟩]
abbrev St(r:Fs)(rest:B1)(k:Int):S:=⟨Kj 0::r,SC rest k⟩
def Sw:aE M.P.tab 35 zA (St r rest k)=.ok (.str rest,St r rest k):=J
def Sx(h:a (St r rest k)=.ok (.str l,St r rest k)):aJ M.P.tab 35 zA a (St r rest k)=.ok (.nx,St r l k):=by
 unfold aJ;rw[h];rfl
def sm(b:fl (St r rest k)=.ok (ts,St r rest k))(a:aj i (.own 0::ts) (SC rest k)=.ok (t,SC j k)):aA (au [(26,i)] aj) zA fl (St r rest k)=.ok (t,St r j k):=by
 exact Bp (ob:=⟨26,[.val<|.str rest,.val<|.int k]⟩) (s1:=St r rest k) J J J b a
def Dr(h:pre w rest=Zc):cN (n+1) 86 [.own 0,.str w] (SC rest k)=.ok (.bl Zc,SC rest k):=by
 rw[w86];refine eK J (Sl<|Ui (s':=St [Kb w] rest k) ?_ J) J;show dZ _ (St [Kb w] rest k)=_;simp only[ev,xO,Sw,mQ,uH,Gn,h,Nk]
def pW:cN (n+1) 86 [.own 0,.str w] (SC (w++rest) k)=.ok (.bl O,SC rest k):=by
 rw[w86];refine eK J (seq1 (s':=St [Kb w] (w++rest) k) (yY (s':=St [Kb w] (w++rest) k) ?_ J)<|seq1 (Sx (l:=rest) ?_) J) J
 .show dZ _ (St [Kb w] (w++rest) k)=_
  simp only[ev,xO,Sw,mQ,uH,Gn,pre_app,Ez]
 .simp only[ev,xO,Sw,mQ,uH,cX,FJ,Ja,lu]
def Bt:cN (n+2) 87 [.own 0,.str w] (SC (w++rest) k)=.ok (.non,SC rest k):=by
 rw[w87];refine yZ J (yY (s':=St [Kb w] rest k) ?_ J) J;show dZ (D.tB<|aA _ _ _) (St [Kb w] (w++rest) k)=_;have e:aA (au [(26,86)]<|cN<|n+1) zA (k1 zB) (St [Kb w] (w++rest) k)=.ok (.bl O,St [Kb w] rest k):=sm J<|pW n;simp only[ev,e,mQ,uH,Ez]
section
variable{a b signs:B1}{m:FX}
def HS(c:Nat)(l:B1):aN .In (.str [c]) (.str l)=U (.bl<|decide<|c∈l):=J
def Bu:il (.str<|P++c::R) (.int P.length)=U (.str [c]):=by
 show(atT (P++c::R) (Mo P:Int)).map _=_;rw[jx<|by simp]
 simp
theorem HU(g:∀c,b.head?=U c->c∉signs):∀(a P:B1)(f:Nat),(∀c∈a,c∈signs)->Mo a<f->W (aO (i_ (D.b9<|bX (aN .Lt) zC<|bV cX<|k1 zA)<|D.b9<|bX (aN .In) (oI zA zC) zB) (FQ gF 2 zI) f ⟨[Kb<|P++(a++b),Kb signs,J4 P.length],m⟩) λq=>q=(.nx,⟨[Kb<|P++(a++b),Kb signs,J4 (P++a).length],m⟩)
 |_,_,0,_,h=>ef h<|MI _
 |[],P,f+1,_,_=>by
  rw[lK,bF];cases b with
  |nil=>exact Sv (ŀ<|gJ<|aF J J<|by rw[jS,b0<|by simp]) J
  |cons d r=>exact Sv ((rG (x:=O) (y:=Zc) (gJ<|aF J J<|by rw[jS,c4<|by simp;lia])<|gJ<|aF (aF J J Bu) J<|by rw[HS,b0<|g d J])) J
 |c::a,P,f+1,i,h=>by
  have e:=HU g a (P++[c]) f (λd hd=>i d<|ee _ hd)<|MJ h;rw[fB,fB,cQ (bs:=[c])]at e;exact Su (rG (x:=O) (y:=O) (gJ<|aF J J<|by rw[jS,c4<|by simp;lia])<|gJ<|aF (aF J J Bu) J<|by rw[HS,c4<|i c<|eO ..])<|W.of J ⟨J,e⟩
def Sy(f:∀c∈a,c∈signs)(e:∀c,b.head?=U c->c∉signs)(hl:Mo a<1000):cN (n+1) 1 [.str<|a++b,.str signs] m=.ok (.str a,m):=by
 rw[w1];refine sEq J J J<|bS (t:=.int 0) J<|eE<|(HU e a [] many f<|by show Mo a<1000000;exact dN hl<|by decide).mono λq d=>⟨by rw[d],?_⟩
 rw[d];refine bR (t:=.str a) ?_ J;simp only[ev,xO,mQ,uH,Ja,lK,HN]
def Bv(f:∀c∈a,c∈signs)(d:∀c,b.head?=U c->c∉signs)(hl:Mo a<1000):cN (n+2) 88 [.own 0,.str signs] (SC (a++b) k)=.ok (.str a,SC b k):=by
 rw[w88];refine eK (s':=St [Kb signs,Kb a] b k) J (seq1 (s':=St [Kb signs,Kb a] (a++b) k) ?_<|seq1 (Sx (l:=b) ?_) J) J
 .show aH 2 (aB _ _ _) (St [Kb signs,Y] (a++b) k)=_
  have e:aB (cN (n+1) 1) [] (k2 (aE M.P.tab 35 zA) zB) (St [Kb signs,Y] (a++b) k)=.ok (.str a,St [Kb signs,Y] (a++b) k):=iB (ts:=[.str<|a++b,.str signs]) (s':=St [Kb signs,Y] (a++b) k) J<|Sy n f d hl;simp only[ev,xO,e,mQ]
 .simp only[ev,xO,Sw,mQ,uH,cX,FJ,Ja,lu]
end
def pX(h:c∉l):cN (n+3) 89 [.own 0,.str [c]] (SC (c::(l++c::b)) k)=.ok (.str l,SC b k):=by
 rw[w89];refine eK (s':=St [Kb [c],J4 l.length,Kb l] b k) J ?_ J;refine seq1 (s':=St [Kb [c],Y,Y] (l++c::b) k) ?_<|seq1 (s':=St [Kb [c],J4 l.length,Y] (l++c::b) k) ?_<|seq1 (s':=St [Kb [c],J4 l.length,Y] (l++c::b) k) (yY (s':=St [Kb [c],J4 l.length,Y] (l++c::b) k) ?_ J)<|seq1 (s':=St [Kb [c],J4 l.length,Kb l] (l++c::b) k) ?_<|seq1 (Sx (l:=b) ?_) J
 .have e:aA (au [(26,87)]<|cN<|n+2) zA (k1 zB) (St [Kb [c],Y,Y] ([c]++(l++c::b)) k)=.ok (.non,St [Kb [c],Y,Y] (l++c::b) k):=sm J<|Bt n
  show aP _ (St [Kb [c],Y,Y] ([c]++(l++c::b)) k)=_;simp only[ev,e,mQ]
 .simp only[ev,xO,Sw,mQ,uH,Dq c l b h]
 .have e:aN .Eq (.int l.length) (.int<|-1)=U (.bl<|decide<|(Mo l:Int)=-1):=J
  simp only[ev,xO,mQ,uH,jP,e];rw[b0<|by lia]
 .simp only[ev,xO,Sw,mQ,uH,Ja,HN]
 .have e:eA .Add (.int l.length) (.int 1)=U (.int ((l++[c]).length:Nat)):=by
   rw[cQ];rfl
  have a:bW (l++c::b) (U ((l++[c]).length:Int)) Y=b:=by
   have:=lu (l++[c]) b
   rw[fB]at this;exact this
  simp only[ev,xO,Sw,mQ,uH,e,Ja,a]
section
variable{aj:Nat->Fn}{A B:FS}
def pT:D.tB (aA (au [(26,86)]<|cN<|n+1) zA<|k1<|cS w) (St r (w++rest) k)=.ok (O,St r rest k):=by
 have e:aA (au [(26,86)]<|cN<|n+1) zA (k1<|cS w) (St r (w++rest) k)=.ok (.bl O,St r rest k):=sm J<|pW n;simp only[ev,e,mQ,uH]
def pN(h:pre w rest=Zc):D.tB (aA (au [(26,86)]<|cN<|n+1) zA<|k1<|cS w) (St r rest k)=.ok (Zc,St r rest k):=by
 have e:aA (au [(26,86)]<|cN<|n+1) zA (k1<|cS w) (St r rest k)=.ok (.bl Zc,St r rest k):=sm J<|Dr n h;simp only[ev,e,mQ,uH]
def mP:aP (aA (au [(26,87)]<|cN<|n+2) zA<|k1<|cS w) (St r (w++rest) k)=.ok (.nx,St r rest k):=by
 have e:aA (au [(26,87)]<|cN<|n+2) zA (k1<|cS w) (St r (w++rest) k)=.ok (.non,St r rest k):=sm J<|Bt n;simp only[ev,e,mQ]
def skip(h:pre w rest=Zc)(q:B (St r rest k)=R):ah (aV (D.tB<|aA (au [(26,86)]<|cN<|n+1) zA<|k1<|cS w) A aG) B (St r rest k)=R:=seq1 (yY (pN n h) J) q
def hit(q:A (St r rest k)=.ok (.rt t,s')):ah (aV (D.tB<|aA (au [(26,86)]<|cN<|n+1) zA<|k1<|cS w) A aG) B (St r (w++rest) k)=.ok (.rt t,s'):=Sl<|Ui (pT n) q
def cR(b:fl (St r rest k)=.ok (ts,St r rest k))(a:aj i (.own 0::ts) (SC rest k)=.ok (t,SC j k)):aB (aj i) [] (bw zA fl) (St r rest k)=.ok (t,St r j k):=by
 refine iB (ts:=.own 0::ts) (s':=St r rest k) ?_ (by rw[bF];exact a)
 show Res.bind (fl<|St r rest k) _=_;rw[b];rfl
end
def Sz:B1:=[48,49,50,51,52,53,54,55,56,57]
def Dt{d b:B1}(hd:∀c∈d,c∈Sz)(h:d≠[])(f:pre [48] d=Zc)(hl:Mo d<=3)(Ö:Gq [.str d]=U (.int v))(j:lo<=v)(i:v<=a)(g:∀c,b.head?=U c->c∉Sz) :
  cN (n+3) 29 [.own 0,.int lo,.int a] (SC (d++b) k)=.ok (.int v,SC b k):=by
 rw[w29];refine eK (s':=St [J4 lo,J4 a,Kb d,J4 v] b k) J ?_ J;have e:aA (au [(26,88)]<|cN<|n+2) zA (k1<|cS Sz) (St [J4 lo,J4 a,Y,Y] (d++b) k)=.ok (.str d,St [J4 lo,J4 a,Y,Y] b k):=sm J<|Bv n hd g<|jd hl<|by decide
 refine seq1 (dU e)<|seq1 (yY (s':=St [J4 lo,J4 a,Kb d,Y] b k) ?_ J)<|seq1 (s':=St [J4 lo,J4 a,Kb d,J4 v] b k) ?_<|seq1 (yY (s':=St [J4 lo,J4 a,Kb d,J4 v] b k) ?_ J) J
 .show yn _ _ (St [J4 lo,J4 a,Kb d,Y] b k)=_
  have g1:decide (d=[])=Zc:=b0 h;have g2:decide ((3:Int)<(Mo d:Nat))=Zc:=b0 (by lia)
  simp only[yn,ev,xO,mQ,uH,LB,g1,Gn,f,cX,FJ,wQ,g2,z8,xW]
 .simp only[ev,xO,mQ,uH,Ö]
 .have g1:decide (v<lo)=Zc:=b0 (by lia)
  have g2:decide (a<v)=Zc:=b0 (by lia)
  simp only[yn,ev,xO,mQ,uH,jS,wQ,g1,g2,z8,xW]
def wW:T->T:=λ_=>.bl O
theorem all_true:∀(l:FR),boolsOf (l.map wW)=U (l.map λ_=>O)
 |[]=>J
 |_::l=>by
  show(boolsOf<|l.map wW).map _=_;rw[all_true l];rfl
def pY(h:∀c∈l,c∈signs)(hl:Mo l<=1000):cN (n+1) 0 [.str l,.str signs] m=.ok (.bl O,m):=by
 rw[w0];refine Bo (m':=[]) J (eK (s':=⟨[Kb l,Kb signs],[]⟩) J (fj<|dJ (ts:=[.lst<|(l.map λc=>T.str [c]).map wW]) (aw (wR<|Br (ts:=l.map λc=>T.str [c]) (s1:=⟨[Kb l,Kb signs],[]⟩) J (by rw[cz];exact bG hl<|by decide)<|dW λt a=>?_) J) ?_) J) J
 .obtain⟨c,b,rfl⟩:=je.mp a
  refine⟨[Y,Kb [c],Kb signs],[Y,Kb [c],Kb signs],J,?_⟩;simp only[ev,xO,mQ,uH,HS,c4<|h c b,wW]
 .simp only[C5,J2,all_true]
  simp
def qJ:B1:=HQ
def HV(h:∀c∈l,c∈qJ/\c≠34)(hl:Mo l<=40):cN (n+4) 31 [.own 0] (SC (34::(l++34::b)) k)=.ok (.str l,SC b k):=by
 rw[w31];have d:34∉l:=λz=>(h 34 z).2 J;refine eK (s':=St [Kb l] b k) J ?_ J;have e:aA (au [(26,89)]<|cN<|n+3) zA (k1<|cS [34]) (St [Y] (34::(l++34::b)) k)=.ok (.str l,St [Y] b k):=sm J<|pX n d;refine seq1 (dU e)<|seq1 (yY (s':=St [Kb l] b k) ?_ J) J;show yn _ _ (St [Kb l] b k)=_;have a:aB (cN (n+3) 0) [] (k2 zB<|cS qJ) (St [Kb l] b k)=.ok (.bl O,St [Kb l] b k):=iB (ts:=[.str l,.str qJ]) (s':=St [Kb l] b k) J<|pY (n+2) (λc f=>(h c f).1)<|bG hl<|by decide
 unfold qJ at a;have g2:decide ((40:Int)<(Mo l:Nat))=Zc:=b0 (by lia)
 unfold yn dZ;rw[show D.b9 (bX (aN .Gt) (bV cX<|k1 zB)<|cI 40) (St [Kb l] b k)=.ok (Zc,St [Kb l] b k) by simp only[ev,xO,mQ,uH,cX,FJ,wQ,g2]]
 show Res.bind (D.tB (aB _ _ _)<|St [Kb l] b k) _=_;unfold D.tB;rw[a];rfl
def ud(xs:List α)(x:α):atT (xs++[x]) (-1)=U x:=by
 unfold atT;rw[bp<|by decide,bU<|by rw[cQ,Cg];lia]
 have:(-1+((xs++[x]).length:Int)).toNat=Mo xs:=by rw[cQ,Cg];lia
 rw[this];simp
def pZ(xs:List α)(x:α):bW (xs++[x]) Y (U<|-1)=xs:=by
 unfold bW ia;dsimp only;rw[bU<|by decide]
 have:(-1+((xs++[x]).length:Int)).toNat=Mo xs:=by rw[cQ,Cg];lia
 rw[this];simp
def aag:jP (.int 1)=U (.int<|-1):=J
theorem du:∀(l:Ap),aQ (l.map T.str)=O
 |[]=>J
 |x::a=>by
  show(O&&aQ (a.map T.str))=O;rw[du a];rfl
def LF(a b:T):fU [a,b]=U (.tup [a,b]):=jI (by show 2<=1000;decide)
structure Pt(w:B1)(t:T):Prop where
 no:47∉w
 eq:∀n m,cN (n+7) 3 [.str w] m=.ok (t,m)
def iY(P:Pt w t):cN (n+8) 32 [.own 0] (SC (47::(w++47::b)) k)=.ok (t,SC b k):=by
 rw[w32];have e:aA (au [(26,89)]<|cN<|n+7) zA (k1<|cS [47]) (St [Y] (47::(w++47::b)) k)=.ok (.str w,St [Y] b k):=sm J<|pX (n+4) P.no;exact eK (s':=St [Kb w] b k) J (seq1 (dU e)<|fj<|iB (ts:=[.str w]) (s':=St [Kb w] b k) J<|P.eq n _) J
abbrev dY:B1:=[114,105,110,103]
def Bw:cN (n+3) 30 [.own 0] (SC dY k)=.ok (.str dY,SC [] k):=by
 rw[w30];have e:aA (au [(26,88)]<|cN<|n+2) zA (k1<|cS Sn) (St [Y] dY k)=.ok (.str dY,St [Y] [] k):=sm J<|Bv n (a:=dY) (b:=[]) (by decide) (λc h=>by cases h)<|by decide
 exact eK (s':=St [Kb dY] [] k) J (seq1 (dU e)<|seq1 (s':=St [Kb dY] [] k) J J) J
def ZE:B1:=[94,36,46,91,93,42,43,63,47]
def nQ(c:Nat):Bool:=decide (c∈qJ)&&!decide (c∈ZE)
def X6(c:Nat)(l:B1):aN .NotIn (.str [c]) (.str l)=U (.bl<|!decide (c∈l)):=J
def p9(h:a s=.ok (.bl x,s1))(c:x=O->b s1=.ok (.bl y,s1)):nj a b s=.ok (.bl<|x&&y,s1):=by
 unfold nj;rw[h];apply dF;cases x with
 |true=>exact c J
 |false=>rfl
def HW:cN (n+1) 2 [.str [c]] m=.ok (.bl<|nQ c,m):=by
 rw[w2];exact sEq J J J<|bR (p9 (aF J J<|HS c qJ) λ_=>aF J J<|X6 c ZE) J
def HX(a b:Int):aN .Eq (.int a) (.int b)=U (.bl<|decide<|a=b):=J
def aah(a b:Int):aN .NotEq (.int a) (.int b)=U (.bl<|!decide (a=b)):=J
inductive IT where
 |pl (c:Nat)
structure Itm where
 k:IT
 mn:Nat
def IT.c:IT->Nat
 |.pl c=>c
def IT.sg(k:IT):B1:=[k.c]
def IT.ot(_:IT):Bool:=Zc
def Itm.val(i:Itm):T:=.tup [.str i.k.sg,.bl i.k.ot,.str [i.mn]]
def Itm.ok(i:Itm):Prop:=nQ i.k.c=O/\i.mn=49
abbrev jY(a:B1):List Itm:=a.map λc=>⟨.pl c,49⟩
theorem ue:∀{its:List Itm},(∀i∈its,Itm.ok i)->∃a,its=jY a/\∀c∈a,nQ c=O
 |[],_=>⟨[],J,λ_ z=>nomatch z⟩
 |⟨.pl c,mn⟩::r,h=>by
  obtain⟨a,rfl,e⟩:=ue (its:=r) λi b=>h i<|ee _ b;obtain⟨f,rfl⟩:=h _<|eO ..;exact⟨c::a,J,λd hd=>(cu.mp hd).elim (λz=>z▸f)<|e d⟩
def jy(h:nQ c=O):c∈qJ/\c∉ZE:=by
 unfold nQ at h;rw[cL]at h;refine⟨c3 h.1,λz=>?_⟩;rw[c4 z]at h;cases h.2
def y_(a:nQ c=O):cN (n+4) 7 [.str [c],.str [49]] m=.ok (Itm.val ⟨.pl c,49⟩,m):=by
 obtain⟨d,b⟩:=jy a;rw[w7];exact sEq J J J<|bN (gJ<|aF (t:=.str [c]) (u:=.str [46]) J J<|by rw[LB,b0 λz=>b<|by injection z with z _;rw[z];decide])<|bN (Jh<|by show Res.ok (T.bl<|pre [91] [c],_)=_;rw[dS λz=>b<|by rw[<- z];decide])<|bN (LC<|Jh<|by have e:=HW (n+2) (c:=c) (m:=[]);rw[a]at e;exact cE (ts:=[.str [c]]) J e)<|bR J J
def Ł(a b:B1):aN .NotEq (.str a) (.str b)=U (.bl<|!decide (a=b)):=J
def za(h:c≠91):cN (n+1) 5 [.str<|D++c::R,.int (Mo D:Nat)] m=.ok (.int ((Mo D+1:Nat):Int),m):=by
 rw[w5];exact sEq J J J<|bY (gJ<|aF (aF (t:=.str<|D++c::R) (u:=.int (Mo D:Nat)) J J Bu) J<|by rw[Ł,b0 λz=>h<|by injection z];rfl)<|bR J J
def SA{s s1 s2:S}(h:c s=.ok (O,s1))(a:b s1=.ok (.nx,s2))(k:aO c b f s2=q):aO c b (f+1) s=q:=by
 rw[aO,h];apply dF;dsimp only;rw[bU J,a];exact k
def X7(h:c s=.ok (Zc,s1)):aO c b (f+1) s=.ok (.nx,s1):=by
 rw[aO,h];rfl
def zb{P R:B1}(h:vF j s=.ok (.int (Mo P:Nat),s))(a:b s=.ok (.int ((P++R).length:Nat),s)):D.b9 (bX (aN .Lt) (vF j) b) s=.ok (decide<|R≠[],s):=gJ<|aF h a<|by rw[jS];congr 2;apply decide_eq_decide.mpr;cases R<;>simp;lia
def LG(h:∀c,R.head?=U c->c∉[42,43,63]):cN (n+1) 6 [.str<|P++R,.int (Mo P:Nat)] m=.ok (.str [49],m):=by
 rw[w6];refine sEq J J J<|bN ?_<|bR J J;unfold i_;rw[zb (R:=R) J J];apply dF;cases R with
 |nil=>rfl
 |cons c R=>exact gJ<|aF (aF (t:=.str<|P++c::R) (u:=.int (Mo P:Nat)) J J Bu) J<|by rw[HS,b0<|h c J]
theorem wX(n:Nat):∀(g P:B1)(a:FR)(f:Nat)(u v:Option C),b=P++g->(∀c∈g,nQ c=O)->Mo g<f->Mo a+Mo g<=1000 ->
  W (aO (_root_.D.b9<|bX (aN .Lt) zC<|bV cX<|k1 zA) (y4a<|cN<|n+4) f ⟨[Kb b,U<|.ol a,J4 (Mo P:Nat),u,v],[]⟩) λq=>q.1=.nx/\∃p k v',q.2=⟨[Kb b,U<|.ol<|a++(jY g).map Itm.val,p,k,v'],[]⟩
 |g,P,a,0,u,v,_,_,i,_=>ef i<|MI _
 |[],P,a,f+1,u,v,e,_,_,_=>by
  subst e;exact⟨_,X7<|zb (P:=P) (R:=[]) (s:=⟨[Kb<|P++[],U<|.ol a,J4 (Mo P:Nat),u,v],[]⟩) J J,J,_,u,v,by rw[show a++(jY []).map Itm.val=a from bF a]⟩
 |c::r,P,a,f+1,u,v,e,h,i,hl=>by
  have o:=h c<|eO ..;have hr:∀j∈r,nQ j=O:=λj A=>h j<|ee _ A;rw[dM]at i hl;have y:=(jy o).2;have t:b=(P++[c])++r:=by rw[e];simp
  have w:(P++[c]).length=Mo P+1:=by rw[cQ];rfl
  obtain⟨q,eq,E,p,k,v',B⟩:=wX n r (P++[c]) (a++[Itm.val ⟨.pl c,49⟩]) f (J4 ((Mo P+1:Nat):Int)) (Kb [49]) t hr (MJ i) (by rw[cQ,Cg];lia)
  have l:=LG (n+3) (P:=P++[c]) (R:=r) (m:=[]) λd hd z=>by
   have:=(jy<|hr d<|List.mem_of_mem_head? hd).2
   exact this<|(by decide:∀x∈([42,43,63]:B1),x∈ZE) d z
  rw[<- t,w]at l;rw[w]at eq;have F:bW b (U ((Mo P:Nat):Int)) (U ((Mo P+1:Nat):Int))=[c]:=by rw[e];exact ua P [c] r
  refine⟨q,SA (s1:=⟨[Kb b,U<|.ol a,J4 (Mo P:Nat),u,v],[]⟩) ?_ (seq1 (dU<|cE (ts:=[.str b,.int (Mo P:Nat)]) J<|by rw[e];exact za (n+3) λz=>y<|by rw[z];decide)<|seq1 (dU<|cE (ts:=[.str b,.int ((Mo P+1:Nat):Int)]) J l)<|seq1 (wU (Jd:=a) (ts:=a) J (cE (ts:=[.str [c],.str [49]]) (aw (by show Res.ok (T.str<|bW b (U ((Mo P:Nat):Int))<|U ((Mo P+1:Nat):Int),_)=_;rw[F]) J)<|y_ n o) J<|by lia) J) eq,E,p,k,v',by rw[B];simp⟩
  subst e;exact zb (P:=P) (R:=c::r) (s:=⟨[Kb<|P++c::r,U<|.ol a,J4 (Mo P:Nat),u,v],[]⟩) (j:=2) (b:=bV cX<|k1 zA) J J
theorem iS:∀l:List Itm,aQ (l.map Itm.val)=O
 |[]=>J
 |a::l=>by show((O&&(O&&(O&&O)))&&aQ (l.map Itm.val))=O;rw[iS l];rfl
def wY(h:∀c∈a,nQ c=O)(hl:Mo a<=8):cN (n+5) 4 [.str a] m=.ok (.lst<|(jY a).map Itm.val,m):=by
 rw[w4];refine sEq J J (iS _)<|eE<|W.of J ⟨J,bS J<|eE<|(wX n a [] [] many Y Y J h (by show Mo a<1000000;exact jd hl<|by decide)<|by show 0+_<=_;lia).mono λq b=>⟨b.1,?_⟩⟩
 obtain⟨_,p,u,v,e⟩:=b;rw[e];exact Bq J J
def fT(b:Bool):B1:=if b then[94]else[]
def bT(b:Bool):B1:=if b then[36]else[]
def SD(its:List Itm):B1:=its.map λi=>i.k.c
def uf(f:Bool)(its:List Itm)(b:Bool):B1:=fT f++(SD its++bT b)
def eW(f:Bool)(its:List Itm)(b:Bool):T:=.tup [.bl f,.lst<|its.map Itm.val,.bl b]
def LH(a:B1):SD (jY a)=a:=by
 unfold SD;rw[gM];exact M6 a
def nR(f b:Bool)(a:B1):uf f (jY a) b=fT f++(a++bT b):=by unfold uf;rw[LH]
def wZ(a:B1)(c:Nat):Qf [36] (a++[c])=decide (c=36):=by
 unfold Qf;have d:decide ([36].length<=(a++[c]).length)=O:=c4 (by simp)
 have b:(a++[c]).drop ((a++[c]).length - [36].length)=[c]:=by
  rw[show(a++[c]).length - [36].length=Mo a by simp,Eo]
 rw[d,b,zZ,zY];simp
def SE(h:∀c∈j,nQ c=O):Qf [36] j=Zc:=by
 rcases List.eq_nil_or_concat j with e|⟨a,c,e⟩
 .rw[e];rfl
 .rw[List.concat_eq_append]at e
  rw[e,wZ,b0 λz=>(jy<|h c<|by rw[e];simp).2<|by rw[z];decide]
def SH(h:∀c∈j,nQ c=O)(b:Bool):pre [94] (j++bT b)=Zc:=by
 cases j with
 |nil=>cases b<;>rfl
 |cons c l=>exact dS λz=>(jy<|h c<|eO ..).2 (by rw[<- z];decide)
def Bx(h:∀c∈j,nQ c=O):∀c∈fT f++(j++bT b),c∈qJ/\c≠47:=by
 intro c a;rcases i6.mp a with z|z
 .cases f with
  |true=>rw[iF.mp z];decide
  |false=>cases z
 .rcases i6.mp z with z|z
  .exact⟨(jy<|h c z).1,λq=>(jy<|h c z).2<|by rw[q];decide⟩
  .cases b with
   |true=>rw[iF.mp z];decide
   |false=>cases z
def By(hl:Mo j<=8):(fT f++(j++bT b)).length<=10:=by
 have c:(fT f).length<=1:=by cases f<;>decide
 have a:(bT b).length<=1:=by cases b<;>decide
 rw[cQ,cQ]
 lia
def kq(h:∀i∈its,i.ok)(hl:Mo its<=8):cN (n+7) 3 [.str<|uf f its b] m=.ok (eW f its b,m):=by
 obtain⟨a,rfl,q⟩:=ue h;rw[cz]at hl;rw[w3,nR];have d:=By (f:=f) (b:=b) hl;have j:pre [94] (fT f++(a++bT b))=f:=by
  cases f with
  |true=>exact pre_app [94]<|a++bT b
  |false=>exact SH q b
 have g:Qf [36] (a++bT b)=b:=by
  cases b with
  |true=>rw[show a++bT O=a++[36]from J,wZ];rfl
  |false=>rw[show a++bT Zc=a from bF _];exact SE q
 refine sEq J J (by show(O&&(aQ ((jY a).map Itm.val)&&(O&&O)))=O;rw[iS];rfl)<|bN J<|bN (LC<|Jh<|cE (ts:=[.str<|fT f++(a++bT b),.str qJ]) J<|pY (n+5) (λc e=>(Bx q c e).1)<|bG d<|by decide)<|bS (t:=.bl f) (OF (l:=fT f++(a++bT b)) J J<|ej (λz=>U<|T.bl z) j)<|bS (t:=.str<|a++bT b) ?_<|bS (t:=.bl b) (OF (l:=a++bT b) J J<|ej (λz=>U<|T.bl z) g)<|bS (cE (ts:=[.str a]) (aw ?_ J)<|wY (n+1) q hl)<|bN (gJ<|aF (t:=.int (((jY a).map Itm.val).length:Nat)) (u:=.int 8) J J<|by rw[wQ,b0<|by rw[cz,cz];lia])<|bR J J
 .cases f with
  |true=>
   show Res.ok (T.str<|bW (fT O++(a++bT b)) (U 1) Y,_)=_;rw[show bW (fT O++(a++bT b)) (U 1) Y=a++bT b from lu [94]<|a++bT b]
  |false=>rfl
 .cases b with
  |true=>
   show Res.ok (T.str<|bW (a++[36]) Y<|U<|-1,_)=_;rw[pZ]
  |false=>
   show Res.ok (T.str<|a++[],_)=_;rw[bF]
def X8{its:List Itm}(h:∀i∈its,i.ok)(hl:Mo its<=8):Pt (uf f its b)<|eW f its b:=⟨λz=>by
 obtain⟨a,rfl,q⟩:=ue h;rw[nR]at z;exact(Bx q 47 z).2 J,λn m=>kq n h hl⟩
def SI(i:Itm):Bool:=eqT (.str [42]) (.str [i.mn]) ||(eqT (.str [63]) (.str [i.mn]) ||Zc)
def LI:cN (n+1) 11 [i.val] m=.ok (.bl<|SI i,m):=by
 rw[w11];exact Bo (m':=[]) J (eK (s':=⟨[sv i.val],[]⟩) J (fj<|aF (t:=.str [i.mn]) (u:=.tup [.str [42],.str [63]]) J J J) J) J
def eX(f b:Bool)(its:List Itm):noOwn (eW f its b)=O:=by
 show(O&&(aQ (its.map Itm.val)&&(O&&O)))=O;rw[iS];rfl
inductive CV where
 |al|en|la|so (w:B1)|li (g:Bool) (w:B1)
abbrev ug(w:B1):T:=eW Zc (jY w) Zc
abbrev lB(w:B1):T:=.obj 5 [ug w]
def CV.val:CV->T
 |.al=>.obj 2 []
 |.en=>.obj 9 []
 |.la=>.obj 4 []
 |.so w=>.obj 6 [.int 2,ug w]
 |.li true w=>.obj 8 [lB w]
 |.li false w=>lB w
structure Wd(w:B1):Prop where
 pl:∀c∈w,nQ c=O
 n0:w≠[]
 l2:Mo w<=2
def CV.ok:CV->Prop
 |.so w=>Wd w
 |.li _ w=>Wd w
 |_=>True
def CV.txt:CV->B1->B1
 |.al,b=>b
 |.en,b=>101::110::100::b
 |.la,b=>108::97::115::116::b
 |.so w,b=>115::111::111::110::32::50::32::47::(w++47::b)
 |.li true w,b=>110::111::116::32::47::(w++47::b)
 |.li false w,b=>47::(w++47::b)
def ł(h:Wd w):(∀i∈jY w,i.ok)/\(jY w).length<=8/\Pt w (ug w):=by
 have a:∀i∈jY w,i.ok:=λi a=>by
  obtain⟨c,d,rfl⟩:=je.mp a;exact⟨h.pl c d,J⟩
 have hl:(jY w).length<=8:=by rw[cz];have:=h.l2;exact bG this (by decide)
 have:=X8 (f:=Zc) (b:=Zc) a hl
 rw[nR]at this;have e:fT Zc++(w++bT Zc)=w:=bF w;rw[e]at this;exact⟨a,hl,this⟩
def like_eq(h:Wd w):cN (n+10) 26 [.own 0] (SC (47::(w++47::b)) k)=.ok (lB w,SC b k):=by
 have e:cN (n+9) 27 [.own 0] (SC (47::(w++47::b)) k)=.ok (lB w,SC b k):=by
  rw[w27];exact eK (s':=St [] b k) J (skip (n+7) (dS<|by decide)<|fj<|uc (ts:=[ug w]) (aw (cR (ts:=[]) J<|iY n (ł h).2.2) J) J) J
 rw[ķ];exact eK (s':=St [Y,Y] b k) J (skip (n+8) (dS<|by decide)<|skip (n+8) (dS<|by decide)<|skip (n+8) (dS<|by decide)<|fj<|cR (ts:=[]) J e) J
def SJ:cN (n+3) 29 [.own 0,.int 1,.int 3] (SC (50::32::b) k)=.ok (.int 2,SC (32::b) k):=Dt n (d:=[50]) (b:=32::b) (by decide) (by decide) J (by decide) (by
 show(o5 ⟨#[50]⟩).bind _=_;rw[show o5 ⟨#[50]⟩=U 2 by decide +kernel]
 exact jI<|by show 1<=640;decide) (by decide) (by decide) λc h=>by cases h;decide
def LJ{x:CV}(h:x.ok)(a:x≠.al):cN (n+11) 25 [.own 0] (SC (x.txt b) k)=.ok (x.val,SC b k):=by
 rw[w25];have no:∀{c:Nat}{r:B1}{B:FS}{R:Res<|Out×S}{A j:FS},c≠101->c≠110->B (St [] (c::r) k)=R->ah (aV (D.tB<|aA (au [(26,86)]<|cN<|n+10) zA<|k1<|cS [101,110,100]) A aG) (ah (aV (D.tB<|aA (au [(26,86)]<|cN<|n+10) zA<|k1<|cS [110,111,116,32]) j aG) B) (St [] (c::r) k)=R:=λi f d=>skip (n+9) (dS<|eL i)<|skip (n+9) (dS<|eL f) d;cases x with
 |al=>exact ef J a
 |en=>exact eK (s':=St [] b k) J (hit (w:=[101,110,100]) (rest:=b) (n+9)<|fj J) J
 |la=>
  have e:cN (n+10) 26 [.own 0] (SC (CV.la.txt b) k)=.ok (CV.la.val,SC b k):=by
   rw[ķ];exact eK (s':=St [Y,Y] b k) J (hit (w:=[108,97,115,116]) (rest:=b) (n+8)<|fj J) J
  exact eK (s':=St [] b k) J (no (by decide) (by decide)<|fj<|cR (ts:=[]) J e) J
 |so w=>
  have e:cN (n+10) 26 [.own 0] (SC ((CV.so w).txt b) k)=.ok ((CV.so w).val,SC b k):=by
   rw[ķ];exact eK (s':=St [J4 2,Y] b k) J (skip (n+8) (dS<|by decide)<|hit (w:=[115,111,111,110,32]) (rest:=50::32::47::(w++47::b)) (n+8)<|seq1 (s':=St [J4 2,Y] (32::47::(w++47::b)) k) (dU<|cR (ts:=[.int 1,.int 3]) J<|SJ<|n+6)<|seq1 (mP (w:=[32]) (rest:=47::(w++47::b))<|n+7)<|fj<|uc (ts:=[.int 2,ug w]) (aw (t:=.int 2) J<|aw (cR (ts:=[]) J<|iY (n+1) (ł h).2.2) J) J) J
  exact eK (s':=St [] b k) J (no (by decide) (by decide)<|fj<|cR (ts:=[]) J e) J
 |li g w=>cases g with
  |true=>exact eK (s':=St [] b k) J (skip (n+9) (dS<|by decide)<|hit (w:=[110,111,116,32]) (rest:=47::(w++47::b)) (n+9)<|fj<|uc (ts:=[lB w]) (aw (cR (ts:=[]) J<|like_eq n h) J) J) J
  |false=>exact eK (s':=St [] b k) J (no (by decide) (by decide)<|fj<|cR (ts:=[]) J<|like_eq n h) J
structure Wds(l:B1):Prop where
 h:∀c∈l,c∈qJ/\c≠34
 hl:Mo l<=40
inductive DD where
 |drop|print|mark|go|say (l:B1)
def DD.ok:DD->Prop
 |.say l=>Wds l
 |_=>True
def DD.txt:DD->B1
 |.drop=>[100,114,111,112]
 |.print=>[112,114,105,110,116]
 |.mark=>109::97::114::107::32::dY
 |.go=>103::111::32::dY
 |.say l=>115::97::121::32::34::(l++[34])
def DD.val:DD->T
 |.drop=>.obj 11 []
 |.print=>.obj 12 []
 |.mark=>.obj 10 [.str dY]
 |.go=>.obj 19 [.str dY]
 |.say l=>.obj 14 [.str l]
def sk(n:Nat){A B:FS}(q:B (St r (d::a) k)=R)(h:c≠d:=by decide):ah (aV (D.tB<|aA (au [(26,86)]<|cN<|n+8+1) zA<|k1<|cS<|c::b) A aG) B (St r (d::a) k)=R:=skip (n+8) (dS h) q
def BA{x:DD}(h:x.ok)(a:x≠.mark):cN (n+10) 28 [.own 0] (SC x.txt k)=.ok (x.val,SC [] k):=by
 rw[w28];refine eK (s':=St [] [] k) J ?_ J;show ah _ _ (St [] x.txt k)=_;cases x with
 |drop=>exact hit (w:=[100,114,111,112]) (rest:=[]) (n+8)<|fj J
 |print=>exact sk n<|hit (w:=[112,114,105,110,116]) (rest:=[]) (n+8)<|fj J
 |mark=>exact ef J a
 |say l=>exact sk n<|sk n<|sk n<|sk n<|hit (w:=[115,97,121,32]) (rest:=34::(l++[34])) (n+8)<|fj<|uc (ts:=[.str l]) (aw (cR (ts:=[]) J<|HV (n+5) h.h h.hl) J) J
 |go=>exact sk n<|sk n<|sk n<|sk n<|sk n<|sk n<|sk n<|sk n<|sk n<|sk n<|hit (w:=[103,111,32]) (rest:=dY) (n+8)<|fj<|uc (ts:=[.str dY]) (aw (cR (ts:=[]) J<|Bw<|n+6) J) J
def zc:Ap:=[[114,111,119,32],[108,97,115,116],[47],[115,111,111,110,32],[102,114,111,109,32],[110,111,116,32],[101,110,100]]
def zd(rest:B1):Bool:=zc.any λw=>pre w rest
def lC(h:w∈zc):zd (w++r)=O:=Ej.mpr ⟨w,h,pre_app w r⟩
def HZ{x:CV}(b:B1)(h:x≠.al):zd (x.txt b)=O:=by
 cases x with
 |al=>exact ef J h
 |en=>exact lC (w:=[101,110,100]) (by decide)
 |la=>exact lC (w:=[108,97,115,116]) (by decide)
 |so w=>exact lC (w:=[115,111,111,110,32]) (by decide)
 |li g w=>cases g with
  |true=>exact lC (w:=[110,111,116,32]) (by decide)
  |false=>exact lC (w:=[47]) (by decide)
def LK(b:B1):zd (115::97::b)=Zc:=by
 have a:pre [115,111,111,110,32] (115::97::b)=Zc:=by rw[HP];exact dS (by decide)
 simp[zd,zc,a,dS]
def prT(rest:B1):T->T
 |.str w=>.bl<|pre w rest
 |_=>.non
theorem jJ{α:Type}(f:α->Bool):∀l:List α,boolsOf (l.map λw=>T.bl<|f w)=U (l.map f)
 |[]=>J
 |w::l=>by
  show(boolsOf<|l.map λw=>T.bl<|f w).map _=_;rw[jJ f l];rfl
def any_eq:D.tB (bV sV<|k1<|gx<|dI (oU<|cF<|.tup [(.str [114,111,119,32]),(.str [108,97,115,116]),(.str [47]),(.str [115,111,111,110,32]),(.str [102,114,111,109,32]),(.str [110,111,116,32]),(.str [101,110,100])]) 2 [0] (setG 1) ie<|qm Gn (aE M.P.tab 35 zC)<|k1 zB) (St [Y] rest k)=.ok (zd rest,St [Y] rest k):=by
 refine Jh<|dJ (ts:=[.lst<|(zc.map T.str).map<|prT rest]) (aw (wR<|Br (ts:=zc.map T.str) (s1:=St [Y] rest k) J (by decide)<|dW λt a=>?_) J) ?_
 .obtain⟨w,_,rfl⟩:=je.mp a
  exact⟨[Y,Kb w,sv<|.own 0],[Y,Kb w,sv<|.own 0],J,J⟩
 .have:(zc.map T.str).map (prT rest)=zc.map λw=>T.bl<|pre w rest:=by rw[gM];rfl
  rw[this];simp only[sV,FN,jJ];unfold zd;rw[MR,uS];rfl
structure LN where
 c:CV
 d:DD
def LN.kd:LN->Prop
 |⟨.al,.mark⟩=>True
 |⟨.al,.say _⟩=>True
 |⟨.al,_⟩=>False
 |⟨.en,.say _⟩=>True
 |⟨.en,_⟩=>False
 |⟨_,d⟩=>d≠.mark
structure LN.ok(x:LN):Prop where
 c:x.c.ok
 d:x.d.ok
 k:x.kd
def LN.txt:LN->B1
 |⟨.al,d⟩=>d.txt
 |⟨c,d⟩=>c.txt<|58::32::d.txt
def LN.val(x:LN):T:=.obj 1 [x.c.val,x.d.val]
def uh{x:LN}(h:x.ok):cN (n+12) 24 [.own 0] (SC x.txt k)=.ok (x.val,SC [] k):=by
 obtain⟨o,j,f⟩:=h;obtain⟨c,d⟩:=x;have b:∀{a:Nat}{r:B1},c≠.al->d≠.mark->c.txt (58::32::d.txt)=a::r->109≠a->cN (n+12) 24 [.own 0] (SC (c.txt<|58::32::d.txt) k)=.ok ((LN.mk c d).val,SC [] k):=λ{a r} i hd e m=>by
  rw[Ķ];refine eK (s':=St [sv c.val] [] k) J (skip (n+10) (by rw[e];exact dS m)<|seq1 (s':=St [Y] (c.txt<|58::32::d.txt) k) (yY (s':=St [Y] (c.txt<|58::32::d.txt) k) ?_ J)<|seq1 (s':=St [sv c.val] (58::32::d.txt) k) (dU<|cR (ts:=[]) J<|LJ n o i)<|seq1 (s':=St [sv c.val] d.txt k) (mP (w:=[58,32]) (rest:=d.txt)<|n+9)<|fj<|uc (ts:=[c.val,d.val]) (aw (t:=c.val) J<|aw (cR (ts:=[]) J<|BA (n+1) j hd) J) J) J
  exact LC<|(any_eq (rest:=c.txt<|58::32::d.txt)).trans<|by rw[HZ _ i]
 cases c with
 |al=>cases d with
  |mark=>
   rw[Ķ];exact eK (s':=St [Y] [] k) J (hit (w:=[109,97,114,107,32]) (rest:=dY) (n+10)<|fj<|uc (ts:=[CV.al.val,DD.mark.val]) (aw (t:=CV.al.val) J<|aw (uc (ts:=[.str dY]) (aw (cR (ts:=[]) J<|Bw<|n+8) J) J) J) J) J
  |say l=>
   rw[Ķ];refine eK (s':=St [Y] [] k) J (skip (n+10) (dS<|by decide)<|Sl<|Ui (s':=St [Y] (DD.say l).txt k) ?_<|fj<|uc (ts:=[CV.al.val,(DD.say l).val]) (aw (t:=CV.al.val) J<|aw (cR (ts:=[]) J (BA (n+1) j (by intro z;cases z))) J) J) J
   exact ľ<|(any_eq (rest:=(DD.say l).txt)).trans<|by rw[show zd (DD.say l).txt=Zc from LK _]
  |_=>exact f.elim
 |en=>cases d with
  |say l=>exact b (by intro z;cases z) (by intro z;cases z) J (by decide)
  |_=>exact f.elim
 |la=>exact b (by intro z;cases z) f J (by decide)
 |so w=>exact b (by intro z;cases z) f J (by decide)
 |li g w=>cases g with
  |true=>exact b (by intro z;cases z) f J (by decide)
  |false=>exact b (by intro z;cases z) f J (by decide)
def LL:cN (n+1) 85 [.own 0,.str row,.int k] [⟨26,[]⟩]=.ok (.non,SC row k):=by
 rw[w85];rfl
def um(c:CV):noOwn c.val=O:=by
 cases c with
 |so w=>show(O&&(noOwn (ug w)&&O))=O;rw[eX];rfl
 |li g w=>cases g with
  |true=>show((noOwn (ug w)&&O)&&O)=O;rw[eX];rfl
  |false=>show(noOwn (ug w)&&O)=O;rw[eX];rfl
 |_=>rfl
def H0(d:DD):noOwn d.val=O:=by cases d<;>rfl
def H_(x:LN):noOwn x.val=O:=by
 show(noOwn x.c.val&&(noOwn x.d.val&&O))=O;rw[um,H0];rfl
abbrev s2(a b:T):S:=⟨[sv a,sv b],[]⟩
def Ib{x:LN}(h:x.ok):cN (n+1) 33 [x.c.val,x.d.val] m=.ok (.bl O,m):=by
 rw[w33];obtain⟨_,_,a⟩:=h;obtain⟨c,d⟩:=x;refine sEq (by show(noOwn c.val&&(noOwn d.val&&O))=O;rw[um,H0];rfl) J J ?_
 cases c with
 |en=>cases d with
  |say l=>exact bY J<|bR J J
  |_=>exact a.elim
 |li g w=>cases g<;>exact bN J<|bN (by cases d<;>rfl)<|bR (t:=.bl O) (by cases d<;>rfl) J
 |_=>exact bN J<|bN (by cases d<;>rfl)<|bR (t:=.bl O) (by cases d<;>rfl) J
def ze{x:LN}(h:x.ok):cN (n+13) 23 [.str<|x.txt,.int k] m=.ok (x.val,m):=by
 rw[w23];refine Bo (m':=SC [] k) J ?_<|H_ x;refine eK (s':=⟨[Kb<|x.txt,J4 k,sv<|.own 0,sv x.val],SC [] k⟩) J ?_ J;refine seq1 (s':=⟨[Kb<|x.txt,J4 k,sv<|.own 0,Y],SC (x.txt) k⟩) ?_<|seq1 (s':=⟨[Kb<|x.txt,J4 k,sv<|.own 0,sv x.val],SC [] k⟩) ?_<|seq1 (s':=⟨[Kb<|x.txt,J4 k,sv<|.own 0,sv x.val],SC [] k⟩) (yY (s':=⟨[Kb<|x.txt,J4 k,sv<|.own 0,sv x.val],SC [] k⟩) ?_ J) J
 .refine dU (t:=.own 0) (s':=⟨[Kb<|x.txt,J4 k,Y,Y],SC (x.txt) k⟩) ?_
  exact LD (ts:=[.str<|x.txt,.int k]) (s':=⟨[Kb<|x.txt,J4 k,Y,Y],[]⟩) J<|LL<|n+11
 .exact dU<|iB (ts:=[.own 0]) (s':=⟨[Kb<|x.txt,J4 k,sv<|.own 0,Y],SC (x.txt) k⟩) J<|uh n h
 .exact orN (s1:=⟨[Kb<|x.txt,J4 k,sv<|.own 0,sv x.val],SC [] k⟩) J<|LC<|Jh<|cE (ts:=[x.c.val,x.d.val]) J<|Ib (n+11) h
abbrev cD(xs:List LN):FR:=xs.map λx=>.str<|x.txt
abbrev bg(xs:List LN):FR:=xs.map LN.val
theorem w_(n:Nat):∀(xs:List LN)(j:Nat)(done:FR)(u v:Option C),(∀x∈xs,x.ok)->j+Mo xs<=25->Mo done<=j->∃a v',bH (eS [2,3]) (XU<|cN<|n+13) (gu (j:Nat)<|cD xs) ⟨[R,U<|.ol done,u,v],[]⟩=.ok (.nx,⟨[R,U<|.ol<|done++bg xs,a,v'],[]⟩)
 |[],j,done,u,v,_,_,_=>⟨u,v,by rw[show done++bg []=done from bF _];rfl⟩
 |x::xs,j,done,u,v,h,d,hd=>by
  have c:=h x<|eO ..;rw[dM]at d;obtain⟨a,v',e⟩:=w_ n xs (j+1) (done++[x.val]) (J4 j) (Kb<|x.txt) (λy b=>h y<|ee _ b) (by lia) (by rw[cQ];show Mo done+1<=_;exact xT hd _)
  refine⟨a,v',Bs (r:=[R,U<|.ol done,J4 j,Kb<|x.txt]) J (seq1 (s':=⟨[R,U<|.ol done,J4 j,Kb<|x.txt],[]⟩) (yY (s':=⟨[R,U<|.ol done,J4 j,Kb<|x.txt],[]⟩) ?_ J)<|wU (Jd:=done) (ts:=done) J (iB (ts:=[.str<|x.txt,.int j]) (s':=⟨[R,U<|.ol done,J4 j,Kb<|x.txt],[]⟩) J<|ze n c) J<|by lia) ?_⟩
  .have g:decide ((24:Int)<(j:Nat))=Zc:=b0 (by lia)
   simp only[ev,xO,mQ,uH,wQ,g]
  .have f:done++bg (x::xs)=done++[x.val]++bg xs:=by simp
   rw[f];exact e
theorem fk:∀(a:List LN),aQ (bg a)=O
 |[]=>J
 |x::a=>by
  show(noOwn x.val&&aQ (bg a))=O;rw[H_,fk a];rfl
def X_(a:List LN):aQ [.lst<|bg a]=O:=by
 show(aQ (bg a)&&O)=O;rw[fk];rfl
theorem jz:∀(a:List LN),aQ (cD a)=O
 |[]=>J
 |x::a=>by
  show(O&&aQ (cD a))=O;rw[jz a];rfl
def xh(h:∀x∈xs,x.ok)(hl:Mo xs<=24):cN (n+14) 36 [.lst<|cD xs] m=.ok (.lst<|bg xs,m):=by
 rw[w36];obtain⟨u,v,e⟩:=w_ n (R:=Ki<|cD xs) xs 1 [] Y Y h (by lia)<|jc _
 refine Bo (m':=[]) ?_ (eK (s':=⟨[Ki<|cD xs,Ki<|bg xs,u,v],[]⟩) J (seq1 (s':=⟨[Ki<|cD xs,U<|.ol [],Y,Y],[]⟩) J<|seq1 (Ľ (ts:=gu 1<|cD xs) (s1:=⟨[Ki<|cD xs,U<|.ol [],Y,Y],[]⟩) J e) J) J)<|fk xs;show(aQ (cD xs)&&O)=O;rw[jz];rfl
def LN.mk?(x:LN):Bool:=match x.d with
 |.mark=>O
 |_=>Zc
abbrev lH:LN:=⟨.al,.mark⟩
def Ic(x:LN):jb M.P.sub [10] x.d.val=U (.bl x.mk?):=by
 obtain⟨c,d⟩:=x;cases d<;>rfl
abbrev e4(R d u v:Option C):S:=⟨[R,d,u,v],[]⟩
theorem BB{B:FS}(a:∀(x:LN)(d u:Option C),x.mk?=Zc->W (B<|e4 R d u<|sv x.val) λp=>p=(.nx,e4 R d u<|sv x.val)):∀(xs:List LN)(j:Int)(d u v:Option C),(∀x∈xs,x.mk?=Zc)->W (bH (eS [2,3]) B (gu j<|bg xs)<|e4 R d u v) λp=>p.1=.nx/\∃u v,p.2=e4 R d u v
 |[],_,_,u,v,_=>⟨_,J,J,u,v,J⟩
 |x::xs,j,d,u,v,h=>iX (r:=[R,d,J4 j,sv x.val]) J<|(a x d _<|h x<|eO ..).mono λp c=>by
  rw[c];exact⟨J,BB a xs (j+1) d _ _ λy b=>h y<|ee _ b⟩
theorem BC{B:FS}{f:Int->T}(b:∀(x:LN)(d u:Option C),x.mk?=Zc->W (B<|e4 R d u<|sv x.val) λp=>p=(.nx,e4 R d u<|sv x.val))(c:∀j:Int,W (B<|e4 R (U<|.od [] []) (J4 j)<|sv lH.val) λp=>p=(.nx,e4 R (U<|.od [.s dY] [f j]) (J4 j)<|sv lH.val)){Z:List LN}(e:∀x∈Z,x.mk?=Zc):∀(A:List LN)(j:Int)(u v:Option C),(∀x∈A,x.mk?=Zc)->W (bH (eS [2,3]) B (gu j<|bg<|A++lH::Z)<|e4 R (U<|.od [] []) u v) λp=>p.1=.nx/\∃u v,p.2=e4 R (U<|.od [.s dY] [f<|j+Mo A]) u v
 |[],j,u,v,_=>iX (r:=[R,U<|.od [] [],J4 j,sv lH.val]) J<|(c j).mono λp a=>by
  rw[a];refine⟨J,?_⟩;rw[show j+(([]:List LN).length:Int)=j from EA j];exact BB b Z (j+1) _ _ _ e
 |x::A,j,u,v,h=>iX (r:=[R,U<|.od [] [],J4 j,sv x.val]) J<|(b x _ _<|h x<|eO ..).mono λp a=>by
  rw[a];refine⟨J,?_⟩;rw[dM,show j+((Mo A+1:Nat):Int)=j+1+Mo A by lia]
  exact BC b c e A (j+1) _ _ λy g=>h y<|ee _ g
def MK(L:List LN)(k:Nat):Prop:=∃A C,L=A++lH::C/\A.length=k/\(∀x∈A,x.mk?=Zc)/\∀x∈C,x.mk?=Zc
abbrev dR(t:T):T:=.kC [.s dY] [t]
section
variable{m:FX}
def xj{B:FS}{f:Int->T}(l:∀(R:Option C)(x:LN)(d u:Option C),x.mk?=Zc->W (B<|e4 R d u<|sv x.val) λp=>p=(.nx,e4 R d u<|sv x.val))(g:∀(R:Option C)(j:Int),W (B<|e4 R (U<|.od [] []) (J4 j)<|sv lH.val) λp=>p=(.nx,e4 R (U<|.od [.s dY] [f j]) (J4 j)<|sv lH.val))(c:∀j,noOwn (f j)=O)(h:MK L k):aU (aI 1 4<|ah (wc 1)<|ah (gU (jn 1 zA) (eS [2,3]) B)<|aD zB) [.lst<|bg L] m=.ok (dR<|f<|1+k,m):=by
 obtain⟨A,C,rfl,rfl,n,i⟩:=h;refine sEq (X_ _) J (by show(noOwn (f _)&&O)=O;rw[c];rfl)<|eE<|W.of (a:=(Out.nx,e4 (Ki<|bg<|A++lH::C) (U<|.od [] []) Y Y)) J ⟨J,eE<|iD<|W.of (a:=(gu 1<|bg<|A++lH::C,e4 (Ki<|bg<|A++lH::C) (U<|.od [] []) Y Y)) J<|(BC (l _) (g _) i A 1 Y Y n).mono λp b=>⟨b.1,?_⟩⟩
 obtain⟨_,u,v,e⟩:=b;rw[e];exact Bq (t:=dR<|f<|1+Mo A) (s':=e4 (Ki<|bg<|A++lH::C) (sv<|dR<|f<|1+Mo A) u v) J J
def xl(h:MK L k):cN (n+1) 37 [.lst<|bg L] m=.ok (dR<|.bl O,m):=by
 rw[w37];exact xj (f:=λ_=>.bl O) (λR x d u h=>dC (mi (t:=x.d.val) J<|(Ic x).trans<|by rw[h]) ⟨_,J,J⟩) (λR j=>⟨_,J,J⟩) (λ_=>J) h
def LO(h:MK L k):cN (n+1) 20 [.lst<|bg L] m=.ok (dR<|.int<|1+k,m):=by
 rw[w20];exact xj (f:=λj=>.int j) (λR x d u h=>dC (mi (t:=x.d.val) J<|(Ic x).trans<|by rw[h]) ⟨_,J,J⟩) (λR j=>⟨_,J,J⟩) (λ_=>J) h
theorem xn:∀{l:FR}{i:Int}{t:T},t∈gu i l->∃j x,x∈l/\t=.tup [.int j,x]
 |[],_,_,h=>by cases h
 |x::l,i,t,h=>by
  rcases cu.mp (show t∈T.tup [.int i,x]::gu (i+1) l from h)with z|z
  .exact⟨i,x,eO ..,z⟩
  .obtain⟨j,y,b,a⟩:=xn z
   exact⟨j,y,ee _ b,a⟩
def refuse_eq:cN (n+1) 38 [.lst<|bg L,dR<|.bl O] m=.ok (.non,m):=by
 rw[w38];refine W.eq<|OE ?_<|gI J<|iD<|W.of (a:=(gu 1<|bg L,e4 (Ki<|bg L) (sv<|dR<|.bl O) Y Y)) J<|(XM (I:=λs=>∃u v,s=e4 (Ki<|bg L) (sv<|dR<|.bl O) u v) (λt e s g=>?_) ⟨Y,Y,J⟩).mono λp f=>⟨f.1,J,J⟩
 .show(aQ (bg L)&&(O&&O))=O
  rw[fk];rfl
 .obtain⟨u,v,rfl⟩:=g
  obtain⟨j,y,b,rfl⟩:=xn e;obtain⟨⟨c,d⟩,_,rfl⟩:=je.mp b;refine⟨_,J,dC (s':=e4 (Ki<|bg L) (sv<|dR<|.bl O) (J4 j)<|sv<|LN.val ⟨c,d⟩) ?_ ⟨_,J,J,_,_,J⟩⟩;cases d<;>rfl
end
theorem kr:∀{p q:B1},c∉p->a_ c (p++c::q)=p::a_ c q
 |[],q,_=>by show a_ c (c::q)=_;rw[a_,bU J]
 |d::p,q,h=>by
  have hd:d≠c:=λe=>h (by rw[e];exact eO ..)
  show a_ c (d::(p++c::q))=_;rw[a_,bp hd,kr λz=>h<|ee _ z]
abbrev DP(ls:Ap):B1:=(ls.map (·++[10])).flatten
theorem p_:∀{ls:Ap},(∀l∈ls,10∉l)->a_ 10 (DP ls)=ls++[[]]
 |[],_=>J
 |a::r,h=>by
  show a_ 10 (a++[10]++DP r)=_;rw[fB];show a_ 10 (a++10::DP r)=_;rw[kr<|h a<|eO ..,p_ λl hl=>h l<|ee _ hl];rfl
def LP(h:∀l∈ls,10∉l)(a:(DP ls).length<=100000):cN (n+1) 34 [.str<|DP ls] m=.ok (.tup [.lst<|ls.map T.str,.bl O],m):=by
 rw[w34];have e:splitM (DP ls) [.str [10]]=U (.lst<|(ls++[[]]).map T.str):=by
  show gd _ _=_;rw[jI a,p_ h]
 have c:il (.lst<|(ls++[[]]).map T.str) (.int<|-1)=U (.str []):=by
  show atT _ (-1)=_;rw[eF];exact ud _ _
 have b:bW ((ls++[[]]).map T.str) Y (U<|-1)=ls.map T.str:=by
  rw[eF];exact pZ _ _
 refine sEq J J ?_<|bS (OF J J e)<|bY (gJ<|aF (aF (t:=.lst<|(ls++[[]]).map T.str) J (u:=.int<|-1) J c) J<|by rw[LB,c4 J])<|bR (dJ (ts:=[.lst<|ls.map T.str,.bl O]) (aw (by show Res.ok (T.lst<|bW ((ls++[[]]).map T.str) Y<|U<|-1,_)=_;rw[b];rfl) J) J) J
 show(aQ (ls.map T.str)&&(O&&O))=O;rw[du];rfl
abbrev xP(L:List LN):T:=.obj 0 [.lst<|bg L]
def LQ(d:∀x∈xs,x.ok)(hl:Mo xs<=24)(e:MK xs k)(f:∀x∈xs,10∉x.txt)(b:(DP<|xs.map LN.txt).length<=100000):cN (n+15) 35 [.str<|DP<|xs.map LN.txt] m=.ok (xP xs,m):=by
 rw[w35];have a:=LP (n+13) (ls:=xs.map LN.txt) (m:=[]) (λl hl=>by obtain⟨x,c,rfl⟩:=je.mp hl;exact f x c) b
 rw[gM]at a;refine sEq J J ?_<|bS (cE (ts:=[.lst<|cD xs]) (aw (pE (cE (ts:=[.str _]) J a) J J) J)<|xh n d hl)<|bS (cE (ts:=[.lst<|bg xs]) J<|xl (n+13) e)<|eE<|dE (cE (ts:=[.lst<|bg xs,dR<|.bl O]) J<|refuse_eq<|n+13) ⟨J,bR J J⟩;exact X_ xs
def Ie(h:nQ c=O):cN (n+2) 8 [.str [c],.bl Zc] m=.ok (.bl O,m):=by
 rw[w8];have e:=HW n (c:=c) (m:=[]);rw[h]at e;exact sEq J J J<|bR (p9 (x:=O) (y:=O) J λ_=>p9 (x:=O) (y:=O) J λ_=>cE (ts:=[.str [c]]) J e) J
def Ig(a:nQ c=O):cN (n+3) 10 [.str [c],.bl Zc] m=.ok (.str [c],m):=by
 rw[Ò];exact sEq J J J<|bN (gJ<|aF (t:=.str [c]) (u:=.str []) J J<|by rw[LB,b0<|List.cons_ne_nil c []])<|bN J<|bY (Jh<|cE (ts:=[.str [c],.bl Zc]) J<|Ie n a)<|bR J J
def xQ:B1->Ap
 |[]=>[]
 |c::r=>[c]::[]::xQ r
theorem qa:∀a:B1,(xQ a).flatten=a/\(xQ a).length=2*Mo a
 |[]=>⟨J,J⟩
 |c::r=>by
  have b:=qa r;constructor
  .show c::(xQ r).flatten=_;rw[b.1]
  .show(xQ r).length+1+1=2*(Mo r+1)
   rw[b.2];lia
theorem qb(n:Nat):∀(b:B1)(a:Ap)(u v w:Option C),(∀c∈b,nQ c=O)->Mo a+2*Mo b<=1000->W (bH (eS [2,3,4]) (y9a<|cN<|n+3) ((jY b).map Itm.val) ⟨[sv o,U<|.ol<|a.map T.str,u,v,w],[]⟩) λp=>p.1=.nx/\∃u v w,p.2=⟨[sv o,U<|.ol<|(a++xQ b).map T.str,u,v,w],[]⟩
 |[],a,u,v,w,_,_=>⟨_,J,J,u,v,w,by rw[show a++xQ []=a from bF _]⟩
 |c::r,a,u,v,w,h,hl=>by
  rw[dM]at hl;have d:=qb n (o:=o) r (a++[[c],[]]) (Kb [c]) (sv<|.bl Zc) (Kb [49]) (λj e=>h j<|ee _ e) (by rw[cQ];show Mo a+2+_<=_;lia)
  rw[show a++xQ (c::r)=a++[[c],[]]++xQ r by simp[xQ]]
  rw[eF]at d;refine iX J<|wA (ts:=a.map T.str) J (cE (ts:=[.str [c],.bl Zc]) J<|Ig n<|h c<|eO ..) (by rw[cz];lia)<|W.of (wU (Jd:=a.map T.str++[.str [c]]) (ts:=a.map T.str++[.str [c]]) (t:=.str []) (s1:=⟨[sv o,U<|.ol<|a.map T.str++[.str [c]],Kb [c],sv<|.bl Zc,Kb [49]],[]⟩) J J J<|by rw[cQ,cz];show _+1<_;lia) ⟨J,?_⟩
  show W (bH _ _ _ ⟨[sv o,U<|.ol<|a.map T.str++[.str [c]]++[.str []],_,_,_],[]⟩) _;rw[fB];exact d
theorem strs_map:∀l:Ap,strsOf (l.map T.str)=U l
 |[]=>J
 |a::l=>by
  show(strsOf<|l.map T.str).map (a::·)=_
  rw[strs_map l];rfl
theorem join_nil:∀l:Ap,gp [] l=l.flatten
 |[]=>J
 |[a]=>by simp[gp]
 |a::b::r=>by
  show a++[]++gp [] (b::r)=_;rw[join_nil<|b::r];simp
def join_eq{l:Ap}(h:Mo l.flatten<=100000):joinM [] [.lst<|l.map T.str]=U (.str l.flatten):=by
 show Av (.str []) (.lst<|l.map T.str)=_;unfold Av;dsimp only;rw[strs_map];show gd _ _=_;rw[List.length_flatten]at h;have h:(l.map (·.length)).sum<=100000:=h
 rw[jI<|by rw[qt,Nat.mul_zero];exact bG h<|by decide,join_nil]
def zf(h:∀i∈its,i.ok)(hl:Mo its<=8):cN (n+4) 9 [eW f its b] m=.ok (.str<|uf f its b,m):=by
 obtain⟨c,rfl,q⟩:=ue h;rw[cz]at hl;rw[w9,nR];have j:([fT f]++xQ c++[bT b]).flatten=fT f++(c++bT b):=by
  rw[Er,Er,(qa c).1];simp
 have g:=join_eq (l:=[fT f]++xQ c++[bT b]) (by rw[j];have:=By (f:=f) (b:=b) hl;exact bG this<|by decide)
 rw[j]at g;refine sEq (by show(noOwn (eW f (jY c) b)&&O)=O;rw[eX];rfl) J J<|eE<|W.of (a:=(.nx,⟨[sv<|eW f (jY c) b,U<|.ol<|[fT f].map T.str,Y,Y,Y],[]⟩)) (by cases f<;>rfl) ⟨J,eE<|iD<|W.of (a:=((jY c).map Itm.val,⟨[sv<|eW f (jY c) b,U<|.ol<|[fT f].map T.str,Y,Y,Y],[]⟩)) J<|(qb n (o:=eW f (jY c) b) c [fT f] Y Y Y q<|by show 1+_<=_;lia).mono λp d=>⟨d.1,?_⟩⟩
 obtain⟨_,u,v,w,e⟩:=d;rw[e];refine eE<|W.of (wU (Jd:=([fT f]++xQ c).map T.str) (ts:=([fT f]++xQ c).map T.str) (t:=.str<|bT b) (s1:=⟨[sv<|eW f (jY c) b,U<|.ol<|([fT f]++xQ c).map T.str,u,v,w],[]⟩) J (by cases b<;>rfl) J<|by rw[cz,cQ,(qa c).2];show 1+_<_;lia) ⟨J,?_⟩
 show WB _ ⟨[sv<|eW f (jY c) b,U<|.ol<|([fT f]++xQ c).map T.str++[bT b].map T.str,u,v,w],[]⟩ _;rw[<- eF];exact Bq (OF (l:=[]) J (aw J J) g) J
theorem OG{α:Type}{Zf:α->S->Prop}{f:α->T->α}:∀{ts:FR}{a:α}{s:S},(∀t∈ts,∀a s,Zf a s->∃r,b t s.r=U r/\W (B ⟨r,s.m⟩) λp=>p.1=.nx/\Zf (f a t) p.2)->Zf a s->W (bH b B ts s) λp=>p.1=.nx/\Zf (ts.foldl f a) p.2
 |[],a,s,_,h=>⟨_,J,J,h⟩
 |t::ts,a,s,k,h=>by
  obtain⟨r,j,⟨o,l⟩,i,g,e⟩:=k t (eO ..) a s h;cases g;obtain⟨p,e4,d⟩:=OG (ts:=ts) (λt c=>k t<|ee _ c) e;refine⟨p,?_,d⟩;rw[bH,j];apply dF;show Res.bind (B ⟨r,s.m⟩) _=_;rw[i];exact e4
def BD(i:Itm):Bool:=eqT (.str [42]) (.str [i.mn]) ||(eqT (.str [43]) (.str [i.mn]) ||Zc)
def Ih:cN (n+1) 12 [i.val] m=.ok (.bl<|BD i,m):=by
 rw[w12];exact sEq J J J<|bR J J
def Uj(ag:Bool)(bh es:Dx)(p:Nat):Int:=if(ag&&decide (bh.getD (p+1) 0<es.getD (p+1) 0))=O then es.getD (p+1) 0 else bh.getD (p+1) 0
def gB(ag:Bool)(sg:B1)(ot:Bool)(row:B1)(bh es:Dx)(p:Nat):Dx:=
 if(decide (row.getD p 0∈sg) != ot)=O then(if es.getD p 0<Uj ag bh es p then es.set p (Uj ag bh es p)else es)else es
def uo:(gB ag sg ot row bh es p).length=Mo es:=by
 unfold gB;split
 .split
  .exact eT
  .rfl
 .rfl
def Yb:T->Nat
 |.int i=>i.toNat
 |_=>0
def Ji(i:Itm)(row:B1)(bh:Dx):Dx:=((cK row.length).map λk=>T.int<|((Mo row:Int)-1)-(k:Nat)).foldl (λes t=>gB (BD i) i.k.sg i.k.ot row bh es<|Yb t)<|if SI i then bh else bL bh.length (-1)
def BE:(Ji i row bh).length=Mo bh:=by
 unfold Ji
 have:∀(l:FR)(es:Dx),(l.foldl (λes t=>gB (BD i) i.k.sg i.k.ot row bh es<|Yb t) es).length=Mo es:=λl=>by
  induction l with
  |nil=>intro es;rfl
  |cons t l a=>intro es;rw[uN,a,uo]
 rw[this];split
 .rfl
 .exact kG
def Ń(h:p<Mo l):Au (.lst<|l.map T.int) (.int (p:Nat))=U (.int<|l.getD p 0):=by
 show atT (l.map T.int) (p:Int)=_;rw[jx<|by rw[cz];exact h,fQ,c5 h,gZ,c5 h];rfl
def ń(h:p+1<Mo l):Au (.lst<|l.map T.int) (.int<|(p:Nat)+1)=U (.int<|l.getD (p+1) 0):=Ń (p:=p+1) h
def ixC(h:p<Mo l):il (.str l) (.int (p:Nat))=U (.str [l.getD p 0]):=by
 show(atT l (p:Int)).map _=_;rw[jx h,c5 h,gZ,c5 h];rfl
def EW(i:Itm)(row:B1)(bh es:Dx)(a v8:Option C):S:=⟨[sv i.val,Kb row,Ki<|bh.map T.int,Kb i.k.sg,sv<|.bl i.k.ot,sv<|.bl<|BD i,U<|.ol<|es.map T.int,a,v8],[]⟩
def Ņ(a:q<Mo es)(h:b (EW i row bh es j v8)=.ok (.int (q:Nat),EW i row bh es j v8)):nk 6 b (EW i row bh es j v8)=.ok (.int<|es.getD q 0,EW i row bh es j v8):=by
 unfold nk;show Res.bind (b<|EW i row bh es j v8) _=_;rw[h];show Res.bind (aZ<|Au (.lst<|es.map T.int)<|.int (q:Nat)) _=_;rw[Ń a];rfl
def gtI(a b:Int):aN .Gt (.int a) (.int b)=U (.bl<|decide<|b<a):=J
def ņ(a:p<Mo es):Oi 6 (vF 7) (vF 8) (EW i row bh es (J4 (p:Nat))<|J4 e)=.ok (.nx,EW i row bh (es.set p e) (J4 (p:Nat))<|J4 e):=by
 show dP 6 (vF 7) (vF 8) _=_;unfold dP;show Res.bind (aZ<|gd (0<=((p:Nat):Int)/\((p:Nat):Int)<((es.map T.int).length:Nat))<|(es.map T.int).set ((p:Nat):Int).toNat<|.int e) _=_;rw[jI ⟨by lia,by rw[cz];lia⟩]
 show Res.ok (Out.nx,jF _ 6<|.ol<|(es.map T.int).set ((p:Nat):Int).toNat<|.int e)=_;rw[uX,<- List.map_set];rfl
def BG(a:p<Mo es)(b:x=Uj (BD i) bh es p):W (aV (b9<|bX (aN .Gt) (vF 8)<|nk 6<|vF 7) (Oi 6 (vF 7)<|vF 8) aG<|EW i row bh es (J4 (p:Nat))<|J4 x) λq=>q.1=.nx/\∃v8,q.2=EW i row bh (if es.getD p 0<Uj (BD i) bh es p then es.set p (Uj (BD i) bh es p)else es) (J4 (p:Nat)) v8:=by
 subst b;refine XH<|W.of (gJ<|aF J (Ņ (q:=p) a J)<|gtI _ _) ⟨λh=>?_,λh=>?_⟩
 .rw[bU<|c3 h]
  exact W.of (ņ a) ⟨J,_,J⟩
 .rw[bp<|of_decide_eq_false h]
  exact⟨_,J,J,_,J⟩
def gK(l:Dx):aQ (l.map T.int)=O:=by
 induction l with
 |nil=>rfl
 |cons a l b=>exact b
theorem rep1(t:T):∀n:Nat,(bL n [t]).flatten=bL n t
 |0=>J
 |n+1=>by rw[rP,rP,rQ,rep1 t n];rfl
section
variable{row:B1}
def LS(hr:Mo row<=1000):Dg [.int<|(Mo row:Int)-1,.int<|-1,.int<|-1]=U ((cK row.length).map λk=>T.int<|((Mo row:Int)-1)-(k:Nat)):=by
 have e:((Mo row:Int)-1+1).toNat=Mo row:=by lia
 show gd _ _=_;rw[jI ⟨J,J,by lia,by lia⟩,e]
def o2r{s s1 s2:S}(h:a s=.ok (t,s1))(c:b s1=.ok (u,s2))(k:g t u=U v):o2 g a b s=.ok (v,s2):=by
 unfold o2;rw[h];apply dF;show Res.bind (b s1) _=_;rw[c];apply dF;show Res.bind (aZ<|g t u) _=_;rw[k];rfl
def LU(h:k<=1001):GP (.lst [.int<|-1]) (.int (k:Nat))=U (bL k<|T.int<|-1):=by
 have e:GP (.lst [.int<|-1]) (.int (k:Nat))=U (bL ((k:Nat):Int).toNat [T.int<|-1]).flatten:=jI ⟨by lia,by lia,by show 1*_<=_;lia⟩
 rw[e,uX,rep1]
def uq(j:Mo bh=Mo row+1)(hr:Mo row<=1000):cN (n+2) 17 [i.val,.str row,.lst<|bh.map T.int] m=.ok (.lst<|(Ji i row bh).map T.int,m):=by
 rw[w17];refine sEq ?_ J (gK _)<|bS J<|bS J<|bS (cE J<|Ih n)<|eE<|W.of (a:=(Out.nx,EW i row bh (if SI i then bh else bL bh.length (-1)) Y Y)) ?_ ⟨J,eE<|iD<|W.of (a:=((cK row.length).map λk=>T.int<|((Mo row:Int)-1)-(k:Nat),EW i row bh (if SI i then bh else bL bh.length (-1)) Y Y)) ?_ ?_⟩
 .show(O&&(O&&(aQ (bh.map T.int)&&O)))=O
  rw[gK];rfl
 .unfold jQ Zo
  rw[Jh<|cE (ts:=[i.val]) J<|LI n];show Res.bind (if SI i then _ else _) _=_
  cases SI i with
  |true=>rfl
  |false=>
   rw[bp dw,bp dw,o2r (t:=.lst [.int<|-1]) (u:=.int (((bh.map T.int).length:Nat):Int)) (v:=(bL bh.length<|-1).map T.int) J J<|by rw[cz,LU<|by lia,M7]]
   rfl
 .unfold C3
  show Res.bind (aZ<|Dg [.int<|(Mo row:Int)-1,.int<|-1,.int<|-1]) _=_;rw[LS hr];rfl
 refine(OG (Zf:=λes s=>Mo es=Mo row+1/\∃d v8,s=EW i row bh es d v8) (f:=λes t=>gB (BD i) i.k.sg i.k.ot row bh es<|Yb t) (λt l es s o=>?_) ⟨?_,_,_,J⟩).mono λq c=>⟨c.1,?_⟩
 .obtain⟨g,d,v8,rfl⟩:=o
  obtain⟨k,h,rfl⟩:=je.mp l;have h:=jL.mp h;obtain⟨p,r⟩:∃p,p=Mo row-1-k:=⟨_,J⟩;rw[show((Mo row:Int)-1)-(k:Nat)=((p:Nat):Int) by lia]
  refine⟨_,J,?_⟩;show W (aV _ _ _<|EW i row bh es (J4 (p:Nat)) v8) λq=>q.1=.nx/\(gB (BD i) i.k.sg i.k.ot row bh es p).length=Mo row+1/\∃d v8,q.2=EW i row bh (gB (BD i) i.k.sg i.k.ot row bh es p) d v8;rw[uo];unfold gB;refine XH<|W.of (gJ (b:=decide (row.getD p 0∈i.k.sg) != i.k.ot)<|aF (t:=.bl<|decide<|row.getD p 0∈i.k.sg) (aF (t:=.str [row.getD p 0]) (aF J J<|ixC<|by lia) J J) J J) ⟨λ(hc:(decide (row.getD p 0∈i.k.sg) != i.k.ot)=O)=>?_,λ(hc:(decide (row.getD p 0∈i.k.sg) != i.k.ot)=Zc)=>?_⟩
  .rw[bU hc]
   refine wS (aF (t:=.lst<|bh.map T.int) (u:=.int<|(p:Nat)+1) J J<|ń<|by lia)<|iC<|XH<|W.of (rG (Jh (b:=BD i) J)<|gJ<|aF (Ņ (q:=p+1) (v8:=J4<|bh.getD (p+1) 0) (by lia) J) J<|gtI _ _) ⟨λ(ha:(BD i&&decide (bh.getD (p+1) 0<es.getD (p+1) 0))=O)=>W.of (dU<|Ņ (q:=p+1) (by lia) J) ⟨J,(BG (by lia) (bU ha).symm).mono λq c=>⟨c.1,g,_,c.2⟩⟩,λ(ha:(BD i&&decide (bh.getD (p+1) 0<es.getD (p+1) 0))=Zc)=>⟨_,J,J,(BG (by lia) (bp<|by rw[ha];exact dw).symm).mono λq c=>⟨c.1,g,_,c.2⟩⟩⟩
  .rw[bp<|by rw[hc];exact dw]
   exact⟨_,J,J,g,_,_,J⟩
 .split
  .exact j
  .rw[kG];exact j
 .obtain⟨_,d,v8,e⟩:=c.2
  rw[e];exact Bq J J
end
def SK(row:B1)(b:Bool):Dx:=if b then bL row.length (-1)++[(Mo row:Int)]else(cK<|row.length+1).map λk=>(0+((k:Nat):Int))
def BH:(SK row b).length=Mo row+1:=by
 unfold SK;split
 .simp
 .simp
def BI(row:B1)(its:List Itm)(b:Bool):Dx:=its.reverse.foldl (λes i=>Ji i row es)<|SK row b
def nS:(BI row its b).length=Mo row+1:=by
 unfold BI
 have:∀(l:List Itm)(es:Dx),(l.foldl (λes i=>Ji i row es) es).length=Mo es:=λl=>by
  induction l with
  |nil=>intro es;rfl
  |cons t l a=>intro es;rw[uN,a,BE]
 rw[this,BH]
def DQ(row:B1)(f:Bool)(its:List Itm)(b:Bool):Dx:=if f then bW (BI row its b) Y (U 1)else BI row its b
def sR(f:α->b)(l:List α)(lo a:D2):bW (l.map f) lo a=(bW l lo a).map f:=by
 unfold bW;rw[cz,xV,Ek]
def o1r(h:a s=.ok (t,s1))(k:g t=U v):o1 g a s=.ok (v,s1):=by
 unfold o1;rw[h];apply dF;show Res.bind (aZ<|g t) _=_;rw[k];rfl
def Yc(a:FR)(k:Int):eA .Mult (.lst a) (.int k)=gd (k<1000000/\-1000000<k/\a.length*k.toNat<=1000000) (.lst (bL k.toNat a).flatten):=J
def add_l(a b:FR):eA .Add (.lst a) (.lst b)=gd (Mo a+Mo b<=1000000) (.lst<|a++b):=J
def Yd(j:Int):Df (.int j)=gd (0<=j/\j<1000000) (mz 0 j.toNat):=J
section
variable{m:FX}
theorem Ii{α:Type}{I:α->S->Prop}{f:α->Itm->α}:∀{l:List Itm}{a:α}{s:S},(∀i∈l,∀a s,I a s->∃r,c i.val s.r=U r/\W (B ⟨r,s.m⟩) λp=>p.1=.nx/\I (f a i) p.2)->I a s->W (bH c B (l.map Itm.val) s) λp=>p.1=.nx/\I (l.foldl f a) p.2
 |[],_,_,_,h=>⟨_,J,J,h⟩
 |i::l,a,s,k,h=>by
  obtain⟨r,e,k1⟩:=k i (eO ..) a s h;exact iX e<|k1.mono λp b=>⟨b.1,Ii (λi d=>k i<|ee _ d) b.2⟩
def Ij(hr:Mo row<=1000):cN (n+1) 16 [.str row,.bl b] m=.ok (.lst<|(SK row b).map T.int,m):=by
 rw[w16];refine sEq J J (gK _) ?_;unfold SK;cases b with
 |true=>
  refine bY J<|bR (aF (t:=.lst<|(bL row.length (-1:Int)).map T.int) (u:=.lst [.int row.length]) (aF (t:=.lst [.int<|-1]) (u:=.int row.length) J J ?_) J ?_) J
  .rw[Yc,jI ⟨by lia,by lia,by show 1*_<=_;lia⟩,uX,rep1,M7]
  .rw[add_l,jI<|by rw[cz,kG];show _+1<=_;lia,bU J,eF];rfl
 |false=>
  refine bN J<|bR (wR<|o1r (t:=.int<|(Mo row:Int)+1) J ?_) J;rw[Yd,jI ⟨by lia,by lia⟩,show((Mo row:Int)+1).toNat=Mo row+1 by lia,bp dw]
  unfold mz;rw[gM];rfl
def xo(hr:Mo row<=1000)(hl:Mo its<=8):cN (n+3) 15 [eW f its b,.str row] m=.ok (.lst<|(DQ row f its b).map T.int,m):=by
 rw[w15];refine sEq (by show(noOwn (eW f its b)&&O)=O;rw[eX];rfl) J (gK _)<|bS (cE (ts:=[.str row,.bl b]) J<|Ij (n+1) hr)<|eE<|iD<|W.of (o1r (v:=its.reverse.map Itm.val) (t:=.lst<|its.map Itm.val) J<|by rw[List.map_reverse];rfl)<|(Ii (I:=λes s=>Mo es=Mo row+1/\∃v,s=⟨[sv<|eW f its b,Kb row,Ki<|es.map T.int,v],[]⟩) (f:=λes i=>Ji i row es) (λi _ es s d=>?_) ⟨BH,Y,J⟩).mono λq a=>⟨a.1,?_⟩
 .obtain⟨c,v,rfl⟩:=d
  exact⟨_,J,W.of (dU<|cE (ts:=[i.val,.str row,.lst<|es.map T.int]) J<|uq n c hr) ⟨J,by rw[BE];exact c,_,J⟩⟩
 obtain⟨_,_,v,e⟩:=a;rw[e];unfold DQ;cases f with
 |false=>exact bR J J
 |true=>
  refine bR J ?_;rw[bU J,<- sR];rfl
end
def SM{A B:FS}{G:T×FX->Prop}(h:W (A s) λp=>(∃t,p.1=.rt t/\G (t,p.2.m))\/(p.1=.nx/\WB B p.2 G)):WB (ah A B) s G:=by
 obtain⟨⟨o,c⟩,e,h⟩:=h;rcases h with⟨t,b,a⟩|⟨b,a⟩
 .cases b;exact OD ⟨_,e,t,J,a⟩
 .cases b;exact eE ⟨_,e,J,a⟩
def nB(l:Dx):B1->T
 |[]=>.non
 |q::qs=>if l.getD q 0≠-1 then .tup [.int (q:Nat),.int<|l.getD q 0]else nB l qs
def SN(l:Dx):T:=nB l<|cK l.length
def Ň:T->Bool
 |.non=>O
 |_=>Zc
theorem xq(l:Dx):∀a,noOwn (nB l a)=O
 |[]=>J
 |q::a=>by
  unfold nB;split
  .rfl
  .exact xq l a
theorem BL(l:Dx):∀a,aN .IsNot (nB l a) .non=U (.bl<|!Ň (nB l a))
 |[]=>J
 |q::a=>by
  unfold nB;split
  .rfl
  .exact BL l a
def LV(k:Nat)(h:k<=1001):oV [.int 0,.int (k:Nat)]=U ((cK k).map λq=>T.int ((q:Nat):Int)):=by
 have a:(((k:Nat):Int)-0).toNat=k:=by lia
 show gd _ _=_;rw[jI ⟨by lia,by lia,by lia,by lia⟩,a]
 unfold mz;exact ej U<|uO λq _=>by rw[z9]
section
variable{m:FX}
def neI(a c:Int):aN .NotEq (.int a) (.int c)=U (.bl<|!decide (a=c)):=J
theorem Ik:∀(a:B1)(v:Option C),(∀q∈a,q<Mo l)->W (bH (setG 4) XS (a.map λq=>T.int ((q:Nat):Int)) ⟨[sv t,sv u,J4 0,Ki<|l.map T.int,v],m⟩) λp=>p.2.m=m/\((p.1=.rt (nB l a))\/(p.1=.nx/\nB l a=.non))
 |[],v,_=>⟨_,J,J,.inr ⟨J,J⟩⟩
 |q::a,v,h=>by
  have b:il (.lst<|l.map T.int) (.int (q:Nat))=U (.int<|l.getD q 0):=Ń<|h q<|eO ..;unfold nB;by_cases hd:l.getD q 0=-1
  .rw[bp λz=>z hd]
   exact iX J<|dC (gJ<|aF (aF (t:=.lst<|l.map T.int) (u:=.int (q:Nat)) J J b) J<|by rw[neI,c4 hd];rfl) ⟨_,J,J,Ik a _ λq c=>h q<|ee _ c⟩
  .rw[bU hd,fq,bH]
   refine⟨_,Eq.trans (mQ _ _)<|Eq.trans (ej (λx=>Res.bind x _)<|Ui (gJ<|aF (aF (t:=.lst<|l.map T.int) (u:=.int (q:Nat)) J J b) J<|by rw[neI,b0 hd];rfl)<|fj<|dJ (ts:=[.int (q:Nat),.int<|l.getD q 0]) (aw J<|aw (aF (t:=.lst<|l.map T.int) (u:=.int (q:Nat)) J J b) J) J) J,J,.inl J⟩
def LW:(DQ row f its b).length<=Mo row+1:=by
 unfold DQ;split
 .unfold bW
  rw[rN,kH,nS]
  lia
 .rw[nS];exact cV _
def zh(hr:Mo row<=1000)(hl:Mo its<=8):cN (n+4) 13 [eW f its b,.str row,.int 0] m=.ok (SN<|DQ row f its b,m):=by
 rw[w13];have i:=LW (row:=row) (f:=f) (its:=its) (b:=b);refine sEq (by show(noOwn (eW f its b)&&(O&&(O&&O)))=O;rw[eX];rfl) J (xq _ _)<|bS (cE (ts:=[eW f its b,.str row]) J<|xo n hr hl)<|SM<|iD<|W.of (Sq (ts:=[.int 0,.int ((DQ row f its b).length:Nat)]) (aw J<|aw (dJ (ts:=[.lst<|(DQ row f its b).map T.int]) J<|by show U (T.int (((DQ row f its b).map T.int).length:Nat))=_;rw[cz]) J)<|LV _<|by lia)<|(Ik (cK (DQ row f its b).length) Y λq a=>jL.mp a).mono λp c=>?_
 obtain⟨g,h|⟨e,d⟩⟩:=c
 .exact .inl ⟨_,h,J⟩
 .exact .inr ⟨e,bR (t:=.non) J d.symm⟩
def Jj(row:B1)(f:Bool)(its:List Itm)(b:Bool):Bool:=!Ň (SN<|DQ row f its b)
def qc(hr:Mo row<=1000)(hl:Mo its<=8):cN (n+5) 14 [eW f its b,.str row] m=.ok (.bl<|Jj row f its b,m):=by
 rw[w14];exact sEq (by show(noOwn (eW f its b)&&(O&&O))=O;rw[eX];rfl) J J<|bR (aF (iB (ts:=[eW f its b,.str row]) (s':=⟨[sv<|eW f its b,Kb row],[]⟩) J<|zh n hr hl) J<|BL _ _) J
end
section
variable{m:FX}
theorem get_mem:∀{ks:List Ky}{ts:FR}{x:Ky},Mo ks=Mo ts->x∈ks->∃t,i9 ks ts x=U t
 |[],_,_,_,h=>by cases h
 |q::ks,[],_,h,_=>by cases h
 |q::ks,t::ts,x,h,a=>by
  rw[i9];by_cases e:q=x
  .rw[bU e];exact⟨t,J⟩
  .rw[bp e]
   rcases cu.mp a with z|z
   .exact ef z.symm e
   .exact get_mem (rM.inj h) z
theorem ur:∀{ks:List Ky}{ts:FR}{x y:Ky}{u:T},Mo ks=Mo ts->x∉ks->i9 (ks++[x]) (ts++[u]) y=if x=y then U u else i9 ks ts y
 |[],[],x,y,u,_,_=>by
  rw[lK,lK,i9]
 |[],_::_,_,_,_,h,_=>by cases h
 |q::ks,[],_,_,_,h,_=>by cases h
 |q::ks,t::ts,x,y,u,h,a=>by
  rw[uP,uP,i9,i9];by_cases e:q=y
  .rw[bU e,bU e,bp λz=>a<|by rw[z,e];exact eO ..]
  .rw[bp e,bp e,ur (rM.inj h) λz=>a<|ee _ z]
end
def Ye(c:a s=.ok (u,s))(e:o s=.ok (.own kb,s))(i:b s=.ok (t,s))(h:kR t=U ky)(g:s.m[kb]?=U ⟨j,[.od ks ts]⟩)(f:ky∉ks)(d:Mo ks<1000000):Dc j o b a s=.ok (.nx,⟨s.r,s.m.set kb ⟨j,[.od (ks++[ky])<|ts++[u]]⟩⟩):=by
 unfold Dc;rw[c];apply dF;show Res.bind (o s) _=_;rw[e];apply dF;show Res.bind (b s) _=_;rw[i];apply dF;show Res.bind (aZ<|tK j s.m<|.own kb) _=_;rw[HR g];apply dF;show Res.bind (aZ<|kR t) _=_;rw[h];apply dF;show Res.bind (aZ<|gd (Mo ks<1000000) ()) _=_;rw[jI d];show Res.ok (Out.nx,setB j _ kb<|let y:=jW ks ts ky u;.od y.1 y.2)=_;unfold jW;rw[bp f];rfl
def LX(b:a s=.ok (t,s))(c:o s=.ok (.own kb,s))(f:kR t=U ky)(d:s.m[kb]?=U ⟨j,[.od ks ts]⟩):b9 (tL j neg a o) s=.ok (if neg then !decide (ky∈ks)else decide (ky∈ks),s):=by
 have e:tL j neg a o s=.ok (.bl<|if neg then !decide (ky∈ks)else decide (ky∈ks),s):=by
  unfold tL;rw[b];apply dF;show Res.bind (o s) _=_;rw[c];apply dF;show Res.bind (aZ<|tK j s.m<|.own kb) _=_;rw[HR d];apply dF;show Res.bind (aZ<|kR t) _=_;rw[f];rfl
 unfold b9;rw[e];rfl
def Yg(a:o s=.ok (.own kb,s))(f:b s=.ok (t,s))(d:kR t=U ky)(c:s.m[kb]?=U ⟨j,[.od ks ts]⟩)(e:i9 ks ts ky=U u):GL j o b s=.ok (u,s):=by
 unfold GL;rw[a];apply dF;show Res.bind (b s) _=_;rw[f];apply dF;show Res.bind (aZ<|tK j s.m<|.own kb) _=_;rw[HR c];apply dF;show Res.bind (aZ<|kR t) _=_;rw[d];show Res.bind (aZ<|i9 ks ts ky) _=_;rw[e];rfl
structure Uk(row:B1)(ks:List Ky)(ts:FR):Prop where
 len:Mo ks=Mo ts
 at_:∀f its b t,(∀i∈its,Itm.ok i)->Mo its<=8->i9 ks ts (.s<|uf f its b)=U t->t=.bl (Jj row f its b)
def Uk.nil:Uk row [] []:=⟨J,λ_ _ _ _ _ _ h=>by cases h⟩
def LZ(hr:Mo row<=1000)(h:∀i∈its,Itm.ok i)(hl:Mo its<=8)(h':∀i∈its',Itm.ok i)(g:Mo its'<=8)(e:uf f its b=uf a its' c):Jj row f its b=Jj row a its' c:=by
 have d:=kq 0 (f:=f) (b:=b) (m:=[]) h hl;have j:=kq 0 (f:=a) (b:=c) (m:=[]) h' g;rw[e,j]at d;have ev:eW a its' c=eW f its b:=by injection d with d;exact(Prod.mk.inj d).1
 have q1:=qc 0 (f:=f) (b:=b) (m:=[]) hr hl;have q2:=qc 0 (f:=a) (b:=c) (m:=[]) hr g;rw[ev,q1]at q2;injection q2 with q2
 have:=(Prod.mk.inj q2).1
 injection this
def SO(a:m[k]?=U ⟨22,[.val<|.str row,.val<|.int d,.val<|.own kb]⟩)(c:m[kb]?=U ⟨M.bc,[.od ks ts]⟩)(x:kb≠k)(K:Uk row ks ts)(y:Mo ks<1000000)
  (hr:Mo row<=1000) (h:∀i∈its,i.ok) (hl:Mo its<=8):∃q ts',cN (n+6) 61 [.own k,eW f its b] m=.ok (.bl<|Jj row f its b,m.set kb ⟨M.bc,[.od q ts']⟩)/\Uk row q ts'/\q.length<=Mo ks+1:=by
 rw[w61];have v:kb<Mo m:=(bK.mp c).1;have p:=zf (n+1) (f:=f) (b:=b) (m:=m) h hl;have B:=qc n (f:=f) (b:=b) (m:=m) hr hl;obtain⟨X,o⟩:∃X,X=uf f its b:=⟨_,J⟩;rw[<- o]at p;by_cases OH:Ky.s X∈ks
 .obtain⟨t,r⟩:=get_mem K.len OH
  have A:=K.at_ f its b t h hl (by rw[<- o];exact r)
  subst A;refine⟨ks,ts,?_,K,bD ..⟩;rw[show m.set kb ⟨M.bc,[.od ks ts]⟩=m from uU λj=>by
   by_cases hj:kb=j
   .subst hj;rw[dG v,c]
   .rw[cW hj]]
  exact eK J (seq1 (dU<|cE (ts:=[eW f its b]) J p)<|seq1 (yY ((LX (neg:=O) (ky:=.s X) J (nA (j:=2) J a J J) J c).trans<|by rw[bU J,c4 OH];rfl) J)<|fj<|Yg (ky:=.s X) (nA (j:=2) J a J J) J J c r) J
 .refine⟨ks++[.s X],ts++[.bl<|Jj row f its b],?_,⟨by simp[K.len],λz g C t u w l=>?_⟩,by simp⟩
  .exact eK J (seq1 (dU<|cE (ts:=[eW f its b]) J p)<|seq1 (Ui ((LX (neg:=O) (ky:=.s X) J (nA (j:=2) J a J J) J c).trans<|by rw[bU J,b0 OH];rfl)<|Ye (ky:=.s X) (cE (ts:=[eW f its b,.str row]) (aw J<|aw (nA (j:=0) J a J J) J) B) (nA (j:=2) J a J J) J J c OH y)<|fj<|Yg (ky:=.s X) (nA (j:=2) J (ob:=⟨22,[.val<|.str row,.val<|.int d,.val<|.own kb]⟩) (by rw[cW x];exact a) J J) J J (dG v)<|by rw[ur K.len OH,bU J]) J
  .rw[ur K.len OH]at l
   split at l
   .rename_i e
    cases l;injection e with e
    rw[LZ hr h hl u w<|o.symm.trans e]
   .exact K.at_ z g C t u w l
def SQ(a:p<Mo es)(q:Nat):(gB Zc [c] Zc row bh es p).getD q 0=if q=p/\row.getD q 0=c/\es.getD q 0<bh.getD (q+1) 0 then bh.getD (q+1) 0 else es.getD q 0:=by
 have d:Uj Zc bh es p=bh.getD (p+1) 0:=J;have b:(decide (row.getD p 0∈[c]) != Zc)=decide (row.getD p 0=c):=by
  rw[Bool.bne_false];exact decide_eq_decide.mpr iF
 unfold gB;rw[d,b];by_cases e:q=p
 .subst e
  by_cases h1:row.getD q 0=c
  .rw[bU<|c4 h1]
   by_cases h2:es.getD q 0<bh.getD (q+1) 0
   .rw[bU h2,bU ⟨J,h1,h2⟩,gZ,dG a];rfl
   .rw[bp h2,bp λz=>h2 z.2.2]
  .rw[bp<|by rw[b0 h1];exact dw,bp λz=>h1 z.2.1]
 .rw[bp (c:=q=p/\_) λz=>e z.1]
  split
  .split
   .rw[gZ,cW<|eL e,<- gZ]
   .rfl
  .rfl
theorem BN:∀(ps:B1)(es:Dx),ps.Nodup->(∀p∈ps,p<Mo es)->∀q,(ps.foldl (λes p=>gB Zc [c] Zc row bh es p) es).getD q 0=if q∈ps/\row.getD q 0=c/\es.getD q 0<bh.getD (q+1) 0 then bh.getD (q+1) 0 else es.getD q 0
 |[],es,_,_,q=>by rw[bp λz=>by cases z.1];rfl
 |p::ps,es,a,b,q=>by
  have a:=nY.mp a;have f:=b p<|eO ..;rw[uN,BN ps _ a.2 (λx d=>by rw[uo];exact b x<|ee _ d) q,SQ f q]
  by_cases e:q=p
  .subst e
   rw[bp λz=>a.1 z.1];by_cases h:row.getD q 0=c/\es.getD q 0<bh.getD (q+1) 0
   .rw[bU ⟨J,h⟩,bU ⟨eO ..,h⟩]
   .rw[bp λz=>h z.2,bp λz=>h z.2]
  .rw[bp (c:=q=p/\_) λz=>e z.1]
   by_cases h:q∈ps/\row.getD q 0=c/\es.getD q 0<bh.getD (q+1) 0
   .rw[bU h,bU ⟨ee _ h.1,h.2⟩]
   .rw[bp h,bp λz=>h ⟨(cu.mp z.1).resolve_left e,z.2⟩]
def SS(hl:Mo bh=Mo row+1)(n:∀x∈bh,-1<=x)(q:Nat)(t:q<=Mo row):(Ji ⟨.pl c,49⟩ row bh).getD q 0=if q<Mo row/\row.getD q 0=c then bh.getD (q+1) 0 else -1:=by
 have e:Ji ⟨.pl c,49⟩ row bh=((cK row.length).map λk=>Mo row-1-k).foldl (λes p=>gB Zc [c] Zc row bh es p) (bL bh.length<|-1):=by
  unfold Ji;rw[M8,M8];have r:(if SI ⟨.pl c,49⟩then bh else bL bh.length (-1))=bL bh.length (-1):=J
  rw[r]
  have:∀(d:B1)(es:Dx),(∀k∈d,k<Mo row)->d.foldl (λes k=>gB (BD ⟨.pl c,49⟩) (IT.sg<|.pl c) (IT.ot<|.pl c) row bh es<|Yb<|T.int<|((Mo row:Int)-1)-(k:Nat)) es=d.foldl (λes k=>gB Zc [c] Zc row bh es<|row.length-1-k) es:=by
   intro d
   induction d with
   |nil=>intro es _;rfl
   |cons k d j=>
    intro es h;have f:=h k<|eO ..;have m:Yb (T.int<|((Mo row:Int)-1)-(k:Nat))=Mo row-1-k:=by
     show(((Mo row:Int)-1)-(k:Nat)).toNat=_;omega
    rw[uN,uN,m];exact j _ λx g=>h x<|ee _ g
  exact this _ _ λk f=>jL.mp f
 have hr:(bL bh.length (-1:Int)).getD q 0=-1:=by
  rw[gZ,xU,bU<|by omega];rfl
 rw[e,BN _ _ ?_ ?_ q,hr]
 .have i:q∈((cK row.length).map λk=>Mo row-1-k) ↔ q<Mo row:=by
   constructor
   .intro h
    obtain⟨k,f,rfl⟩:=je.mp h
    have:=jL.mp f
    omega
   .intro h
    exact je.mpr ⟨Mo row-1-q,jL.mpr<|by omega,by omega⟩
  by_cases h:q<Mo row/\row.getD q 0=c
  .rw[bU h]
   have g:-1<=bh.getD (q+1) 0:=by
    rw[gZ,c5<|by omega]
    exact n _<|Es _
   by_cases h2:(-1:Int)<bh.getD (q+1) 0
   .rw[bU ⟨i.mpr h.1,h.2,h2⟩]
   .rw[bp λz=>h2 z.2.2];omega
  .rw[bp h,bp λz=>h ⟨i.mp z.1,z.2.1⟩]
 .refine List.pairwise_map.mpr<|M4.imp_of_mem (λ{a b} o s h=>?_) List.nodup_range
  have:=jL.mp o
  have:=jL.mp s
  have h:a≠b:=h;omega
 .intro p l
  obtain⟨k,f,rfl⟩:=je.mp l
  have:=jL.mp f
  rw[kG];omega
def mj(row a:B1)(b:Bool)(q:Nat):Prop:=q+Mo a<=Mo row/\(row.drop q).take a.length=a/\(b=O->q+Mo a=Mo row)
instance (row ws:B1) (b:Bool) (q:Nat):Decidable<|mj row ws b q:=by unfold mj;infer_instance
def Il:BI row (i::its) b=Ji i row (BI row its b):=by
 unfold BI;rw[Em,zU];rfl
def ml:mj row (c::g) b q ↔ (q<Mo row/\row.getD q 0=c)/\mj row g b (q+1):=by
 unfold mj;rw[dM];constructor
 .rintro⟨i,h,f⟩
  have a:q<Mo row:=jd (bD ..) i;rw[rT a,uW]at h;injection h with d e
  refine⟨⟨a,?_⟩,by lia,e,λz=>by have:=f z;lia⟩
  rw[gZ,c5 a];exact d
 .rintro⟨⟨a,d⟩,i,e,f⟩
  rw[gZ,c5 a]at d;have d:row[q]=c:=d;refine⟨by lia,?_,λz=>by have:=f z;lia⟩
  rw[rT a,uW,d,e]
theorem uu:∀(a:B1)(q:Nat),q<=Mo row->(BI row (jY a) b).getD q 0=if mj row a b q then((q+Mo a:Nat):Int)else -1
 |[],q,e=>by
  show(SK row b).getD q 0=_;have d:mj row [] b q ↔ (b=O->q=Mo row):=by
   unfold mj;constructor
   .intro h z;exact h.2.2 z
   .intro h;exact⟨e,J,h⟩
  unfold SK;cases b with
  |false=>
   rw[bp dw,bU (d.mpr λz=>by cases z),gZ,fQ,zN<|by lia]
   show(0:Int)+(q:Nat)=_;rw[z9];rfl
  |true=>
   rw[bU J,gZ];by_cases h:q=Mo row
   .rw[bU<|d.mpr λ_=>h,eZ<|by rw[kG];lia,kG,h,nV];rfl
   .rw[bp λz=>h<|d.mp z J,gY<|by rw[kG];lia,xU,bU<|by lia];rfl
 |c::a,q,e=>by
  have k:(BI row (jY a) b).length=Mo row+1:=nS;have i:∀x∈BI row (jY a) b,-1<=x:=λx f=>by
   obtain⟨j,g,rfl⟩:=List.mem_iff_getElem.mp f
   have:=uu (row:=row) (b:=b) a j (by lia)
   rw[gZ,c5 g]at this;have this:(BI row (jY a) b)[j]=_:=this;rw[this];split<;>lia
  show(BI row (⟨.pl c,49⟩::jY a) b).getD q 0=_;rw[Il,SS k i q e];by_cases h:q<Mo row/\row.getD q 0=c
  .rw[bU h,uu a (q+1)<|by lia]
   by_cases h2:mj row a b (q+1)
   .rw[bU h2,bU<|ml.mpr ⟨h,h2⟩,dM];lia
   .rw[bp h2,bp λz=>h2 (ml.mp z).2]
  .rw[bp h,bp λz=>h (ml.mp z).1]
theorem BO(l:Dx):∀c,(!Ň (nB l c))=O ↔ ∃q∈c,l.getD q 0≠-1
 |[]=>⟨λh=>(by cases h),λ⟨_,h,_⟩=>(by cases h)⟩
 |q::c=>by
  unfold nB;by_cases h:l.getD q 0≠-1
  .rw[bU h]
   exact⟨λ_=>⟨q,eO ..,h⟩,λ_=>J⟩
  .rw[bp h,BO l c]
   exact⟨λ⟨x,a,b⟩=>⟨x,ee _ a,b⟩,λ⟨x,a,b⟩=>⟨x,(cu.mp a).resolve_left λz=>h<|z▸b,b⟩⟩
def OI:mj row [c] Zc q ↔ row[q]?=U c:=by
 unfold mj;constructor
 .rintro⟨d,a,_⟩
  have d:q+1<=Mo row:=d;have b:q<Mo row:=Nat.lt_of_succ_le d;rw[rT b]at a;have a:[row[q]]=[c]:=a;injection a with a
  rw[c5 b,a]
 .intro h
  obtain⟨b,e⟩:=bK.mp h;refine⟨by show q+1<=_;lia,?_,λz=>by cases z⟩
  rw[rT b,e];rfl
def L7(row a:B1):Jj row Zc (jY a) Zc=O ↔ ∃q,q<=Mo row/\mj row a Zc q:=by
 have d:(BI row (jY a) Zc).length=Mo row+1:=nS;have c:DQ row Zc (jY a) Zc=BI row (jY a) Zc:=by
  unfold DQ;rw[bp dw]
 unfold Jj SN;rw[BO,c,d];constructor
 .rintro⟨q,b,h⟩
  have b:=jL.mp b;rw[uu a q<|by lia]at h
  by_cases z:mj row a Zc q
  .exact⟨q,by lia,z⟩
  .rw[bp z]at h;exact ef J h
 .rintro⟨q,b,z⟩
  refine⟨q,jL.mpr<|by lia,?_⟩
  rw[uu a q b,bU z]
  lia
def SW(row b:B1)(f:b≠[]):kD b row=Jj row Zc (jY b) Zc:=by
 rw[zY,L7]
 match b,f with
 |[c],_=>
  unfold kD;rw[oy];constructor
  .intro h
   obtain⟨q,a,e⟩:=List.getElem_of_mem h;exact⟨q,zy a,OI.mpr<|by rw[c5 a,e]⟩
  .rintro⟨q,_,z⟩
   exact gz<|OI.mp z
 |c::d::r,_=>
  unfold kD;rw[Ej];constructor
  .rintro⟨q,a,h⟩
   rw[cL,oy,H9]at h;exact⟨q,by have:=jL.mp a;lia,h.1,h.2,λz=>by cases z⟩
  .rintro⟨q,a,z⟩
   refine⟨q,jL.mpr<|by lia,?_⟩
   rw[cL,oy,H9];exact⟨z.1,z.2.1⟩
structure WV where
 lines:FR
 bm:T
 tl:Nat
 tr:T
 ps:Int
 mt:Nat
 tk:Int
 hand:T
 hr:Int
 sh:Nat
 su:Nat
 no:Nat
 lg:Nat
 wt:Bool
def WV.ob(v:WV):Ob:=⟨24,[.val<|.lst v.lines,.val v.bm,.val<|.own v.tl,.val v.tr,.val<|.int v.ps,.val<|.own v.mt,.val<|.int v.tk,.val v.hand,.val<|.int v.hr,.val<|.own v.sh,.val<|.own v.su,.val<|.own v.no,.val<|.own v.lg,.val<|.bl v.wt]⟩
structure WS(m:FX)(w:Nat)(v:WV)(log:FR):Prop where
 o:m[w]?=U v.ob
 l:m[v.lg]?=U ⟨M.bc,[.ol log]⟩
 ne:v.lg≠w
 sU:Mo log<900000
structure Fr(X:Nat->Prop)(m m':FX):Prop where
 le:Mo m<=Mo m'
 at_:∀k,k<Mo m->¬ X k->m'[k]?=m[k]?
def Fr.refl:Fr X m m:=⟨cV _,λ_ _ _=>J⟩
theorem Fr.trans(a:Fr X m m1)(b:Fr X m1 m2):Fr X m m2:=⟨bG a.le b.le,λk h x=>(b.at_ k (dN h a.le) x).trans<|a.at_ k h x⟩
theorem Fr.set(h:X k):Fr X m<|m.set k ob:=⟨by rw[eT];exact cV _,λj _ x=>cW λ(z:k=j)=>x<|z▸h⟩
def WX(w:Nat)(v:WV)(k:Nat):Prop:=k=w\/k=v.lg
section
variable{m:FX}{v v':WV}
def WS.app(a:WS m w v z)(h:(z++[t]).length<900000):WS (m.set v.lg ⟨M.bc,[.ol<|z++[t]]⟩) w v<|z++[t]:=
 ⟨by rw[cW a.ne];exact a.o,dG (bK.mp a.l).1,a.ne,h⟩
def WS.fld(a:WS m w v z)(h:v'.lg=v.lg):WS (m.set w v'.ob) w v' z:=
 ⟨dG (bK.mp a.o).1,by rw[h,cW<|eL a.ne];exact a.l,by rw[h];exact a.ne,a.sU⟩
def w_fld(c:WS m w v z)(a:jm M.P.tab 24 f=U j)(b:v.ob.fs[j]?=sv t):aE M.P.tab f zA ⟨Kj w::r,m⟩=.ok (t,⟨Kj w::r,m⟩):=nA (k:=w) J c.o a b
def qe(b:WS m w v z)(c:a ⟨Kj w::r,m⟩=.ok (t,⟨Kj w::r,m⟩)):e_ M.bc (aE M.P.tab 29 zA) a ⟨Kj w::r,m⟩=.ok (.nx,⟨Kj w::r,m.set v.lg ⟨M.bc,[.ol<|z++[t]]⟩⟩):=by
 unfold e_;rw[w_fld b (j:=12) (t:=.own v.lg) J J];apply dF;show Res.bind (aZ<|qH M.bc m<|.own v.lg) _=_;rw[pV b.l];apply dF;show Res.bind (a ⟨Kj w::r,m⟩) _=_;rw[c];apply dF;show Res.bind (aZ<|qH M.bc m<|.own v.lg) _=_;rw[pV b.l];apply dF;show Res.bind (aZ<|gd (Mo z<1000000) ()) _=_;rw[jI<|by have:=b.sU;exact dN this<|by decide]
 rfl
def xw(d:WS m w v z)(c:a ⟨Kj w::r,m⟩=.ok (t,⟨Kj w::r,m⟩))(b:dg M.P.tab f (.val t) v.ob=U v'.ob):aJ M.P.tab f zA a ⟨Kj w::r,m⟩=.ok (.nx,⟨Kj w::r,m.set w v'.ob⟩):=by
 unfold aJ;rw[c];apply dF;show Res.bind (aZ<|(m[w]?).bind _) _=_;rw[d.o];show Res.bind (aZ<|dg M.P.tab f (.val t) v.ob) _=_;rw[b];rfl
def SX(f:WS m w v z)(c:fl ⟨Kj w::r,m⟩=.ok (ts,⟨Kj w::r,m⟩))(b:W (aj i (.own w::ts) m) Q):W (aP (aA (au [(24,i)] aj) zA fl) ⟨Kj w::r,m⟩) λp=>p.1=.nx/\p.2.r=Kj w::r/\∃u,Q (u,p.2.m):=by
 obtain⟨⟨u,a⟩,e,q⟩:=b;have d:aA (au [(24,i)] aj) zA fl ⟨Kj w::r,m⟩=.ok (u,⟨Kj w::r,a⟩):=Bp (k:=w) (ob:=v.ob) (s1:=⟨Kj w::r,m⟩) (s2:=⟨Kj w::r,m⟩) J f.o J c e;refine⟨(.nx,⟨Kj w::r,a⟩),?_,J,J,u,q⟩;unfold aP;rw[d];rfl
def OJ(g:WS m w v z)(b:jm M.P.tab 24 f=U j)(d:v.ob.fs[j]?=sv (.int i))(a:(⟨24,v.ob.fs.set j<|.val<|.int<|i+1⟩:Ob)=v'.ob):pJ M.P.tab f gF zA zI ⟨Kj w::r,m⟩=.ok (.nx,⟨Kj w::r,m.set w v'.ob⟩):=by
 have e:gG M.P.tab f m (.own w)=U (w,v.ob,j,.val<|.int i):=by
  show(m[w]?).bind _=_;rw[g.o];show(jm M.P.tab 24 f).bind _=_;rw[b];show(v.ob.fs[j]?).map _=_;rw[d];rfl
 unfold pJ;show Res.bind (aZ<|gG M.P.tab f m<|.own w) _=_;rw[e];apply dF;show Res.bind (aZ<|gG M.P.tab f m<|.own w) _=_;rw[e];apply dF;show Res.bind (aZ<|gd (v.ob.c=v.ob.c) ()) _=_;rw[jI J];show Res.ok (Out.nx,(⟨Kj w::r,m.set w ⟨v.ob.c,v.ob.fs.set j<|.val<|.int<|i+1⟩⟩:S))=_;rw[show v.ob.c=24 from J,a]
def Yi{B:FS}(b:WS m w v z)(hl:Mo z+1<900000)(c:a ⟨Kj w::r,m⟩=.ok (t,⟨Kj w::r,m⟩))(k:∀m',WS m' w v (z++[t])->Fr (WX w v) m m'->W (B ⟨Kj w::r,m'⟩) Q):W (ah (e_ M.bc (aE M.P.tab 29 zA) a) B ⟨Kj w::r,m⟩) Q:=iC<|W.of (qe b c) ⟨J,k _ (b.app<|by simpa using hl)<|Fr.set<|.inr J⟩
def SY{B:FS}(b:WS m w v z)(v':WV)(d:v'.lg=v.lg)(e:a ⟨Kj w::r,m⟩=.ok (t,⟨Kj w::r,m⟩))(c:dg M.P.tab f (.val t) v.ob=U v'.ob)(k:∀m',WS m' w v' z->Fr (WX w v) m m'->W (B ⟨Kj w::r,m'⟩) Q):W (ah (aJ M.P.tab f zA a) B ⟨Kj w::r,m⟩) Q:=iC<|W.of (xw b e c) ⟨J,k _ (b.fld d)<|Fr.set<|.inl J⟩
def qg{Q:Out×S->Prop}(h:WS m w v z)(d:fl ⟨Kj w::r,m⟩=.ok (ts,⟨Kj w::r,m⟩))(c:W (aj i (.own w::ts) m) R)(k:∀u m',R (u,m')->Q (.nx,⟨Kj w::r,m'⟩)):W (aP (aA (au [(24,i)] aj) zA fl) ⟨Kj w::r,m⟩) Q:=by
 refine(SX (r:=r) h d c).mono λp b=>?_;obtain⟨g,f,u,e⟩:=b;obtain⟨o,pr,a⟩:=p;cases g;cases f;exact k u a e
def WR(w:Nat)(a v:WV)(z:FR)(m0:FX)(p:T×FX):Prop:=p.1=.non/\WS p.2 w v z/\Fr (WX w a) m0 p.2
abbrev fL(i:Int):T:=.tup [.str [119,97,110,116],.int<|i+1]
def L8(a:WS m w v z)(hl:Mo z+1<900000):W (cN (n+1) 66 [.own w] m)<|WR w v {v with wt:=O} (z++[fL v.tk]) m:=by
 rw[w66];have b:=a.app (t:=fL v.tk) (by simpa using hl)
 have c:=b.fld (v':={v with wt:=O}) J
 refine gI J<|iC<|W.of (qe a (t:=fL v.tk) (r:=[]) ?_) ⟨J,W.of (xw b (t:=.bl O) (v':={v with wt:=O}) J J) ⟨J,J,c,(Fr.set<|.inr J).trans<|Fr.set<|.inl J⟩⟩
 exact dJ (aw (t:=.str [119,97,110,116]) J<|aw (aF (w_fld a (j:=6) (t:=.int v.tk) J J) J J) J) J
def uv(a:WS m w v z)(hl:Mo z+1<900000):W (cN (n+1) 74 [.own w,t] m)<|WR w v v (z++[.tup [.str zg,t]]) m:=by
 rw[w74];have b:=a.app (t:=.tup [.str zg,t]) (by simpa using hl)
 refine gI J<|W.of (qe a (t:=.tup [.str zg,t]) (r:=[sv t]) ?_) ⟨J,J,b,Fr.set<|.inr J⟩;exact dJ (aw (t:=.str zg) J<|aw (t:=t) J J) J
def L_(a:WS m w v z)(hl:Mo z+1<900000):W (cN (n+1) 73 [.own w] m)<|WR w v v (z++[.tup [.str [110,111,110,101],.int<|v.tk+1]]) m:=by
 rw[w73];have b:=a.app (t:=.tup [.str [110,111,110,101],.int<|v.tk+1]) (by simpa using hl)
 refine gI J<|W.of (qe a (t:=.tup [.str [110,111,110,101],.int<|v.tk+1]) (r:=[]) ?_) ⟨J,J,b,Fr.set<|.inr J⟩;exact dJ (aw (t:=.str [110,111,110,101]) J<|aw (aF (w_fld a (j:=6) (t:=.int v.tk) J J) J J) J) J
end
section
variable{m:FX}{t:T}
abbrev BP:T:=.tup [.str [111,118,101,114]]
abbrev BQ(t:T):T:=.tup [.str zg,t]
def BR(e:WS m w v p)(hl:Mo p+2<900000):W (cN (n+2) 75 [.own w] m)<|WR w v {v with hand:=.non,hr:=0,ps:=0,wt:=O} (p++[BP]++[fL v.tk]) m:=by
 rw[w75];refine gI J<|Yi (r:=[]) (t:=BP) e (by lia) J λm1 d j=>SY d {v with hand:=.non} J J J λm2 c i=>SY c {v with hand:=.non,hr:=0} J J J λm3 b g=>SY b {v with hand:=.non,hr:=0,ps:=0} J J J λm4 a f=>qg a J (L8 n a<|by simp;exact hl) λ_ m5 h=>⟨J,J,h.2.1,(((j.trans i).trans g).trans f).trans h.2.2⟩
def Ma(a:WS m w v p)(hl:Mo p+3<900000):W (cN (n+3) 76 [.own w] m)<|WR w v {v with hand:=.non,hr:=0,ps:=0,wt:=O} (p++[BQ v.hand]++[BP]++[fL v.tk]) m:=by
 rw[w76];exact gI J<|iC<|qg (r:=[]) (ts:=[v.hand]) a (aw (w_fld a (j:=7) J J) J) (uv (n+1) a<|by lia) λ_ m1 h=>⟨J,qg h.2.1 J (BR n h.2.1<|by simp;exact hl) λ_ m2 b=>⟨J,J,b.2.1,h.2.2.trans b.2.2⟩⟩
end
def WE(E:FR->Prop)(x:Res α)(Q:α->Prop):Prop:=match x with
 |.ok a=>Q a
 |.exc _ fs _=>E fs
 |.bad=>False
section
variable{x:Res α}{f:α->Res j}{P Q:α->Prop}
def WE.mono(h:WE E x Q)(k:∀a,Q a->P a):WE E x P:=by
 cases x with
 |ok a=>exact k a h
 |exc=>exact h
 |bad=>exact h
theorem WE.bind(h:WE E x λa=>WE E (f a) R):WE E (x.bind f) R:=by
 cases x with
 |ok a=>exact h
 |exc=>exact h
 |bad=>exact h.elim
def W.e(h:W x Q):WE E x Q:=by
 obtain⟨a,rfl,q⟩:=h;exact q
def W.k(h:W x Q):W (DM x) Q:=by
 obtain⟨a,rfl,q⟩:=h;exact⟨a,J,q⟩
def Im(h:x=.ok a):DM x=.ok a:=by rw[h];rfl
end
section
variable{A B:FS}{u:Out×S->Prop}{G:T×FX->Prop}{fl:FL}{g:Fn}
def xx(h:WE E (A s) λp=>p.1=.nx/\WE E (B p.2) u):WE E (ah A B s) u:=WE.bind<|h.mono λp a=>by
 obtain⟨e,k⟩:=a;obtain⟨o,s'⟩:=p;cases e;exact k
def ň(h:WE E (A s) λp=>∃t,p.1=.rt t/\u p):WE E (ah A B s) u:=WE.bind<|h.mono λp a=>by
 obtain⟨t,e,k⟩:=a;obtain⟨o,s'⟩:=p;cases e;exact k
def xR(h:W (A s) λp=>p.1=.nx/\WE E (B p.2) u):WE E (ah (jH A) B s) u:=xx<|W.e<|W.k h
def Io(e:c s=.ok (O,s'))(h:WE E (A s') u):WE E (aV (gX c) A B s) u:=WE.bind<|W.e ⟨_,Im e,h⟩
def Du(e:c s=.ok (Zc,s'))(h:WE E (B s') u):WE E (aV (gX c) A B s) u:=WE.bind<|W.e ⟨_,Im e,h⟩
def qK{a n:Nat}(h:Mo ts=a)(k:WE E (B ⟨ts.map (λt=>sv t)++bL (n-Mo ts) Y,m⟩) λp=>(p.1=.nx/\G (.non,p.2.m))\/∃t,p.1=.rt t/\G (t,p.2.m)):WE E (aI a n B ts m) G:=by
 unfold aI;rw[bU h];refine WE.bind<|k.mono λp b=>?_;rcases b with⟨e,q⟩|⟨t,e,q⟩<;>(rw[e];exact q)
def Ul(d:o s=.ok (.own k,s))(f:s.m[k]?=U ob)(h:ob.c=cl)(i:fl s=.ok (ts,s1))(a:WE E (g (.own k::ts) s1.m) λq=>u (.nx,⟨s1.r,q.2⟩)):WE E (jX cl g o fl s) u:=by
 unfold jX;have e:Ud cl s.m (.own k)=U ():=by
  show(s.m[k]?).bind _=_;rw[f];exact bU h
 refine WE.bind<|W.e ⟨_,Im d,?_⟩;dsimp only;rw[e];refine WE.bind<|W.e ⟨_,Im J,WE.bind<|W.e ⟨_,Im i,?_⟩⟩;dsimp only;cases b:g (.own k::ts) s1.m with
 |ok q=>rw[b]at a;exact a
 |exc c fs s=>rw[b]at a;exact a
 |bad=>rw[b]at a;exact a
def Ip(b:c s=.ok (O,s1))(h:WE E (B s1) λq=>q.1=.nx/\WE E (aO (gX c) B k q.2) u):WE E (aO (gX c) B (k+1) s) u:=by
 refine WE.bind<|W.e ⟨_,Im b,?_⟩;show WE E (Res.bind (B s1) _) u;refine WE.bind<|h.mono λq a=>?_;rw[a.1];exact a.2
def Mb(a:c s=.ok (Zc,s1))(h:u (.nx,s1)):WE E (aO (gX c) B (k+1) s) u:=WE.bind<|W.e ⟨_,Im a,h⟩
def vRs(h:fl s=.ok ([.int i,.int j],s'))(e:E [.int i,.int j]):WE E (Zq fl s) u:=WE.bind<|W.e ⟨_,Im h,e⟩
end
def Yj:T->FR
 |.tup<|.str nm::ys=>if nm=zg then ys.take 1 else[]
 |_=>[]
def LgO(e:T):Prop:=∃b a,e=.tup (.str b::a)/\(b=zg->∃x,a=[x])
def eqS(a b:B1):aN .Eq (.str a) (.str b)=U (.bl<|decide<|a=b):=J
theorem xy:∀(b:FR)(m:FX),(∀e∈b,LgO e)->c_ (setG 1) (b9<|oE (oI zB zO)<|cS zg) (oI zB zI) [Y,Y] b m=.ok (b.flatMap Yj,m)
 |[],_,_=>J
 |e::b,m,h=>by
  obtain⟨a,d,rfl,g⟩:=h e<|eO ..;have f:=xy b m λe i=>h e<|ee _ i;have c:b9 (oE (oI zB zO)<|cS zg) ⟨[Y,sv<|.tup<|.str a::d],m⟩=.ok (decide<|a=zg,⟨[Y,sv<|.tup<|.str a::d],m⟩):=by
   have l:il (.tup<|.str a::d) (.int 0)=U (.str a):=by
    show atT (T.str a::d) (((0:Nat)):Int)=_;rw[jx<|by simp];rfl
   have j:oE (oI zB zO) (cS zg) ⟨[Y,sv<|.tup<|.str a::d],m⟩=.ok (.bl<|decide<|a=zg,⟨[Y,sv<|.tup<|.str a::d],m⟩):=aF (aF (t:=.tup<|.str a::d) (u:=.int 0) J J l) J<|eqS _ _;unfold b9;rw[j];rfl
  rw[c_];apply dF;show Res.bind (b9 _ ⟨[Y,sv<|.tup<|.str a::d],m⟩) _=_;rw[c];apply dF;rw[List.flatMap_cons];by_cases hn:a=zg
  .obtain⟨x,rfl⟩:=g hn
   have k:oI zB zI ⟨[Y,sv<|.tup [.str a,x]],m⟩=.ok (x,⟨[Y,sv<|.tup [.str a,x]],m⟩):=by
    refine aF (t:=.tup [.str a,x]) (u:=.int 1) J J ?_;show atT [T.str a,x] (((1:Nat)):Int)=_;rw[jx<|by simp];rfl
   dsimp only;rw[c4 hn,bU J,k];apply dF;dsimp only;rw[f];show Res.ok (x::b.flatMap Yj,m)=Res.ok ((if a=zg then[x].take 1 else[])++b.flatMap Yj,m)
   rw[bU hn];rfl
  .dsimp only
   rw[b0 hn,bp dw,f];show _=Res.ok ((if a=zg then d.take 1 else[])++b.flatMap Yj,m)
   rw[bp hn];rfl
structure GV(log:FR)(rows:Ap):Prop where
 ok:∀e∈log,LgO e
 gv:log.flatMap Yj=rows.map T.str
def Mc(h:nm≠zg)(G:GV u p):GV (u++[.tup<|.str nm::ys]) p:=⟨λe a=>by
 rcases i6.mp a with a|a
 .exact G.ok e a
 .rw[iF.mp a];exact⟨nm,ys,J,λz=>ef z h⟩,by
 rw[M9,G.gv];show _++((if nm=zg then ys.take 1 else[])++[])=_
 rw[bp h,bF,bF]⟩
def ZF(G:GV u p):GV (u++[BQ<|.str x])<|p++[x]:=⟨λe a=>by
 rcases i6.mp a with a|a
 .exact G.ok e a
 .rw[iF.mp a];exact⟨_,_,J,λ_=>⟨_,J⟩⟩,by
 rw[M9,G.gv,eF];rfl⟩
def WG(m:FX)(w:Nat)(v:WV)(gv:Ap)(lc:Nat):Prop:=∃a,WS m w v a/\GV a gv/\a.length<=lc
abbrev WV.rest(v:WV):WV:={v with hand:=.non,hr:=0,ps:=0,wt:=O}
def DD.gv(x:B1):DD->Ap
 |.print=>[x]
 |.say l=>[l]
 |_=>[]
def DD.Yk(k:Nat)(v:WV):DD->WV
 |.drop=>v.rest
 |.go=>{v with ps:=1+k}
 |_=>v
section
variable{m:FX}{w k lc:Nat}
def Iq(l:B1)(a:WS m w v z)(hl:Mo z+1<900000):W (cN (n+2) 78 [.own w,(DD.say l).val] m)<|WR w v v (z++[BQ<|.str l]) m:=by
 rw[w78];exact gI J<|mh J<|qg (r:=[sv (DD.say l).val]) (ts:=[.str l]) a J (uv n a hl) λ_ m1 h=>⟨J,J,h.2⟩
def Yl(d:DD)(H:WG m w v gv lc)(c:v.hand=.str x)(e:v.bm=dR (.int<|1+k))(hl:lc+5<800000):W (cN (n+4) 77 [.own w,d.val,u] m) λp=>WG p.2 w (d.Yk k v) (gv++d.gv x) (lc+3)/\Fr (WX w v) m p.2:=by
 obtain⟨z,a,G,b⟩:=H;rw[w77];have f:aE M.P.tab 24 zA ⟨Kj w::[sv d.val,sv u],m⟩=.ok (.str x,⟨Kj w::[sv d.val,sv u],m⟩):=by rw[<- c];exact w_fld a (j:=7) J J
 cases d with
 |drop=>exact gI J<|mh J<|qg (r:=[sv DD.drop.val,sv u]) (ts:=[]) a J (BR (n+1) a<|by lia) λ_ m1 h=>⟨J,⟨_,h.2.1,by show GV _<|gv++[];rw[bF];exact Mc (by decide)<|Mc (by decide) G,by simp;exact bG b<|bD ..⟩,h.2.2⟩
 |print=>exact gI J<|dC J<|mh J<|qg (r:=[sv DD.print.val,sv u]) (ts:=[.str x]) a (aw f J) (uv (n+2) a<|by lia) λ_ m1 h=>⟨J,⟨_,h.2.1,ZF G,by simp;exact bG b<|bD ..⟩,h.2.2⟩
 |mark=>exact gI J<|dC J<|dC J<|dC J<|dC J<|dC J<|dC J<|dC J<|dC J<|dC J ⟨_,J,J,⟨_,a,by show GV _<|gv++[];rw[bF];exact G,bG b<|bD ..⟩,Fr.refl⟩
 |go=>
  refine gI J<|dC J<|dC J<|dC J<|dC J<|dC J<|dC J<|mh J<|W.of (xw (r:=[sv DD.go.val,sv u]) a (t:=.int<|1+k) (v':={v with ps:=1+k}) (aF (t:=dR<|.int<|1+k) (u:=.str dY) (by rw[<- e];exact w_fld a (j:=1) J J) J J) J) ⟨J,⟨_,a.fld J,?_,bG b<|bD ..⟩,Fr.set<|.inl J⟩
  show GV _<|gv++[];rw[bF];exact G
 |say l=>exact gI J<|dC J<|dC J<|dC J<|dC J<|dC J<|dC J<|dC J<|dC J<|mh J<|qg (r:=[sv (DD.say l).val,sv u]) (ts:=[(DD.say l).val]) a J (Iq (n+1) l a<|by lia) λ_ m1 h=>⟨J,⟨_,h.2.1,ZF G,by simp;exact bG b<|bD ..⟩,h.2.2⟩
end
abbrev BS(i:Int)(b:Bool):T:=.tup [.str [109,101,101,116],.int i,.bl b]
def CV.en?:CV->Bool
 |.en=>O
 |_=>Zc
def LN.gv(x:B1)(l:LN)(b:Bool):Ap:=if b then l.d.gv x else[]
def LN.Yk(k:Nat)(v:WV)(l:LN)(b:Bool):WV:=if b then l.d.Yk k v else v
def WQ(w:Nat)(v:WV)(k:Nat):Prop:=k=v.mt\/WX w v k
section
variable{E:FR->Prop}{m m1 m':FX}{w k lc j f:Nat}{v v':WV}{S ts:FR}{gv p:Ap}{t u:T}{r:Fs}{a:FE}
def Fr.mono{X c:Nat->Prop}(h:Fr X m m')(k:∀j,X j->c j):Fr c m m':=⟨h.le,λj a b=>h.at_ j a λz=>b<|k j z⟩
def Fr.get(h:Fr X m m')(e:m[k]?=U ob)(x:¬ X k):m'[k]?=U ob:=(h.at_ k (bK.mp e).1 x).trans e
def uw(l:LN):jb M.P.sub [9] l.c.val=U (.bl l.c.en?):=by
 obtain⟨c,d⟩:=l;cases c with
 |li g w=>cases g<;>rfl
 |_=>rfl
def WG.up(H:WG m w v gv lc)(h:lc<=j):WG m w v gv j:=by
 obtain⟨l,a,b,c⟩:=H;exact⟨l,a,b,bG c h⟩
def Me{l:LN}(he:l.c.en?=O)(h:Q (.non,m)):WE E (cN (n+1) 70 [.own w,l.val,.int R] m) Q:=by
 rw[ļ];exact qK J<|ň<|Io (s':=⟨[sv<|.own w,sv l.val,J4 R,Y],m⟩) (mi (t:=l.c.val) J<|(uw l).trans<|by rw[he]) ⟨.non,J,.inr ⟨.non,J,h⟩⟩
def Mf{l:LN}(he:l.c.en?=Zc)(a:WS m w v S)(b:m[v.mt]?=U ⟨M.bc,[.od ks ts]⟩)(d:Ky.i R∈ks)(h:E [.int v.tk,.int R]):WE E (cN (n+1) 70 [.own w,l.val,.int R] m) Q:=by
 rw[ļ];exact qK J<|xx<|Du (s':=⟨[sv<|.own w,sv l.val,J4 R,Y],m⟩) (mi (t:=l.c.val) J<|(uw l).trans<|by rw[he]) ⟨J,xx<|Io (s':=⟨[sv<|.own w,sv l.val,J4 R,Y],m⟩) ((LX (neg:=Zc) (ky:=.i R) J (w_fld a (j:=5) J J) J b).trans<|by rw[bp dw,c4 d])<|vRs (aw (w_fld a (j:=6) J J) J) h⟩
def Mg{l:LN}(he:l.c.en?=Zc)(H:WG m w v gv lc)(L:v.hand=.str x)(P:v.bm=dR (.int<|1+k))(g:m[v.mt]?=U ⟨M.bc,[.od ks ts]⟩)(f:¬ WX w v v.mt)(A:Ky.i R∉ks)(I:Mo ks<1000000)(D:v.tr=.lst tr)(K:Au (.lst tr) (.int<|R-1)=U (.bl b))(hl:lc+7<800000) :
  WE E (cN (n+5) 70 [.own w,l.val,.int R] m) λp=>WG p.2 w (l.Yk k v b) (gv++l.gv x b) (lc+4)/\p.2[v.mt]?=U ⟨M.bc,[.od (ks++[.i R])<|ts++[.bl O]]⟩/\Fr (WQ w v) m p.2:=by
 rw[ļ];obtain⟨m0,r⟩:∃m0,m0=m.set v.mt ⟨M.bc,[.od (ks++[.i R])<|ts++[.bl O]]⟩:=⟨_,J⟩;have F:Fr (λj=>j=v.mt) m m0:=by rw[r];exact Fr.set J
 have ÿ:m0[v.mt]?=U ⟨M.bc,[.od (ks++[.i R])<|ts++[.bl O]]⟩:=by rw[r];exact dG (bK.mp g).1
 have C:Fr (WQ w v) m m0:=F.mono λ_=>.inl;have keep:∀{m1},Fr (WX w v) m0 m1->m1[v.mt]?=U ⟨M.bc,[.od (ks++[.i R])<|ts++[.bl O]]⟩:=λG=>G.get ÿ f;obtain⟨S,a,G,N⟩:=H;have y:WS m0 w v S:=⟨F.get a.o λz=>f<|.inl z.symm,F.get a.l λz=>f<|.inr z.symm,a.ne,a.sU⟩;refine qK J<|xx<|Du (s':=⟨[sv<|.own w,sv l.val,J4 R,Y],m⟩) (mi (t:=l.c.val) J<|(uw l).trans<|by rw[he]) ⟨J,xx<|Du (s':=⟨[sv<|.own w,sv l.val,J4 R,Y],m⟩) ((LX (neg:=Zc) (ky:=.i R) J (w_fld a (j:=5) J J) J g).trans<|by rw[bp dw,b0 A]) ⟨J,xR<|W.of (Ye (ky:=.i R) J (w_fld a (j:=5) J J) J J g A I) ⟨J,?_⟩⟩⟩
 show WE E (ah _ _ ⟨Kj w::[sv l.val,J4 R,Y],m.set v.mt ⟨M.bc,[.od (ks++[.i R])<|ts++[.bl O]]⟩⟩) _;rw[<- r];refine xR<|W.of (dU<|aF (t:=.lst tr) (u:=.int<|R-1) (by rw[<- D];exact w_fld y (j:=3) J J) J K) ⟨J,?_⟩
 show WE E (ah _ _ ⟨Kj w::[sv l.val,J4 R,sv<|.bl b],m0⟩) _;have s:=y.app (t:=BS R b) (by rw[cQ];show _+1<_;lia)
 refine xR<|W.of (qe y (t:=BS R b) J) ⟨J,?_⟩;obtain⟨m1,q⟩:∃m1,m1=m0.set v.lg ⟨M.bc,[.ol<|S++[BS R b]]⟩:=⟨_,J⟩;have F1:Fr (WX w v) m0 m1:=by rw[q];exact Fr.set<|.inr J
 rw[<- q]at s;show WE E (aV _ _ _ ⟨Kj w::[sv l.val,J4 R,sv<|.bl b],m0.set v.lg ⟨M.bc,[.ol<|S++[BS R b]]⟩⟩) _;rw[<- q];have B:WG m1 w v gv<|lc+1:=⟨_,s,Mc (by decide) G,by rw[cQ];show _+1<=_;exact xT N _⟩
 cases b with
 |false=>exact Du J<|.inl ⟨J,by show WG m1 w v (gv++[]) _;rw[bF];exact B.up<|by lia,keep F1,C.trans<|F1.mono λ_=>.inr⟩
 |true=>
  obtain⟨c,d⟩:=l;exact Io J<|W.e<|W.k<|qg (ts:=[d.val,.int R]) s J (Yl n d B L P<|by lia) λ_ m2 h=>.inl ⟨J,h.1.up<|cV _,keep<|F1.trans h.2,C.trans<|(F1.trans h.2).mono λ_=>.inr⟩
def atL{p:Nat}(h:p<Mo l):Au (.lst l) (.int (p:Int))=U l[p]:=by
 show atT l (p:Int)=_;rw[jx h,c5 h]
def ixP{α:Type}(g:α->T){y:List α}{p:Nat}(h:p<Mo y):Au (.lst<|y.map g) (.int<|(p:Int)+1-1)=U (g y[p]):=by
 rw[show(p:Int)+1-1=(p:Int) by lia,atL<|by rw[cz];exact h,List.getElem_map]
def Ym{L:List LN}(b:WS m w v S)(a:v.lines=L.map LN.val):bV cX (k1<|aE M.P.tab 0 zA) ⟨Kj w::r,m⟩=.ok (.int L.length,⟨Kj w::r,m⟩):=dJ (ts:=[.lst<|L.map LN.val]) (aw (by rw[<- a];exact w_fld b (j:=0) J J) J) (by
 show U (T.int (L.map LN.val).length)=_;rw[cz])
def OL{L:List LN}{p:Nat}{Q:T×FX->Prop}(b:WS m w v S)(d:v.lines=L.map LN.val)(f:p<Mo L)(c:v.ps=(p:Nat))(h:∀m1,WS m1 w {v with ps:=(p:Nat)+1} S->Fr (WX w v) m m1->WE E (cN (n+5) 70 [.own w,L[p].val,.int<|(p:Nat)+1] m1) λq=>Q (.non,q.2)):WE E (cN (n+6) 69 [.own w] m) Q:=by
 rw[w69];refine qK J<|Du (s':=⟨[sv<|.own w],m⟩) (gJ<|aF (t:=.int p) (by rw[<- c];exact w_fld b (j:=4) J J) (Ym b d)<|by rw[HX,b0<|by lia]) ?_
 have a:=b.fld (v':={v with ps:=(p:Nat)+1}) J
 refine xR<|W.of (OJ (r:=[]) b (v':={v with ps:=(p:Nat)+1}) (j:=4) (i:=(p:Nat)) J (by rw[<- c];rfl) J) ⟨J,Ul (k:=w) (ob:={v with ps:=(p:Nat)+1}.ob) J a.o J (aw (aF (t:=.lst<|L.map LN.val) (by rw[<- d];exact w_fld (r:=[]) a (j:=0) J J) (aF (t:=.int<|(p:Nat)+1) (w_fld (r:=[]) a (j:=4) J J) J J)<|ixP LN.val f)<|aw (w_fld (r:=[]) a (j:=4) J J) J)<|(h _ a<|Fr.set<|.inl J).mono λq e=>.inl ⟨J,e⟩⟩
def S8(a:WS m w v S)(c:v.lines=L.map LN.val)(b:v.ps=(Mo L:Nat))(hl:Mo S+3<900000):WE E (cN (n+6) 69 [.own w] m) λp=>WS p.2 w v.rest (S++[BQ v.hand]++[BP]++[fL v.tk])/\Fr (WX w v) m p.2:=by
 rw[w69];exact qK J<|Io (s':=⟨[sv<|.own w],m⟩) (gJ<|aF (t:=.int L.length) (u:=.int L.length) (by rw[<- b];exact w_fld a (j:=4) J J) (Ym a c)<|by rw[HX,c4 J])<|W.e<|W.k<|qg (r:=[]) a J (Ma (n+2) a hl) λ_ m1 h=>.inl ⟨J,h.2⟩
end
def dj(x:B1):List (LN×Bool)->Ap×Bool
 |[]=>([x],Zc)
 | (l,b)::r=>if(!l.c.en?&&b)=O then(match l.d with
  |.drop=>([],Zc)
  |.go=>([],O)
  |.mark=>dj x r
  |.print=>(x::(dj x r).1,(dj x r).2)
  |.say s=>(s::(dj x r).1,(dj x r).2))else dj x r
structure PG(L:List LN)(k:Nat):Prop where
 bh:∀h:k+1<Mo L,L[k+1].c.en?=Zc
 go:∀(i:Nat)(h:i<Mo L),L[i].d=.go->k+1<=i
section
variable{m m1 m':FX}{w k lc p f:Nat}{v v':WV}
def Ir(a:WS m w v log):dZ (D.tB<|aE M.P.tab 30 zA) ⟨Kj w::r,m⟩=.ok (!v.wt,⟨Kj w::r,m⟩):=by
 unfold dZ D.tB;rw[w_fld a (j:=13) (t:=.bl v.wt) J J];rfl
def Ŋ{n e:Nat}(a:WS m w v log)(b:v.wt=Zc)(h:WE E (cN (n+6) 69 [.own w] m) λp=>WE E (aO (gX<|dZ<|D.tB<|aE M.P.tab 30 zA) (jX 24 (cN (n+6) 69) zA aY) e ⟨Kj w::r,p.2⟩) Q):WE E (aO (gX<|dZ<|D.tB<|aE M.P.tab 30 zA) (jX 24 (cN (n+6) 69) zA aY) (e+1) ⟨Kj w::r,m⟩) Q:=by
 have c:=Ir (r:=r) a;rw[b]at c;exact Ip c<|Ul (k:=w) J a.o J J<|h.mono λ_ q=>⟨J,q⟩
theorem BU(n:Nat)(hb:Mo bs=Mo L)(P:PG L k)(W:j2=(k:Int)+2):∀(d:Nat){m:FX}{v:WV}{gv:Ap}{lc:Nat}{ks:List Ky}{ts:FR}{p e:Nat},p+d=Mo L->WG m w v gv lc->v.hand=.str x->v.bm=dR (.int<|1+k)->v.tk=tk->m[v.mt]?=U ⟨M.bc,[.od ks ts]⟩->¬ WX w v v.mt->v.lines=L.map LN.val->v.tr=.lst (bs.map T.bl)->v.wt=Zc->v.ps=(p:Nat)->(∀q:Nat,p<q->Ky.i (q:Nat)∉ks)->(∀(i:Nat)(h:i<Mo L),i<p->L[i].c.en?=Zc->Ky.i ((i:Int)+1)∈ks)->Mo ks<=p->p+d<=30->lc+4*d+8<800000->((dj x<|(L.zip bs).drop p).2=O->E [.int tk,.int j2]) ->
  WE E (aO (gX<|dZ<|D.tB<|aE M.P.tab 30 zA) (jX 24 (cN (n+6) 69) zA aY) (e+d+2) ⟨Kj w::r,m⟩) λq=>q.1=.nx/\q.2.r=Kj w::r/\(dj x<|(L.zip bs).drop p).2=Zc/\WG q.2.m w v.rest (gv++(dj x<|(L.zip bs).drop p).1) (lc+4*d+3)/\Fr (WQ w v) m q.2.m
 |0,m,v,gv,lc,ks,ts,p,e,hd,H,X,Mh,CD,hm,K,Q,ht,N,kE,F,u,y,hp,hl,a=>by
  obtain⟨log,S,G,hg⟩:=H;refine Ŋ S N<|(S8 n S Q (by rw[kE];lia)<|by lia).mono λq h=>?_
  refine Mb (Ir h.1) ⟨J,J,?_,?_,h.2.mono λj W=>.inr W⟩<;>rw[List.drop_eq_nil_of_le<|by rw[Cj];lia]
  .rfl
  .refine⟨_,h.1,?_,by simp;exact hg⟩
   rw[X];exact Mc (by decide)<|Mc (by decide)<|ZF G
 |d+1,m,v,gv,lc,ks,ts,p,e,hd,H,X,Mh,CD,hm,K,Q,ht,N,kE,F,u,y,hp',hl,a=>by
  have hp:p<Mo L:=by lia
  have hpb:p<Mo bs:=by lia
  have ed:(L.zip bs).drop p=(L[p],bs[p])::(L.zip bs).drop (p+1):=by
   rw[rT<|by rw[Cj];lia,List.getElem_zip]
  obtain⟨log,S,G,hg⟩:=id H;rw[ed]at a ⊢;refine Ŋ (e:=e+d+2) S N<|OL n S Q hp kE λm1 B F1=>?_;have H1:WG m1 w {v with ps:=(p:Nat)+1} gv lc:=⟨_,B,G,hg⟩
  have OM:=F1.get hm K;have V:Fr (WQ w v) m m1:=F1.mono λ_=>.inr;have go:∀{m2:FX}{g:Ap}{Z:List Ky}{I:FR},WG m2 w {v with ps:=(p:Nat)+1} (gv++g) (lc+4)->m2[v.mt]?=U ⟨M.bc,[.od Z I]⟩->(Z=ks++[.i<|(p:Nat)+1]\/(Z=ks/\L[p].c.en?=O))->Fr (WQ w v) m m2->((dj x<|(L.zip bs).drop<|p+1).2=O->E [.int tk,.int j2]) ->
    WE E (aO (gX<|dZ<|D.tB<|aE M.P.tab 30 zA) (jX 24 (cN (n+6) 69) zA aY) (e+d+2) ⟨Kj w::r,m2⟩) λq=>q.1=.nx/\q.2.r=Kj w::r/\(dj x<|(L.zip bs).drop<|p+1).2=Zc/\WG q.2.m w v.rest (gv++(g++(dj x<|(L.zip bs).drop<|p+1).1)) (lc+4*(d+1)+3)/\Fr (WQ w v) m q.2.m:=λ{m2 g Z I} H2 A t F2 ZH=>by
   refine(BU n hb P W d (p:=p+1) (e:=e) (by lia) H2 X Mh CD A K Q ht N (by show(p:Int)+1=_;lia) (λq C z=>?_) (λi hi hip o=>?_) ?_ (by lia) (by lia) ZH).mono λq C=>?_
   .rcases t with rfl|⟨rfl,_⟩
    .rcases i6.mp z with z|z
     .exact F q (jd (bD ..) C) z
     .have:=iF.mp z
      injection this with this
      lia
    .exact F q (jd (bD ..) C) z
   .rcases t with rfl|⟨rfl,h4⟩
    .by_cases z:i=p
     .subst z;exact mU _<|iF.mpr J
     .exact zH _<|u i hi (by lia) o
    .by_cases z:i=p
     .subst z;rw[h4]at o;cases o
     .exact u i hi (by lia) o
   .rcases t with rfl|⟨rfl,_⟩
    .rw[cQ];show _+1<=_;exact xT y _
    .exact bG y<|bD ..
   .obtain⟨k1,k2,k3,k4,k5⟩:=C
    exact⟨k1,k2,k3,by rw[<- fB];exact k4.up<|by lia,F2.trans k5⟩
  by_cases o:L[p].c.en?=O
  .have er:dj x ((L[p],bs[p])::(L.zip bs).drop (p+1))=dj x ((L.zip bs).drop<|p+1):=by rw[dj,bp<|by rw[o];exact dw]
   rw[er]at a ⊢;refine Me (n+4) o<|go (g:=[]) ?_ OM (.inr ⟨J,o⟩) V a;rw[bF];exact H1.up<|bD ..
  have o:L[p].c.en?=Zc:=by simpa using o
  refine(Mg n (x:=x) (k:=k) (b:=bs[p]) o H1 X Mh OM K (F (p+1)<|mT p) (by lia) ht (ixP T.bl hpb)<|by lia).mono λq C=>?_
  obtain⟨f,A,t⟩:=C;have t:Fr (WQ w v) m q.2:=V.trans ⟨t.le,λk F x=>t.at_ k F x⟩;have er:dj x ((L[p],bs[p])::(L.zip bs).drop (p+1))=if bs[p]=O then(match L[p].d with
   |.drop=>([],Zc)
   |.go=>([],O)
   |.mark=>dj x<|(L.zip bs).drop<|p+1
   |.print=>(x::(dj x<|(L.zip bs).drop<|p+1).1,(dj x<|(L.zip bs).drop<|p+1).2)
   |.say s=>(s::(dj x<|(L.zip bs).drop<|p+1).1,(dj x<|(L.zip bs).drop<|p+1).2))else dj x ((L.zip bs).drop<|p+1):=by rw[dj,o];rfl
  unfold LN.Yk LN.gv at f;rw[er]at a ⊢;cases R:bs[p]with
  |false=>
   rw[R]at f a;exact go (g:=[]) f A (.inl J) t a
  |true=>
   rw[R]at f a;rw[bU J]at a ⊢;cases l:L[p].d with
   |drop=>
    rw[l]at f;obtain⟨Yn,B,G1,hg1⟩:=f;exact Mb (Ir B) ⟨J,J,J,⟨Yn,B,G1,by lia⟩,t⟩
   |mark=>rw[l]at f a;exact go (g:=[]) f A (.inl J) t a
   |print=>rw[l]at f a;exact go (g:=[x]) f A (.inl J) t a
   |say s=>rw[l]at f a;exact go (g:=[s]) f A (.inl J) t a
   |go=>
    rw[l]at f a;have kp:=P.go p hp l;obtain⟨Yn,B,_,_⟩:=f;have OH:Ky.i (((k+1:Nat):Int)+1)∈ks++[.i<|(p:Nat)+1]:=by
     by_cases z:k+1=p
     .subst z;exact mU _<|iF.mpr J
     .exact zH _<|u (k+1) (by lia) (by lia)<|P.bh<|by lia
    refine Ŋ (e:=e+d+1) B N<|OL n B Q (p:=k+1) (by lia) (by show(1:Int)+k=_;lia) λm3 S3 F3=>Mf (n+4) (P.bh<|by lia) S3 (F3.get A K) OH ?_
    have:=a J
    rw[<- CD,W]at this;exact this
abbrev Yo(i:Int):T:=.tup [.str [116,97,107,101],.int i]
def S9(d:WS m1 w v log)(c:a ⟨Kj w::r,m⟩=.ok (t,⟨Kj w::r,m1⟩))(b:dg M.P.tab f (.val t) v.ob=U v'.ob):aJ M.P.tab f zA a ⟨Kj w::r,m⟩=.ok (.nx,⟨Kj w::r,m1.set w v'.ob⟩):=by
 unfold aJ;rw[c];apply dF;show Res.bind (aZ<|(m1[w]?).bind _) _=_;rw[d.o];show Res.bind (aZ<|dg M.P.tab f (.val t) v.ob) _=_;rw[b];rfl
def lE{α:Type}{m:List α}{ob x:α}(h:m[k]?=U ob):(m++[x])[k]?=U ob:=by
 rw[gY (bK.mp h).1];exact h
def WS.snoc(a:WS m w v log):WS (m++[ob]) w v log:=⟨lE a.o,lE a.l,a.ne,a.sU⟩
variable{B:FS}
def ŋ(b:WS m w v log)(hl:Mo log+1<900000)(c:a ⟨Kj w::r,m⟩=.ok (t,⟨Kj w::r,m⟩))(k:∀m',WS m' w v (log++[t])->Fr (WX w v) m m'->WE E (B ⟨Kj w::r,m'⟩) Q):WE E (ah (jH<|e_ M.bc (aE M.P.tab 29 zA) a) B ⟨Kj w::r,m⟩) Q:=xR<|W.of (qe b c) ⟨J,k _ (b.app<|by simpa using hl)<|Fr.set<|.inr J⟩
def S_(b:WS m w v log)(v':WV)(d:v'.lg=v.lg)(e:a ⟨Kj w::r,m⟩=.ok (t,⟨Kj w::r,m⟩))(c:dg M.P.tab f (.val t) v.ob=U v'.ob)(k:∀m',WS m' w v' log->Fr (WX w v) m m'->WE E (B ⟨Kj w::r,m'⟩) Q):WE E (ah (jH<|aJ M.P.tab f zA a) B ⟨Kj w::r,m⟩) Q:=xR<|W.of (xw b e c) ⟨J,k _ (b.fld d)<|Fr.set<|.inl J⟩
def Yp{j:Nat}(a:WS m w v log)(v':WV)(d:v'.lg=v.lg)(c:jm M.P.tab 24 f=U j)(e:v.ob.fs[j]?=sv (.int i))(b:(⟨24,v.ob.fs.set j<|.val<|.int<|i+1⟩:Ob)=v'.ob)(k:∀m',WS m' w v' log->Fr (WX w v) m m'->WE E (B ⟨Kj w::r,m'⟩) Q):WE E (ah (jH<|pJ M.P.tab f gF zA zI) B ⟨Kj w::r,m⟩) Q:=xR<|W.of (OJ a c e b) ⟨J,k _ (a.fld d)<|Fr.set<|.inl J⟩
def Ō(b:WS m w v log)(v':WV)(g:v'.lg=v.lg)(d:dg M.P.tab f (.val<|.own m.length) v.ob=U v'.ob)(k:∀m',WS m' w v' log->Fr (WX w v) m m'->m'[Mo m]?=U ⟨M.bc,[.od [] []]⟩->WE E (B ⟨Kj w::r,m'⟩) Q):WE E (ah (jH<|aJ M.P.tab f zA<|nt M.bc) B ⟨Kj w::r,m⟩) Q:=by
 have c:w<Mo m:=(bK.mp b.o).1;have a:WS (m++[⟨M.bc,[.od [] []]⟩]) w v log:=b.snoc;refine xR<|W.of (S9 a (t:=.own m.length) (v':=v') J d) ⟨J,k _ (a.fld g) ⟨by simp,λj e x=>?_⟩ ?_⟩
 .rw[cW λ(z:w=j)=>x<|.inl z.symm,gY e]
 .rw[cW<|dO c,eZ<|cV _,nV];rfl
def Mi(P:PG L k)(H:WG m w v gv lc)(R:Mo bs=Mo L)(hL:Mo L<=30)(C:v.lines=L.map LN.val)(Mh:v.bm=dR (.int<|1+k))(K:v.hand=.non)(hr:v.hr=0)(A:v.ps=0)(hl:lc+140<800000)(S:(dj x<|L.zip bs).2=O->E [.int<|v.tk+1,.int<|(k:Int)+2]) :
  WE E (cN (n+7) 68 [.own w,.str x,.lst<|bs.map T.bl] m) λp=>(dj x<|L.zip bs).2=Zc/\∃mt,WG p.2 w {v.rest with tk:=v.tk+1,tr:=.lst (bs.map T.bl),mt:=mt} (gv++(dj x<|L.zip bs).1) (lc+130)/\Fr (WX w v) m p.2:=by
 rw[w68];obtain⟨log,a,G',N⟩:=H;have I:v.lg<Mo m:=(bK.mp a.l).1;have hw:w<Mo m:=(bK.mp a.o).1;refine qK J<|Yp (r:=[Kb x,Ki<|bs.map T.bl]) a {v with tk:=v.tk+1} J (j:=6) (i:=v.tk) J J J λm1 h F1=>ŋ (t:=Yo<|v.tk+1) h (by lia) (dJ (aw J<|aw (w_fld h (j:=6) J J) J) J) λm2 g F2=>S_ g {v with tk:=v.tk+1,hand:=.str x} J (t:=.str x) ?_ J λm3 S3 F3=>Yp S3 {v with tk:=v.tk+1,hand:=.str x,hr:=v.hr+1} J (j:=8) (i:=v.hr) J J J λm4 S4 F4=>S_ S4 {v with tk:=v.tk+1,hand:=.str x,hr:=v.hr+1,tr:=.lst (bs.map T.bl)} J J J λm5 S5 F5=>Ō S5 {v with tk:=v.tk+1,hand:=.str x,hr:=v.hr+1,tr:=.lst (bs.map T.bl),mt:=Mo m5} J J λm6 Z F6 W=>S_ Z {v with tk:=v.tk+1,hand:=.str x,hr:=v.hr+1,tr:=.lst (bs.map T.bl),mt:=Mo m5,wt:=Zc} J J J λm7 X s=>?_
 .unfold FP
  rw[gJ (b:=O)<|aF (t:=.non) (u:=.non) (by rw[<- K];exact w_fld g (j:=7) J J) J J];rfl
 have G:Fr (WX w v) m m5:=(((F1.trans F2).trans F3).trans F4).trans F5;have le:=G.le;have F:Fr (WX w v) m m7:=(G.trans F6).trans s;have c:¬ WX w v m5.length:=by
  rintro(z|z)
  .have z:Mo m5=w:=z
   lia
  .have z:Mo m5=v.lg:=z
   lia
 have V:m7[Mo m5]?=U ⟨M.bc,[.od [] []]⟩:=s.get W c;obtain⟨e,Q⟩:∃e,many=e+Mo L+2:=⟨many-(Mo L+2),by unfold many;lia⟩
 unfold dQ;rw[Q];refine(BU n R P J L.length (x:=x) (lc:=lc+1) (p:=0) (e:=e) (tk:=v.tk+1) (by lia) ⟨_,X,Mc (by decide) G',by rw[cQ];show _+1<=_;exact xT N _⟩ J Mh J V c C J J A (λq _ z=>by cases z) (λi _ z=>by lia) (jc _) (by lia) (by lia) S).mono λq D=>?_
 obtain⟨k1,k2,k3,B,d⟩:=D;refine .inl ⟨k1,k3,Mo m5,B.up<|by lia,bG F.le d.le,λk f z=>(d.at_ k (dN f F.le) ?_).trans<|F.at_ k f z⟩
 rintro(y|y)
 .have y:k=Mo m5:=y
  lia
 .exact z y
end
theorem Yq{I:Nat->FX->Prop}:∀{ts:FR}{i:Nat}{m:FX},(∀t∈ts,∀i m,i<N->I i m->∃b1,a t r=U b1/\W (e ⟨b1,m⟩) λp=>p.1=V t/\I (i+1) p.2.m)->i+Mo ts<=N->I i m->W (c_ a ie e r ts m) λp=>p.1=ts.map V/\I (i+Mo ts) p.2
 |[],i,m,_,_,h=>⟨_,J,J,h⟩
 |t::ts,i,m,k,b,h=>by
  rw[dM]at b;obtain⟨b1,o,p,n,c,g⟩:=k t (eO ..) i m (jd (bD ..) b) h;obtain⟨q,j,l,f⟩:=Yq (ts:=ts) (λt d=>k t<|ee _ d) (by lia) g
  refine⟨(p.1::q.1,q.2),?_,by rw[fq,<- c,<- l],by rw[dM,show i+(Mo ts+1)=i+1+Mo ts by lia];exact f⟩
  rw[c_,o];apply dF;show Res.bind (e ⟨b1,m⟩) _=_;rw[n];show Res.bind (c_ a ie e r ts p.2.m) _=_;rw[j];rfl
def gb(n d j:Nat):ia n d (U ((j:Nat):Int))=min j n:=by
 unfold ia;dsimp only;rw[bp<|by lia,uX]
def xA(l:List α)(j:Nat):bW l Y (U ((j:Nat):Int))=l.take j:=by
 unfold bW;have b:ia l.length 0 Y=0:=J;have a:=gb l.length l.length j;rw[b,a,uV,Eb,M_]
 lia
structure RA(A:B1)(tx:Nat->B1)(nu:Nat->Int)(c:Nat)(m:FX):Prop where
 o:∀k∈A,m[k]?=U ⟨22,[.val<|.str<|tx k,.val<|.int<|nu k,.val<|.own<|k+1]⟩
 b:∀k∈A,∃ks ts,m[k+1]?=U ⟨M.bc,[.od ks ts]⟩/\Uk (tx k) ks ts/\ks.length<=c
 sp:∀k∈A,∀j∈A,k≠j+1
 sh:∀k∈A,(tx k).length<=1000
def RX(A:B1)(j:Nat):Prop:=∃k∈A,j=k+1
abbrev fw(w x:B1):Bool:=Jj x Zc (jY w) Zc
def CV.Yr(x:B1)(R:Ap):CV->Bool
 |.la=>decide<|R.length=0
 |.so w=>(R.take 2).any<|fw w
 |.li g w=>g != fw w x
 |_=>O
section
variable{A B w:B1}{m m':FX}
def RA.mono(R:RA A Q D c m)(h:c<=c'):RA A Q D c' m:=⟨R.o,λk e=>let⟨ks,ts,a,b,d⟩:=R.b k e;⟨ks,ts,a,b,bG d h⟩,R.sp,R.sh⟩
def RA.fr(R:RA A Q D c m)(F:Fr X m m')(h:∀k∈A,¬ X k/\¬ X (k+1)):RA A Q D c m':=⟨λk d=>F.get (R.o k d) (h k d).1,λk d=>let⟨ks,ts,a,b⟩:=R.b k d;⟨ks,ts,F.get a (h k d).2,b⟩,R.sp,R.sh⟩
def TR(A:B1)(Q:Nat->B1)(D:Nat->Int)(b:Bool)(c:Nat)(m:FX)(p:T×FX):Prop:=p.1=.bl b/\RA A Q D c p.2/\Fr (RX A) m p.2
def xC(R:RA A Q D c m)(a:k∈A)(x:c<900000)(h:Wd w):W (cN (n+6) 61 [.own k,ug w] m)<|TR A Q D (fw w<|Q k) (c+1) m:=by
 obtain⟨j,i,_⟩:=ł h;obtain⟨u,ts,l,K,v⟩:=R.b k a;obtain⟨t,g,e,s,y⟩:=SO n (f:=Zc) (b:=Zc) (R.o k a) l (by lia) K (by lia) (R.sh k a) j i
 refine W.of e ⟨J,⟨λq d=>?_,λq d=>?_,R.sp,R.sh⟩,Fr.set ⟨k,a,J⟩⟩
 .show(m.set (k+1) _)[q]?=_
  rw[cW<|eL<|R.sp q d k a];exact R.o q d
 .by_cases hqk:q=k
  .subst hqk
   exact⟨t,g,dG (bK.mp l).1,s,by lia⟩
  .obtain⟨ls,p,j,i,r⟩:=R.b q d
   exact⟨ls,p,by show(m.set (k+1) _)[q+1]?=_;rw[cW<|by lia];exact j,i,bG r<|bD ..⟩
def TR.up(h:TR A Q D b c m p)(a:c<=c'):TR A Q D b c' m p:=⟨h.1,h.2.1.mono a,h.2.2⟩
def xD(R:RA A Q D c m)(a:k∈A)(b:c<900000)(h:Wd w):W (cN (n+8) 64 [tl,pl,lB w,.own k,.lst<|B.map T.own] m)<|TR A Q D (fw w<|Q k) (c+1) m:=by
 have e:W (cN (n+7) 18 [lB w,.own k] m)<|TR A Q D (fw w<|Q k) (c+1) m:=by
  rw[w18];obtain⟨⟨u,m'⟩,e,q⟩:=xC n R a b h;exact qI J<|bN J<|bY J<|Bq (mE (k:=k) J (R.o k a) J J e) q
 rw[X0];exact qI J<|bN J<|bN J<|bN J<|bN J<|Sm<|XG<|W.of J e
def Ys(Q:Nat->B1)(w:B1):T->T
 |.own q=>.bl<|fw w<|Q q
 |_=>.non
def Iu(R:RA A Q D c m)(s:∀k∈B,k∈A)(z:c+10<900000)(h:Wd w):W (cN (n+7) 64 [tl,pl,(CV.so w).val,F,.lst<|B.map T.own] m)<|TR A Q D (((B.map Q).take 2).any<|fw w) (c+10) m:=by
 rw[X0];refine qI J<|bN J<|bN J<|bN J<|bY J<|Sm<|į<|XF<|ĳ<|XJ<|W.of (Ss (t:=.lst<|(B.take 2).map T.own) (ZD (t:=.lst<|B.map T.own) (y:=U ((2:Nat):Int)) J J J<|by show U (T.lst<|bW _ Y _)=_;rw[xA,xV]) J) ⟨?_,?_⟩
 .rw[cz,rN];lia
 .have C:((B.take 2).map T.own).length<=9:=by rw[cz,rN];lia
  refine(Yq (V:=Ys Q w) (N:=9) (I:=λi m'=>RA A Q D (c+i) m'/\Fr (RX A) m m') (i:=0) (λt l v m' x d=>?_) (by show 0+((B.take 2).map T.own).length<=9;lia) ⟨R,Fr.refl⟩).mono λp b=>⟨_,J,.bl<|((B.map Q).take 2).any<|fw w,?_,J,b.2.1.mono<|by show c+(0+((B.take 2).map T.own).length)<=c+10;lia,b.2.2⟩
  .obtain⟨q,a,rfl⟩:=je.mp l
   have a:=s q<|Na a;obtain⟨⟨u,m2⟩,e,j,g,f⟩:=xC n d.1 a (by lia) h
   exact⟨_,J,⟨(u,⟨[Y,sv<|.own q,sv (CV.so w).val],m2⟩),mE J (d.1.o q a) J J e,j,g,d.2.trans f⟩⟩
  .show FN (.lst p.1)=_
   rw[b.1];have e:((B.take 2).map T.own).map (Ys Q w)=((B.map Q).take 2).map λr=>T.bl<|fw w r:=by
    rw[<- xV,gM,gM];rfl
   rw[e];show(boolsOf _).map _=_;rw[jJ];show U (T.bl _)=_;rw[uS];rfl
def Iv(a:CV)(ok:a.ok)(R:RA A Q D c m)(h:k∈A)(o:∀k∈B,k∈A)(d:c+10<900000)(l:m[tk]?=U ob)(i:ob.c=23):W (cN (n+9) 64 [.own tk,pl,a.val,.own k,.lst<|B.map T.own] m)<|TR A Q D (a.Yr (Q k)<|B.map Q) (c+10) m:=by
 have al:∀{v:T},v=CV.al.val\/v=CV.en.val->W (cN (n+9) 64 [.own tk,pl,v,.own k,.lst<|B.map T.own] m) (TR A Q D O (c+10) m):=λ{v} f=>by
  have e:cN (n+8) 18 [v,.own k] m=.ok (.bl O,m):=by
   rw[w18];rcases f with rfl|rfl<;>rfl
  rw[X0];rcases f with rfl|rfl<;>exact qI J<|bN J<|bN J<|bN J<|bN J<|bR (cE (ts:=[_,.own k]) J e) ⟨J,R.mono<|bD ..,Fr.refl⟩
 cases a with
 |al=>exact al<|.inl J
 |en=>exact al<|.inr J
 |so w=>exact Iu (n+2) R o d ok
 |la=>
  rw[X0];refine qI J<|bN J<|bN J<|bY J<|bR (t:=.bl<|decide<|((B.map T.own).length:Int)=0) J ⟨ej T.bl ?_,R.mono<|bD ..,Fr.refl⟩;rw[cz];show _=decide ((B.map Q).length=0);rw[cz];exact decide_eq_decide.mpr (by lia)
 |li g w=>
  have e:=xD (n+1) (tl:=.own tk) (pl:=pl) (B:=B) R h (jd (bD ..) d) ok;cases g with
  |false=>
   refine e.mono λp j=>?_;show TR A Q D (Zc != fw w (Q k)) _ m p;rw[show(Zc != fw w (Q k))=fw w (Q k) by cases fw w (Q k)<;>rfl]
   exact j.up (by lia)
  |true=>
   rw[X0];obtain⟨⟨u,m'⟩,e,b,q⟩:=xD n (tl:=.own tk) (pl:=pl) (B:=B) R h (jd (bD ..) d) ok;have b:u=.bl (fw w<|Q k):=b;subst b;refine qI J<|bY J<|Bq (Ŀ<|mE J l (by rw[i];rfl) J e) ⟨?_,q.1.mono<|by lia,q.2⟩
   show T.bl (!fw w (Q k))=T.bl (O != fw w (Q k));cases fw w (Q k)<;>rfl
end
def mw(L:List LN)(ub:Nat):Ob:=⟨23,[.val<|.lst<|L.map λx=>x.c.val,.val<|.own ub]⟩
def zj(x:B1)(R:Ap)(L:List LN):Fh:=L.map λl=>l.c.Yr x R
section
variable{A B:B1}{G:Nat->Int}{m m':FX}{L:List LN}
theorem BV(n:Nat)(h:k∈A)(j:∀k∈B,k∈A)(o:¬ RX A tk):∀(L:List LN)(i:Int)(bs:Fh)(c:Nat)(m:FX)(u v:Option C),(∀x∈L,x.ok)->RA A Q G c m->c+10*Mo L<900000->Mo bs+Mo L<1000->m[tk]?=U (mw all ub) ->
  W (bH (eS [4,5]) (ja 3<|aA (au [(23,64)]<|cN<|n+9) zA<|bw (vF 4)<|k3 (vF 5) zB zC) (gu i<|L.map λx=>x.c.val) ⟨[sv<|.own tk,sv<|.own k,Ki<|B.map T.own,U<|.ol<|bs.map T.bl,u,v],m⟩) λp=>p.1=.nx/\∃u v m',p.2=⟨[sv<|.own tk,sv<|.own k,Ki<|B.map T.own,U<|.ol<|(bs++zj (Q k) (B.map Q) L).map T.bl,u,v],m'⟩/\RA A Q G (c+10*Mo L) m'/\Fr (RX A) m m'
 |[],i,bs,c,m,u,v,_,R,_,_,_=>⟨_,J,J,u,v,m,by rw[show zj (Q k) (B.map Q) []=[]from J,bF],R,Fr.refl⟩
 |x::L,i,bs,c,m,u,v,f,R,z,D,a=>by
  rw[dM]at z D;obtain⟨⟨t,m1⟩,e,b,E,l⟩:=Iv n x.c (f x<|eO ..).c (pl:=.int i) R h j (by lia) a J
  have b:t=.bl (x.c.Yr (Q k)<|B.map Q):=b;subst b;have F:m1[tk]?=U (mw all ub):=l.get a o;have g:=BV n h j o L (i+1) (bs++[x.c.Yr (Q k)<|B.map Q]) (c+10) m1 (J4 i) (sv x.c.val) (λy w=>f y<|ee _ w) E (by lia) (by simp;lia) F
  rw[eF]at g;refine iX J<|W.of (wU (Jd:=bs.map T.bl) (ts:=bs.map T.bl) J (mE J a J J e) J<|by rw[cz];lia) ⟨J,g.mono λp d=>⟨d.1,?_⟩⟩
  obtain⟨_,r,q,m',q2,s,q4⟩:=d;exact⟨r,q,m',by rw[q2,fB];rfl,by rw[dM,show c+10*(Mo L+1)=c+10+10*Mo L by lia];exact s,l.trans q4⟩
def Mj(g:k∈A)(l:∀k∈B,k∈A)(r:¬ RX A tk)(f:∀x∈L,x.ok)(R:RA A Q G c m)(h:c+10*Mo L<900000)(i:Mo L<1000)(b:m[tk]?=U (mw L ub)) :
  W (cN (n+10) 63 [.own tk,.own k,.lst<|B.map T.own] m) λp=>p.1=.lst ((zj (Q k) (B.map Q) L).map T.bl)/\RA A Q G (c+10*Mo L) p.2/\Fr (RX A) m p.2:=by
 rw[w63];refine qI J<|eE<|W.of J ⟨J,eE<|iD<|W.of (a:=(gu 0<|L.map λx=>x.c.val,(⟨[sv<|.own tk,sv<|.own k,Ki<|B.map T.own,U<|.ol [],Y,Y],m⟩:S))) ?_<|(BV n g l r (all:=L) (ub:=ub) L 0 [] c m Y Y f R h (by simpa using i) b).mono λp d=>⟨d.1,?_⟩⟩
 .unfold jn
  rw[nA (k:=tk) (s1:=⟨[sv<|.own tk,sv<|.own k,Ki<|B.map T.own,U<|.ol [],Y,Y],m⟩) (j:=0) J b J J];rfl
 .obtain⟨_,u,v,m',e,q,o⟩:=d
  rw[e];exact Bq J ⟨J,q,o⟩
end
section
variable{A B:B1}{m m':FX}
def DR(L:List LN)(x:B1)(R:Ap):Ap×Bool:=dj x<|L.zip<|zj x R L
def Iw(P:PG L kk)(H:WG m w v gv lc)(K:v.lines=L.map LN.val)(Mh:v.bm=dR (.int<|1+kk))(N:v.hand=.non)(hr:v.hr=0)(I:v.ps=0)(r:v.tl=tk)(y:m[tk]?=U (mw L ub))(D:Mo L<=30)(M:∀x∈L,x.ok)(R:RA A tx nu c m)(C:k∈A)(V:∀k∈B,k∈A)
  (s1:∀k∈A,k≠w/\k+1≠w/\k≠v.lg/\k+1≠v.lg/\k+1≠tk) (Ab:c+400<900000) (hl:lc+140<800000) (S:(DR L (tx k)<|B.map tx).2=O->E [.int<|v.tk+1,.int<|(kk:Int)+2]) :
  WE E (cN (n+11) 67 [.own w,.own k,.lst<|B.map T.own] m) λp=>(DR L (tx k)<|B.map tx).2=Zc/\∃mt bs,WG p.2 w {v.rest with tk:=v.tk+1,tr:=.lst bs,mt:=mt} (gv++(DR L (tx k)<|B.map tx).1) (lc+130)/\RA A tx nu (c+300) p.2/\Fr (λj=>RX A j\/WX w v j) m p.2:=by
 rw[w67];have u:∀j,WX w v j->¬ RX A j:=λj f F=>by
  obtain⟨q,i,e⟩:=F;obtain⟨_,a,_,b,_⟩:=s1 q i;rcases f with f|f
  .exact a<|e.symm.trans f
  .exact b<|e.symm.trans f
 obtain⟨⟨t1,m1⟩,X,s,R1,t⟩:=Mj n (ub:=ub) (L:=L) C V (λ⟨q,i,e⟩=>(s1 q i).2.2.2.2 e.symm) M R (by lia) (jd D<|by decide) y
 have s:t1=.lst ((zj (tx k) (B.map tx) L).map T.bl):=s;subst s;obtain⟨h,g,G,Q⟩:=H;have Z:WS m1 w v h:=⟨t.get g.o<|u _<|.inl J,t.get g.l<|u _<|.inr J,g.ne,g.sU⟩;refine qK J<|Ul (k:=w) (ob:=v.ob) (s1:=⟨[sv<|.own w,sv<|.own k,Ki<|B.map T.own],m1⟩) J g.o J (aw (nA (k:=k) (j:=0) J (R.o k C) J J)<|aw (Bp (k:=tk) (s1:=⟨[sv<|.own w,sv<|.own k,Ki<|B.map T.own],m⟩) (s2:=⟨[sv<|.own w,sv<|.own k,Ki<|B.map T.own],m⟩) (by rw[<- r];exact w_fld g (j:=2) J J) y J J X) J)<|(Mi (n+3) P (x:=tx k) (bs:=zj (tx k) (B.map tx) L) (L:=L) ⟨h,Z,G,Q⟩ (cz ..) D K Mh N hr I hl S).mono λq i=>?_
 obtain⟨W,mt,H2,F2⟩:=i;have R2:RA A tx nu (c+300) q.2:=(R1.mono<|by lia).fr F2 λj f=>by
  obtain⟨a,b,d,e,_⟩:=s1 j f;exact⟨λz=>z.elim a d,λz=>z.elim b e⟩
 exact .inl ⟨J,W,mt,_,H2,R2,(t.mono λ_=>.inl).trans<|F2.mono λ_=>.inr⟩
end
abbrev lI(sn c:Int)(a:B1)(fn:Bool):Ob:=⟨25,[.val<|.own 1,.val<|.int sn,.val<|.int c,.val<|.own 9,.val<|.str a,.val<|.bl fn]⟩
def aS:Ob:=⟨M.bc,[.od [] []]⟩
abbrev fM(ts:FR):Ob:=⟨M.bc,[.ol ts]⟩
abbrev lF(x:B1)(i:Int)(b:Nat):Ob:=⟨22,[.val<|.str x,.val<|.int i,.val<|.own b]⟩
section
variable{m m':FX}
def fm(d:m[0]?=U (lI sn c p fn))(a:jm M.P.tab 25 f=U j)(b:(lI sn c p fn).fs[j]?=sv t):aE M.P.tab f zA ⟨Kj 0::r,m⟩=.ok (t,⟨Kj 0::r,m⟩):=nA (k:=0) J d a b
def ON(d:m[0]?=U (lI sn c p fn))(e:a ⟨Kj 0::r,m⟩=.ok (t,⟨Kj 0::r,m⟩))(b:dg M.P.tab f (.val t) (lI sn c p fn)=U (lI sn c' rs' Jk)):aJ M.P.tab f zA a ⟨Kj 0::r,m⟩=.ok (.nx,⟨Kj 0::r,m.set 0<|lI sn c' rs' Jk⟩):=by
 unfold aJ;rw[e];apply dF;show Res.bind (aZ<|(m[0]?).bind _) _=_;rw[d];show Res.bind (aZ<|dg M.P.tab f (.val t)<|lI sn c p fn) _=_;rw[b];rfl
def Yu(a:m[0]?=U (lI sn c p fn)):pJ M.P.tab 33 gF zA zI ⟨Kj 0::r,m⟩=.ok (.nx,⟨Kj 0::r,m.set 0<|lI sn (c+1) p fn⟩):=by
 have e:gG M.P.tab 33 m (.own 0)=U (0,lI sn c p fn,2,.val<|.int c):=by
  show(m[0]?).bind _=_;rw[a];rfl
 unfold pJ;show Res.bind (aZ<|gG M.P.tab 33 m<|.own 0) _=_;rw[e];apply dF;show Res.bind (aZ<|gG M.P.tab 33 m<|.own 0) _=_;rw[e];rfl
end
def Yv{s s1 s2:S}(b:o s=.ok (.own kb,s1))(e:s1.m[kb]?=U (fM ts))(c:a s1=.ok (t,s2))(d:s2.m[kb]?=U (fM ts'))(hl:Mo ts'<1000000):e_ M.bc o a s=.ok (.nx,⟨s2.r,s2.m.set kb<|fM<|ts'++[t]⟩):=by
 unfold e_;rw[b];apply dF;dsimp only;rw[pV e];apply dF;rw[c];apply dF;dsimp only;rw[pV d];apply dF;show Res.bind (aZ<|gd (Mo ts'<1000000) ()) _=_;rw[jI hl];rfl
section
variable{m:FX}
def qh{α:Type}{m:List α}{x:α}:(m++[x])[Mo m]?=U x:=by
 rw[eZ<|cV _,nV];rfl
def xE{α:Type}{m:List α}{x y:α}:(m++[x]).set m.length y=m++[y]:=by
 rw[Nb _ _<|cV _,nV];rfl
def OO(c:a ⟨Kj m.length::r,m++[ob]⟩=.ok (t,⟨Kj m.length::r,m++[ob]⟩))(b:dg M.P.tab f (.val t) ob=U pj):aJ M.P.tab f zA a ⟨Kj m.length::r,m++[ob]⟩=.ok (.nx,⟨Kj m.length::r,m++[pj]⟩):=by
 unfold aJ;rw[c];apply dF;show Res.bind (aZ<|((m++[ob])[Mo m]?).bind _) _=_;rw[qh];show Res.bind (aZ<|dg M.P.tab f (.val t) ob) _=_;rw[b];show Res.ok (Out.nx,(⟨_,(m++[ob]).set m.length pj⟩:S))=_;rw[xE]
def Iz:cN (n+1) 60 [.own m.length,.str x,.int i] (m++[⟨22,[]⟩])=.ok (.non,m++[lF x i<|m.length+1,aS]):=by
 rw[w60];refine yZ (s':=⟨[sv<|.own m.length,Kb x,J4 i],m++[lF x i<|m.length+1,aS]⟩) J (seq1 (OO (r:=[Kb x,J4 i]) (t:=.str x) (pj:=⟨22,[.val<|.str x]⟩) J J)<|seq1 (OO (r:=[Kb x,J4 i]) (t:=.int i) (pj:=⟨22,[.val<|.str x,.val<|.int i]⟩) J J) ?_) J;obtain⟨oA,a⟩:∃oA:Ob,oA=⟨22,[.val<|.str x,.val<|.int i]⟩:=⟨_,J⟩;rw[<- a];unfold aJ nt;apply dF;show Res.bind (aZ<|((m++[oA]++[aS])[Mo m]?).bind _) _=_;rw[lE qh];have b:dg M.P.tab 15 (.val<|.own (m++[oA]).length) oA=U (lF x i<|m.length+1):=by
  rw[a,cQ];rfl
 show Res.bind (aZ<|dg M.P.tab 15 (.val<|.own (m++[oA]).length) oA) _=_;rw[b];have e:(m++[oA]++[aS]).set m.length (lF x i<|m.length+1)=m++[lF x i<|m.length+1,aS]:=by
  rw[List.set_append_left _ _<|by simp,xE,fB];rfl
 exact ej (λz=>Res.ok (Out.nx,(⟨[sv<|.own m.length,Kb x,J4 i],z⟩:S))) e
end
def OP(h:10<=j)(a:k<10:=by decide):j≠k/\j+1≠k:=⟨by lia,by lia⟩
def Fr.app:Fr X m<|m++Z:=⟨by rw[cQ];exact bD ..,λk h _=>gY h⟩
structure BJ(m:FX)(L:List LN)(kk:Nat)(sn cm:Int)(A:B1)(tx:Nat->B1)(nu:Nat->Int)(rs:B1)(fn:Bool)(v:WV)(gv:Ap)(lc c tn:Nat):Prop where
 H:WG m 1 v gv lc
 ln:v.lines=L.map LN.val
 bm:v.bm=dR (.int<|1+kk)
 tl:v.tl=2
 tk:v.tk=(tn:Nat)
 ps:v.ps=0
 hd:v.hand=.non
 hr:v.hr=0
 lg:v.lg=8\/10<=v.lg
 b:m[0]?=U (lI sn cm rs fn)
 q:m[9]?=U (fM<|A.map T.own)
 t:m[2]?=U (mw L 3)
 R:RA A tx nu c m
 n:∀k∈A,10<=k/\k≠v.lg/\k+1≠v.lg
section
variable{m m':FX}{kk S lc c:Nat}{A p Q rs' x:B1}
def BJ.chg(I:BJ m L kk sn cm A V Z Q fn v gv lc c S)(F:Fr X m m')(h:∀j,j=1\/j=2\/j=v.lg->¬ X j)(b:m'[0]?=U (lI sn u rs' Jk))(q:m'[9]?=U (fM<|p.map T.own))(R:RA p z B c m')(n:∀k∈p,10<=k/\k≠v.lg/\k+1≠v.lg):BJ m' L kk sn u p z B rs' Jk v gv lc c S:=by
 obtain⟨d,a,G,e⟩:=I.H;exact⟨⟨d,⟨F.get a.o<|h _<|.inl J,F.get a.l<|h _<|.inr<|.inr J,a.ne,a.sU⟩,G,e⟩,I.ln,I.bm,I.tl,I.tk,I.ps,I.hd,I.hr,I.lg,b,q,F.get I.t<|h _<|.inr<|.inl J,R,n⟩
def BJ.n9(I:BJ m L kk sn cm A V Z Q fn v gv lc c S):∀j,j=1\/j=2\/j=v.lg->j≠0/\j≠9:=λj a=>by
 have:=I.lg
 rcases a with h|h|h<;>lia
def BJ.ō(I:BJ m L kk sn cm A V Z Q fn v gv lc c S):BJ (m.set 0<|lI sn u rs' Jk) L kk sn u A V Z rs' Jk v gv lc c S:=by
 have F:Fr (λj=>j=0) m<|m.set 0<|lI sn u rs' Jk:=Fr.set J;exact I.chg F (λj d=>(I.n9 j d).1) (dG (bK.mp I.b).1) (F.get I.q<|by show ¬ 9=0;decide) (I.R.fr F λk a=>OP (I.n k a).1) I.n
def BJ.at9(I:BJ m L kk sn cm A V Z Q fn v gv lc c S)(R:RA p z B c m)(n:∀k∈p,10<=k/\k≠v.lg/\k+1≠v.lg):BJ (m.set 9<|fM<|p.map T.own) L kk sn cm p z B Q fn v gv lc c S:=by
 have F:Fr (λj=>j=9) m<|m.set 9<|fM<|p.map T.own:=Fr.set J;exact I.chg F (λj d=>(I.n9 j d).2) (F.get I.b<|by show ¬ 0=9;decide) (dG (bK.mp I.q).1) (R.fr F λk a=>OP (n k a).1) n
def mR{α:Type}(f:Nat->α)(k:Nat)(x:α):Nat->α:=λj=>if j=k then x else f j
def BX(I:BJ m L kk sn cm A V Z Q fn v gv lc c S)(C:Mo A<900000)(B:Mo x<=1000):W (cN (n+2) 83 [.own 0,.str x] m) λp=>p.1=.non/\∃k,k∉A/\BJ p.2 L kk sn (cm+1) (A++[k]) (mR V k x) (mR Z k<|cm+1) Q fn v gv lc c S/\m.length<=k:=by
 rw[w83];refine gI J<|iC<|W.of (Yu (r:=[Kb x]) I.b) ⟨J,?_⟩;have d:BJ (m.set 0<|lI sn (cm+1) Q fn) L kk sn (cm+1) A V Z Q fn v gv lc c S:=I.ō;obtain⟨m1,u⟩:∃m1,m1=m.set 0 (lI sn (cm+1) Q fn):=⟨_,J⟩;have P:Mo m1=Mo m:=by rw[u,eT]
 rw[<- u]at d;show W (e_ _ _ _ ⟨[sv<|.own 0,Kb x],m.set 0<|lI sn (cm+1) Q fn⟩) _;rw[<- u];have i:Fr (λ_=>False) m1<|m1++[lF x (cm+1)<|m1.length+1,aS]:=Fr.app;have f:BJ (m1++[lF x (cm+1)<|m1.length+1,aS]) L kk sn (cm+1) A V Z Q fn v gv lc c S:=d.chg i (λ_ _ z=>z) (i.get d.b λz=>z) (i.get d.q λz=>z) (d.R.fr i λ_ _=>⟨λz=>z,λz=>z⟩) d.n;obtain⟨y,F,G,M⟩:=d.H;have D:v.lg<Mo m1:=(bK.mp F.l).1;have N:9<Mo m1:=(bK.mp d.q).1;have s:∀k∈A,k+1<Mo m1:=λk a=>by
  obtain⟨K,ts,E,_⟩:=d.R.b k a;exact(bK.mp E).1
 have w:Mo m1∉A:=λz=>by have:=s _ z;lia
 refine W.of (Yv (s1:=⟨[sv<|.own 0,Kb x],m1⟩) (s2:=⟨[sv<|.own 0,Kb x],m1++[lF x (cm+1)<|m1.length+1,aS]⟩) (t:=.own m1.length) (fm d.b (j:=3) J J) d.q (LD (ts:=[.str x,.int<|cm+1]) (s':=⟨[sv<|.own 0,Kb x],m1⟩) (aw J<|aw (fm d.b (j:=2) J J) J)<|Iz n) f.q<|by rw[cz];exact dN C<|by decide) ⟨J,J,Mo m1,w,?_,by lia⟩
 have e:A.map T.own++[T.own m1.length]=(A++[Mo m1]).map T.own:=by rw[eF];rfl
 show BJ ((m1++[lF x (cm+1)<|m1.length+1,aS]).set 9<|fM<|A.map T.own++[T.own m1.length]) L kk sn (cm+1) (A++[Mo m1]) _ _ Q fn v gv lc c S;rw[e];have old:∀k∈A,mR V m1.length x k=V k/\mR Z m1.length (cm+1) k=Z k:=λk a=>by
  have:k≠Mo m1:=λz=>w<|z▸a
  exact⟨bp this,bp this⟩
 have new:mR V m1.length x m1.length=x/\mR Z m1.length (cm+1) m1.length=cm+1:=⟨bU J,bU J⟩;have mem:∀{k},k∈A++[Mo m1]->k∈A\/k=Mo m1:=λh=>(i6.mp h).imp id λz=>iF.mp z;refine f.at9 ⟨λk a=>?_,λk a=>?_,λk a j g=>?_,λk a=>?_⟩ λk a=>?_
 .rcases mem a with a|rfl
  .rw[(old k a).1,(old k a).2];exact f.R.o k a
  .rw[new.1,new.2,eZ<|cV _,nV];rfl
 .rcases mem a with a|rfl
  .rw[(old k a).1];exact f.R.b k a
  .rw[new.1]
   exact⟨[],[],by rw[eZ<|Ce _,show m1.length.succ-Mo m1=1 by lia];rfl,Uk.nil,jc _⟩
 .rcases mem a with a|rfl<;>rcases mem g with g|rfl
  .exact f.R.sp k a j g
  .have:=s k a;lia
  .have:=s j g;exact xS this
  .lia
 .rcases mem a with a|rfl
  .rw[(old k a).1];exact f.R.sh k a
  .rw[new.1];exact B
 .rcases mem a with a|rfl
  .exact f.n k a
  .lia
end
def IA(h:o s=.ok (.own kb,s1))(a:s1.m[kb]?=U (fM ts)):pK M.bc o s=.ok (.int ts.length,s1):=by
 unfold pK;rw[h];apply dF;dsimp only;rw[pV a];rfl
def Yx(h:o s=.ok (.own kb,s1))(a:s1.m[kb]?=U (fM<|t::ts)):pL M.bc o s=.ok (t,⟨s1.r,s1.m.set kb<|fM ts⟩):=by
 unfold pL;rw[h];apply dF;dsimp only;rw[pV a];rfl
def Ŏ(h:o s=.ok (.own kb,s))(d:lo s=.ok (i,s))(c:a s=.ok (j,s))(b:s.m[kb]?=U (fM ts)):GR M.bc o lo a s=.ok (.lst<|bW ts i j,s):=by
 unfold GR;rw[h];apply dF;dsimp only;rw[d];apply dF;dsimp only;rw[c];apply dF;dsimp only;rw[pV b];rfl
def soE(h:a s=.ok (.int i,s1)):nK a s=.ok (U i,s1):=by
 unfold nK;rw[h];rfl
def jA(L:List LN)(sn:Nat)(a:Nat->B1):Nat->Nat->B1->Ap×Option Nat
 |t,d+1,k::A=>if(DR L (a k)<|(A.take sn).map a).2=O then([],U t)else((DR L (a k)<|(A.take sn).map a).1++(jA L sn a (t+1) d A).1,(jA L sn a (t+1) d A).2)
 |_,_,_=>([],Y)
section
variable{E:FR->Prop}{m m':FX}{sn mn kk Z lc c j c' k:Nat}{A F rs:B1}
theorem BJ.up(I:BJ m L kk sn cm A V nu rs fn v gv lc c Z)(h:lc<=j)(a:c<=c'):BJ m L kk sn cm A V nu rs fn v gv j c' Z:=⟨I.H.up h,I.ln,I.bm,I.tl,I.tk,I.ps,I.hd,I.hr,I.lg,I.b,I.q,I.t,I.R.mono a,I.n⟩
def RA.sub(R:RA A V nu c m)(h:∀k∈F,k∈A):RA F V nu c m:=⟨λk a=>R.o k<|h k a,λk a=>R.b k<|h k a,λk a j d=>R.sp k (h k a) j<|h j d,λk a=>R.sh k<|h k a⟩
def Tc(P:PG L kk)(I:BJ m L kk sn cm A V nu rs fn v gv lc c Z)(R:RA (k::A) V nu c m)(o:10<=k/\k≠v.lg/\k+1≠v.lg)(r:Mo L<=30)(l:∀x∈L,x.ok)(hl:lc+140<800000)(w:c+400<900000)(s:(DR L (V k)<|(A.take sn).map V).2=O->E [.int<|(Z:Int)+1,.int<|(kk:Int)+2]) :
  WE E (cN (n+11) 67 [.own 1,.own k,.lst<|(A.take sn).map T.own] m) λp=>(DR L (V k)<|(A.take sn).map V).2=Zc/\∃v',BJ p.2 L kk sn cm A V nu rs fn v' (gv++(DR L (V k)<|(A.take sn).map V).1) (lc+130) (c+300)<|Z+1:=by
 have g:∀j∈k::A,10<=j/\j≠v.lg/\j+1≠v.lg:=λj f=>(cu.mp f).elim (λz=>z▸o)<|I.n j;refine(Iw n P (A:=k::A) (B:=A.take sn) (tk:=2) (ub:=3) I.H I.ln I.bm I.hd I.hr I.ps I.tl I.t r l R (eO ..) (λj f=>ee _<|Na f) (λj f=>?_) w hl<|by rw[I.tk];exact s).mono λp i=>?_
 .obtain⟨a,b,d⟩:=g j f
  exact⟨(OP a).1,(OP a).2,b,d,(OP a).2⟩
 .obtain⟨u,mt,bs,H,R2,F⟩:=i
  have nx:∀j,j=0\/j=2\/j=9->¬ (RX (k::A) j\/WX 1 v j):=λj f z=>by
   rcases z with⟨q,h,e⟩|z|z
   .have:=(g q h).1;lia
   .have z:j=1:=z
    lia
   .have z:j=v.lg:=z
    have:=I.lg
    lia
  exact⟨u,_,⟨H,I.ln,I.bm,I.tl,by show v.tk+1=_;rw[I.tk];rfl,J,J,J,I.lg,F.get I.b<|nx _<|.inl J,F.get I.q<|nx _<|.inr<|.inr J,F.get I.t<|nx _<|.inr<|.inl J,R2.sub λj f=>ee _ f,I.n⟩⟩
def Td(P:PG L kk)(G:Mo L<=30)(F:∀x∈L,x.ok):∀(A:B1){m:FX}{v:WV}{gv:Ap}{lc c e Z:Nat}{u:Option C},BJ m L kk sn cm A V nu rs fn v gv lc c Z->lc+140*Mo A<700000->c+400*Mo A<700000->(∀j:Nat,(jA L sn V Z (Mo A-mn) A).2=U j->E [.int<|(j:Int)+1,.int<|(kk:Int)+2]) ->
  WE E (aO (gX<|b9<|bX (aN .Gt) (pK M.bc<|aE M.P.tab 34 zA) zB) (X4<|cN<|n+11) (e+Mo A+1) ⟨[sv<|.own 0,J4 (mn:Nat),u],m⟩) λq=>q.1=.nx/\(jA L sn V Z (Mo A-mn) A).2=Y/\∃v',BJ q.2.m L kk sn cm (A.drop<|A.length-mn) V nu rs fn v' (gv++(jA L sn V Z (Mo A-mn) A).1) (lc+140*(Mo A-mn)) (c+400*(Mo A-mn))<|Z+(Mo A-mn):=by
 intro A
 induction A with
 |nil=>
  intro m v gv lc c e Z u I hl B f;have y:jA L sn V Z (([]:B1).length-mn) []=([],Y):=by rw[show([]:B1).length-mn=0 from Ec _];rfl
  refine Mb (s1:=⟨[sv<|.own 0,J4 (mn:Nat),u],m⟩) (gJ<|aF (t:=.int 0) (u:=.int (mn:Nat)) (IA (fm I.b (j:=3) J J) I.q) J<|by rw[wQ,b0<|by lia]) ⟨J,by rw[y],v,?_⟩
  rw[y,List.drop_nil,bF,show Z+(([]:B1).length-mn)=Z from ej (Z + ·)<|Ec mn]
  exact I.up (bD ..)<|bD ..
 |cons k A p=>
  intro m v gv lc c e Z u I hl B f;rw[dM]at hl B f ⊢;by_cases hm:mn<Mo A+1
  .have c1:b9 (bX (aN .Gt) (pK M.bc<|aE M.P.tab 34 zA) zB) ⟨[sv<|.own 0,J4 (mn:Nat),u],m⟩=.ok (O,⟨[sv<|.own 0,J4 (mn:Nat),u],m⟩):=gJ<|aF (t:=.int (((k::A).map T.own).length:Nat)) (u:=.int (mn:Nat)) (IA (fm I.b (j:=3) J J) I.q) J<|by rw[wQ,c4<|by rw[cz,dM];lia]
   have a:BJ (m.set 9<|fM<|A.map T.own) L kk sn cm A V nu rs fn v gv lc c Z:=I.at9 (I.R.sub λj g=>ee _ g) λj g=>I.n j<|ee _ g;have z:RA (k::A) V nu c<|m.set 9<|fM<|A.map T.own:=I.R.fr (Fr.set (X:=λj=>j=9) J) λj g=>OP (I.n j g).1;obtain⟨m1,w⟩:∃m1,m1=m.set 9 (fM<|A.map T.own):=⟨_,J⟩;rw[<- w]at a z;have l:aH 2 (pL M.bc<|aE M.P.tab 34 zA) ⟨[sv<|.own 0,J4 (mn:Nat),u],m⟩=.ok (.nx,⟨[sv<|.own 0,J4 (mn:Nat),sv<|.own k],m1⟩):=by
    rw[w];exact dU<|Yx (fm I.b (j:=3) J J) I.q
   obtain⟨d,hd⟩:∃d,d=Mo A-mn:=⟨_,J⟩;have h:Mo A+1-mn=d+1:=by rw[hd];exact Nat.succ_sub<|Nat.le_of_lt_succ hm
   rw[h]at f ⊢;rw[<- hd]at p;clear hd h hm;have s:jA L sn V Z (d+1) (k::A)=if(DR L (V k)<|(A.take sn).map V).2=O then([],U Z)else((DR L (V k)<|(A.take sn).map V).1++(jA L sn V (Z+1) d A).1,(jA L sn V (Z+1) d A).2):=J
   obtain⟨D,N,_,_⟩:=a.H;refine Ip (k:=e+Mo A+1) c1<|xR<|W.of l ⟨J,Ul (k:=1) (ob:=v.ob) (s1:=⟨[sv<|.own 0,J4 (mn:Nat),sv<|.own k],m1⟩) (fm (r:=[J4 (mn:Nat),sv<|.own k]) a.b (j:=0) J J) N.o J (aw J<|aw ((Ŏ (fm (r:=[J4 (mn:Nat),sv<|.own k]) a.b (j:=3) J J) J (soE<|fm (r:=[J4 (mn:Nat),sv<|.own k]) a.b (j:=1) J J) a.q).trans<|by rw[xA,<- xV]) J)<|(Tc n P a z (I.n k<|eO ..) G F (by lia) (by lia) λhr=>f Z<|by rw[s,bU hr]).mono λq i=>⟨J,?_⟩⟩
   obtain⟨K,S,Q⟩:=i;rw[s,bp<|by rw[K];exact dw]at f ⊢
   refine(p (e:=e) Q (by lia) (by lia) f).mono λq i=>?_
   obtain⟨k1,k2,v',k3⟩:=i;refine⟨k1,k2,v',?_⟩;rw[List.drop_succ_cons,<- fB,show Z+(d+1)=Z+1+d from ML Z d 1];exact k3.up (by lia) (by lia)
  .rw[show Mo A+1-mn=0 from Nat.sub_eq_zero_of_le<|zE hm]
   refine Mb (s1:=⟨[sv<|.own 0,J4 (mn:Nat),u],m⟩) (gJ<|aF (t:=.int (((k::A).map T.own).length:Nat)) (u:=.int (mn:Nat)) (IA (fm I.b (j:=3) J J) I.q) J<|by rw[wQ,b0<|by rw[cz,dM];lia]) ⟨J,J,v,?_⟩
   rw[uV,show(jA L sn V Z 0<|k::A).1=[]from J,bF];exact I.up (bD ..)<|bD ..
def all_eq(P:PG L kk)(I:BJ m L kk sn cm A V nu rs fn v gv lc c Z)(f:Mo L<=30)(b:∀x∈L,x.ok)(hl:lc+140*Mo A<700000)(h:c+400*Mo A<700000)(g:∀j:Nat,(jA L sn V Z (Mo A-mn) A).2=U j->E [.int<|(j:Int)+1,.int<|(kk:Int)+2]):WE E (cN (n+12) 84 [.own 0,.int (mn:Nat)] m) λp=>(jA L sn V Z (Mo A-mn) A).2=Y/\∃v',BJ p.2 L kk sn cm (A.drop<|A.length-mn) V nu rs fn v' (gv++(jA L sn V Z (Mo A-mn) A).1) (lc+140*(Mo A-mn)) (c+400*(Mo A-mn))<|Z+(Mo A-mn):=by
 rw[w84];obtain⟨e,d⟩:∃e,many=e+Mo A+1:=⟨many-(Mo A+1),by unfold many;lia⟩
 refine qK J ?_;unfold dQ;rw[d];exact(Td n P f b A I hl h g).mono λq a=>.inl ⟨a.1,a.2⟩
def zl(a:k∉A)(f:Nat->α)(y:α):(A++[k]).map (mR f k y)=A.map f++[y]:=by
 rw[eF]
 congr 1
 .exact uO λj b=>bp<|show ¬ j=k from λz=>a<|z▸b
 .show[mR f k y k]=[y]
  exact ej (λz=>[z])<|bU J
theorem BY(n:Nat):∀(l:Ap){m:FX}{cm:Int}{A:B1}{V:Nat->B1}{nu:Nat->Int}{u:Option C},BJ m L kk sn cm A V nu rs fn v gv lc c Z->Mo A+Mo l<900000->(∀x∈l,Mo x<=1000) ->
  W (bH (setG 3) (aP<|aA (au [(25,83)]<|cN<|n+2) zA<|k1 zD) (l.map T.str) ⟨[sv<|.own 0,g,f,u],m⟩) λq=>q.1=.nx/\∃u F a d m',q.2=⟨[sv<|.own 0,g,f,u],m'⟩/\BJ m' L kk sn (cm+Mo l) (A++F) a d rs fn v gv lc c Z/\(A++F).map a=A.map V++l/\(A++F).map d=A.map nu++(cK l.length).map λ(j:Nat)=>cm+1+j
 |[],m,cm,A,V,nu,u,I,hl,_=>⟨_,J,J,u,[],V,nu,m,J,by rw[bF,show cm+(([]:Ap).length:Int)=cm from EA _];exact I,by rw[bF,bF],by rw[bF];exact(bF _).symm⟩
 |x::l,m,cm,A,V,nu,u,I,hl,o=>by
  rw[dM]at hl;obtain⟨⟨t,m1⟩,e,i,k,B,D,_⟩:=BX n I (jd (bD ..) hl)<|o x<|eO ..;have i:t=.non:=i;subst i;refine iX (r:=[sv<|.own 0,g,f,Kb x]) J<|dE (mE (k:=0) J I.b J J e) ⟨J,(BY n l (u:=Kb x) D (by rw[cQ];show Mo A+1+_<_;lia) λy z=>o y<|ee _ z).mono λp s=>⟨s.1,?_⟩⟩
  obtain⟨_,w,F,a,d,m',q1,q2,h,q4⟩:=s;rw[zl B]at h q4;refine⟨w,k::F,a,d,m',q1,?_,?_,?_⟩
  .rw[fB]at q2
   rw[dM,show cm+((Mo l+1:Nat):Int)=cm+1+Mo l by lia]
   exact q2
  .rw[fB,fB]at h
   exact h
  .rw[fB,fB]at q4
   rw[dM,zP,fq,gM];refine q4.trans<|ej (A.map nu++·) ?_
   show(cm+1)::_=(cm+1+((0:Nat):Int))::_
   congr 1
   .lia
   .exact uO λj _=>by show cm+1+1+(j:Int)=cm+1+((j+1:Nat):Int);lia
end
def fx1(h:a s=.ok (.own w,s))(d:s.m[w]?=U ob)(g:jm M.P.tab ob.c f=U j)(i:ob.fs[j]?=sv (.own kb))(k:s.m[kb]?=U ⟨M.bc,[c]⟩)(b:Rf c=U u):Dd M.bc M.P.tab f a s=.ok (u,⟨s.r,(s.m.set kb ⟨M.bc,[]⟩).set w ⟨ob.c,ob.fs.set j<|.val u⟩⟩):=by
 have e:we M.bc s.m (.own kb)=U (kb,c):=by
  show(s.m[kb]?).bind _=_;rw[k];show(if M.bc=M.bc then U (kb,c)else Y)=_
  rw[bU J]
 have l:gG M.P.tab f s.m (.own w)=U (w,ob,j,.val<|.own kb):=by
  show(s.m[w]?).bind _=_;rw[d];show(jm M.P.tab ob.c f).bind _=_;rw[g];show(ob.fs[j]?).map _=_;rw[i];rfl
 unfold Dd;rw[h];apply dF;show Res.bind (aZ<|gG M.P.tab f s.m<|.own w) _=_;rw[l];apply dF;dsimp only;rw[e];dsimp only;rw[b];rfl
def Yy:GV [] []:=⟨λ_ a=>(nomatch a),J⟩
def IB(G:GV a b)(hl:Mo a<=1000000):cN (n+1) 19 [.lst a] m=.ok (.lst<|b.map T.str,m):=by
 rw[w19];have e:=Br (src:=oU zA) (n:=2) (js:=[]) (s:=⟨[Ki a],m⟩) (ts:=a) (s1:=⟨[Ki a],m⟩) J hl<|xy a m G.ok;rw[G.gv]at e;exact eK (s':=⟨[Ki a],m⟩) J (fj<|wR e) J
section
variable{m m':FX}{A j rs:B1}
def OQ(I:BJ m L kk sn cm A tx nu rs fn v gv lc c Z):W (cN (n+2) 71 [.own 1] m) λp=>p.1=.lst (gv.map T.str)/\∃v',BJ p.2 L kk sn cm A tx nu rs fn v' [] 0 c Z:=by
 rw[w71];obtain⟨f,w,G,hl⟩:=I.H;have sU:=w.sU;have u:=I.lg;have no:∀j,j≠1/\(j<8\/j=9)->¬ (j=1\/j=v.lg):=λj S=>by lia
 have V:v.lg≠1:=by lia
 clear u;have E:9<Mo m:=(bK.mp I.q).1;obtain⟨ob,h⟩:∃ob:Ob,ob=⟨24,v.ob.fs.set 12<|.val<|.lst f⟩:=⟨_,J⟩;obtain⟨m1,r⟩:∃m1,m1=(m.set v.lg ⟨M.bc,[]⟩).set 1 ob:=⟨_,J⟩;have L1:Mo m1=Mo m:=by rw[r,eT,eT]
 have N:Dd M.bc M.P.tab 29 zA ⟨[sv<|.own 1,Y],m⟩=.ok (.lst f,⟨[sv<|.own 1,Y],m1⟩):=by
  rw[r,h];exact fx1 (s:=⟨[sv<|.own 1,Y],m⟩) (j:=12) J w.o J J w.l J
 have K:=IB n (m:=m1) G (by lia)
 have o2:(m1++[fM []])[1]?=U ob:=by
  apply lE;rw[r];exact dG (by rw[eT];exact jd (uK ..) E)
 obtain⟨v',e⟩:∃v':WV,v'={v with lg:=Mo m1}:=⟨_,J⟩
 have B:dg M.P.tab 29 (.val<|.own m1.length) ob=U v'.ob:=by rw[h,e];rfl
 have y:aJ M.P.tab 29 zA (kT M.bc<|kg aY) ⟨[sv<|.own 1,Ki<|gv.map T.str],m1⟩=.ok (.nx,⟨[sv<|.own 1,Ki<|gv.map T.str],(m1++[fM []]).set 1 v'.ob⟩):=by
  unfold aJ;show Res.bind (aZ<|((m1++[fM []])[1]?).bind<|dg M.P.tab 29<|.val<|.own m1.length) _=_;rw[o2];show Res.bind (aZ<|dg M.P.tab 29 (.val<|.own m1.length) ob) _=_;rw[B];rfl
 obtain⟨m3,i⟩:∃m3,m3=(m1++[fM []]).set 1 v'.ob:=⟨_,J⟩;have X:Mo m3=Mo m+1:=by rw[i,eT,cQ,L1];rfl
 have ŏ:v'.lg=Mo m1:=by rw[e]
 have F:Fr (λj=>j=1\/j=v.lg) m m3:=⟨by lia,λk g x=>by
  rw[i,cW λ(z:1=k)=>x<|.inl z.symm,gY<|by lia,r,cW λ(z:1=k)=>x<|.inl z.symm,cW λ(z:v.lg=k)=>x<|.inr z.symm]⟩
 have D:∀k∈A,k+1<Mo m:=λk g=>by
  obtain⟨Q,ts,C,_⟩:=I.R.b k g;exact(bK.mp C).1
 rw[<- i]at y;refine qI J<|Ĳ (s':=⟨[sv<|.own 1,Y],m1⟩) (iB (ts:=[.lst f]) (s':=⟨[sv<|.own 1,Y],m1⟩) (aw N J) K)<|eE<|W.of y ⟨J,bR (t:=.lst<|gv.map T.str) J ⟨J,v',?_⟩⟩;show BJ m3 L kk sn cm A tx nu rs fn v' [] 0 c Z;refine⟨⟨[],⟨?_,?_,by lia,by show 0<_;exact Nat.succ_pos _⟩,Yy,cV _⟩,by rw[e];exact I.ln,by rw[e];exact I.bm,by rw[e];exact I.tl,by rw[e];exact I.tk,by rw[e];exact I.ps,by rw[e];exact I.hd,by rw[e];exact I.hr,.inr<|by lia,F.get I.b<|no _<|by decide,F.get I.q<|no _<|by decide,F.get I.t<|no _<|by decide,I.R.fr F λk g=>?_,λk g=>?_⟩
 .rw[i];exact dG (by rw[cQ];lia)
 .rw[ŏ,i,cW<|by lia,qh]
 .obtain⟨a,b,d⟩:=I.n k g
  exact⟨λz=>z.elim (OP a).1 b,λz=>z.elim (OP a).2 d⟩
 .have:=D k g
  have:=(I.n k g).1
  lia
end
def b_:B1->B1->Ap×B1
 |l,[]=>([],l)
 |l,c::p=>if c=10 then(l::(b_ [] p).1,(b_ [] p).2)else b_ (l++[c]) p
def ux(l p:B1):b_ l (10::p)=(l::(b_ [] p).1,(b_ [] p).2):=by rw[b_,bU J]
def uy(h:c≠10)(l p:B1):b_ l (c::p)=b_ (l++[c]) p:=by rw[b_,bp h]
structure Ő(p l:B1):Prop where
 e:a_ 10 (l++p)=(b_ l p).1++[(b_ l p).2]
 no:10∉(b_ l p).2
 l2:(b_ l p).1.length+(b_ l p).2.length<=Mo l+Mo p
 l1:(b_ l p).1.length<=Mo p
 ls:∀x∈(b_ l p).1,Mo x<=Mo l+Mo p
theorem jK:∀(p l:B1),10∉l->Ő p l
 |[],l,h=>⟨by rw[bF];exact kj h,h,by show 0+Mo l<=Mo l+0;lia,cV _,λx a=>(by cases a)⟩
 |c::p,l,h=>by
  by_cases e:c=10
  .subst e
   obtain⟨f,i,d,g,b⟩:=jK p [] (λz=>by cases z)
   rw[lK]at f;have d:_<=0+Mo p:=d;refine⟨?_,?_,?_,?_,?_⟩<;>rw[ux]
   .rw[kr h,f];rfl
   .exact i
   .simp only[dM];lia
   .simp only[dM];exact xT g _
   .intro x a
    rw[dM];rcases cu.mp a with z|z
    .rw[z];exact bD ..
    .have b:_<=0+Mo p:=b x z
     lia
  .obtain⟨f,i,d,g,b⟩:=jK p (l++[c]) λz=>by
    rcases i6.mp z with z|z
    .exact h z
    .exact e (iF.mp z).symm
   rw[cQ,Cg]at d b;refine⟨?_,?_,?_,?_,?_⟩<;>rw[uy e]
   .rw[List.append_cons];exact f
   .exact i
   .rw[dM];lia
   .rw[dM];exact bG g<|bD ..
   .intro x a
    rw[dM]
    have:=b x a
    lia
def Yz(h:Mo a+Mo b<=1000000):eA .Add (.str a) (.str b)=U (.str<|a++b):=jI h
theorem uz:∀(p l q:B1),b_ l (p++q)=((b_ l p).1++(b_ (b_ l p).2 q).1,(b_ (b_ l p).2 q).2)
 |[],_,_=>J
 |c::p,l,q=>by
  by_cases e:c=10
  .subst e
   rw[uP,ux,ux,uz p [] q];rfl
  .rw[uP,uy e,uy e,uz p _ q]
def iZ(z:B1):Ap:=if z=[]then[]else[z]
def uA(L:List LN)(sn:Nat)(R:Ap)(i:Nat):Ap×Bool:=DR L (R.getD i [])<|(R.drop<|i+1).take sn
def eM(f:Nat->Ap×Bool):Nat->Nat->Ap×Option Nat
 |_,0=>([],Y)
 |t,d+1=>if(f t).2=O then([],U t)else((f t).1++(eM f (t+1) d).1,(eM f (t+1) d).2)
structure SG(R:Ap)(t:Nat)(A:B1)(tx:Nat->B1)(nu:Nat->Int):Prop where
 x:A.map tx=(R.drop t).take A.length
 i:A.map nu=(uR t A.length).map λ(j:Nat)=>(j:Int)+1
section
variable{A v:B1}
def SG.tl(d:SG R t (k::A) p u):p k=R.getD t []/\u k=(t:Int)+1/\SG R (t+1) A p u:=by
 have a:=d.x;have b:=d.i;rw[dM]at a b;have c:t<Mo R:=by
  have:=ej Cf a
  rw[cz,dM,rN,kH]at this
  lia
 rw[rT c,uW,fq]at a;rw[M5,fq,fq]at b;obtain⟨h,g⟩:=List.cons.inj a;obtain⟨f,e⟩:=List.cons.inj b;refine⟨?_,f,g,e⟩;rw[h,gZ,c5 c];rfl
theorem SG.dr:∀(d:Nat){A:B1}{t:Nat},SG R t A p u->d<=Mo A->SG R (t+d) (A.drop d) p u
 |0,_,_,a,_=>a
 |d+1,[],_,_,h=>ef h<|MM _
 |d+1,k::A,t,a,h=>by
  have:=SG.dr d a.tl.2.2<|MN h
  rw[show t+(d+1)=t+1+d from ML t d 1];exact this
def SG.app(c:SG R t A p u)(b:t+Mo A=w)(e:R.drop w=l++q)(a:v.map z=A.map p++l)(d:v.map B=A.map u++(cK l.length).map λ(j:Nat)=>(w:Int)+1+j):SG R t v z B/\v.length=Mo A+Mo l:=by
 have hl:Mo v=Mo A+Mo l:=by
  have:=ej Cf a
  rw[cz,cQ,cz]at this;exact this
 refine⟨⟨?_,?_⟩,hl⟩
 .rw[a,hl,c.x,List.take_add,Nc,b,e,List.take_left' J]
 .rw[d,hl,c.i,<- List.range'_append_1,eF,b,List.range'_eq_map_range (s:=w),gM]
  refine ej (_++·)<|uO λj _=>?_
  show(w:Int)+1+j=((w+j:Nat):Int)+1
  lia
theorem qi:∀(d:Nat){A:B1}{t:Nat},SG R t A p u->(d<=Mo A-sn\/t+Mo A=Mo R)->d<=Mo A->jA L sn p t d A=eM (uA L sn R) t d
 |0,A,_,_,_,_=>by cases A<;>rfl
 |d+1,[],_,_,_,h=>ef h<|MM _
 |d+1,k::A,t,e,h,hd=>by
  obtain⟨c,f,a⟩:=e.tl;rw[dM]at h hd;have b:(A.take sn).map p=(R.drop<|t+1).take sn:=by
   rw[xV,a.x,Nd];rcases h with h|h
   .rw[uL<|by lia]
   .by_cases z:sn<=Mo A
    .rw[uL z]
    .rw[Ed<|by lia,zR<|by rw[kH];lia,zR<|by rw[kH];lia]
  rw[jA,qi d a (by lia)<|MN hd,b,c]
  rfl
end
def BK(m:FX)(L:List LN)(kk sn:Nat)(R:Ap)(w t:Nat)(c:B1)(fn:Bool):Prop:=∃A a b v,BJ m L kk sn w A a b c fn v [] 10 (400*t) t/\SG R t A a b/\A.length+t=w
def YA{n t w sn d:Nat}(b:n+t=w)(a:t+d=w-sn):n-sn=d:=by lia
def nC:List LN->Ap
 |[]=>[]
 |⟨.en,.say s⟩::L=>s::nC L
 |_::L=>nC L
section
variable{E:FR->Prop}{m:FX}{L:List LN}{sn w kk p t d lc c:Nat}{A rs x:B1}
def rH(I:BJ m L kk sn cm A tx nu rs Zc v gv lc c p):cN (n+1) 82 [.own 0] m=.ok (.non,m):=by
 rw[w82];exact yZ (s':=⟨[sv<|.own 0],m⟩) J (yY (Jh<|fm I.b (j:=5) J J) J) J
def Ml(P:PG L kk)(hL:Mo L<=30)(ho:∀x∈L,x.ok)(I:BK m L kk sn R w t rs Zc)(LR:10∉rs)(hr:Mo rs+Mo x<=500)(C:w<=300)(S:R.drop w=(b_ rs x).1++q)(hd:t+d=w+(b_ rs x).1.length-sn)(hD:D=eM (uA L sn R) t d)(hE:∀j:Nat,D.2=U j->E [.int<|(j:Int)+1,.int<|(kk:Int)+2]):WE E (cN (n+13) 80 [.own 0,.str x] m) λp=>D.2=Y/\p.1=.lst (D.1.map T.str)/\BK p.2 L kk sn R (w+(b_ rs x).1.length) (t+d) (b_ rs x).2 Zc:=by
 obtain⟨A,tx,nu,v,I,G,F⟩:=I;obtain⟨k1,k2,k3,Q,B⟩:=jK x rs LR;obtain⟨a,c⟩:∃a,a=(b_ rs x).1:=⟨_,J⟩;obtain⟨lf,f⟩:∃lf,lf=(b_ rs x).2:=⟨_,J⟩;rw[<- c]at k1 k3 Q B S hd ⊢;rw[<- f]at k1 k2 k3 ⊢;rw[w80];have sd:=λ{z:Nat} (h:z+t=w+Mo a)=>YA h hd;have lA:Mo A<=300:=bG (bG (bD ..)<|qq F) C;have lt:t<=300:=bG (bG (uK ..)<|qq F) C;clear hd c f C;obtain⟨ps,s⟩:∃ps:T,ps=.lst ((a++[lf]).map T.str):=⟨_,J⟩;have e1:splitM (rs++x) [.str [10]]=U ps:=by
  show gd _ _=_;rw[jI<|by rw[cQ];exact bG hr<|by decide,k1,s]
 have e2:il ps (.int<|-1)=U (.str lf):=by
  rw[s];show atT _ (-1)=_;rw[eF];exact ud _ _
 have e3:Ja Y (U<|-1) ps=U (.lst<|a.map T.str):=by
  rw[s];show U (T.lst<|bW _ Y<|U<|-1)=_;rw[eF];exact ej (λz=>U<|T.lst z)<|pZ _ _
 refine qK J<|xR<|dE (mE (k:=0) (t:=.non) J I.b J J<|rH (n+11) I) ⟨J,xR<|W.of (dU (t:=ps)<|OF (l:=rs++x) (ts:=[.str [10]]) (aF (t:=.str rs) (u:=.str x) (fm I.b (j:=4) J J) J<|Yz<|bG hr<|by decide) J e1) ⟨J,?_⟩⟩
 have Z:BJ (m.set 0<|lI sn w lf Zc) L kk sn w A tx nu lf Zc v [] 10 (400*t) t:=I.ō;refine xR<|W.of (ON (r:=[Kb x,sv ps,Y]) (c':=w) (rs':=lf) (Jk:=Zc) (t:=.str lf) I.b (aF (t:=ps) (u:=.int<|-1) J J e2) J) ⟨J,?_⟩;obtain⟨m1,X⟩:∃m1,m1=m.set 0 (lI sn w lf Zc):=⟨_,J⟩;rw[<- X]at Z;show WE E (ah _ _ ⟨[sv<|.own 0,Kb x,sv ps,Y],m.set 0<|lI sn w lf Zc⟩) _;rw[<- X];refine xR<|iD<|W.of (Ss (t:=.lst<|a.map T.str) (ZD (t:=ps) (x:=Y) (y:=U<|-1) J J J e3) J)<|(BY (n+10) a Z (by lia) λy hy=>by have:=B y hy;lia).mono λq g=>?_
 obtain⟨h1,u,A',N,BW,m2,h2,i,hx,hn⟩:=g;refine⟨h1,?_⟩;rw[h2];obtain⟨M,lw⟩:=G.app (w:=w) (by rw[D8];exact F) S hx hn
 generalize A++A'=A2 at i M lw
 have hd:Mo A2-sn=d:=sd (by lia)
 have l2:Mo A2<=800:=by lia
 have dl:d<=Mo A2:=by rw[<- hd];exact uM ..
 clear k3 Q B hr lA;have V:jA L sn N t (Mo A2-sn) A2=D:=by rw[qi _ M (.inl<|cV _)<|uM ..,hD,hd]
 refine xx<|Ul (k:=0) (ob:=lI sn (w+Mo a) lf Zc) (s1:=⟨[sv<|.own 0,Kb x,sv ps,u],m2⟩) J i.b J (aw (fm (r:=[Kb x,sv ps,u]) i.b (j:=1) J J) J)<|(all_eq n P (mn:=sn) i hL ho (by lia) (by lia)<|by rw[V];exact hE).mono λq g=>⟨J,?_⟩
 rw[V,hd]at g;obtain⟨h0,v3,K⟩:=g;obtain⟨log,S3,_,_⟩:=K.H;obtain⟨⟨t5,m5⟩,e5,h5,v5,I5⟩:=OQ (n+10) K;exact W.e<|W.k ⟨_,fj<|mE (k:=1) (fm (r:=[Kb x,sv ps,u]) K.b (j:=0) J J) S3.o J J e5,.inr ⟨_,J,h0,h5,A2.drop d,N,BW,v5,I5.up (jc _)<|by rw[<- Nat.mul_add];exact cV _,M.dr d dl,by rw[kH];lia⟩⟩
abbrev ő:T:=.tup [.str [101,110,100]]
theorem BZ(n:Nat):∀(L:List LN){m:FX}{gv:Ap}{lc:Nat}{u:Option C},WG m b v gv lc->lc+Mo L<800000->(∀x∈L,x.ok)->W (bH (setG 1) (X3<|cN<|n+2) (L.map LN.val) ⟨Kj b::[u],m⟩) λp=>p.1=.nx/\WG p.2.m b v (gv++nC L) (lc+Mo L)/\Fr (WX b v) m p.2.m
 |[],m,gv,lc,u,H,hl,e=>⟨_,J,J,by rw[show nC []=[]from J,bF];exact H,Fr.refl⟩
 |⟨c,d⟩::L,m,gv,lc,u,H,hl,e=>by
  rw[dM]at hl;have q:=(e _<|eO ..).k;have g:=λ{m gv lc u}=>BZ n (b:=b) (v:=v) L (m:=m) (gv:=gv) (lc:=lc) (u:=u);have f:∀x∈L,x.ok:=λx l=>e x<|ee _ l;refine iX (r:=Kj b::[sv<|LN.val ⟨c,d⟩]) J ?_;by_cases he:c=.en
  .subst he
   cases d with
   |say s=>
    obtain⟨j,i,G,o⟩:=H;refine mh (s':=⟨Kj b::[sv<|LN.val ⟨.en,.say s⟩],m⟩) J<|qg (r:=[sv<|LN.val ⟨.en,.say s⟩]) (ts:=[(DD.say s).val]) i J (Iq n s i<|by lia) λ_ m1 h=>⟨J,(g (gv:=gv++[s]) (lc:=lc+1) ⟨_,h.2.1,ZF G,by simp;exact o⟩ (by lia) f).mono λp a=>?_⟩
    obtain⟨k1,k2,k3⟩:=a;rw[fB]at k2;exact⟨k1,by rw[dM,show lc+(Mo L+1)=lc+1+Mo L by lia];exact k2,h.2.2.trans k3⟩
   |_=>exact q.elim
  .have w:nC (⟨c,d⟩::L)=nC L:=by
    cases c<;>first|exact ef J he|rfl
   refine dC (s':=⟨Kj b::[sv<|LN.val ⟨c,d⟩],m⟩) (mi (t:=c.val) J<|(uw ⟨c,d⟩).trans ?_) ⟨_,J,J,(g H (by lia) f).mono λp a=>?_⟩
   .show U (T.bl c.en?)=_
    cases c<;>first|exact ef J he|rfl
   .rw[w,dM]
    exact⟨a.1,a.2.1.up<|by lia,a.2.2⟩
def Mm(H:WG m b v gv lc)(f:v.lines=L.map LN.val)(i:v.hand=.non)(g:∀x∈L,x.ok)(hl:lc+Mo L+2<800000):W (cN (n+3) 72 [.own b] m) λp=>WG p.2 b v (gv++nC L) (lc+2+Mo L)/\Fr (WX b v) m p.2:=by
 rw[w72];obtain⟨e,d,G,k⟩:=H;refine gI J<|iC<|qg (r:=[Y]) d J (L_ (n+1) d<|by lia) λ_ m1 h=>⟨J,?_⟩
 refine iC<|dC (s':=⟨Kj b::[Y],m1⟩) (gJ<|aF (t:=.non) (u:=.non) (by rw[<- i];exact w_fld h.2.1 (j:=7) J J) J J) ⟨_,J,J,?_⟩
 refine Yi (r:=[Y]) (t:=ő) h.2.1 (by simp;lia) (dJ (aw (t:=.str [101,110,100]) J J) J) λm2 c l=>iD<|W.of (Ss (t:=.lst<|L.map LN.val) (by rw[<- f];exact w_fld c (j:=0) J J) J) ?_
 refine(BZ n L (lc:=lc+2) ⟨_,c,Mc (by decide)<|Mc (by decide) G,by simp;exact k⟩ (by lia) g).mono λp a=>⟨a.1,a.2.1,(h.2.2.trans l).trans a.2.2⟩
def Dv(P:PG L kk)(hL:Mo L<=30)(ho:∀x∈L,x.ok)(I:BK m L kk sn R w t rs Zc)(hr:Mo rs<=500)(hw:w<=300)(s:R.drop w=iZ rs)(hd:t+d=Mo R)(N:w<=Mo R)(hD:D=eM (uA L sn R) t d)(hE:∀j:Nat,D.2=U j->E [.int<|(j:Int)+1,.int<|(kk:Int)+2]):WE E (cN (n+13) 81 [.own 0] m) λp=>D.2=Y/\p.1=.lst ((D.1++nC L).map T.str):=by
 obtain⟨A,tx,nu,v,I,G,hA⟩:=I;rw[w81];have g:BJ (m.set 0<|lI sn w rs O) L kk sn w A tx nu rs O v [] 10 (400*t) t:=I.ō;refine qK J<|xR<|dE (mE (k:=0) (t:=.non) J I.b J J<|rH (n+11) I) ⟨J,xR<|W.of (ON (r:=[]) (c':=w) (rs':=rs) (Jk:=O) (t:=.bl O) I.b J J) ⟨J,?_⟩⟩;obtain⟨m1,OM⟩:∃m1,m1=m.set 0 (lI sn w rs O):=⟨_,J⟩;rw[<- OM]at g;show WE E (ah _ _ ⟨[sv<|.own 0],m.set 0<|lI sn w rs O⟩) _;rw[<- OM];have lR:w+(iZ rs).length=Mo R:=by
  rw[<- s,kH];lia
 have K:(iZ rs).length<=1:=by
  unfold iZ;split<;>simp
 have i:t+Mo A=w:=by rw[D8];exact hA
 clear N;have c1:b9 (bX (aN .NotEq) (aE M.P.tab 35 zA)<|cS []) ⟨[sv<|.own 0],m1⟩=.ok (!decide (rs=[]),⟨[sv<|.own 0],m1⟩):=gJ<|aF (t:=.str rs) (u:=.str []) (fm g.b (j:=4) J J) J J;have step:WE E (aV (gX<|b9<|bX (aN .NotEq) (aE M.P.tab 35 zA)<|cS []) (jH<|aP<|aA (au [(25,83)]<|cN<|n+12) zA<|k1<|aE M.P.tab 35 zA) aG ⟨[sv<|.own 0],m1⟩) λp=>p.1=.nx/\∃m2 cm c tx nu,p.2=⟨[sv<|.own 0],m2⟩/\BJ m2 L kk sn cm c tx nu rs O v [] 10 (400*t) t/\SG R t c tx nu/\c.length=Mo A+(iZ rs).length:=by
  unfold iZ at s ⊢;by_cases hr:rs=[]
  .rw[c4 hr]at c1
   rw[bU hr];exact Du c1 ⟨J,m1,w,A,tx,nu,J,g,G,J⟩
  .rw[b0 hr]at c1
   rw[bp hr]at s ⊢;obtain⟨⟨t,m2⟩,e,_,k,f,y,_⟩:=BX (n+10) (x:=rs) g (by lia) (by lia)
   obtain⟨V,F⟩:=G.app (l:=[rs]) (q:=[]) (w:=w) i s (zl f tx rs)<|(zl f nu<|(w:Int)+1).trans<|ej (A.map nu++·)<|by show[(w:Int)+1]=[(w:Int)+1+((0:Nat):Int)];rw[Int.natCast_zero,EA]
   exact Io c1<|W.e<|W.k<|dE (mE (k:=0) J g.b J (aw (fm g.b (j:=4) J J) J) e) ⟨J,m2,_,_,_,_,J,y,V,F⟩
 refine xx<|step.mono λp hp=>?_;obtain⟨h1,m2,cm,c,h,C,h2,y,V,F⟩:=hp;refine⟨h1,?_⟩;rw[h2];have hl:Mo c=d:=by lia
 have l3:Mo c<=301:=by lia
 have lt:t<=300:=by lia
 have ZH:t+Mo c=Mo R:=by rw[hl];exact hd
 clear F lR K i hA hr hw hd;have eD:jA L sn h t (Mo c-0) c=D:=by
  rw[Eb,qi _ V (.inr ZH)<|cV _,hD,hl]
 refine xx<|Ul (k:=0) (ob:=lI sn cm rs O) (s1:=⟨[sv<|.own 0],m2⟩) J y.b J J<|(all_eq n P (mn:=0) y hL ho (by lia) (by lia)<|by rw[eD];exact hE).mono λq Z=>⟨J,?_⟩
 rw[eD,Eb]at Z;obtain⟨h0,X,a⟩:=Z;obtain⟨⟨t4,m4⟩,e5,H4,B⟩:=Mm (n+9) a.H a.ln a.hd ho (by lia)
 have hlg:=a.lg;clear ZH hl l3 lt;have no:∀j,j=0\/j=2\/j=9->¬ WX 1 X j:=λj hj z=>by
  rcases z with z|z<;>lia
 have e9:c.drop c.length=[]:=El;rw[e9]at a;have S:BJ m4 L kk sn cm [] h C rs O X _ _ _ _:=⟨H4,a.ln,a.bm,a.tl,a.tk,a.ps,a.hd,a.hr,a.lg,B.get a.b<|no _<|.inl J,B.get a.q<|no _<|.inr<|.inr J,B.get a.t<|no _<|.inr<|.inl J,a.R.fr B (λk f=>nomatch f),λk f=>nomatch f⟩;obtain⟨aai,S3,_,_⟩:=a.H;refine xR<|dE (mE (k:=1) (t:=t4) (fm (r:=[]) a.b (j:=0) J J) S3.o J J e5) ⟨J,?_⟩;obtain⟨⟨t5,m5⟩,e6,h5,_⟩:=OQ (n+10) S;obtain⟨aaj,Q,_,_⟩:=S.H;exact W.e<|W.k ⟨_,fj<|mE (k:=1) (fm (r:=[]) S.b (j:=0) J J) Q.o J J e6,.inr ⟨_,J,h0,h5⟩⟩
end
def CV.sn:CV->Int
 |.la=>1
 |.so _=>2
 |_=>0
def LN.sn(x:LN):Int:=x.c.sn
def YB(l:Dx):Int:=l.foldl max 0
theorem B0:∀(l:Dx)(a:Int),mx a l=l.foldl max a
 |[],_=>J
 |b::l,a=>by
  rw[mx,B0 l,uN]
  congr 1
  split<;>lia
section
variable{m:FX}
def B3(w:B1):cN (n+1) 22 [lB w] m=.ok (.int 0,m):=by
 rw[XT];refine sEq ?_ J J<|bN J<|bN J<|bN J<|bR J J;show(noOwn (CV.li Zc w).val&&O)=O;rw[um];rfl
def Mn(x:LN):cN (n+2) 22 [x.c.val] m=.ok (.int x.sn,m):=by
 obtain⟨c,d⟩:=x;have h:aQ [c.val]=O:=by
  show(noOwn c.val&&O)=O;rw[um];rfl
 show cN (n+2) 22 [c.val] m=.ok (.int c.sn,m);cases c with
 |li g w=>cases g with
  |false=>exact B3 (n+1) w
  |true=>
   rw[XT];exact sEq h J J<|bY J<|bR (cE (ts:=[lB w]) J<|B3 n w) J
 |la=>rw[XT];exact sEq h J J<|bN J<|bY J<|bR J J
 |so w=>rw[XT];exact sEq h J J<|bN J<|bN J<|bY J<|bR J J
 |_=>rw[XT];exact sEq h J J<|bN J<|bN J<|bN J<|bR J J
def YC(x:LN):0<=x.sn:=by
 obtain⟨c,d⟩:=x;show 0<=c.sn;unfold CV.sn;split<;>decide
theorem B4:∀L:List LN,wm (L.map λx=>T.int x.sn)=U (L.map LN.sn)
 |[]=>J
 |x::L=>by
  show(wm<|L.map λx=>T.int x.sn).map _=_;rw[B4 L];rfl
def IC(hl:Mo L<=30):cN (n+3) 21 [xP L] m=.ok (.int<|YB<|L.map LN.sn,m):=by
 rw[w21];have go:∀(L:List LN),c_ (setG 1) ie (aB (cN (n+2) 22) []<|k1<|aE M.P.tab 1 zB) [Y,Y] (bg L) []=.ok (L.map λ(x:LN)=>T.int x.sn,[]):=by
  intro L
  induction L with
  |nil=>rfl
  |cons x L a=>
   have e:aB (cN (n+2) 22) [] (k1<|aE M.P.tab 1 zB) ⟨[Y,sv x.val],[]⟩=.ok (.int x.sn,⟨[Y,sv x.val],[]⟩):=cE (ts:=[x.c.val]) J<|Mn n x;show c_ _ _ _ _ (x.val::bg L) []=_;rw[c_];apply dF;apply dF;dsimp only;rw[bU J];refine Eq.trans (ej (λz=>Res.bind z _) e) ?_;apply dF;dsimp only;rw[a];rfl
 have e:=X5 (c:=ie) (src:=oU<|aE M.P.tab 0 zA) (n:=2) (js:=[]) (g:=setG 1) (e:=aB (cN (n+2) 22) []<|k1<|aE M.P.tab 1 zB) (s:=⟨[sv<|xP L],[]⟩) (ts:=bg L) (us:=L.map λ(x:LN)=>T.int x.sn) J (by rw[cz];exact bG hl<|by decide) J<|go L
 refine sEq ?_ J J<|bR (t:=.int<|YB<|L.map LN.sn) ?_ J
 .show((aQ (bg L)&&O)&&O)=O
  rw[fk L];rfl
 .unfold KO
  refine Eq.trans (ej (λz=>Res.bind z _) e) ?_;apply dF;dsimp only;rw[B4];cases L with
  |nil=>rfl
  |cons x L=>
   have:=YC x
   show Res.ok (T.int<|mx x.sn<|L.map LN.sn,_)=Res.ok (T.int<|(L.map LN.sn).foldl max<|max 0 x.sn,_);rw[B0,Int.max_eq_right this];rfl
end
section
variable{m Z Z':FX}{j k f kk:Nat}{ob pj x:Ob}{L:List LN}
def gA:(m++Z)[Mo m+j]?=Z[j]?:=by rw[eZ<|bD ..,zF]
def sA:(m++Z).set (Mo m+j) x=m++Z.set j x:=by rw[Nb _ _<|bD ..,zF]
def YD(d:a ⟨sv (.own<|m.length+j)::r,m++Z⟩=.ok (t,⟨sv (.own<|m.length+j)::r,m++Z'⟩))(b:Z'[j]?=U ob)(c:dg M.P.tab f (.val t) ob=U pj):aJ M.P.tab f zA a ⟨sv (.own<|m.length+j)::r,m++Z⟩=.ok (.nx,⟨sv (.own<|m.length+j)::r,m++Z'.set j pj⟩):=by
 unfold aJ;rw[d];apply dF;show Res.bind (aZ<|((m++Z')[Mo m+j]?).bind _) _=_;rw[gA,b];show Res.bind (aZ<|dg M.P.tab f (.val t) ob) _=_;rw[c];show Res.ok (Out.nx,(⟨_,(m++Z').set (Mo m+j) pj⟩:S))=_;rw[sA]
def Mp:nt M.bc ⟨r,m++Z⟩=.ok (.own<|m.length+Mo Z,⟨r,m++(Z++[aS])⟩):=by
 unfold nt;rw[cQ,<- fB];rfl
def Œ:kT M.bc (kg aY) ⟨r,m++Z⟩=.ok (.own<|m.length+Mo Z,⟨r,m++(Z++[fM []])⟩):=by
 show Res.ok (T.own (m++Z).length,(⟨r,(m++Z)++[fM []]⟩:S))=_;rw[cQ,fB]
def YE(h:fl ⟨r,m++Z⟩=.ok (ts,⟨r,m++Z⟩))(k:g (.own (Mo m+Mo Z)::ts) (m++(Z++[⟨c,[]⟩]))=.ok (.non,m')):oS c g fl ⟨r,m++Z⟩=.ok (.own<|m.length+Mo Z,⟨r,m'⟩):=by
 rw[<- cQ]at k ⊢;rw[<- fB]at k;exact LD (s':=⟨r,m++Z⟩) h k
def xF{a b:Ob}(hl:Mo L<=30):cN (n+1) 62 [.own<|m.length+2,.lst<|bg L] (m++[a,b,⟨23,[]⟩])=.ok (.non,m++[a,b,mw L<|m.length+3,aS]):=by
 rw[w62];have f:(bg L).map (λt=>match t with|.obj _<|c::_=>c|t=>t)=L.map λx=>x.c.val:=by
  rw[gM];rfl
 have e:=X5 (c:=ie) (src:=oU zB) (n:=2) (js:=[]) (g:=setG 1) (e:=aE M.P.tab 1 zB) (s:=⟨sv (.own<|m.length+2)::[Ki<|bg L],m++[a,b,⟨23,[]⟩]⟩) (ts:=bg L) (us:=L.map λx=>x.c.val) J (by rw[cz];exact bG hl<|by decide) J (by
  rw[<- f];refine dW λt d=>?_;obtain⟨k,_,rfl⟩:=je.mp d;exact⟨[Y,sv k.val],[Y,sv k.val],J,J⟩)
 exact yZ (s':=⟨sv (.own<|m.length+2)::[Ki<|bg L],m++[a,b,mw L<|m.length+3,aS]⟩) J (seq1 (YD (j:=2) (Z':=[a,b,⟨23,[]⟩]) e J J)<|YD (j:=2) (Z:=[a,b,⟨23,[.val<|.lst<|L.map λx=>x.c.val]⟩]) (Z':=[a,b,⟨23,[.val<|.lst<|L.map λx=>x.c.val]⟩,aS]) (t:=.own<|m.length+3) Mp J J) J
def B5(B:Nat)(L:List LN)(kk:Nat):WV:=⟨bg L,dR<|.int<|1+kk,B+2,.lst [],0,B+4,0,.non,0,B+5,B+6,B+7,B+8,Zc⟩
abbrev wO(B:Nat)(L:List LN)(kk k:Nat):Ob:=⟨24,(B5 B L kk).ob.fs.take k⟩
def B6(b:e ⟨sv (.own<|m.length+1)::r,m++ob::wO m.length L kk k::Z⟩=.ok (t,⟨sv (.own<|m.length+1)::r,m++ob::wO m.length L kk k::Z'⟩))(a:dg M.P.tab f (.val t) (wO m.length L kk k)=U (wO m.length L kk<|k+1))(h:F ⟨sv (.own<|m.length+1)::r,m++ob::wO m.length L kk (k+1)::Z'⟩=Q):ah (aJ M.P.tab f zA e) F ⟨sv (.own<|m.length+1)::r,m++ob::wO m.length L kk k::Z⟩=Q:=seq1 (YD (j:=1) b J a) h
def Te{a:FR}(b:WS m w v a)(hl:Mo a+1<900000):cN (n+1) 66 [.own w] m=.ok (.non,(m.set v.lg<|fM<|a++[fL v.tk]).set w {v with wt:=O}.ob):=by
 rw[w66];have c:=b.app (t:=fL v.tk) (by simpa using hl)
 refine yZ (s':=⟨Kj w::[],(m.set v.lg<|fM<|a++[fL v.tk]).set w {v with wt:=O}.ob⟩) J (seq1 (qe b (t:=fL v.tk) (r:=[]) ?_)<|xw c (t:=.bl O) (v':={v with wt:=O}) J J) J
 exact dJ (aw (t:=.str [119,97,110,116]) J<|aw (aF (w_fld b (j:=6) (t:=.int v.tk) J J) J J) J) J
def xG(a:MK L kk)(hl:Mo L<=30):cN (n+2) 65 [.own<|m.length+1,xP L] (m++[ob,⟨24,[]⟩])=.ok (.non,m++[ob,{B5 m.length L kk with wt:=O}.ob,mw L<|m.length+3,aS,aS,aS,aS,fM [],fM [fL 0]]):=by
 rw[w65];refine yZ (s':=⟨sv (.own<|m.length+1)::[sv<|xP L],m++[ob,{B5 m.length L kk with wt:=O}.ob,mw L<|m.length+3,aS,aS,aS,aS,fM [],fM [fL 0]]⟩) J ?_ J
 show ah _ _ ⟨sv (.own<|m.length+1)::[sv<|xP L],m++ob::wO m.length L kk 0::[]⟩=_;refine B6 (t:=.lst<|bg L) (Z':=[]) J J<|B6 (t:=dR<|.int<|1+kk) (Z':=[]) (cE (ts:=[.lst<|bg L]) (aw (nA (k:=Mo m+1) (ob:=wO m.length L kk 1) (j:=0) J (gA (j:=1)) J J) J)<|LO n a) J ?_;refine B6 (t:=.own<|m.length+2) (Z':=[mw L<|m.length+3,aS]) (YE (ts:=[.lst<|bg L]) (aw (nA (k:=Mo m+1) (ob:=wO m.length L kk 2) (j:=0) J (gA (j:=1)) J J) J)<|xF n hl) J ?_;refine B6 (t:=.lst []) (Z':=[mw L<|m.length+3,aS]) J J<|B6 (t:=.int 0) (Z':=[mw L<|m.length+3,aS]) J J ?_;refine B6 (t:=.own<|m.length+4) (Z':=[mw L<|m.length+3,aS,aS]) Mp J ?_;refine B6 (t:=.int 0) (Z':=[mw L<|m.length+3,aS,aS]) J J<|B6 (t:=.non) (Z':=[mw L<|m.length+3,aS,aS]) J J<|B6 (t:=.int 0) (Z':=[mw L<|m.length+3,aS,aS]) J J ?_;refine B6 (t:=.own<|m.length+5) (Z':=[mw L<|m.length+3,aS,aS,aS]) Mp J ?_;refine B6 (t:=.own<|m.length+6) (Z':=[mw L<|m.length+3,aS,aS,aS,aS]) Mp J ?_;refine B6 (t:=.own<|m.length+7) (Z':=[mw L<|m.length+3,aS,aS,aS,aS,fM []]) Œ J ?_;refine B6 (t:=.own<|m.length+8) (Z':=[mw L<|m.length+3,aS,aS,aS,aS,fM [],fM []]) Œ J ?_;refine B6 (t:=.bl Zc) (Z':=[mw L<|m.length+3,aS,aS,aS,aS,fM [],fM []]) J J ?_;have S0:WS (m++[ob,(B5 m.length L kk).ob,mw L<|m.length+3,aS,aS,aS,aS,fM [],fM []]) (Mo m+1) (B5 m.length L kk) []:=⟨gA (j:=1),gA (j:=8),by show Mo m+8≠Mo m+1;lia,by decide⟩
 have e:=Te n S0 (by decide)
 have b:(m++[ob,(B5 m.length L kk).ob,mw L<|m.length+3,aS,aS,aS,aS,fM [],fM []]).set (B5 m.length L kk).lg (fM<|[]++[fL (B5 m.length L kk).tk])=m++[ob,(B5 m.length L kk).ob,mw L<|m.length+3,aS,aS,aS,aS,fM [],fM [fL 0]]:=sA (j:=8);rw[b,sA (j:=1)]at e;show aP _ ⟨sv (.own<|m.length+1)::[sv<|xP L],m++[ob,(B5 m.length L kk).ob,mw L<|m.length+3,aS,aS,aS,aS,fM [],fM []]⟩=_;unfold aP;rw[mE (k:=Mo m+1) (ob:=(B5 m.length L kk).ob) J (gA (j:=1)) J J e];rfl
abbrev bO(sn:Int)(k:Nat):Ob:=⟨25,(lI sn 0 [] Zc).fs.take k⟩
def P5(b:e ⟨Kj 0::r,bO sn k::Z⟩=.ok (t,⟨Kj 0::r,bO sn k::Z'⟩))(a:dg M.P.tab f (.val t) (bO sn k)=U (bO sn<|k+1))(h:F ⟨Kj 0::r,bO sn (k+1)::Z'⟩=Q):ah (aJ M.P.tab f zA e) F ⟨Kj 0::r,bO sn k::Z⟩=Q:=seq1 (YD (m:=[]) (j:=0) b J a) h
abbrev ID(sn:Int)(L:List LN)(kk:Nat):FX:=[lI sn 0 [] Zc,{B5 0 L kk with wt:=O}.ob,mw L 3,aS,aS,aS,aS,fM [],fM [fL 0],fM []]
def IE(b:MK L kk)(hl:Mo L<=30)(c:YB (L.map LN.sn)=sn):cN (n+4) 79 [.own 0,xP L] [⟨25,[]⟩]=.ok (.non,ID sn L kk):=by
 rw[w79];obtain⟨Z,a⟩:∃Z:FX,Z=[{B5 0 L kk with wt:=O}.ob,mw L 3,aS,aS,aS,aS,fM [],fM [fL 0]]:=⟨_,J⟩
 have Ć:Mo Z=8:=by rw[a];rfl
 have d:=xG (n+1) b hl (m:=[]) (ob:=bO sn 0);refine yZ (s':=⟨Kj 0::[sv<|xP L],ID sn L kk⟩) J ?_ J;show ah _ _ ⟨Kj 0::[sv<|xP L],bO sn 0::[]⟩=_;refine P5 (t:=.own 1) (Z':=Z) ((YE (m:=[]) (Z:=[bO sn 0]) (ts:=[xP L]) J d).trans<|by rw[a];rfl) J ?_
 refine P5 (t:=.int sn) (Z':=Z) (cE (ts:=[xP L]) J<|by rw[<- c];exact IC n hl) J<|P5 (t:=.int 0) (Z':=Z) J J ?_
 have ln:kT M.bc (kg aY) ⟨Kj 0::[sv<|xP L],bO sn 3::Z⟩=.ok (.own 9,⟨Kj 0::[sv<|xP L],bO sn 3::(Z++[fM []])⟩):=by
  have:=Œ (m:=[]) (Z:=bO sn 3::Z) (r:=Kj 0::[sv<|xP L])
  rw[dM,Ć]at this;exact this
 refine P5 (t:=.own 9) (Z':=Z++[fM []]) ln J<|P5 (t:=.str []) (Z':=Z++[fM []]) J J ?_;refine(YD (m:=[]) (j:=0) (t:=.bl Zc) (pj:=lI sn 0 [] Zc) (Z':=bO sn 5::(Z++[fM []])) J J J).trans ?_;rw[a];rfl
def tD{sn:Nat}(L:List LN)(kk:Nat)(R:Ap):BK (ID sn L kk) L kk sn R 0 0 [] Zc:=⟨[],λ_=>[],λ_=>0,{B5 0 L kk with wt:=O},⟨⟨_,⟨J,J,by show(8:Nat)≠1;decide,by decide⟩,Mc (ys:=[.int 1]) (by decide) Yy,by decide⟩,J,J,J,J,J,J,J,.inl J,J,J,J,⟨λ_ h=>(nomatch h),λ_ h=>(nomatch h),λ_ h=>(nomatch h),λ_ h=>(nomatch h)⟩,λ_ h=>(nomatch h)⟩,⟨J,J⟩,J⟩
end
def mod_eq(h:0<j):eA .Mod (.int i) (.int j)=U (.int<|i % j):=jI h
def div_eq(h:0<j/\j<1073741824):eA .FloorDiv (.int i) (.int j)=U (.int<|i/j):=jI h
def Tf(h:(-(2^64)<i/\i<2^64)\/(-(2^64)<j/\j<2^64)):eA .Mult (.int i) (.int j)=U (.int<|i*j):=jI<|.inl h
def cellAt(ns:Dx)(k:Nat):Int:=ns.getD k 0
def uB{k:Nat}:cN (n+1) 39 [.scr ns,.int k] m=.ok (.int<|cellAt ns k,m):=by
 rw[w39];refine sEq J J J ?_;by_cases h:k<Mo ns
 .refine bY (gJ<|pE (t:=.int k) (u:=.int ns.length) J J<|by rw[jS,c4<|by lia])<|bR (pE (t:=.scr ns) (u:=.int k) J J ?_) J
  show(atT ns (k:Int)).map T.int=_;rw[jx h];unfold cellAt;rw[gZ,c5 h];rfl
 .refine bN (gJ<|pE (t:=.int k) (u:=.int ns.length) J J<|by rw[jS,b0<|by lia])<|bR J ?_
  unfold cellAt;rw[gZ,zQ<|by lia];rfl
def md(h:a s=.ok (.int i,s))(b:0<j):oM a (cI j) s=.ok (.int<|i % j,s):=aF h J<|mod_eq b
def fd(h:a s=.ok (.int i,s))(b:0<j/\j<1073741824):oD a (cI j) s=.ok (.int<|i/j,s):=aF h J<|div_eq b
def ZI(h:a s=.ok (.str x,s))(c:b s=.ok (.str y,s))(hl:Mo x+Mo y<=1000000):oA a b s=.ok (.str<|x++y,s):=aF h c<|jI hl
def Tg{i:Int}(d:0<=i)(b:i<Mo l):∃c∈l,il (.str l) (.int i)=U (.str [c]):=by
 have a:i.toNat<Mo l:=by lia
 refine⟨l[i.toNat],Es a,?_⟩;show(atT l i).map _=_;unfold atT;rw[bU d,bU b,c5 a];rfl
def ZJ:B1:=XO
def YF:ZJ.all nQ=O:=by decide +kernel
def zm(i:Int)(m:FX):∃c,nQ c=O/\cN (n+1) 41 [.int i] m=.ok (.str [c],m):=by
 have h:0<=i % 85/\i % 85<85:=⟨Nl _<|by decide,Nm _<|by decide⟩
 obtain⟨c,a,e⟩:=Tg (l:=ZJ) h.1 h.2;refine⟨c,iG.mp YF c a,?_⟩;rw[w41];exact sEq J J J<|bS (t:=.str ZJ) J<|bR (pE (t:=.str ZJ) (u:=.int<|i % 85) J (aF (t:=.int i) (u:=.int 85) J J<|mod_eq<|by decide) e) J
def YG(L:Nat)(h:L<=1000):oV [.int L]=U ((uR 0 L).map λq=>T.int (q:Nat)):=by
 have:oV [.int L]=U (mz 0 ((L:Int)).toNat):=jI ⟨by lia,by lia⟩
 rw[this,uX];unfold mz;rw[List.range_eq_range'];exact ej U<|uO λq _=>by rw[z9]
theorem B7(n:Nat):∀(l:B1)(x:B1)(a2 a3:Option C),(∀q∈l,q<10)->(∀c∈x,nQ c=O)->Mo x+Mo l<=10 ->
  W (bH (setG 2) (XW<|cN<|n+1) (l.map λq=>T.int (q:Nat)) ⟨[J4 i,Kb x,a2,a3],[]⟩) λp=>p.1=.nx/\∃z a2 a3,p.2=⟨[J4 i,Kb z,a2,a3],[]⟩/\(∀c∈z,nQ c=O)/\z.length=Mo x+Mo l
 |[],x,a2,a3,_,f,_=>⟨_,J,J,x,a2,a3,J,f,J⟩
 |q::l,x,a2,a3,m,f,hl=>by
  rw[dM]at hl;have h:=m q<|eO ..;obtain⟨j,o⟩:∃j:Int,j=i/(2+5*(q:Nat)) % 9:=⟨_,J⟩;have E:0<=j/\j<9:=by rw[o];exact⟨Nl _<|by decide,Nm _<|by decide⟩
  have D:oM (oD zA<|oA (cI 2)<|bX (eA .Mult) (cI 5) zC) (cI 9) ⟨[J4 i,Kb x,J4 (q:Nat),a3],[]⟩=.ok (.int j,⟨[J4 i,Kb x,J4 (q:Nat),a3],[]⟩):=by
   rw[o];exact md (aF (t:=.int i) (u:=.int<|2+5*(q:Nat)) J (aF (u:=.int<|5*(q:Nat)) J (aF J J<|Tf<|.inl ⟨by decide,by decide⟩) J)<|div_eq ⟨by lia,by lia⟩) (by decide)
  have next:∀c,nQ c=O->W (bH (setG 2) _ (l.map λq=>T.int (q:Nat)) ⟨[J4 i,Kb<|x++[c],J4 (q:Nat),J4 j],[]⟩) λp=>p.1=.nx/\∃z a2 a3,p.2=⟨[J4 i,Kb z,a2,a3],[]⟩/\(∀c∈z,nQ c=O)/\z.length=Mo x+(Mo l+1):=λc g=>(B7 n l (x++[c]) _ _ (λq s=>m q<|ee _ s) (λd hd=>(i6.mp hd).elim (f d) λz=>by rw[iF.mp z];exact g)<|by rw[cQ];show _+1+_<=_;lia).mono λp v=>by
   obtain⟨B,z,a,b,A,y,w⟩:=v;refine⟨B,z,a,b,A,y,?_⟩;simp only[cQ,dM,qt]at w;lia
  refine iX (r:=[J4 i,Kb x,J4 (q:Nat),a3]) J<|wS (t:=.int j) D ?_;by_cases h8:j<8
  .obtain⟨c,g,k⟩:=Tg (l:=[97,97,97,98,98,98,98,97]) E.1 h8
   have e:nQ c=O:=by
    have:([97,97,97,98,98,98,98,97]:B1).all nQ=O:=by decide +kernel
    exact iG.mp this c g
   exact mh (gJ<|aF J J<|by rw[jS,c4 h8])<|W.of (dU<|aF (t:=.str x) (u:=.str [c]) J (aF J J k)<|jI<|by show _+1<=_;lia) ⟨J,next c e⟩
  .obtain⟨c,e,k⟩:=zm n (i/7) []
   exact dC (gJ<|aF J J<|by rw[jS,b0 h8])<|W.of (dU<|aF (t:=.str x) (u:=.str [c]) J (cE (ts:=[.int<|i/7]) (aw (fd J<|by decide) J) k)<|jI<|by show _+1<=_;lia) ⟨J,next c e⟩
def my(i:Int)(m:FX):∃w,Wd w/\cN (n+2) 42 [.int i] m=.ok (.str w,m):=by
 obtain⟨k,h,k1,k3⟩:∃k:Nat,1+i % 2=(k:Int)/\1<=k/\k<=2:=⟨(1+i % 2).toNat,by lia,by lia,by lia⟩
 obtain⟨⟨o,s⟩,e,r,z,a2,a3,d,p,b⟩:=B7 n (i:=i) (uR 0 k) [] Y Y (λq g=>by have:=Nf.mp g;obtain⟨j,u,rfl⟩:=this;lia) (λc l=>nomatch l) (by rw[zV];show 0+k<=_;lia)
 rw[zV]at b;have b:Mo z=0+k:=b;cases r;have d:s=_:=d;subst d;refine⟨z,⟨p,λf=>?_,by lia⟩,?_⟩
 .rw[f]at b
  have b:0=0+k:=b
  lia
 rw[w42];refine sEq J J J<|bS (t:=.str []) J<|eE<|iD<|W.of (a:=((uR 0 k).map λq=>T.int (q:Nat),(⟨[J4 i,Kb [],Y,Y],[]⟩:S))) ?_ ⟨_,e,J,bR J J⟩;exact Sq (ts:=[.int (k:Nat)]) (aw (by rw[<- h];exact aF J (md J<|by decide) J) J)<|YG k<|bG k3<|by decide
section
variable{m:FX}
def Dw(i:Int)(m:FX):∃c,cN (n+1) 43 [.int i] m=.ok (.str [c],m):=by
 rw[w43];unfold t43
 generalize hl:(XR:B1)=l
 clear hl;have a:bV cX (k1 zB) ⟨[J4 i,Kb l,J4<|i % 250],[]⟩=.ok (.int l.length,⟨[J4 i,Kb l,J4<|i % 250],[]⟩):=dJ (ts:=[.str l]) J J;by_cases h1:i % 250<70
 .obtain⟨d,e⟩:∃d,il (.str [97,98]) (.int<|if decide (i % 250<35)=O then 1 else 0)=U (.str [d]):=by
   by_cases h:i % 250<35
   .rw[c4 h];exact⟨98,J⟩
   .rw[b0 h];exact⟨97,J⟩
  exact⟨d,sEq J J J<|bS (t:=.str l) J<|bS (md J<|by decide)<|bY (gJ<|aF J J<|by rw[jS,c4 h1])<|bR (aF (t:=.str [97,98]) J (dJ (ts:=[.bl<|decide<|i % 250<35]) (aw (aF J J<|jS _ _) J) J) e) J⟩
 .have b1:∀{A B:FS}{G:T×FX->Prop},WB B ⟨[J4 i,Kb l,J4<|i % 250],[]⟩ G->WB (ah (aV (b9<|bX (aN .Lt) zC<|cI 70) A aG) B) ⟨[J4 i,Kb l,J4<|i % 250],[]⟩ G:=λh=>bN (gJ<|aF J J<|by rw[jS,b0 h1]) h
  by_cases h2:i % 250<70+(Mo l:Nat)
  .obtain⟨c,_,e⟩:=Tg (l:=l) (i:=i % 250-70) (by lia) (by lia)
   exact⟨c,sEq J J J<|bS (t:=.str l) J<|bS (md J<|by decide)<|b1<|bY (gJ<|aF (u:=.int<|70+(Mo l:Nat)) J (aF J a J)<|by rw[jS,c4 h2])<|bR (aF (t:=.str l) (u:=.int<|i % 250-70) J J e) J⟩
  .exact⟨10,sEq J J J<|bS (t:=.str l) J<|bS (md J<|by decide)<|b1<|bN (gJ<|aF (u:=.int<|70+(Mo l:Nat)) J (aF J a J)<|by rw[jS,b0 h2])<|bR J J⟩
theorem xH(n:Nat):∀(l:B1)(x:B1)(a:Int)(a7:Option C),(∀q∈l,q<100)->Mo x+Mo l<=1000 ->
  W (bH (setG 7) (XX<|cN<|n+1) (l.map λq=>T.int (q:Nat)) ⟨[a0,a1,a2,a3,a4,J4 a,Kb x,a7],[]⟩) λp=>p.1=.nx/\∃z a a7,p.2=⟨[a0,a1,a2,a3,a4,J4 a,Kb z,a7],[]⟩/\z.length=Mo x+Mo l
 |[],x,a,a7,_,_=>⟨_,J,J,x,a,a7,J,J⟩
 |q::l,x,a,a7,b,hl=>by
  rw[dM]at hl;have h:=b q<|eO ..;obtain⟨c,j⟩:=Dw n (a+(q:Nat)*(q:Nat)*31) [];refine iX (r:=[a0,a1,a2,a3,a4,J4 a,Kb x,J4 (q:Nat)]) J<|iC<|W.of (dU (s':=⟨[a0,a1,a2,a3,a4,J4 a,Kb x,J4 (q:Nat)],[]⟩) (t:=.str<|x++[c])<|aF (t:=.str x) (u:=.str [c]) J (cE (ts:=[.int<|a+(q:Nat)*(q:Nat)*31]) (aw (aF (u:=.int<|(q:Nat)*(q:Nat)*31) J (aF (t:=.int<|(q:Nat)*(q:Nat)) (u:=.int 31) (aF (t:=.int (q:Nat)) (u:=.int (q:Nat)) J J<|Tf<|.inr ⟨by lia,by lia⟩) J<|Tf<|.inr ⟨by decide,by decide⟩) J) J) j)<|jI<|by show _+1<=_;lia) ⟨J,W.of (dU (s':=⟨[a0,a1,a2,a3,a4,J4 a,Kb<|x++[c],J4 (q:Nat)],[]⟩) (t:=.int<|a/250)<|fd J<|by decide) ⟨J,(xH n l (x++[c]) (a/250) (J4 (q:Nat)) (λq d=>b q<|ee _ d)<|by rw[cQ];show _+1+_<=_;lia).mono λp e=>?_⟩⟩
  obtain⟨i,z,œ,k,g,f⟩:=e;refine⟨i,z,œ,k,g,?_⟩;simp only[cQ,dM,qt]at f ⊢;lia
theorem rJ(n:Nat):∀(cs:Dx)(ps:Ap)(room:Int)(a3 a4 a5 a6 a7:Option C),0<=room->(Mo ps.flatten:Int)+room<=190->Mo ps+Mo cs<=1000 ->
  W (bH (setG 3) (XY<|cN<|n+1) (cs.map T.int) ⟨[a0,J4 room,U<|.ol<|ps.map T.str,a3,a4,a5,a6,a7],[]⟩) λp=>p.1=.nx/\∃(d:Ap)(room:Int)(a3 a4 a5 a6 a7:Option C),p.2=⟨[a0,J4 room,U<|.ol<|d.map T.str,a3,a4,a5,a6,a7],[]⟩/\d.flatten.length<=190/\d.length=Mo ps+Mo cs
 |[],ps,room,a3,a4,a5,a6,a7,A,hr,_=>⟨_,J,J,ps,room,a3,a4,a5,a6,a7,J,by lia,J⟩
 |c::cs,ps,room,a3,a4,a5,a6,a7,A,hr,hl=>by
  rw[dM]at hl;obtain⟨o,s⟩:∃o:Option C,o=U (.ol<|ps.map T.str):=⟨_,J⟩;have G:∀{B:FS}{Q:Out×S->Prop},(∀k:Int,0<=k->k<=20->W (B ⟨[a0,J4 room,o,J4 c,J4 k,a5,a6,a7],[]⟩) Q)->W (ah (aH 4<|oM zD<|cI 4) (ah (aV (b9<|oE (oM (oD zD<|cI 4)<|cI 9) zI)
  (aH 4<|oM (oD zD<|cI 36)<|cI 21)
  aG) B) ⟨[a0,J4 room,o,J4 c,a4,a5,a6,a7],[]⟩) Q:=λ{B Q} h=>by
   refine iC<|W.of (dU (s':=⟨[a0,J4 room,o,J4 c,a4,a5,a6,a7],[]⟩) (t:=.int<|c % 4)<|md J<|by decide) ⟨J,?_⟩
   have ct:b9 (oE (oM (oD zD<|cI 4)<|cI 9) zI) ⟨[a0,J4 room,o,J4 c,J4<|c % 4,a5,a6,a7],[]⟩=.ok (decide<|c/4 % 9=1,⟨[a0,J4 room,o,J4 c,J4<|c % 4,a5,a6,a7],[]⟩):=gJ<|aF (md (fd J<|by decide)<|by decide) J<|HX _ _
   by_cases hc:c/4 % 9=1
   .rw[c4 hc]at ct
    exact iC<|mh ct<|W.of (dU (s':=⟨[a0,J4 room,o,J4 c,J4<|c % 4,a5,a6,a7],[]⟩) (t:=.int<|c/36 % 21)<|md (fd J<|by decide)<|by decide) ⟨J,h (c/36 % 21) (by lia)<|by lia⟩
   .rw[b0 hc]at ct
    exact iC<|dC ct<|W.of (a:=(Out.nx,_)) J ⟨J,h (c % 4) (by lia)<|by lia⟩
  refine iX (r:=[a0,J4 room,U<|.ol<|ps.map T.str,J4 c,a4,a5,a6,a7]) J ?_;rw[<- s];refine G λk H k1=>?_;obtain⟨j,x,v,I⟩:∃j:Nat,(if room<k then room else k)=(j:Int)/\j<=20/\(j:Int)<=room:=⟨(if room<k then room else k).toNat,by split<;>lia,by split<;>lia,by split<;>lia⟩
  have l:eA .Pow (.int 10) (.int 60)=U (.int<|10^(60:Int).toNat):=by
   show gd ((0:Int)<=60/\(60:Int)<=1000000/\(10:Int).natAbs<2^64) (T.int<|10^(60:Int).toNat)=_;exact jI (by decide)
  have D:(0:Int)<10^(60:Int).toNat:=by decide +kernel
  refine iC<|W.of (dU (s':=⟨[a0,J4 room,o,J4 c,J4 k,a5,a6,a7],[]⟩) (t:=.int<|c/36 % (10^(60:Int).toNat))<|aF (fd J<|by decide) (aF (t:=.int 10) (u:=.int 60) J J l)<|mod_eq D) ⟨J,iC<|W.of (dU (s':=⟨[a0,J4 room,o,J4 c,J4 k,J4<|c/36 % (10^(60:Int).toNat),a6,a7],[]⟩) (t:=.str []) J) ⟨J,?_⟩⟩
  refine iC<|iD<|W.of (a:=((uR 0 j).map λq=>T.int (q:Nat),(⟨[a0,J4 room,o,J4 c,J4 k,J4<|c/36 % (10^(60:Int).toNat),Kb [],a7],[]⟩:S))) (Sq (ts:=[.int (j:Nat)]) (aw (dJ (ts:=[.int k,.int room]) J<|by rw[<- x];rfl) J)<|YG j<|bG v<|by decide)<|(xH n (uR 0 j) [] _ a7 (λq w=>by obtain⟨i,K,rfl⟩:=Nf.mp w;lia)<|by rw[zV];show 0+j<=_;lia).mono λp f=>⟨f.1,?_⟩
  obtain⟨_,z,b,m,y,g⟩:=f;rw[zV]at g;have g:Mo z=0+j:=g;rw[y,s];refine iC<|W.of (dU (s':=⟨[a0,J4 room,U<|.ol<|ps.map T.str,J4 c,J4 k,J4 b,Kb z,m],[]⟩) (t:=.int<|room-(Mo z:Nat))<|aF (t:=.int room) (u:=.int (Mo z:Nat)) J (dJ (ts:=[.str z]) J J) J) ⟨J,W.of (wU (s1:=⟨[a0,J4<|room-(Mo z:Nat),U<|.ol<|ps.map T.str,J4 c,J4 k,J4 b,Kb z,m],[]⟩) (Jd:=ps.map T.str) (ts:=ps.map T.str) (t:=.str z) J J J<|by rw[cz];lia) ⟨J,?_⟩⟩
  have e:ps.map T.str++[T.str z]=(ps++[z]).map T.str:=by rw[eF];rfl
  show W (bH _ _ (cs.map T.int) ⟨[a0,J4<|room-(Mo z:Nat),U<|.ol<|ps.map T.str++[T.str z],J4 c,J4 k,J4 b,Kb z,m],[]⟩) _;rw[e];refine(rJ n cs (ps++[z]) (room-(Mo z:Nat)) _ _ _ _ _ (by lia) (by rw[Er,cQ];show((_+(z++[]).length:Nat):Int)+_<=_;rw[bF];lia)<|by rw[cQ];show _+1+_<=_;lia).mono λp f=>⟨f.1,?_⟩
  obtain⟨_,d,F,b3,b4,b5,b6,E,g1,g2,g3⟩:=f;refine⟨d,F,b3,b4,b5,b6,E,g1,g2,?_⟩;rw[cQ]at g3;have g3:Mo d=Mo ps+1+Mo cs:=g3;rw[dM];lia
theorem xJ:∀l:Dx,aQ (l.map T.int)=O
 |[]=>J
 |x::l=>by
  show(O&&aQ (l.map T.int))=O;rw[xJ l];rfl
def xK(cs:Dx)(m:FX)(hl:Mo cs<=1000):∃ps:Ap,(Mo ps.flatten<=190/\ps.length<=1000)/\cN (n+2) 44 [.lst<|cs.map T.int] m=.ok (.lst<|ps.map T.str,m):=by
 obtain⟨⟨o,s⟩,e,g,b,room,a3,a4,a5,a6,a7,c,f,d⟩:=rJ n (a0:=Ki<|cs.map T.int) cs [] 190 Y Y Y Y Y (by decide) (by show(0:Int)+190<=190;decide) (by show 0+_<=_;lia)
 have d:Mo b=0+Mo cs:=d;cases g;have c:s=_:=c;subst c;refine⟨b,⟨f,by lia⟩,?_⟩
 rw[w44];refine sEq ?_ J (du _)<|bS (t:=.int 190) J<|eE<|W.of (a:=(Out.nx,(⟨[Ki<|cs.map T.int,J4 190,U<|.ol [],Y,Y,Y,Y,Y],[]⟩:S))) J ⟨J,eE<|iD<|W.of (Ss (t:=.lst<|cs.map T.int) J J) ⟨_,e,J,Bq (t:=.lst<|b.map T.str) (s':=⟨[Ki<|cs.map T.int,J4 room,Ki<|b.map T.str,a3,a4,a5,a6,a7],[]⟩) J J⟩⟩;show(aQ (cs.map T.int)&&O)=O;rw[xJ];rfl
end
def ua(l:List α)(i j:Nat):bW l (U ((i:Nat):Int)) (U ((j:Nat):Int))=(l.drop i).take (j-i):=by
 unfold bW;rw[gb,gb];by_cases h:i<=Mo l
 .rw[uL h,<- Nat.sub_min_sub_right,M_,kH,Nat.min_assoc,D9]
 .rw[Ed<|zG h,zW<|cV _,zW<|zG h,Ng,Ng]
def IF(l:List α)(i:Nat):bW l (U ((i:Nat):Int)) Y=l.drop i:=by
 unfold bW;rw[gb];show(l.drop<|min i l.length).take (Mo l-min i l.length)=_;rw[zR<|by rw[kH];exact cV _]
 by_cases h:i<=Mo l
 .rw[uL h]
 .rw[Ed<|zG h,zW<|cV _,zW<|zG h]
def ixL(h:a<Mo R):il (.lst<|R.map T.str) (.int (a:Nat))=U (.str<|R.getD a []):=by
 show atT (R.map T.str) ((a:Nat):Int)=_;rw[jx<|by rw[cz];exact h,fQ,gZ,c5 h];rfl
def rowsOf(a:B1):Ap:=(b_ [] a).1++iZ (b_ [] a).2
open PyProof.Rows in
theorem uC:∀(p l:B1),cnt 10 p=((b_ l p).1.length:Nat)
 |[],_=>J
 |c::p,l=>by
  rw[cnt_cons];by_cases h:c=10
  .subst h
   rw[ux,bU J,uC p [],dM];lia
  .rw[uy h,bp h,uC p<|l++[c]];lia
def Ŕ(p l:B1):Kl p [.str [10]]=U (.int ((b_ l p).1.length:Nat)):=by
 rw[<- uC p l];exact ej (λz=>U<|T.int z)<|PyProof.Rows.count_cnt ⟨p.toArray⟩ 10
def Th(h:s.r[1]?=U (U<|.ol<|ts++[t])):nk 1 (dX jP zI) s=.ok (t,s):=by
 unfold nk;rw[h];show Res.bind (aZ<|oQ s.r[1]?) _=_;rw[h];show Res.bind (aZ<|atT (ts++[t])<|-1) _=_;rw[ud];rfl
section
variable{m:FX}
def Dy(h:Mo b<=1000):cN (n+1) 45 [.str b] m=.ok (.lst<|(rowsOf b).map T.str,m):=by
 rw[w45];have e:=(jK b [] λz=>nomatch z).e;rw[lK]at e;unfold rowsOf
 generalize (b_ [] b).1=rws at e
 generalize (b_ [] b).2=lf at e
 have d:jQ 1 (o1 (Dh [10]) zA) ⟨[Kb b,Y],[]⟩=.ok (.nx,⟨[Kb b,U<|.ol<|rws.map T.str++[.str lf]],[]⟩):=by
  have:Dh [10] (.str b)=U (rws.map T.str++[.str lf]):=by
   show gd (Mo b<=100000) ((a_ 10 b).map T.str)=_;rw[jI<|bG h<|by decide,e,eF];rfl
  unfold jQ o1;show Res.bind (Res.bind (aZ<|Dh [10]<|.str b) _) _=_;rw[this];rfl
 have c:b9 (oE (nk 1<|dX jP zI)<|cS []) ⟨[Kb b,U<|.ol<|rws.map T.str++[.str lf]],[]⟩=.ok (decide<|lf=[],⟨[Kb b,U<|.ol<|rws.map T.str++[.str lf]],[]⟩):=gJ<|aF (t:=.str lf) (u:=.str []) (Th J) J<|eqS _ _;refine sEq J J (du _)<|eE<|W.of d ⟨J,?_⟩;unfold iZ;by_cases hl:lf=[]
 .rw[c4 hl]at c
  rw[bU hl,bF];refine eE<|mh c<|W.of (a:=(Out.nx,(⟨[Kb b,U<|.ol<|rws.map T.str],[]⟩:S))) ?_ ⟨J,Bq (t:=.lst<|rws.map T.str) (s':=⟨[Kb b,Ki<|rws.map T.str],[]⟩) J J⟩;unfold KP;show Res.bind (aZ<|gd (rws.map T.str++[T.str lf]≠[]) ()) _=_;rw[jI<|by simp]
  show Res.ok (Out.nx,(⟨[Kb b,U<|.ol (rws.map T.str++[T.str lf]).dropLast],[]⟩:S))=_;rw[List.dropLast_concat]
 .rw[b0 hl]at c
  rw[bp hl];refine eE<|dC c<|W.of (a:=(Out.nx,_)) J ⟨J,Bq (t:=.lst<|(rws++[lf]).map T.str) (s':=⟨[Kb b,Ki<|rws.map T.str++[.str lf]],[]⟩) ?_ J⟩;rw[eF];rfl
theorem rK:∀{ts:FR},(∀t∈ts,p t t=O)->all2 p ts ts=O
 |[],_=>J
 |t::ts,h=>by
  show(p t t&&all2 p ts ts)=O;rw[h t<|eO ..,rK λu a=>h u<|ee _ a];rfl
def Mq(l:Ap):shape 5 (.lst<|l.map T.str) (.lst<|l.map T.str)=O:=rK λt a=>by
 obtain⟨x,_,rfl⟩:=je.mp a;rfl
def Ti(l:Ap):aN .Eq (.lst<|l.map T.str) (.lst<|l.map T.str)=U (.bl O):=by
 show gd (shape 5 (.lst<|l.map T.str) (.lst<|l.map T.str)=O) (T.bl<|eqT (.lst<|l.map T.str)<|.lst<|l.map T.str)=_;rw[jI<|Mq l,oO]
def qj(h:Mo l<=100000):cN (n+1) 50 [.lst<|l.map T.str,.lst<|l.map T.str] m=.ok (.bl O,m):=by
 rw[w50];refine sEq ?_ J J<|bR (t:=.bl O) (p9 (x:=O) (y:=O) J λ_=>p9 (x:=O) (y:=O) (dJ (ts:=[.lst<|(l.map T.str).map wW]) (aw (X5 (Ss (t:=.lst<|l.map T.str) J J) (by rw[cz];exact bG h<|by decide) J<|dW λt a=>?_) J) ?_) λ_=>aF (t:=.lst<|l.map T.str) (u:=.lst<|l.map T.str) J J<|Ti l) J
 .show(aQ (l.map T.str)&&(aQ (l.map T.str)&&O))=O
  rw[du];rfl
 .obtain⟨x,_,rfl⟩:=je.mp a
  exact⟨[Y,Kb x],[Y,Kb x],J,J⟩
 .simp only[C5,J2,all_true]
  simp
def zo(i:Int):cN (n+1) 40 [.int i] m=.ok (.bl O,m):=by
 rw[w40];exact sEq J J J<|bR J J
end
abbrev Mr:B1:=[97,116,32,116,104,101,32,101,110,100]
abbrev uI:B1:=[98,121,32,116,104,101,32,114,105,110,103]
abbrev DS:B1:=[98,101,104,105,110,100,32,105,116]
structure LY where
 a:Nat
 b1:Bool
 b2:Bool
 b3:Bool
 b4:Bool
 b5:Bool
 w0:B1
 w1:B1
 w2:B1
structure LY.ok(y:LY):Prop where
 a:y.a<=2
 w0:Wd y.w0
 w1:Wd y.w1
 w2:Wd y.w2
abbrev Jl(b:Bool):T:=.int<|if b then 1 else 0
abbrev LY.wy(y:LY):T:=.lst [.int (y.a:Nat),Jl y.b1,Jl y.b2,Jl y.b3,Jl y.b4,Jl y.b5]
abbrev LY.wd(y:LY):T:=.lst [.str y.w0,.str y.w1,.str y.w2]
def opt(b:Bool)(x:LN):List LN:=if b then[x]else[]
abbrev nE:LN:=⟨.en,.say Mr⟩
abbrev LY.dr(y:LY):LN:=⟨.li Zc y.w1,.drop⟩
abbrev LY.go(y:LY):LN:=⟨.li y.b3 y.w2,.go⟩
def LY.pr(y:LY):List LN:=match y.a with
 |0=>[]
 |1=>[⟨.la,.print⟩]
 |_=>[⟨.so y.w0,.print⟩]
def LY.pre(y:LY):List LN:=opt y.b5 nE++y.pr++opt y.b1 y.dr
def LY.post(y:LY):List LN:=opt y.b2 ⟨.al,.say uI⟩++[y.go]++opt y.b4 ⟨.al,.say DS⟩
def LY.L(y:LY):List LN:=y.pre++lH::y.post
abbrev LY.k(y:LY):Nat:=Mo y.pre
section
variable{y:LY}
def iT(h:z∈opt b x):z=x:=by
 cases b with
 |true=>exact iF.mp h
 |false=>cases h
def iU:(opt b x).length<=1:=by unfold opt;split<;>simp
def IG(h:z∈y.pr):z=⟨.la,.print⟩\/z=⟨.so y.w0,.print⟩:=by
 unfold LY.pr at h;split at h
 .cases h
 .exact .inl<|iF.mp h
 .exact .inr<|iF.mp h
def II:Mo y.pr<=1:=by
 unfold LY.pr;split<;>simp
def uD(h:z∈y.pre):z=nE\/z=⟨.la,.print⟩\/z=⟨.so y.w0,.print⟩\/z=y.dr:=by
 rcases i6.mp h with h|h
 .rcases i6.mp h with h|h
  .exact .inl<|iT h
  .rcases IG h with h|h
   .exact .inr<|.inl h
   .exact .inr<|.inr<|.inl h
 .exact .inr<|.inr<|.inr<|iT h
def jB(h:z∈y.post):z=⟨.al,.say uI⟩\/z=y.go\/z=⟨.al,.say DS⟩:=by
 rcases i6.mp h with h|h
 .rcases i6.mp h with h|h
  .exact .inl<|iT h
  .exact .inr<|.inl<|iF.mp h
 .exact .inr<|.inr<|iT h
def IK:Mo y.L<=7:=by
 have f:=iU (b:=y.b5) (x:=nE);have e:=iU (b:=y.b1) (x:=y.dr);have d:=iU (b:=y.b2) (x:=⟨.al,.say uI⟩);have c:=iU (b:=y.b4) (x:=⟨.al,.say DS⟩);have a:=II (y:=y);unfold LY.L LY.pre LY.post;simp only[cQ,dM,qt]
 lia
theorem LY.ok.L(o:y.ok):∀z∈y.L,z.ok/\10∉z.txt/\z.txt.length<=60:=λz a=>by
 have wd:∀{w:B1},Wd w->10∉w/\w.length<=2:=λh=>⟨λq=>ef (jy<|h.pl 10 q).1<|by decide,h.l2⟩
 obtain⟨n0,l0⟩:=wd o.w0;obtain⟨c,l1⟩:=wd o.w1;obtain⟨b,l2⟩:=wd o.w2;rcases i6.mp a with a|a
 .rcases uD a with rfl|rfl|rfl|rfl
  .exact⟨⟨trivial,⟨by decide,by decide⟩,trivial⟩,by decide,by decide⟩
  .exact⟨⟨trivial,trivial,λh=>by cases h⟩,by decide,by decide⟩
  .exact⟨⟨o.w0,trivial,λh=>by cases h⟩,by simp[LN.txt,CV.txt,DD.txt,n0],by simp[LN.txt,CV.txt,DD.txt];exact bG l0<|by decide⟩
  .exact⟨⟨o.w1,trivial,λh=>by cases h⟩,by simp[LN.txt,CV.txt,DD.txt,c],by simp[LN.txt,CV.txt,DD.txt];exact bG l1<|by decide⟩
 .rcases cu.mp a with rfl|a
  .exact⟨⟨trivial,trivial,trivial⟩,by decide,by decide⟩
  .rcases jB a with rfl|rfl|rfl
   .exact⟨⟨trivial,⟨by decide,by decide⟩,trivial⟩,by decide,by decide⟩
   .have go:∀g:Bool,LN.ok ⟨.li g y.w2,.go⟩/\10∉LN.txt ⟨.li g y.w2,.go⟩/\(LN.txt ⟨.li g y.w2,.go⟩).length<=60:=λg=>by
     cases g<;>exact⟨⟨o.w2,trivial,λh=>by cases h⟩,by simp[LN.txt,CV.txt,DD.txt,b],by simp[LN.txt,CV.txt,DD.txt];exact bG l2<|by decide⟩
    exact go y.b3
   .exact⟨⟨trivial,⟨by decide,by decide⟩,trivial⟩,by decide,by decide⟩
def YJ:MK y.L y.k:=⟨y.pre,y.post,J,J,λz a=>by rcases uD a with rfl|rfl|rfl|rfl<;>rfl,λz a=>by rcases jB a with rfl|rfl|rfl<;>rfl⟩
def YK{A Z:List LN}(f:∀z∈A,z.d≠.go)(b:∀z∈Z,z.c.en?=Zc):PG (A++lH::Z) A.length:=⟨λh=>by
 have e:(A++lH::Z)[Mo A+1]?=Z[0]?:=by
  rw[eZ<|bD ..,zF];rfl
 rw[c5 h]at e;exact b _<|gz e.symm,λi h hd=>by
 by_cases hi:Mo A+1<=i
 .exact hi
 .exfalso
  by_cases a:i<Mo A
  .rw[List.getElem_append_left a]at hd
   exact f _ (Es a) hd
  .have a:i=Mo A:=by lia
   subst a;rw[List.getElem_append_right<|cV _]at hd;simp at hd⟩
def YL:PG y.L y.k:=YK (λz a=>by rcases uD a with rfl|rfl|rfl|rfl<;>(intro q;cases q)) λz a=>by rcases jB a with rfl|rfl|rfl<;>rfl
theorem ZK:∀(l:List LN)(a:Int),0<=a->(∀z∈l,z.sn=0)->(l.map LN.sn).foldl max a=a
 |[],_,_,_=>J
 |z::l,a,h,hl=>by
  rw[fq,uN,hl z<|eO ..,Int.max_eq_left h];exact ZK l a h λz b=>hl z<|ee _ b
def ŕ(h:y.a<=2):YB (y.L.map LN.sn)=(y.a:Nat):=by
 unfold YB LY.L LY.pre;rw[eF,zU,eF,eF,zU,zU,ZK (opt y.b5 nE) 0 (by decide) λz b=>by rw[iT b];rfl]
 have e:(y.pr.map LN.sn).foldl max 0=(y.a:Nat):=by
  rcases(by lia:y.a=0\/y.a=1\/y.a=2)with z|z|z<;>(unfold LY.pr;rw[z];rfl)
 rw[e,ZK (opt y.b1 y.dr) _ (by lia) λz b=>by rw[iT b];rfl]
 refine ZK _ _ (by lia) λz b=>?_
 rcases cu.mp b with rfl|b
 .rfl
 .rcases jB b with rfl|rfl|rfl<;>rfl
def YM:nC y.L=bL (if y.b5 then 1 else 0) Mr:=by
 have g:∀{l:List LN}(r:List LN),(∀z∈l,z.c≠.en)->nC (l++r)=nC r:=by
  intro l r
  induction l with
  |nil=>intro _;rfl
  |cons z l e=>
   intro h;have a:=h z<|eO ..;rw[uP,<- e λz a=>h z<|ee _ a];obtain⟨c,d⟩:=z;cases c<;>first|exact ef J a|rfl
 have b:∀r,(∀z∈r,z.c≠.en)->nC r=[]:=λr h=>by
  have:=g [] h
  rw[bF]at this;exact this
 have ne:∀z∈y.pr++opt y.b1 y.dr++lH::y.post,z.c≠.en:=λz a=>by
  rcases i6.mp a with a|a
  .rcases i6.mp a with a|a
   .rcases IG a with rfl|rfl<;>(intro q;cases q)
   .rw[iT a];intro q;cases q
  .rcases cu.mp a with rfl|a
   .intro q;cases q
   .rcases jB a with rfl|rfl|rfl<;>(intro q;cases q)
 have f:y.L=opt y.b5 nE++(y.pr++opt y.b1 y.dr++lH::y.post):=by
  unfold LY.L LY.pre;simp only[fB]
 rw[f];cases y.b5 with
 |true=>exact ej (Mr::·)<|b _ ne
 |false=>exact b _ ne
end
abbrev qS(y:LY)(l:List LN)(z:Option C):S:=⟨[sv y.wy,sv y.wd,Ki<|cD l,z],[]⟩
def B8(h:Mo a+Mo b<=1000000):eA .Add (.lst a) (.lst b)=U (.lst<|a++b):=jI h
section
variable{y:LY}{G:T×FX->Prop}
def Ms{l2:List LN}(hl:Mo l<=100/\l2.length<=100)(he:e (qS y l z)=.ok (.lst<|cD l2,qS y l z)):oA zC e (qS y l z)=.ok (.lst<|cD<|l++l2,qS y l z):=aF (t:=.lst<|cD l) (u:=.lst<|cD l2) J he<|(B8<|by rw[cz,cz];lia).trans<|ej (λz=>U<|T.lst z) (eF ..).symm
def Ŗ(hl:Mo l<=100)(a:il y.wy (.int i)=U (Jl b))(he:e (qS y l z)=.ok (.str x.txt,qS y l z))(h:WB B (qS y (l++opt b x) z) G):WB (ah (aV (b9<|oE (oI zA<|cI i) zI) (aH 2<|oA zC<|bV eG<|k1 e) aG) B) (qS y l z) G:=by
 have c:b9 (oE (oI zA<|cI i) zI) (qS y l z)=.ok (b,qS y l z):=gJ<|aF (aF (t:=y.wy) (u:=.int i) J J a) J<|by cases b<;>rfl
 cases b with
 |true=>exact K45.bI c (Ms (l2:=[x]) ⟨hl,by show 1<=100;decide⟩<|dJ (ts:=[.str x.txt]) (aw he J) J) h
 |false=>
  rw[show opt Zc x=[]from J,bF]at h;exact bN c h
def zp(o:y.ok) :cN (n+1) 47 [y.wy,y.wd] m=.ok (.tup [.lst<|cD y.L,.int<|(y.k:Int)+2],m):=by
 rw[w47];have d:∀{s:S}{a b c:FE}{p q r:B1},a s=.ok (.str p,s)->b s=.ok (.str q,s)->c s=.ok (.str r,s)->Mo p<=100->Mo q<=100->Mo r<=100->oA (oA a b) c s=.ok (.str<|p++q++r,s):=λf e A l1 l2 l3=>ZI (ZI f e<|by lia) A (by rw[cQ];lia)
 have t0:[115,111,111,110,32,50,32,47]++y.w0++[47,58,32,112,114,105,110,116]=LN.txt ⟨.so y.w0,.print⟩:=by simp[LN.txt,CV.txt,DD.txt]
 have t1:[47]++y.w1++[47,58,32,100,114,111,112]=y.dr.txt:=by simp[LN.txt,CV.txt,DD.txt]
 have l0:=o.w0.l2;have l1:=o.w1.l2;have l2:=o.w2.l2;have v:=II (y:=y);have w:=iU (b:=y.b5) (x:=nE);have f:=iU (b:=y.b1) (x:=y.dr);have e:=iU (b:=y.b2) (x:=⟨.al,.say uI⟩);refine sEq J J (by show(aQ (cD y.L)&&(O&&O))=O;rw[jz];rfl)<|bS (t:=.lst<|cD<|opt y.b5 nE) (aF (u:=Jl y.b5) J J<|by cases y.b5<;>rfl) ?_
 refine bS (i:=2) (t:=.lst<|cD<|opt y.b5 nE++y.pr) (s:=qS y (opt y.b5 nE) Y) (Ms ⟨bG w<|by decide,bG v<|by decide⟩<|aF (t:=.lst [.lst [],.lst [.str<|LN.txt ⟨.la,.print⟩],.lst [.str<|LN.txt ⟨.so y.w0,.print⟩]]) (u:=.int (y.a:Nat)) (dJ (ts:=[.lst [],.lst [.str<|LN.txt ⟨.la,.print⟩],.lst [.str<|LN.txt ⟨.so y.w0,.print⟩]]) (aw J<|aw J<|aw (dJ (ts:=[.str<|LN.txt ⟨.so y.w0,.print⟩]) (aw (by rw[<- t0];exact d J J J (by decide) (bG l0<|by decide)<|by decide) J) J) J) J) J ?_) ?_
 .have:=o.a
  rcases(by lia:y.a=0\/y.a=1\/y.a=2)with z|z|z<;>(unfold LY.pr;rw[z];rfl)
 refine Ŗ (l:=opt y.b5 nE++y.pr) (x:=y.dr) (b:=y.b1) (i:=1) (by rw[cQ];lia) J (by rw[<- t1];exact d J J J (by decide) (bG l1<|by decide)<|by decide) ?_
 have j:Mo y.pre<=3:=by unfold LY.pre;rw[cQ,cQ];lia
 show WB _ (qS y y.pre Y) _;refine bS (i:=2) (t:=.lst<|cD<|y.pre++[lH]) (Ms ⟨bG j<|by decide,by decide⟩<|dJ (ts:=[.str lH.txt]) J J) ?_
 refine bS (i:=3) (s:=qS y (y.pre++[lH]) Y) (t:=.int<|(y.k:Int)+1) (dJ (ts:=[.lst<|cD<|y.pre++[lH]]) J<|by show U (T.int (Cf _:Nat))=_;rw[cz,cQ];rfl) ?_
 refine Ŗ (l:=y.pre++[lH]) (z:=J4<|(y.k:Int)+1) (x:=⟨.al,.say uI⟩) (b:=y.b2) (i:=2) (by rw[cQ];show _+1<=_;lia) J J ?_
 have h:(y.pre++[lH]++opt y.b2 ⟨.al,.say uI⟩).length<=5:=by simp only[cQ,dM,qt];lia
 refine bS (i:=2) (t:=.lst<|cD<|y.pre++[lH]++opt y.b2 ⟨.al,.say uI⟩++[y.go]) (s:=qS y (y.pre++[lH]++opt y.b2 ⟨.al,.say uI⟩)<|J4<|(y.k:Int)+1) (Ms ⟨bG h<|by decide,by show 1<=100;decide⟩<|dJ (ts:=[.str y.go.txt]) (aw ?_ J) J) ?_
 .have t2:∀g:Bool,(if g then[110,111,116,32]else[])++[47]++y.w2++[47,58,32,103,111,32,114,105,110,103]=LN.txt ⟨.li g y.w2,.go⟩/\((if g then[110,111,116,32]else[]:B1)).length<=4:=λg=>by
   cases g<;>exact⟨by simp[LN.txt,CV.txt,DD.txt],by decide⟩
  obtain⟨t3,t4⟩:=t2 y.b3;rw[show y.go.txt=LN.txt ⟨.li y.b3 y.w2,.go⟩from J,<- t3];exact ZI (d (p:=if y.b3 then[110,111,116,32]else[]) (q:=[47]) (r:=y.w2) (aF (t:=.lst [.str [],.str [110,111,116,32]]) (u:=Jl y.b3) J J<|by cases y.b3<;>rfl) J J (bG t4<|by decide) (by decide)<|bG l2<|by decide) J (by simp only[cQ,dM,qt];lia)
 refine Ŗ (l:=y.pre++[lH]++opt y.b2 ⟨.al,.say uI⟩++[y.go]) (z:=J4<|(y.k:Int)+1) (x:=⟨.al,.say DS⟩) (b:=y.b4) (i:=4) (by rw[cQ];show _+1<=_;lia) J J ?_
 have B:y.pre++[lH]++opt y.b2 ⟨.al,.say uI⟩++[y.go]++opt y.b4 ⟨.al,.say DS⟩=y.L:=by
  unfold LY.L LY.post;simp only[fB,uP,lK]
 rw[B];refine bR (dJ (ts:=[.lst<|cD y.L,.int<|(y.k:Int)+1+1]) J<|LF _ _) ?_;rw[show(y.k:Int)+1+1=(y.k:Int)+2 by lia]
end
abbrev nF{α:Type}(b:Bool)(x:α):List α:=if b then[x]else[]
section
variable{y:LY}{R Q r:Ap}{i:Nat}
def rg(x:B1)(Q:Ap)(l:List LN):Ap×Bool:=dj x<|l.map λz=>(z,z.c.Yr x Q)
abbrev Tn(a:Ap)(p:Ap×Bool):Ap×Bool:=(a++p.1,p.2)
def To{r:List LN}:rg x Q (opt b nE++r)=rg x Q r:=by cases b<;>rfl
def IL{r:List LN}:rg x Q (opt b ⟨.al,.say s⟩++r)=Tn (nF b s) (rg x Q r):=by cases b<;>rfl
def YN{r:List LN}(h:y.w1≠[]):rg x Q (opt b y.dr++r)=if(b&&kD y.w1 x)=O then([],Zc)else rg x Q r:=by
 rw[SW _ _ h];cases b with
 |false=>rfl
 |true=>
  show dj x ((y.dr,(Zc != fw y.w1 x))::_)=if fw y.w1 x=O then _ else _
  rw[dj];cases fw y.w1 x<;>rfl
def YO{r:List LN}(h:y.w2≠[]):rg x Q (y.go::r)=if(kD y.w2 x != y.b3)=O then([],O)else rg x Q r:=by
 rw[SW _ _ h];show dj x ((y.go,(y.b3 != fw y.w2 x))::_)=if(fw y.w2 x != y.b3)=O then _ else _
 rw[dj];cases fw y.w2 x<;>cases y.b3<;>rfl
def YQ{r:List LN}(o:y.ok)(c:i<Mo R):rg x ((R.drop<|i+1).take y.a) (y.pr++r)=Tn (nF (decide (y.a=1)&&decide (i+1=Mo R)) x++nF (decide (y.a=2)&&((R.drop<|i+1).take 2).any (kD y.w0)) x) (rg x ((R.drop<|i+1).take y.a) r):=by
 have b:∀l,kD y.w0 l=fw y.w0 l:=λl=>SW _ _ o.w0.n0
 have:=o.a
 rcases(by lia:y.a=0\/y.a=1\/y.a=2)with z|z|z<;>(unfold LY.pr;rw[z])
 .rfl
 .show dj x ((⟨.la,.print⟩,decide<|((R.drop<|i+1).take 1).length=0)::_)=Tn (nF (decide<|i+1=Mo R) x++[]) _
  rw[bF,dj,show decide (((R.drop<|i+1).take 1).length=0)=decide (i+1=Mo R)from decide_eq_decide.mpr<|by rw[rN,kH];lia]
  cases decide (i+1=Mo R)<;>rfl
 .show dj x ((⟨.so y.w0,.print⟩,(((R.drop<|i+1).take 2).take 2).any<|fw y.w0)::_)=Tn (nF (((R.drop<|i+1).take 2).any<|kD y.w0) x) _
  rw[dj,Nd,D9,show kD y.w0=fw y.w0 from funext b];cases((R.drop<|i+1).take 2).any (fw y.w0)<;>rfl
def LY.gv(y:LY)(R:Ap)(i:Nat):Ap×Bool:=
 if(y.b1&&kD y.w1 (R.getD i []))=O then(nF (decide (y.a=1)&&decide (i+1=Mo R)) (R.getD i [])++nF (decide (y.a=2)&&((R.drop<|i+1).take 2).any (kD y.w0)) (R.getD i []),Zc)
 else if(kD y.w2 (R.getD i []) != y.b3)=O then(nF (decide (y.a=1)&&decide (i+1=Mo R)) (R.getD i [])++nF (decide (y.a=2)&&((R.drop<|i+1).take 2).any (kD y.w0)) (R.getD i [])++nF y.b2 uI,O)
 else(nF (decide (y.a=1)&&decide (i+1=Mo R)) (R.getD i [])++nF (decide (y.a=2)&&((R.drop<|i+1).take 2).any (kD y.w0)) (R.getD i [])++nF y.b2 uI++nF y.b4 DS++[R.getD i []],Zc)
def Tp(o:y.ok)(b:i<Mo R):uA y.L y.a R i=y.gv R i:=by
 have e:uA y.L y.a R i=rg (R.getD i []) ((R.drop<|i+1).take y.a) y.L:=by
  unfold uA DR rg zj;rw[<- List.zip_map' (f:=λz=>z),M6]
 rw[e,show y.L=opt y.b5 nE++(y.pr++(opt y.b1 y.dr++(lH::(opt y.b2 ⟨.al,.say uI⟩++(y.go::(opt y.b4 ⟨.al,.say DS⟩++[])))))) by unfold LY.L LY.pre LY.post;simp only[fB,uP,lK,bF]]
 rw[To,YQ o b,YN o.w1.n0];unfold LY.gv;split
 .simp only[Tn,bF]
 .rw[show ∀r,rg (R.getD i []) ((R.drop<|i+1).take y.a) (lH::r)=rg (R.getD i []) ((R.drop<|i+1).take y.a) r from λ_=>J,IL,YO o.w2.n0]
  split
  .simp only[Tn,bF]
  .rw[IL,show rg (R.getD i []) ((R.drop<|i+1).take y.a) []=([R.getD i []],Zc)from J]
   simp only[Tn,fB]
def IM:(y.gv R i).1.length<=5:=by
 have h:∀(b:Bool)(x:B1),(nF b x).length<=1:=λb x=>by
  cases b with
  |true=>exact cV 1
  |false=>exact jc 1
 have f:=h (decide (y.a=1)&&decide (i+1=Mo R))<|R.getD i [];have e:=h (decide (y.a=2)&&((R.drop<|i+1).take 2).any (kD y.w0))<|R.getD i [];have d:=h y.b2 uI;have c:=h y.b4 DS;unfold LY.gv;split
 .rw[cQ];lia
 .split<;>(simp only[cQ,dM,qt];lia)
abbrev gS(y:LY)(R:Ap)(i:Nat)(a:Ap):S:=⟨[sv y.wy,sv y.wd,Ki<|R.map T.str,J4 (i:Nat),U<|.ol<|a.map T.str],[]⟩
variable{G:T×FX->Prop}
def ZL(hl:Mo v<=100)(a:c (gS y R i v)=.ok (b,gS y R i v))(he:e (gS y R i v)=.ok (.str x,gS y R i v))(h:WB B (gS y R i<|v++nF b x) G):WB (ah (aV c (ja 4 e) aG) B) (gS y R i v) G:=by
 cases b with
 |false=>rw[show nF Zc x=[]from J,bF]at h;exact bN a h
 |true=>
  refine eE<|mh a<|W.of (wU (Jd:=v.map T.str) (ts:=v.map T.str) J he J<|by rw[cz];exact jd hl<|by decide) ⟨J,?_⟩
  rw[show nF O x=[x]from J]at h;show WB B ⟨[sv y.wy,sv y.wd,Ki<|R.map T.str,J4 (i:Nat),U<|.ol<|v.map T.str++[T.str x]],[]⟩ G;rw[show v.map T.str++[T.str x]=(v++[x]).map T.str by rw[eF];rfl]
  exact h
def rtS:WB (aD<|bV fU<|k2 (vF 4)<|cF<|.bl p) (gS y R i v) λq=>q.1=.tup [.lst<|v.map T.str,.bl p]:=Bq (t:=.tup [.lst<|v.map T.str,.bl p]) (s':=⟨[sv y.wy,sv y.wd,Ki<|R.map T.str,J4 (i:Nat),Ki<|v.map T.str],[]⟩) (dJ (ts:=[.lst<|v.map T.str,.bl p]) J<|LF _ _) J
def inT(w:B1):T->T
 |.str l=>.bl<|kD w l
 |_=>.non
def zq(o:y.ok)(g:i<Mo R):cN (n+1) 46 [y.wy,y.wd,.lst<|R.map T.str,.int (i:Nat)] m=.ok (.tup [.lst<|(y.gv R i).1.map T.str,.bl (y.gv R i).2],m):=by
 rw[w46];have p:=o.a;have ex:∀v,oI zC zD (gS y R i v)=.ok (.str<|R.getD i [],gS y R i v):=λv=>aF (t:=.lst<|R.map T.str) (u:=.int (i:Nat)) J J<|ixL g;have f:∀v(j:Int)(b:Bool),il y.wy (.int j)=U (Jl b)->b9 (oE (oI zA<|cI j) zI) (gS y R i v)=.ok (b,gS y R i v):=λv j b e=>gJ<|aF (aF (t:=y.wy) (u:=.int j) J J e) J<|by cases b<;>rfl
 have ca:∀v(j:Nat),b9 (oE (oI zA zO)<|cI (j:Nat)) (gS y R i v)=.ok (decide<|y.a=j,gS y R i v):=λv j=>gJ<|aF (aF (t:=y.wy) (u:=.int 0) J J J) J<|by rw[HX];exact ej (λz=>U<|T.bl z)<|decide_eq_decide.mpr<|by lia
 have cn:∀v(j:Int)(w:B1),il y.wd (.int j)=U (.str w)->bX (aN .In) (oI zB<|cI j) (oI zC zD) (gS y R i v)=.ok (.bl<|kD w<|R.getD i [],gS y R i v):=λv j w e=>aF (aF (t:=y.wd) (u:=.int j) J J e) (ex v) J;have c1:i_ (b9<|oE (oI zA zO) zI) (b9<|oE (oA zD zI)<|bV cX<|k1 zC) (gS y R i [])=.ok (decide (y.a=1)&&decide (i+1=Mo R),gS y R i []):=rG (ca [] 1)<|gJ<|aF (t:=.int<|(i:Nat)+1) (u:=.int (R.map T.str).length) J J<|by rw[HX,cz];exact ej (λz=>U<|T.bl z)<|decide_eq_decide.mpr<|by lia
 have c2:∀v,i_ (b9<|oE (oI zA zO)<|cI 2) (tB<|bV sV<|k1<|gx<|dI (oU<|rj zC (nK<|oA zD zI)<|nK<|oA zD<|cI 3) 2 [1] (setG 1) ie<|bX (aN .In) (oI zC zO) zB) (gS y R i v)=.ok (decide (y.a=2)&&((R.drop<|i+1).take 2).any (kD y.w0),gS y R i v):=λv=>by
  refine rG (ca v 2)<|Jh<|dJ (ts:=[.lst<|(((R.drop<|i+1).take 2).map T.str).map<|inT y.w0]) (aw (X5 (Ss (t:=.lst<|((R.drop<|i+1).take 2).map T.str) (ZD (t:=.lst<|R.map T.str) (x:=U ((i+1:Nat):Int)) (y:=U ((i+1+2:Nat):Int)) J J J ?_) J) (by rw[cz,rN];lia) J<|dW λt k=>?_) J) ?_
  .show U (T.lst<|bW _ _ _)=_
   rw[ua,zF,xV,Ek]
  .obtain⟨l,_,rfl⟩:=je.mp k
   exact⟨[Y,Kb l,sv y.wd],[Y,Kb l,sv y.wd],J,aF (t:=.str y.w0) (u:=.str l) J J J⟩
  .rw[show(((R.drop<|i+1).take 2).map T.str).map (inT y.w0)=((R.drop<|i+1).take 2).map λl=>T.bl<|kD y.w0 l by rw[gM];rfl]
   simp only[sV,FN,jJ];rw[MR,uS];rfl
 have h:∀(b:Bool)(x:B1),(nF b x).length<=1:=λb x=>by
  cases b with
  |true=>exact cV 1
  |false=>exact jc 1
 obtain⟨a1,ŗ⟩:∃a,a=nF (decide (y.a=1)&&decide (i+1=Mo R)) (R.getD i []):=⟨_,J⟩;obtain⟨a2,Ř⟩:∃a,a=a1++nF (decide (y.a=2)&&((R.drop<|i+1).take 2).any (kD y.w0)) (R.getD i []):=⟨_,J⟩;have l1:Mo a1<=1:=by rw[ŗ];exact h _ _
 have l2:Mo a2<=2:=by rw[Ř,cQ];have:=h (decide (y.a=2)&&((R.drop<|i+1).take 2).any (kD y.w0))<|R.getD i [];lia
 have r:=h y.b2 uI;have q:=h y.b4 DS;refine sEq ?_ J (by show(aQ (_:FR)&&(O&&O))=O;rw[du];rfl)<|eE<|W.of (a:=(Out.nx,gS y R i [])) J ⟨J,?_⟩
 .show(O&&(O&&(aQ (R.map T.str)&&(O&&O))))=O
  rw[du];rfl
 refine ZL (x:=R.getD i []) (by decide) c1 (ex _) ?_
 rw[lK,<- ŗ];refine ZL (x:=R.getD i []) (bG l1<|by decide) (c2 a1) (ex _) ?_
 rw[<- Ř];unfold LY.gv;rw[<- ŗ,<- Ř];have d:i_ (b9<|oE (oI zA zI) zI) (b9<|bX (aN .In) (oI zB zI)<|oI zC zD) (gS y R i a2)=.ok (y.b1&&kD y.w1 (R.getD i []),gS y R i a2):=rG (f a2 1 y.b1 J)<|gJ<|cn a2 1 y.w1 J;by_cases d1:(y.b1&&kD y.w1 (R.getD i []))=O
 .rw[bU d1]
  rw[d1]at d;exact bY d rtS
 rw[bp d1];rw[Eu.mpr d1]at d;refine bN d<|ZL (x:=uI) (bG l2<|by decide) (f a2 2 y.b2 J) J ?_
 have l3:(a2++nF y.b2 uI).length<=3:=by rw[cQ];lia
 generalize a2++nF y.b2 uI=a3 at l3
 have c:b9 (bX (aN .NotEq) (bX (aN .In) (oI zB<|cI 2)<|oI zC zD)<|oE (oI zA<|cI 3) zI) (gS y R i a3)=.ok (kD y.w2 (R.getD i []) != y.b3,gS y R i a3):=gJ<|aF (t:=.bl<|kD y.w2<|R.getD i []) (u:=.bl y.b3) (cn a3 2 y.w2 J) (aF (aF (t:=y.wy) (u:=.int 3) J J J) J<|by cases y.b3<;>rfl)<|by cases kD y.w2 (R.getD i [])<;>cases y.b3<;>rfl
 by_cases d2:(kD y.w2 (R.getD i []) != y.b3)=O
 .rw[bU d2]
  rw[d2]at c;exact bY c rtS
 rw[bp d2];rw[Eu.mpr d2]at c;refine bN c<|ZL (x:=DS) (bG l3<|by decide) (f a3 4 y.b4 J) J ?_
 have l4:(a3++nF y.b4 DS).length<=4:=by rw[cQ];lia
 generalize a3++nF y.b4 DS=a4 at l4
 refine Bq (t:=.tup [.lst<|(a4++[R.getD i []]).map T.str,.bl Zc]) (s':=⟨[sv y.wy,sv y.wd,Ki<|R.map T.str,J4 (i:Nat),Ki<|a4.map T.str],[]⟩) (dJ (ts:=[.lst<|(a4++[R.getD i []]).map T.str,.bl Zc]) (aw ?_ J)<|LF _ _) J;rw[eF];exact aF (t:=.lst<|a4.map T.str) (u:=.lst [.str<|R.getD i []]) J (dJ (ts:=[.str<|R.getD i []]) (aw (aF (t:=.lst<|R.map T.str) (u:=.int (i:Nat)) J J<|ixL g) J) J)<|B8<|by rw[cz];show _+1<=_;lia
end
def ř(h:a s=.ok (.bl b,s1)):D.tB a s=.ok (b,s1):=by unfold D.tB;rw[h];rfl
def ntE(h:c s=.ok (b,s1)):dZ c s=.ok (!b,s1):=by unfold dZ;rw[h];rfl
theorem WE.exc{Q:α->Prop}(h:WE E x Q)(k:∀a,¬ Q a):∃c fs s,x=.exc c fs s/\E fs:=by
 cases x with
 |ok a=>exact(k a h).elim
 |exc c fs s=>exact⟨c,fs,s,J,h⟩
 |bad=>exact h.elim
theorem WE.ok{Q:α->Prop}(h:WE (λ_=>False) x Q):W x Q:=by
 cases x with
 |ok a=>exact⟨a,J,h⟩
 |exc c fs s=>exact h.elim
 |bad=>exact h.elim
def xcX(a:o s=.ok (.own k,s))(b:s.m[k]?=U ob)(f:ob.c=cl)(h:fl s=.ok (ts,s))(d:g (.own k::ts) s.m=.exc c fs s'):jX cl g o fl s=.exc c fs ⟨s.r,s'.m⟩:=by
 unfold jX;have e:Ud cl s.m (.own k)=U ():=by
  show(s.m[k]?).bind _=_;rw[b];exact bU f
 rw[Im a];apply dF;dsimp only;rw[e,Im (J:aZ (U ())=.ok ())];apply dF;rw[Im h];apply dF;dsimp only;rw[d]
section
variable{A B:FS}{j:Out×S->Prop}
def Tq(h:v t s.r=U r)(k:W (B ⟨r,s.m⟩) λp=>(∃u,p.1=.rt u/\j p)\/(p.1=.nx/\W (bH v B ts p.2) j)):W (bH v B (t::ts) s) j:=by
 obtain⟨⟨o,s1⟩,e,b⟩:=k;rw[bH,h];show W (Res.bind (B ⟨r,s.m⟩) _) j;rw[e];rcases b with⟨u,a,q⟩|⟨a,q⟩
 .cases a
  exact⟨_,J,q⟩
 .cases a
  exact q
def Mt(b:c s=.ok (O,s1))(h:W (B s1) λp=>(∃u,p.1=.rt u/\j p)\/(p.1=.nx/\W (aO c B k p.2) j)):W (aO c B (k+1) s) j:=by
 obtain⟨⟨o,s2⟩,e,d⟩:=h;show W (Res.bind (c s) _) j;rw[b];show W (Res.bind (B s1) _) j;rw[e];rcases d with⟨u,a,q⟩|⟨a,q⟩
 .cases a
  exact⟨_,J,q⟩
 .cases a
  exact q
def B9(h:W (A s) λp=>(∃u,p.1=.rt u/\j p)\/(p.1=.nx/\W (B p.2) j)):W (ah A B s) j:=by
 obtain⟨⟨o,s1⟩,e,b⟩:=h;show W (Res.bind (A s) _) j;rw[e];rcases b with⟨u,a,q⟩|⟨a,q⟩
 .cases a
  exact⟨_,J,q⟩
 .cases a
  exact q
end
def lG(d:m[0]?=U ob)(e:ob.c=25)(h:(if b then cN (n+14) 81 [.own 0] m else cN (n+14) 80 [.own 0,.str x] m)=.exc c [.int i,.int j] s):∃m',cN (n+15) 49 [.own 0,.str x,.bl b,.int i,.int j] m=.ok (.bl O,m'):=by
 rw[w49];obtain⟨r,hr⟩:∃r:Option C->Option C->Fs,r=λa l=>[sv<|.own 0,Kb x,sv<|.bl b,J4 i,J4 j,a,l,Y]:=⟨_,J⟩;have g:aV (gX<|tB zC) (jX 25 (cN (n+14) 81) zA aY) (jX 25 (cN (n+14) 80) zA<|k1 zB) ⟨r (Ki [])<|sv .non,m⟩=.exc c [.int i,.int j] ⟨r (Ki [])<|sv .non,s.m⟩:=by
  rw[hr];cases b with
  |true=>
   rw[bU J]at h;exact Ui (s':=⟨[sv<|.own 0,Kb x,sv<|.bl O,J4 i,J4 j,Ki [],sv .non,Y],m⟩) J<|xcX (k:=0) J d e (ts:=[]) J h
  |false=>
   rw[bp dw]at h;exact yY (s':=⟨[sv<|.own 0,Kb x,sv<|.bl Zc,J4 i,J4 j,Ki [],sv .non,Y],m⟩) J<|xcX (k:=0) J d e (ts:=[.str x]) J h
 obtain⟨bs,Ś⟩:∃bs:T,bs=.lst [.bl O,.bl O,.bl Zc,.bl Zc,.bl Zc,.bl Zc,.bl Zc,.bl Zc,.bl Zc]:=⟨_,J⟩;have f:pO (aV (gX<|tB zC) (jX 25 (cN (n+14) 81) zA aY)<|jX 25 (cN (n+14) 80) zA<|k1 zB) (wx 7 5 6 [O,O,Zc,Zc,Zc,Zc,Zc,Zc,Zc]) ⟨r (Ki [])<|sv .non,m⟩=.ok (.nx,⟨r (sv bs)<|sv<|.tup [.int i,.int j],s.m⟩):=by
  unfold pO;rw[g,hr,Ś];rfl
 have ne:aN .NotEq bs bs=U (.bl Zc):=by rw[Ś];rfl
 have eq:aN .Eq (.tup [.int i,.int j]) (.tup [.int i,.int j])=U (.bl O):=by
  show gd (shape 5 (.tup [.int i,.int j]) (.tup [.int i,.int j])=O) (T.bl<|eqT (.tup [.int i,.int j])<|.tup [.int i,.int j])=_;rw[jI<|show shape 5 (.tup [.int i,.int j]) (.tup [.int i,.int j])=O from J,oO]
 have w1:∀k:Int,cN (n+14) 40 [.int k] s.m=.ok (.bl O,s.m):=λk=>zo (n+13) k;refine⟨s.m,W.eq<|qI J<|bS (t:=.lst []) J<|bS (t:=.non) J<|eE<|W.of (a:=(Out.nx,⟨r (sv bs)<|sv<|.tup [.int i,.int j],s.m⟩)) (by rw[hr]at f ⊢;exact f) ⟨J,?_⟩⟩
 rw[hr];refine bN (gJ<|aF (t:=bs) (u:=bs) J (by rw[Ś];rfl) ne)<|bR (t:=.bl O) (p9 (x:=O) (y:=O) (cE (ts:=[.int i]) (aw (aF (t:=.tup [.int i,.int j]) (u:=.int 0) J J J) J)<|w1 i) λ_=>p9 (x:=O) (y:=O) (cE (ts:=[.int j]) (aw (aF (t:=.tup [.int i,.int j]) (u:=.int 1) J J J) J)<|w1 j) λ_=>aF (t:=.tup [.int i,.int j]) (u:=.tup [.int i,.int j]) J (dJ (ts:=[.int i,.int j]) J<|LF _ _) eq) J
structure LE where
 ns:Dx
 f:Int
 s:Int
 y:LY
 ps:Ap
def LE.R(e:LE):Ap:=rowsOf e.ps.flatten
structure LE.ok(e:LE):Prop where
 y:e.y.ok
 fl:Mo e.ps.flatten<=190
 pl:Mo e.ps<=1000
theorem LE.ok.R{e:LE}(o:e.ok):Mo e.R<=191:=by
 have:=(jK e.ps.flatten [] λz=>nomatch z).l2
 have:=o.fl
 unfold LE.R rowsOf iZ;rw[cQ];have h:((if(b_ [] e.ps.flatten).2=[]then[]else[(b_ [] e.ps.flatten).2]):Ap).length<=1:=by split<;>simp
 have:([]:B1).length=0:=J
 lia
abbrev LE.g(e:LE):Nat->Ap×Bool:=e.y.gv e.R
theorem uE{e:LE}(o:e.ok):∀(d t:Nat),t+d<=Mo e.R->eM (uA e.y.L e.y.a e.R) t d=eM e.g t d
 |0,_,_=>J
 |d+1,t,h=>by
  rw[eM,eM,Tp o.y<|jd (bD ..) h,uE o d (t+1)<|by lia]
theorem uF{e:LE}:∀(d t:Nat),(eM e.g t d).1.length<=5*d
 |0,_=>cV _
 |d+1,t=>by
  have b:=uF (e:=e) d<|t+1;have a:=IM (y:=e.y) (R:=e.R) (i:=t);rw[eM];split
  .exact jc _
  .rw[cQ]
   have a:(e.g t).1.length<=5:=a
   lia
abbrev lS(e:LE)(w t:Int)(kB lU b a:Option C)(m:FX):S:=⟨[sv<|.scr e.ns,J4 e.f,sv e.y.wy,J4 e.s,sv e.y.wd,Ki<|e.ps.map T.str,Ki<|e.R.map T.str,sv<|.own 0,J4 w,J4 t,kB,lU,Ki<|cD e.y.L,J4<|(e.y.k:Int)+2,b,a],m⟩
theorem IP(n:Nat)(o:e.ok){f q:FE}(l:∀t lU c a,f (lS e w t kB lU c a m)=.ok (.int T0,lS e w t kB lU c a m))(h:∀t lU c a,q (lS e w t kB lU c a m)=.ok (.str x,lS e w t kB lU c a m)):∀(d t:Nat)(B_:Ap)(c a:Option C)(k:Nat),(T0=(t:Int)+d\/(d=0/\T0<=t))->t+d<=Mo e.R->Mo B_+5*d<=1000->(∀j:Nat,(eM e.g t d).2=U j->∃m',cN (n+15) 49 [.own 0,.str x,.bl b,.int<|(j:Int)+1,.int<|(e.y.k:Int)+2] m=.ok (.bl O,m')) ->
  W (aO (b9<|bX (aN .Lt) (vF 9) f) (ah (yo (eS [14,15])<|aB (cN (n+15) 46) []<|bw zC<|k3 (vF 4) (vF 6)<|vF 9)<|ah (aH 9<|oA (vF 9) zI)<|ah (aV (tB<|vF 15) (aD<|aB (cN (n+15) 49) []<|bw (vF 7)<|bw q<|k3 (cF<|.bl b) (vF 9)<|vF 13) aG)<|aH 11<|oA (vF 11)<|vF 14) (k+d+1)<|lS e w (t:Nat) kB (Ki<|B_.map T.str) c a m) λp=>(p.1=.rt (.bl O))\/(p.1=.nx/\(eM e.g t d).2=Y/\∃c a,p.2=lS e w ((t+d:Nat)) kB (Ki<|(B_++(eM e.g t d).1).map T.str) c a m)
 |0,t,B_,c,a,k,v,z,hd,hr=>Sv (gJ<|aF (t:=.int (t:Nat)) (u:=.int T0) J (l ..)<|by rw[jS,b0<|by lia])<|.inr ⟨J,J,c,a,by rw[show(eM e.g t 0).1=[]from J,bF];rfl⟩
 |d+1,t,B_,c,a,k,v,z,hd,hr=>by
  have v:T0=(t:Int)+((d+1:Nat):Int):=by lia
  have A:=zq (n+14) (m:=m) (y:=e.y) (R:=e.R) (i:=t) o.y<|jd (bD ..) z;have gl:=IM (y:=e.y) (R:=e.R) (i:=t);have D:eM e.g t (d+1)=if(e.y.gv e.R t).2=O then([],U t)else((e.y.gv e.R t).1++(eM e.g (t+1) d).1,(eM e.g (t+1) d).2):=J
  rw[D]at hr ⊢
  generalize e.y.gv e.R t=gv at A gl hr
  refine Mt (s1:=lS e w (t:Nat) kB (Ki<|B_.map T.str) c a m) (gJ<|aF (t:=.int (t:Nat)) (u:=.int T0) J (l ..)<|by rw[jS,c4<|by lia]) ?_
  refine B9<|XI<|W.of (cE (ts:=[e.y.wy,e.y.wd,.lst<|e.R.map T.str,.int (t:Nat)]) J A) ⟨_,J,.inr ⟨J,?_⟩⟩;refine wS (i:=9) (s:=lS e w (t:Nat) kB (Ki<|B_.map T.str) (Ki<|gv.1.map T.str) (sv<|.bl gv.2) m) (t:=.int<|(t+1:Nat)) J ?_;show W (ah _ _<|lS e w ((t+1:Nat)) kB (Ki<|B_.map T.str) (Ki<|gv.1.map T.str) (sv<|.bl gv.2) m) _;cases r:gv.2 with
  |true=>
   rw[r]at hr;obtain⟨m',B⟩:=hr t J;exact B9<|mh (s':=lS e w ((t+1:Nat)) kB (Ki<|B_.map T.str) (Ki<|gv.1.map T.str) (sv<|.bl O) m) J ⟨_,fj<|iB (ts:=[.own 0,.str x,.bl b,.int<|(t+1:Nat),.int<|(e.y.k:Int)+2]) (aw J<|aw (h ..) J)<|by rw[bF];exact B,.inl ⟨_,J,.inl ⟨_,J,.inl J⟩⟩⟩
  |false=>
   rw[r,bp dw]at hr;rw[bp dw];refine B9<|W.of (yY (s':=lS e w ((t+1:Nat)) kB (Ki<|B_.map T.str) (Ki<|gv.1.map T.str) (sv<|.bl Zc) m) J J)<|.inr ⟨J,?_⟩;refine W.of (dU (i:=11) (s':=lS e w ((t+1:Nat)) kB (Ki<|B_.map T.str) (Ki<|gv.1.map T.str) (sv<|.bl Zc) m) (t:=.lst<|(B_++gv.1).map T.str)<|aF (t:=.lst<|B_.map T.str) (u:=.lst<|gv.1.map T.str) J J<|(B8<|by rw[cz,cz];lia).trans<|by rw[eF])<|.inr ⟨J,?_⟩
   refine(IP n o l h d (t+1) (B_++gv.1) _ _ k (.inl<|by lia) (by lia) (by rw[cQ];lia) hr).mono λp h=>?_
   rw[show t+(d+1)=t+1+d by lia,<- fB]
   exact h
section
variable{m:FX}{w t:Nat}
def ś(h:t=w-a):∃d,t+d=w+r-a/\(((w+r:Nat):Int)-(a:Nat)=(t:Int)+d\/(d=0/\((w+r:Nat):Int)-(a:Nat)<=t)):=⟨w+r-a-(w-a),by lia,by lia⟩
def Dz(o:e.ok)(I:BK m e.y.L e.y.k e.y.a e.R w t rs Zc)(LR:10∉rs)(M:Mo rs+Mo x<=200)(hR:e.R.drop w=(b_ rs x).1++z)(D:w+(b_ rs x).1.length<=Mo e.R)(N:t=w-e.y.a) :
  W (So (cN<|n+15)<|lS e (w:Nat) (t:Nat) (Kb x) lU jT jU m) λp=>p.1=.rt (.bl O)\/(p.1=.nx/\∃m' t' lU jT jU,p.2=lS e ((w+(b_ rs x).1.length:Nat)) (t':Nat) (Kb x) lU jT jU m'/\BK m' e.y.L e.y.k e.y.a e.R (w+(b_ rs x).1.length) t' (b_ rs x).2 Zc/\t'=w+(b_ rs x).1.length-e.y.a):=by
 obtain⟨d,hd,H⟩:=ś (r:=(b_ rs x).1.length) N;have F:=o.R;have hL:Mo e.y.L<=30:=bG IK (by decide)
 have ld:t+d<=191:=by rw[hd];exact bG (uM ..)<|bG D F
 have G:t+d<=Mo e.R:=by rw[hd];exact bG (uM ..) D
 have V:eM e.g t d=eM (uA e.y.L e.y.a e.R) t d:=(uE o d _ G).symm;have fd:=λ{n:Nat} {E:FR->Prop}=>Ml n (E:=E) (x:=x) YL hL (λz hz=>(o.y.L z hz).1) I LR (bG M<|by decide) (bG (bG (bD ..) D)<|bG F<|by decide) hR hd V
 obtain⟨A,tx,nu,v,IJ,_,_⟩:=I;have C:=uF (e:=e) d t;have ex:∀j:Nat,(eM e.g t d).2=U j->∃m',cN (n+15) 49 [.own 0,.str x,.bl Zc,.int<|(j:Int)+1,.int<|(e.y.k:Int)+2] m=.ok (.bl O,m'):=λj B=>by
  obtain⟨c,fs,s,e1,e2⟩:=(fd (n:=n+1) (E:=λfs=>fs=[.int<|(j:Int)+1,.int<|(e.y.k:Int)+2]) λj' Z=>by rw[B]at Z;cases Z;rfl).exc λa S=>by rw[B]at S;cases S.1
  subst e2;exact lG n IJ.b J (by rw[bp dw];exact e1)
 clear D N M V F
 generalize hr:(b_ rs x).1.length=r at fd H hd ⊢
 refine iC<|W.of (dU (i:=8) (s':=lS e (w:Nat) (t:Nat) (Kb x) lU jT jU m) (t:=.int<|(w+r:Nat))<|aF (t:=.int (w:Nat)) (u:=.int (r:Nat)) J (OF (l:=x) (ts:=[.str [10]]) J J<|by rw[<- hr];exact Ŕ x rs) J) ⟨J,iC<|W.of (dU (i:=11) (s':=lS e ((w+r:Nat)) (t:Nat) (Kb x) lU jT jU m) (t:=.lst []) J) ⟨J,?_⟩⟩
 rw[<- hd];clear hd;obtain⟨k,Q⟩:∃k,many=k+d+1:=⟨many-(d+1),by unfold many;lia⟩
 unfold dQ;rw[Q];clear Q;refine B9<|(IP n o (b:=Zc) (x:=x) (w:=((w+r:Nat):Int)) (T0:=((w+r:Nat):Int)-(e.y.a:Nat)) (m:=m) (λ_ _ _ _=>J) (λ_ _ _ _=>J) d t [] jT jU k H G (by show 0+_<=_;lia) ex).mono λp q=>?_
 rcases q with q|⟨q,hn,h,f,P⟩
 .exact .inl ⟨_,q,.inl q⟩
 refine .inr ⟨q,?_⟩;rw[P];obtain⟨⟨t5,m5⟩,X,_,K,I5⟩:=(fd (n:=n+2) (E:=λ_=>False) λj B=>by rw[hn]at B;cases B).ok
 have K:t5=_:=K;subst K;rw[lK];have C:(eM e.g t d).1.length<=100000:=bG C (by lia)
 generalize (eM e.g t d).1=DL at C X
 clear P fd ex H G ld
 generalize t+d=t' at I5
 have e6:aB (cN (n+15) 50) [] (k2 (aA (au [(25,80)]<|cN<|n+15) (vF 7)<|k1<|vF 10)<|vF 11) (lS e ((w+r:Nat)) (t':Nat) (Kb x) (Ki<|DL.map T.str) h f m)=.ok (.bl O,lS e ((w+r:Nat)) (t':Nat) (Kb x) (Ki<|DL.map T.str) h f m5):=iB (ts:=[.lst<|DL.map T.str,.lst<|DL.map T.str]) (s':=lS e ((w+r:Nat)) (t':Nat) (Kb x) (Ki<|DL.map T.str) h f m5) (aw (mE (k:=0) (s:=lS e ((w+r:Nat)) (t':Nat) (Kb x) (Ki<|DL.map T.str) h f m) (ts:=[.str x]) J IJ.b J J X) J) (by rw[bF];exact qj (n+14) C)
 exact W.of (yY (ntE<|ř e6) J)<|.inr ⟨J,m5,t',_,_,_,J,I5,J⟩
theorem IQ(n:Nat)(o:e.ok):∀(c:Ap){m:FX}{rs:B1}{w t:Nat}{kB lU jT jU:Option C},BK m e.y.L e.y.k e.y.a e.R w t rs Zc->10∉rs->Mo rs+Mo c.flatten<=190->e.R.drop w=(b_ rs c.flatten).1++iZ (b_ rs c.flatten).2->w<=Mo e.R->t=w-e.y.a ->
  W (bH (setG 10) (So<|cN<|n+15) (c.map T.str)<|lS e (w:Nat) (t:Nat) kB lU jT jU m) λp=>p.1=.rt (.bl O)\/(p.1=.nx/\∃m' rs' g t' kB lU jT jU,p.2=lS e ((g:Nat)) (t':Nat) kB lU jT jU m'/\BK m' e.y.L e.y.k e.y.a e.R g t' rs' Zc/\rs'.length<=190/\e.R.drop g=iZ rs'/\g<=Mo e.R/\t'<=g)
 |[],m,rs,w,t,kB,lU,jT,jU,I,l,hl,b,i,d=>⟨_,J,.inr ⟨J,m,rs,w,t,kB,lU,jT,jU,J,I,hl,b,i,by rw[d];exact uM ..⟩⟩
 |x::c,m,rs,w,t,kB,lU,jT,jU,I,l,hl,b,i,d=>by
  rw[rQ,cQ]at hl;rw[rQ,uz]at b;dsimp only at b;rw[fB]at b;obtain⟨_,k2,k3,_,_⟩:=jK x rs l;have q:=ej Cf b;rw[kH,cQ]at q;have j:w+(b_ rs x).1.length<=Mo e.R:=by clear k3 hl d;lia
  clear q;refine Tq (r:=(lS e (w:Nat) (t:Nat) (Kb x) lU jT jU m).r) J<|(Dz n o I l (by clear k3 d i j;lia) b j d).mono λp f=>?_
  rcases f with f|⟨f,m2,t2,z,v,u,s,A,h⟩
  .exact .inl ⟨_,f,.inl f⟩
  refine .inr ⟨f,?_⟩;rw[s];have hd:=ej (List.drop (b_ rs x).1.length) b;rw[Nc,List.drop_left' J]at hd;exact IQ n o c A k2 (by clear d i j h;lia) hd j h
def Mu(o:e.ok)(I:BK m e.y.L e.y.k e.y.a e.R w t rs Zc)(Q:Mo rs<=190)(hR:e.R.drop w=iZ rs)(r:w<=Mo e.R)(G:t<=w):WB (ah (aH 11<|bV eG aY)<|ah (dQ many (b9<|bX (aN .Lt) (vF 9)<|bV cX<|k1<|vF 6)<|XZ<|cN<|n+15)<|aD<|aB (cN (n+15) 50) []<|k2 (aA (au [(24,72),(25,81)]<|cN<|n+15) (vF 7) aY)<|oA (vF 11)<|bX (eA .Mult) (bV eG<|k1<|cS Mr)<|oI zC<|cI 5) (lS e (w:Nat) (t:Nat) kB lU jT jU m) λp=>p.1=.bl O:=by
 have B:=o.R;have N:Mo e.y.L<=30:=bG IK (by decide)
 obtain⟨d,hd⟩:=Nat.exists_eq_add_of_le<|bG G r;have ld:d<=191:=bG (by rw[hd];exact uK ..) B
 have P:eM e.g t d=eM (uA e.y.L e.y.a e.R) t d:=(uE o d _<|qq hd.symm).symm;have fn:=λ{n:Nat} {E:FR->Prop}=>Dv n (E:=E) YL N (λz X=>(o.y.L z X).1) I (bG Q<|by decide) (bG r<|bG B<|by decide) hR hd.symm r P
 obtain⟨A,tx,nu,v,V,_,_⟩:=I;have C:=uF (e:=e) d t;have ex:∀j:Nat,(eM e.g t d).2=U j->∃W,cN (n+15) 49 [.own 0,.str [],.bl O,.int<|(j:Int)+1,.int<|(e.y.k:Int)+2] m=.ok (.bl O,W):=λj h=>by
  obtain⟨c,fs,s,e1,e2⟩:=(fn (n:=n+1) (E:=λfs=>fs=[.int<|(j:Int)+1,.int<|(e.y.k:Int)+2]) λj' S=>by rw[h]at S;cases S;rfl).exc λa M=>by rw[h]at M;cases M.1
  subst e2;exact lG n V.b J (by rw[bU J];exact e1)
 clear r G Q P B N;refine bS (i:=11) (t:=.lst []) J ?_;obtain⟨k,K⟩:∃k,many=k+d+1:=⟨many-(d+1),by unfold many;lia⟩
 unfold dQ;rw[K];clear K;refine SM<|(IP n o (b:=O) (x:=[]) (w:=(w:Nat)) (T0:=(Mo e.R:Nat)) (m:=m) (λ_ _ _ _=>dJ (ts:=[.lst<|e.R.map T.str]) J<|by show U (T.int ((e.R.map T.str).length:Nat))=_;rw[cz]) (λ_ _ _ _=>J) d t [] jT jU k (.inl<|by rw[hd];rfl) (qq hd.symm) (by show 0+_<=_;lia) ex).mono λp f=>?_
 rcases f with f|⟨f,Z,q,l,H⟩
 .exact .inl ⟨_,f,J⟩
 refine .inr ⟨f,?_⟩;rw[H];obtain⟨⟨t5,m5⟩,F,_,D⟩:=(fn (n:=n+2) (E:=λ_=>False) λj h=>by rw[Z]at h;cases h).ok
 have D:t5=_:=D;subst D;rw[lK];rw[YM]at F;have C:(eM e.g t d).1.length<=1000:=bG C (by lia)
 generalize (eM e.g t d).1=DL at C F
 clear H fn ex ld hd
 generalize t+d=t'
 have lr:(bL (if e.y.b5 then 1 else 0) Mr).length<=1:=by rw[kG];split<;>decide
 refine Bq (iB (ts:=[.lst<|(DL++bL (if e.y.b5 then 1 else 0) Mr).map T.str,.lst<|(DL++bL (if e.y.b5 then 1 else 0) Mr).map T.str]) (s':=lS e (w:Nat) (t':Nat) kB (Ki<|DL.map T.str) q l m5) (aw (mE (k:=0) (s:=lS e (w:Nat) (t':Nat) kB (Ki<|DL.map T.str) q l m) (ts:=[]) J V.b J J F)<|aw (aF (t:=.lst<|DL.map T.str) (u:=.lst<|(bL (if e.y.b5 then 1 else 0) Mr).map T.str) J (aF (t:=.lst [.str Mr]) (u:=Jl e.y.b5) J J<|by cases e.y.b5<;>rfl)<|(B8<|by rw[cz,cz];lia).trans<|by rw[eF]) J)<|qj (n+14)<|by rw[cQ];lia) J
end
def YS{i:Int}(h:i=0\/i=1):i=if decide (i=1)then 1 else 0:=by
 rcases h with rfl|rfl<;>rfl
def Tr(hn:Mo ns<=900):cN (n+16) 51 [.scr ns] []=.ok (.bl O,[]):=by
 rw[w51];obtain⟨f,hf⟩:∃f,f=cellAt ns 0:=⟨_,J⟩;obtain⟨s,Z⟩:∃s,s=cellAt ns 1:=⟨_,J⟩;have e0:cN (n+15) 39 [.scr ns,.int 0] []=.ok (.int f,[]):=by rw[hf];exact uB (n+14) (k:=0)
 have e1:cN (n+15) 39 [.scr ns,.int 1] []=.ok (.int s,[]):=by rw[Z];exact uB (n+14) (k:=1)
 have e2:cN (n+15) 39 [.scr ns,.int 2] []=.ok (.int<|cellAt ns 2,[]):=uB (n+14) (k:=2);obtain⟨w0,h0,Q⟩:=my (n+13) (s % 1009) [];obtain⟨w1,M,P⟩:=my (n+13) (s/1009 % 1013) [];obtain⟨w2,r,N⟩:=my (n+13) (cellAt ns 2 % 1019) [];obtain⟨ps,⟨V,j⟩,S⟩:=xK (n+13) (ns.drop 3) [] (by rw[kH];lia)
 obtain⟨e,b⟩:∃e:LE,e=⟨ns,f,s,⟨(f % 3).toNat,decide<|f/3 % 2=1,decide<|f/6 % 2=1,decide<|f/12 % 4/3=1,decide<|f/48 % 2=1,decide<|f/96 % 2=1,w0,w1,w2⟩,ps⟩:=⟨_,J⟩;have o:e.ok:=by rw[b];exact⟨⟨by dsimp only;lia,h0,M,r⟩,V,j⟩
 have B:T.lst [.int<|f % 3,.int<|f/3 % 2,.int<|f/6 % 2,.int<|f/12 % 4/3,.int<|f/48 % 2,.int<|f/96 % 2]=e.y.wy:=by
  rw[b];show _=T.lst [.int ((f % 3).toNat:Nat),.int<|if decide (f/3 % 2=1)then 1 else 0,.int<|if decide (f/6 % 2=1)then 1 else 0,.int<|if decide (f/12 % 4/3=1)then 1 else 0,.int<|if decide (f/48 % 2=1)then 1 else 0,.int<|if decide (f/96 % 2=1)then 1 else 0]
  rw[<- YS (i:=f/3 % 2)<|by lia,<- YS (i:=f/6 % 2)<|by lia,<- YS (i:=f/12 % 4/3)<|by lia,<- YS (i:=f/48 % 2)<|by lia,<- YS (i:=f/96 % 2)<|by lia,Int.toNat_of_nonneg<|by lia]
 have lT:ns=e.ns:=by rw[b]
 have H:f=e.f:=by rw[b]
 have F:s=e.s:=by rw[b]
 have G:ps=e.ps:=by rw[b]
 have D:T.lst [.str w0,.str w1,.str w2]=e.y.wd:=by rw[b]
 clear hf Z hn V j h0 M r b;subst lT H F G;have oR:=o.R;have g:=o.fl;have opl:=o.pl;have K:=IK (y:=e.y);refine sEq J J J<|bS (t:=.int e.f) (cE (ts:=[.scr e.ns,.int 0]) J e0)<|bS (i:=2) (t:=e.y.wy) (s:=⟨[sv<|.scr e.ns,J4 e.f,Y,Y,Y,Y,Y,Y,Y,Y,Y,Y,Y,Y,Y,Y],[]⟩) (by rw[<- B];exact dJ (ts:=[.int<|e.f % 3,.int<|e.f/3 % 2,.int<|e.f/6 % 2,.int<|e.f/12 % 4/3,.int<|e.f/48 % 2,.int<|e.f/96 % 2]) (aw (md J<|by decide)<|aw (md (fd J<|by decide)<|by decide)<|aw (md (fd J<|by decide)<|by decide)<|aw (fd (md (fd J<|by decide)<|by decide)<|by decide)<|aw (md (fd J<|by decide)<|by decide)<|aw (md (fd J<|by decide)<|by decide) J)<|jI<|by show 6<=1000;decide) ?_
 refine bS (i:=3) (t:=.int e.s) (s:=⟨[sv<|.scr e.ns,J4 e.f,sv e.y.wy,Y,Y,Y,Y,Y,Y,Y,Y,Y,Y,Y,Y,Y],[]⟩) (cE (ts:=[.scr e.ns,.int 1]) J e1) ?_;refine bS (i:=4) (t:=e.y.wd) (s:=⟨[sv<|.scr e.ns,J4 e.f,sv e.y.wy,J4 e.s,Y,Y,Y,Y,Y,Y,Y,Y,Y,Y,Y,Y],[]⟩) (by rw[<- D];exact dJ (ts:=[.str w0,.str w1,.str w2]) (aw (cE (ts:=[.int<|e.s % 1009]) (aw (md J<|by decide) J) Q)<|aw (cE (ts:=[.int<|e.s/1009 % 1013]) (aw (md (fd J<|by decide)<|by decide) J) P)<|aw (cE (ts:=[.int<|cellAt e.ns 2 % 1019]) (aw (md (cE (ts:=[.scr e.ns,.int 2]) J e2)<|by decide) J) N) J)<|jI<|by show 3<=1000;decide) ?_
 refine bS (i:=5) (t:=.lst<|e.ps.map T.str) (s:=⟨[sv<|.scr e.ns,J4 e.f,sv e.y.wy,J4 e.s,sv e.y.wd,Y,Y,Y,Y,Y,Y,Y,Y,Y,Y,Y],[]⟩) (cE (ts:=[.lst<|(e.ns.drop 3).map T.int]) (aw (ZD (t:=.scr e.ns) (x:=U 3) (y:=Y) J J J<|ej (λ(z:Dx)=>U<|T.lst<|z.map T.int)<|IF e.ns 3) J) S) ?_;refine bS (i:=6) (t:=.lst<|e.R.map T.str) (s:=⟨[sv<|.scr e.ns,J4 e.f,sv e.y.wy,J4 e.s,sv e.y.wd,Ki<|e.ps.map T.str,Y,Y,Y,Y,Y,Y,Y,Y,Y,Y],[]⟩) (cE (ts:=[.str e.ps.flatten]) (aw (OF (l:=[]) (ts:=[.lst<|e.ps.map T.str]) J J<|join_eq<|bG g<|by decide) J)<|Dy (n+14)<|bG g<|by decide) ?_
 refine eE<|XI<|W.of (cE (ts:=[e.y.wy,e.y.wd]) (s:=⟨[sv<|.scr e.ns,J4 e.f,sv e.y.wy,J4 e.s,sv e.y.wd,Ki<|e.ps.map T.str,Ki<|e.R.map T.str,Y,Y,Y,Y,Y,Y,Y,Y,Y],[]⟩) J<|zp (n+14) o.y) ⟨_,J,J,?_⟩;obtain⟨d,u⟩:∃d:Option C->Fs,d=λa=>[sv<|.scr e.ns,J4 e.f,sv e.y.wy,J4 e.s,sv e.y.wd,Ki<|e.ps.map T.str,Ki<|e.R.map T.str,a,Y,Y,Y,Y,Ki<|cD e.y.L,J4<|(e.y.k:Int)+2,Y,Y]:=⟨_,J⟩;have ei:=IE (n+11) (kk:=e.y.k) (sn:=(e.y.a:Nat)) YJ (bG K<|by decide)<|ŕ o.y.a
 have v:=o.y.L;have lf:∀(l:List LN),(∀z∈l,z.ok/\10∉z.txt/\z.txt.length<=60)->(DP<|l.map LN.txt).length<=61*Mo l:=by
  intro l
  induction l with
  |nil=>intro _;exact cV _
  |cons z l ih=>
   intro h;have M:=ih λz c=>h z<|ee _ c;have r:=(h z<|eO ..).2.2;show(z.txt++[10]++DP (l.map LN.txt)).length<=_;simp only[cQ,dM,qt];lia
 have A:=lf e.y.L v;have er:=LQ n (m:=[]) (λz c=>(v z c).1) (bG K<|by decide) YJ (λz c=>(v z c).2.1) (by lia)
 have X:qm joinM (cS []) (k1<|gx<|dI (oU<|vF 12) 2 [] (setG 1) ie<|oA zB<|cS [10]) ⟨d Y,[]⟩=.ok (.str<|DP<|e.y.L.map LN.txt,⟨d Y,[]⟩):=by
  refine OF (l:=[]) (ts:=[.lst<|(e.y.L.map λz=>z.txt++[10]).map T.str]) J (aw (X5 (Ss (t:=.lst<|cD e.y.L) (by rw[u];rfl) J) (by rw[cz];exact bG K<|by decide) (by rw[u];rfl) ?_) J) ?_
  .rw[show(e.y.L.map λz=>z.txt++[10]).map T.str=(cD e.y.L).map (λt=>match t with|.str l=>.str<|l++[10]|t=>t) by rw[gM,gM];rfl]
   refine dW λt E=>?_;obtain⟨z,c,rfl⟩:=je.mp E;exact⟨[Y,Kb z.txt],[Y,Kb z.txt],by rw[u];rfl,ZI J J<|by have:=(v z c).2.2;show _+1<=_;lia⟩
  .have e9:e.y.L.map (λz=>z.txt++[10])=(e.y.L.map LN.txt).map (·++[10]):=by rw[gM];rfl
   rw[e9];exact join_eq<|bG A<|by lia
 refine Ĳ (i:=7) (t:=.own 0) (s:=⟨[sv<|.scr e.ns,J4 e.f,sv e.y.wy,J4 e.s,sv e.y.wd,Ki<|e.ps.map T.str,Ki<|e.R.map T.str,Y,Y,Y,Y,Y,Ki<|cD e.y.L,J4<|(e.y.k:Int)+2,Y,Y],[]⟩) (s':=⟨d Y,ID (e.y.a:Nat) e.y.L e.y.k⟩) (by rw[u]at X ⊢;exact LD (ts:=[xP e.y.L]) (s':=⟨[sv<|.scr e.ns,J4 e.f,sv e.y.wy,J4 e.s,sv e.y.wd,Ki<|e.ps.map T.str,Ki<|e.R.map T.str,Y,Y,Y,Y,Y,Ki<|cD e.y.L,J4<|(e.y.k:Int)+2,Y,Y],[]⟩) (aw (cE (ts:=[.str<|DP<|e.y.L.map LN.txt]) (aw X J) er) J) ei) ?_
 rw[u];refine bS (i:=8) (t:=.int 0) J<|bS (i:=9) (t:=.int 0) J ?_;refine SM (iD (W.of (a:=(e.ps.map T.str,lS e ((0:Nat)) ((0:Nat)) Y Y Y Y<|ID (e.y.a:Nat) e.y.L e.y.k)) J ((IQ n o e.ps (tD e.y.L e.y.k e.R) (λz=>nomatch z) (by show 0+_<=_;lia) J (jc _) (Ec _).symm).mono λp q=>?_)))
 rcases q with q|⟨q,m,rs,w,t,kB,lU,jT,jU,r,I,ZM,hR,hw,E⟩
 .exact .inl ⟨_,q,J⟩
 .refine .inr ⟨q,?_⟩
  rw[r];exact Mu n o I ZM hR hw E
end K45
namespace K45
open PySem D L2
variable(n:Nat)
set_option maxHeartbeats 0
def Mv:∀P,Sh (KH.K P) M Ft It=O:=λP=>by kernel_rfl
def Mw:∀P,M.cs.all (Lx<|KH.K P)=O:=λP=>by kernel_rfl
def Mx:∀P,Ft.map (Oz<|KH.K P)=Ft.map λe=>(Oz (KH.K P) e).map<|Hz e:=λP=>by kernel_rfl
set_option maxHeartbeats 0
def BnL:List Fe->Prop
 |[]=>True
 |e::r=>Bn e/\BnL r
theorem OR:∀{l:List Fe},BnL l->∀e∈l,Bn e
 |e::r,h,x,a=>by
  rcases cu.mp a with z|z
  .rw[z];exact h.1
  .exact OR h.2 x z
def lz0{P:B2->Prop}(h:P []):∀us:B2,Mo us=0->P us
 |[],_=>h
 |_::_,e=>by cases e
def YU{n:Nat}{P:B2->Prop}(h:∀a,∀us:B2,Mo us=n->P (a::us)):∀us:B2,Mo us=n+1->P us
 |[],e=>by cases e
 |a::us,e=>h a us<|rM.inj e
def lz1{P:B2->Prop}(h:∀a,P [a]):∀us:B2,Mo us=1->P us:=YU λa=>lz0<|h a
def lz2{P:B2->Prop}(h:∀a b,P [a,b]):∀us:B2,Mo us=2->P us:=YU λa=>lz1<|h a
def lz3{P:B2->Prop}(h:∀a b c,P [a,b,c]):∀us:B2,Mo us=3->P us:=YU λa=>lz2<|h a
def lz4{P:B2->Prop}(h:∀a b c d,P [a,b,c,d]):∀us:B2,Mo us=4->P us:=YU λa=>lz3<|h a
def lz5{P:B2->Prop}(h:∀a b c d e,P [a,b,c,d,e]):∀us:B2,Mo us=5->P us:=YU λa=>lz4<|h a
def DA:Bn ⟨Y,"stretch","stretch",top 65,["one","row","start","ends","begin"],["one","row","start"],[],O,[.int 0]⟩:=λ_ _ _ _ _ _ s a o e n b c hd hl f=>by
 obtain⟨d,rfl⟩:=List.length_eq_one_iff.mp<|show Mo e=1 from hl;have h:(b++[d]).length=3:=f;rw[cQ]at h
 match b,rM.inj h with
 |x::b,h=>
  match b,rM.inj h with
  |y::b,h=>
   cases List.eq_nil_of_length_eq_zero (rM.inj h);exact .of_defaults J c hd J J
def bn:∀e∈Ft,Bn e:=OR (by
 repeat' first|exact trivial|refine And.intro ?_ ?_
 all_goals first|exact λ_ _ _ _ _ _=>lz0 J|exact λ_ _ _ _ _ _=>lz1 λ_=>J|exact λ_ _ _ _ _ _=>lz2 λ_ _=>J|exact λ_ _ _ _ _ _=>lz3 λ_ _ _=>J|exact λ_ _ _ _ _ _=>lz4 λ_ _ _ _=>J|exact λ_ _ _ _ _ _=>lz5 λ_ _ _ _ _=>J|exact DA)
end K45
end
open PySem PySem.W PyProof.Rows
set_option maxRecDepth 100000 in
set_option maxHeartbeats 0 in
theorem PySem.Challenge.cw_rowblade_k45_endless_at_its_piece_holds : PySem.Challenge.rw_rowblade_k45_endless_at_its_piece.Holds := by
 w_on
 refine holds_law (by
  unfold OpenLaw.wellSaid OpenRow.wellSaid OpenRow.partSaid looksOpen
  repeat' (with_reducible refine look_both ?_ ?_)
  all_goals decide +kernel) λaak=>?_
 refine holds_open (q:=KH.vw) (loose:=KH.lz) (Xt:=KH.Xt) (XP:=XL KH.vw []) (Yf:=Hook.obs<|kHook KH.K KH.as KH.TH) (Ya:=Hook.val<|kHook KH.K KH.as KH.TH) (YP:=Hook.says<|kHook KH.K KH.as KH.TH) (N:=24448) KH.left (Hook.of<|kHook KH.K KH.as KH.TH) (Hook.keeps<|kHook KH.K KH.as KH.TH) (λs e=>xl_of s (Bool.and_eq_true_iff.mp e).1) XL.keeps (by rfl) (by rfl) (by rfl) (λs e=>recFacts_of (Bool.and_eq_true_iff.mp e).2) (by rfl) (by first|assumption|decide +kernel) (by decide +kernel) ⟨J,J,J,J,J,by decide +kernel⟩ ?hw ?hc
 (case hw=>w_witness2)
 k_fill
 refine _root_.D.XE (l:=PySem.Challenge.rw_rowblade_k45_endless_at_its_piece) (m:=63) (n:=16) (K:=KH.K) (M:=K45.M) (Ft:=K45.Ft) (It:=K45.It) (i:=51) J (by decide) J ⟨J,by decide,by decide⟩ (λw h a=>PySem.W.kIn_of a) J J J J J (λP=>⟨⟨K45.Mv P,K45.Mx P,K45.bn⟩,K45.Mw P⟩) λns hn _=>⟨[],K45.Tr 0<|Nat.le_trans hn<|by decide⟩
