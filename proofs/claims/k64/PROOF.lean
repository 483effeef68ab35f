import PyProof.Rows.All
import Wide.All
import OpenK.AllK
import Wide.FinOn
import Lean
import PyProof.EqAt
import PyProof.EqKinds
import PyProof.TupleCall
import PyProof.Rows.EnumRows
import PyProof.EnumMake
import KE.KIntText
import KE.KEqDict
import PyProof.TupleOfGen
import PyProof.CollectIter
import KE.KRevIter
import PyProof.Rows.SortStr
import KE.KDictSum
import PyProof.DictItems
import KE.KPairComp
import PyProof.StrBlock
import KE.IntTextText
import PyProof.ExcInit
import PyProof.ExcClass2
import KE.KTryMore
import PySem.Challenge.RW_rowblade_k64_other_texts
set_option Elab.async false
set_option linter.all false
set_option maxRecDepth 100000
set_option compiler.extract_closed false
noncomputable section
set_option genSizeOf false
set_option bootstrap.genMatcherCode false
local macro_rules|`(def $x $s:optDeclSig $v:declVal)=>do return(←`(noncomputable def $x $s:optDeclSig $v:declVal)).raw.rewriteBottomUp (·.setInfo .none)
local macro_rules|`(abbrev $x $s:optDeclSig $v:declVal)=>do return(←`(noncomputable abbrev $x $s:optDeclSig $v:declVal)).raw.rewriteBottomUp (·.setInfo .none)
open PySem renaming Shared->ag,Value->ao,wpAny_bind->av,Addr->ax,model->cv,Expr->cx,sizeLine->cC,starEach->c3,wpAny->c4,Program->da,World->de,wpAny_pure->dn,FuncData->dA,sizeLine_eq->dZ,Around->ef,Heap->eh,compareOp->et,wpAny_mono->ey,mainGlobals->eD,eval->eE,foldedSetIterable->eI,swapsWith->eP,behindInMarks->eR,wpAny_Call_Name_kw->ff,treeTable->fu,wpAny_execs_nil->fv,sliceBounds->fE,Scope->f7,Stmt->gL,mem_of_lookup->gN,codeAny_mono->gV,codeAny_call_builtin->hA,bootBuiltins->hF,backTo->hG,sysModules->hM,assignEach->hW,OsState->hX,wpAny_passesOwn->h9,wpAny_truthy_bool->ip,wpAny_pyIter_list->iq,wpAny_call->iv,wpAny_execs_cons->i5,codeAny->jA,wpAny_holding->ke,cLine->kf,attributeBase->kn,tupleKind_room_in1->kz,wpAny_getItem_str_slice->kA,keywordEach->kS,wpAny_loadPart_at->la,binaryOp->ll,CmpOp->lp,plainObj_wpAny_Assign_Attribute->mn,Within->mq,PassesOwn->mB,Params->mI,wpAny_standAt->mM,excClassObj->nr,Thread->n5,call_meets->oa,Operator->og,ExceptHandler->oP,backToKw->o4,intText?->o5,NameKind->o6,typeIs_str->pa,rawInt->pb,Keyword->pk,wpAny_loadPart'->pv,post_val_or_str->pz,letOwnedTupleGo->pB,Expr->ql,wpAny_loadPart->qs,unbindBehindTheSuite->qx,subscripted->qy,tupleKind->rg,standAt->ri,noteFrame->rr,holding->ry,Str->sb,swappedStores->sg,typeLookup->so,isInstance->sq,builtinsNs->sr,assign->sx,wpAny_pyIter_enum->s9,valueAt->tc,callerA->td,GenState->ti,wpAny_lookBehind->ub,wpAny_Try_except->ui,setFlight->uj,pastItsLine_dict->uY,getMethod->uZ,checkBuiltinCall->u1,wpAny_field->va,IsRangeIter->vj,importedModules->vl,setAttr->v3,leaving->v5,getItem->v9,wpAny_setField->xp,typeOf->xB,sliceRange->xH,atKey->yy,Model->y4,wpAny_getItem_list_slice->zv,slicePick->z9,bindL->BR,bindC->B0,wpAny_pyNext_range_end->CC,wpAny_pyIter_rangeiter->CQ,wpAny_nsSet1->C1,seqIndex_neg->Ef,relabel->Ep,isTrue->Er,Paired->Eu,BindsTo->EZ
open PySem.Heap renaming get?_push_of_some->ar,lt_size->cw,get?_push_size->c5,get?_update_other->fy,size_push->kv,get?_update_self->k4,get?_none_of_le->me,SameBut->oC,get?_push_at->rz,MadeExcOf->tw,get?_update_ne->z1
open PySem.W.Fast renaming te10110043849684766642->dk
open PySem.Builtin.Str renaming occurrences->eg,strSliceIndices->fw,strKind->gg
open False renaming elim->eJ
open Ne renaming symm->e7
open True renaming intro->fA
open ForInStep renaming yield->fC
open PySem.Str renaming ofString->gs,empty->w1
open Array renaming length_toList->gP,toArray_toList->o8,getElem?_setIfInBounds_ne->rE,toList->vT,getElem?_toList->xk,find?_toList->z8
open PySem.Flow renaming next->hJ
open PySem.Builtin.Int renaming intBits->hZ
open PySem.Builtin.List renaming listTooLong->h8
open PySem.Value renaming none->ih,type->ox,builtin->p0,bool->qd,isStrOf->u2,float->yB,isStrOf_shape->y9
open PySem.Builtin.Range renaming rangeSize->ij,small->sY
open PySem.W renaming looks_pair->ix,segRun_of->i6,piece_app->jd,piecesOf->lb,hideAll->ng,SharedT->nq,segRunT->n8,hideAll_get->oB,boot_heap->oT,looks_findIn->pd,findIn->qB,Looks->tf,looks_mroIn->vb,of_hideAll->xI,any_some->yA,Frag->y8,emptyDict->Bp
open PySem.F renaming plainAttrs_list->i4,type_list_append->n6,slot_list_append->n7,slot_dict_get->oy,excBase_ValueError->sT,args_dict_get_3->tq,entry_dict_get->u3
open PySem.Obj renaming mapFields->j2,mapSeq->q0,data_mapFields->ra,isFreed_of_fields->zi
open PySem.StrLaws renaming sliceText->ka,subAt_eq->n9
open PyProof.Rows renaming AllBare->kx,subscriptTail->si,envOfC->u0,StrsAre->wC,Subscript_->y0,subscriptTail_builtinR->DL
open Prod renaming fst->ma,snd->ot
open PySem.SeqAt renaming EqAt->nL,RcNeAt->vr,RcAt->zV
open PySem.Code renaming quiet_builtin->n0,isFrame->xi
open PySem.Calls renaming evalArgs_plain->o7,spliced_cons->qr,Name_function_global->tj,callWith_builtin->vy,spliced_nil->B8
open PySem.Txt renaming startswith->pf,slice_le->rS,endswith->rV,slice->wy
open PySem.W.Looks renaming ld->rb
open Sum renaming inr->rX,inl->r0
open PySem.SeqAt.RcAt renaming lists_lengths->sm,tuples->vu,lists->xa
open Char renaming toNat->tJ
open PyProof renaming noPylong_small->u4
open PySem.EntryCells renaming newEntry->u5
open PySem.SeqAt.EqAt renaming str_int->vh,int_str->vi
open PySem.Around renaming under->vk
open PySem.Heap.IsList renaming push->vx
open PySem.Heap.Ns1 renaming of_empty->y6
open PySem.Builtin.ObjectAttr renaming find->E6,dataDescriptor?->FD
def bh:=@of_decide_eq_true
def bt:=@if_neg
def b0:=@if_pos
def b7:=@decide_eq_true
def cq:=@decide_eq_false
def du:=@decide_eq_true_eq
def dv:=@congrArg
def dy:=@absurd
def ej:=@congrFun
def hQ:=@or_false
def kl:=@beq_self_eq_true
def lx:=@decide_eq_false_iff_not
def xY:=@funext
def Am:=@if_true
open Option renaming some->U,none->Y
open Bool renaming true->O,false->Zb
theorem J.{u}{α:Sort u}{a:α}:a=a:=rfl
abbrev Ap:=List<|List Nat
abbrev B1:=List Nat
abbrev B2:=List PySem.Value
abbrev Bi:=List sb
abbrev Bz:=List ql
abbrev BM:=List PySem.Addr
abbrev D2:=Option PySem.Value
abbrev Dx:=Option Int
abbrev Ee:=List Int
abbrev Fh:=List PySem.Stmt
abbrev Fs:=List Bool
namespace Z0
end Z0
open PySem.W renaming Frag->bD,findIn->f6,keepIn->lC,kitOne->pK,kia_one->pL,nsIn->pM,emptyDict->uE,exmOne->uF,instObj->wH,fnOf->zk,isFn->D9,mroIn->D_,plainGet->wJ,hasDictIn->wK,makesIn->wL,lookIn->Be,specialIn->Bf,takesIn->Bg,callWith_K->Bj,methodObj->F7,plainGet_of->F8,plainOver->F9,takerIn->F_,any_some->Ga,Looks->Gb,callWith_K0->Gd,codeIn->Ge,kitAny->Gg,handedIn->O4,kitx_list->O5,kitx_dict->O6,kitx_own->O7,methodCall_KW->O8,cellsFrom_some->O9,excIn->O_,Dflts->Pa
open Nat renaming le_refl->bP,le_trans->cJ,le_add_right->bH,zero_le->dO,ne_of_lt->eV,lt_of_lt_of_le->fU,add_le_add_right->g_,sub_self->nY,lt_succ_self->pN,succ_mul->rK,lt_of_le_of_lt->rL,le_of_eq->uG,succ->uH,lt_irrefl->wM,zero_add->zl,ne_of_gt->Ea,le_add_left->sD,mul_le_mul->sE,le_succ->wN,mul_le_mul_right->wQ,le_of_not_lt->Bk,min_self->Bl,sub_lt_sub_left->Bm,min_eq_left->Bo,mul_le_mul_left->Bq,le_of_lt->Gh,add_comm->Gi,lt_trans->Gj,lt_succ_of_lt->Gk,le_antisymm->Gn,add_le_add->Pb,add_sub_cancel_left->Pc,mul_succ->Pd
open List renaming length_map->bQ,length_append->bU,length_cons->dU,mem_cons_self->d_,mem_cons_of_mem->eG,mem_cons->bM,append_nil->b9,size_toArray->cD,replicate->cK,range->cU,mem_singleton->dj,getElem?_eq_some_iff->dw,getElem?_eq_getElem->dP,all_cons->dW,mem_append->eW,getElem?_map->eX,getElem?_set_ne->e9,length_set->fF,append_assoc->fG,prefix_rfl->fH,all_eq_true->fJ,getElem?_set_self->f9,map_append->gf,map_cons->gj,range'->gz,length_drop->hU,length_singleton->h_,lookup->iA,getElem?_append_right->iB,mem_map->iC,mem_of_getElem?->ji,getElem?_append_left->j4,map_map->j5,mem_append_right->ku,length_take->kB,lookup_cons->kC,length_range->kD,not_mem_nil->kE,flatten->mD,nodup_cons->pO,mem_append_left->rM,any_cons->rN,zip_cons_cons->rO,isEmpty_iff->rP,replicate_succ->uI,nil_append->uJ,getD_eq_getElem?_getD->uK,take_append_drop->uL,mem_range->wR,length_replicate->wU,filterMap_cons->zm,getElem?_replicate->zo,flatten_cons->zp,map_nil->zq,map->zr,map_drop->zt,drop_zero->zu,contains_iff_mem->zw,mem_of_mem_drop->zx,sum_append->zy,mem_filterMap->Eb,find?_cons->sF,map_take->sH,filterMap_append->sI,mem_of_mem_take->sJ,cons_ne_nil->sL,map_congr_left->wV,length_zip->wW,getElem_mem->wX,drop_of_length_le->wY,of_mem_zip->Br,length->Bs,ext_getElem?->Bt,take_zero->Bu,take_of_length_le->Bv,drop_length->Bw,prefix_append->Bx,nodup_append->By,eq_nil_or_concat->BA,concat_eq_append->BB,set_append_right->BC,mem_filter->Gp,foldl->Gq,getElem?_range->Gs,range_succ_eq_map->Gu,all_map->Gv,any_map->Gw,map_replicate->Gx,drop_eq_getElem_cons->Gy,reverse_cons->Gz,length_reverse->GA,getElem?_eq_none->GC,map_inj_left->GD,filterMap_cons_none->GF,filter_cons_of_pos->GG,filter_cons_of_neg->GH,drop_drop->GI,drop_append_of_le_length->GJ,take_append_of_le_length->GK,take_take->GL,eq_nil_of_length_eq_zero->GN,getElem?_eq_none_iff->Pe,forIn_cons->Ph,length_nil->Pj,getElem?_toArray->Pk,length_flatten->Pn,any_eq_true->Po,sum_cons->Pp,map_id->Pq,idxOf?->Pu,findIdx?_eq_some_iff_getElem->Pw,zip_nil_right->Px,all_nil->Py,pairwise_cons->Pz,Pairwise->PB,set_set->PD,drop_take->PF,take_eq_take_iff->PH,flatten_append->PJ,flatten_singleton->PK,set_append_left->PM,range'_succ->PN,length_range'->PQ,map_reverse->PU,length_eq_one_iff->PV
open Option renaming bind_eq_some_iff->bV,map_eq_some_iff->bZ,ite_none_right_eq_some->j6,some->lD,none->BD,isSome_iff_exists->GO,isSome_map->GP,getD_none->PX,isNone_iff_eq_none->PY
open Bool renaming and_eq_true->cL,false_ne_true->e_,and_eq_true_iff->kF,true_and->wZ,not_eq_true'->zE,false_or->sN,and_true->sO,or_eq_true->w_,or_eq_false_iff->BE,false_and->GQ,true_or->GR,or_false->PZ,and_false->P0,eq_false_or_eq_true->P1,or_true->P4
open Int renaming ofNat->kG,toNat_natCast->xh,emod_nonneg->BG,emod_lt_of_pos->GS,zero_add->P5
open PyProof.Rows renaming callWith_type1->Ec,boot_list->xj,boot_isinstance->xl,envOfC->GU,recsOf->P6,drecsOf->P7,boot_enumerate->P8,boot_str->P9,boot_int->P_
namespace Z1
end Z1
abbrev dJ:=List<|PySem.Addr×PySem.Obj
abbrev bB(x:sb):Prop:=(x == ("__debug__":sb))=Zb
abbrev gk(x:sb):Prop:=(x == ("__classdict__":sb))=Zb
theorem abc.{u,v}{d:Type u}{c:Type v}{x:Option d}{f:d→Option c}{b:c}{P:Prop}(k:∀a,x=U a→f a=U b→P)(h:x.bind f=U b):P:=(Option.bind_eq_some_iff.mp h).elim λa q=>k a q.1 q.2
def abH{e γ d:Type}{x:Option<|e×γ}{f:e×γ→Option d}{b:d}{P:Prop}(k:∀a c,x=U (a,c)→f (a,c)=U b→P)(h:x.bind f=U b):P:=(Option.bind_eq_some_iff.mp h).elim λa q=>k _ _ q.1 q.2
def abI{g γ δ e:Type}{x:Option<|g×γ×δ}{f:g×γ×δ→Option e}{b:e}{P:Prop}(k:∀a c d,x=U (a,c,d)→f (a,c,d)=U b→P)(h:x.bind f=U b):P:=(Option.bind_eq_some_iff.mp h).elim λa q=>k _ _ _ q.1 q.2
abbrev F1:=PySem.Value->PySem.Shared->Prop
abbrev F2:=Unit->PySem.Shared->Prop
abbrev He:String:="BaseException.__getattribute__"
abbrev Hl:String:="object.__class__"
open List renaming length->Hq
namespace L2
open PySem PySem.Spec PyProof.Rows
abbrev Key:=Sum Int Str
def pP:Key->ao->Bool
 |.inl k,v=>Value.isInt k v
 |.inr x,v=>u2 x v
def ł(w:de):Key->Int
 |.inl k=>hashInt k
 |.inr x=>hashStr w x
def cW:∀{k:Key}{v:ao},pP k v=O->(∃i t,k=r0 i/\v=Value.int i t)\/(∃x t,k=rX x/\v=Value.str x t)
 |.inl i,v,h=>by
  obtain⟨t,e⟩:=Value.isInt_shape h;exact .inl ⟨i,t,J,e⟩
 |.inr x,v,h=>by
  obtain⟨t,e⟩:=y9 h;exact .inr ⟨x,t,J,e⟩
def Ed(i:Int)(t:Tok):pP (.inl i) (.int i t)=O:=by simp[pP,Value.isInt]
def Eg(x:Str)(t:Tok):pP (.inr x) (.str x t)=O:=by simp[pP,u2]
def R4(a b:Int):decide ((r0 a:Key)=r0 b)=(a == b):=by
 lia
def R5(a b:Str):decide ((rX a:Key)=rX b)=decide (a=b):=by
 lia
def R6(a:Int)(b:Str):decide ((r0 a:Key)=rX b)=Zb:=cq (λq=>nomatch q)
def R7(a:Str)(b:Int):decide ((rX a:Key)=r0 b)=Zb:=cq (λq=>nomatch q)
def ck(prog:da)(w:de):PySem.KeyKind prog w Key where
 is:=pP
 hash:=ł w
 inj:=λv a b g d=>by
  rcases cW g with⟨i,t,rfl,rfl⟩|⟨x,t,rfl,rfl⟩
  .rcases cW d with⟨j,u,rfl,e⟩|⟨y,u,rfl,e⟩
   .injection e with e1 _;rw[e1]
   .exact nomatch e
  .rcases cW d with⟨j,u,rfl,e⟩|⟨y,u,rfl,e⟩
   .exact nomatch e
   .injection e with e1 _;rw[e1]
 byValue:=λk v h=>by
  rcases cW h with⟨i,t,rfl,rfl⟩|⟨x,t,rfl,rfl⟩<;>rfl
 pyHash:=λc h=>by
  rcases cW c with⟨i,t,rfl,rfl⟩|⟨x,t,rfl,rfl⟩
  .exact wpAny_pyHash_int h
  .exact wpAny_pyHash_str h
 eqBool:=λf c h=>by
  rcases cW f with⟨i,t,rfl,rfl⟩|⟨x,t,rfl,rfl⟩
  .rcases cW c with⟨j,u,rfl,rfl⟩|⟨y,u,rfl,rfl⟩
   .rw[R4]at h;exact wpAny_eqBool_int h
   .rw[R6]at h;exact vi i t y u _ _ _ _ h
  .rcases cW c with⟨j,u,rfl,rfl⟩|⟨y,u,rfl,rfl⟩
   .rw[R7]at h;exact vh x t j u _ _ _ _ h
   .rw[R5]at h;exact wpAny_eqBool_str h
 «strs»:=λk x t v h=>by
  rcases cW h with⟨i,u,rfl,e⟩|⟨y,u,rfl,e⟩
  .exact nomatch e
  .injection e with e1 _
   subst e1;cases v<;>rfl
def zF(prog:da)(w:de)(k:Key)(v:ao):(ck prog w).is k v=pP k v:=J
def xn(prog:da)(w:de)(i:Int)(t:Tok):(ck prog w).is (.inl i) (.int i t)=O:=Ed i t
def xo(prog:da)(w:de)(x:Str)(t:Tok):(ck prog w).is (.inr x) (.str x t)=O:=Eg x t
inductive V where
 |non|bl (b:Bool)|int (i:Int)|str (x:Str)|byt (b:Array UInt8)|flt (b:UInt64)|ref (a:ax)|ty (n:String)
 deriving DecidableEq
def RelV:V->ao->Prop
 |.non,u=>u=ih
 |.bl b,u=>u=qd b
 |.int i,u=>∃t,u=Value.int i t
 |.str x,u=>∃t,u=Value.str x t
 |.byt b,u=>∃t,u=Value.bytes b t
 |.flt b,u=>∃t,u=yB b t
 |.ref a,u=>u=Value.ref a
 |.ty n,u=>u=ox n
abbrev Vals:List V->B2->Prop:=Eu RelV
theorem Vals.length(r:Vals xs us):xs.length=us.length:=Paired.length r
theorem Vals.get:∀{xs:List V}{us:B2}{i:Nat}{x:V},Vals xs us->xs[i]?=U x->∃u,us[i]?=U u/\RelV x u
 |_,_,_,_,.nil,e=>by simp at e
 |_,_,0,_,.cons r _,e=>by simp at e;subst e;exact⟨_,J,r⟩
 |_,_,i+1,x,.cons _ t,e=>by
  obtain⟨u,b,a⟩:=Vals.get t (by simpa using e)
  exact⟨u,by simpa using b,a⟩
theorem Vals.set(r:RelV x u):∀{xs:List V}{us:B2}(i:Nat),Vals xs us->Vals (xs.set i x) (us.set i u)
 |_,_,_,.nil=>.nil
 |_,_,0,.cons _ t=>.cons r t
 |_,_,i+1,.cons q t=>.cons q<|Vals.set r i t
theorem Vals.append:∀{xs ys:List V}{us a:B2},Vals xs us->Vals ys a->Vals (xs++ys) (us++a)
 |_,_,_,_,.nil,s=>s
 |_,_,_,_,.cons r t,s=>.cons r<|Vals.append t s
theorem Vals.take:∀{xs:List V}{us:B2}(n:Nat),Vals xs us->Vals (xs.take n) (us.take n)
 |_,_,0,_=>.nil
 |_,_,_+1,.nil=>.nil
 |_,_,n+1,.cons r t=>.cons r<|Vals.take n t
theorem Vals.drop:∀{xs:List V}{us:B2}(n:Nat),Vals xs us->Vals (xs.drop n) (us.drop n)
 |_,_,0,r=>r
 |_,_,_+1,.nil=>.nil
 |_,_,n+1,.cons _ t=>Vals.drop n t
def Vals.none_of:∀{xs:List V}{us:B2}{i:Nat},Vals xs us->xs[i]?=Y->us[i]?=Y:=λ{xs us i} r e=>by
 have b:=r.length;have a:=Pe.mp e;exact Pe.mpr (by lia)
def ia:Option V->D2->Prop
 |some v,some u=>RelV v u
 |none,none=>True
 |_,_=>False
def KV{a:Type}:List (a×V)->List (a×ao)->Prop:=Eu λ(p:a×V) (q:a×ao)=>p.1=q.1/\RelV p.2 q.2
def kV:Key->V
 |.inl i=>.int i
 |.inr x=>.str x
inductive HO where
 |lst (xs:List V)
 |tup (xs:List V)
 |dK (kvs:List<|Key×V)|dT (kvs:List<|List Key×V)
 |set (S:Int->Bool) (n:Nat)
 |ins (C dx:ax) (fs:List<|Str×V)
 |own (x:ax)
 |xd (fs:List<|Str×V)
 |met (f x:ax)
 |mF (lo hi:Int)
 |iD (o:Obj) (u:HO)
 |tbl (ps:Array ao)
 |ext (φ:eh->Prop)
abbrev Hp:=ax->Option HO
def upd(H:Hp)(a:ax)(o:HO):Hp:=λb=>if b=a then U o else H b
def ak:upd H a o a=U o:=by unfold upd;rw[b0 J]
def aq(h:b≠a):upd H a o b=H b:=by unfold upd;rw[bt h]
def uM:upd (upd H a o) a u=upd H a u:=by
 funext b;unfold upd;split<;>rfl
def WI{H:Hp}(h:H a=U o)(h':H b=U u)(d:o≠u):a≠b:=by
 lia
def aS{H:Hp}(h:H a=U o)(h':H b=Y):a≠b:=by
 lia
section
variable(P:da)(w:de)
def b_(H:Hp)(h:eh)(a:ax):HO->Prop
 |.lst xs=>xs.length<=cC/\∃(d:B2)(n:Nat),Vals xs d/\h.get? a=U {cls:=.type "list",data:=.seq d.toArray n}
 |.tup xs=>xs.length<=cC/\∃d:B2,Vals xs d/\IsTup h a d.toArray
 |.dK b=>b.length<=cC/\(a == hM)=Zb/\∃i,KV b i/\h.DictOf (ck P w) a i
 |.dT b=>b.length<=cC/\(a == hM)=Zb/\∃xs:List (List Key×ax×ao),
   Eu (λ(p:List Key×V) (q:List Key×ax×ao)=>p.1=q.1/\H q.2.1=U (.tup<|p.1.map kV)/\RelV p.2 q.2.2) b xs /\
   ∃o l r,h.get? a=U o/\o.ExactDict/\o.data=.dict l r/\l.toList=xs.map (entryOfKey<|rg<|ck P w)/\(xs.map (·.1)).Nodup
 |.set S n=>h.SetOf (intKind P w) a S n
 |.ins C e fs=>H e=U (.own a)/\fs.length<=1000/\e≠a/\h.get? a=U (wH C e) /\
   ∃c,h.Ns1 e c/\(∀f,ia (fs.lookup f)<|c f)/\mq c (fs.map (·.1))
 |.own _=>∃o,h.get? a=U o
 |.xd fs=>∃c,h.Ns1 a c/\∀f,ia (fs.lookup f)<|c f
 |.mF lo m=>∃t u v,h.get? a=U {cls:=.type "range",data:=.fields #[.int lo t,.int m u,.int 1 v]}
 |.iD o u=>h.get? a=U o/\b_ H h a u
 |.tbl ps=>h.get? a=U {cls:=.none,data:=.fields ps}
 |.met f x=>h.get? a=U (F7 (.ref f)<|.ref x)
 |.ext g=>g h/\(∃o,h.get? a=U o)/\∀k j:eh,g k->(∀o,k.get? a=U o->j.get? a=U o)->g j
def kH(H:Hp)(h:eh):Prop:=∀a o,H a=U o->b_ P w H h a o
end
variable{C a dx f x:ax}{A:ef}{b e o:cx}{h h':eh}{H H':Hp}{ae:dJ}{es:Bz}{p pos:Pos}{P:da}{s:ag}{E:F1}{w:de}
section
variable{o:HO}
theorem b_.lt(x:b_ P w H h a o):a<h.objs.size:=by
 cases o with
 |lst xs=>obtain⟨_,_,_,_,e⟩:=x;exact cw e
 |tup xs=>obtain⟨_,_,_,p⟩:=x;exact p.lt
 |dK b=>obtain⟨_,_,_,_,o,_,_,e,_⟩:=x;exact cw e
 |dT b=>obtain⟨_,_,_,_,o,_,_,e,_⟩:=x;exact cw e
 |set S n=>obtain⟨o,_,_,_,e,_⟩:=x;exact cw e
 |ins C dx fs=>obtain⟨_,_,_,e,_⟩:=x;exact cw e
 |own y=>obtain⟨_,e⟩:=x;exact cw e
 |xd fs=>obtain⟨_,⟨_,_,_,e,_⟩,_⟩:=x;exact cw e
 |mF lo d=>obtain⟨_,_,_,e⟩:=x;exact cw e
 |iD ob u=>obtain⟨e,_⟩:=x;exact cw e
 |tbl ps=>exact cw<|x
 |met f y=>exact cw<|x
 |ext c=>obtain⟨_,⟨_,e⟩,_⟩:=x;exact cw e
theorem Paired.R8{g e:Type}{F G:g->e->Prop}:∀{d:List g}{c:List e},Eu F d c->(∀a b,F a b->G a b)->Eu G d c
 |_,_,.nil,_=>.nil
 |_,_,.cons r t,f=>.cons (f _ _ r)<|Paired.R8 t f
def b_.nZ(x:b_ P w H h a o)(k:∀b u,(b=a\/H b=U (.own a))->h.get? b=U u->h'.get? b=U u)
  (A:∀b,H b=U (.own a)->H' b=U (.own a)) (ht:∀b xs,H b=U (.tup xs)->H' b=U (.tup xs)):b_ P w H' h' a o:=by
 induction o with
 |lst xs=>obtain⟨z,l,n,r,e⟩:=x;exact⟨z,l,n,r,k _ _ (.inl J) e⟩
 |tup xs=>obtain⟨z,l,r,ob,e,c⟩:=x;exact⟨z,l,r,ob,k _ _ (.inl J) e,c⟩
 |dK j=>obtain⟨z,y,m,r,ob,es,g,e,c⟩:=x;exact⟨z,y,m,r,ob,es,g,k _ _ (.inl J) e,c⟩
 |dT j=>
  obtain⟨z,y,xs,r,ob,es,g,e,c⟩:=x;exact⟨z,y,xs,Paired.R8 r λp q z=>⟨z.1,ht _ _ z.2.1,z.2.2⟩,ob,es,g,k _ _ (.inl J) e,c⟩
 |set S n=>obtain⟨ob,es,g,t,e,c⟩:=x;exact⟨ob,es,g,t,k _ _ (.inl J) e,c⟩
 |ins C dx fs=>
  obtain⟨d,z,ne,e,i,⟨od,es,g,B,c⟩,r⟩:=x;exact⟨A _ d,z,ne,k _ _ (.inl J) e,i,⟨od,es,g,k _ _ (.inr d) B,c⟩,r⟩
 |own y=>obtain⟨ob,e⟩:=x;exact⟨ob,k _ _ (.inl J) e⟩
 |xd fs=>obtain⟨i,⟨od,es,g,e,c⟩,r⟩:=x;exact⟨i,⟨od,es,g,k _ _ (.inl J) e,c⟩,r⟩
 |mF lo E=>obtain⟨t,u,v,e⟩:=x;exact⟨t,u,v,k _ _ (.inl J) e⟩
 |iD ob u s=>obtain⟨e,q⟩:=x;exact⟨k _ _ (.inl J) e,s q⟩
 |tbl ps=>
  have e:=x;show h'.get? a=U _;exact k a _ (.inl J) e
 |met f y=>
  have e:=x;show h'.get? a=U _;exact k a _ (.inl J) e
 |ext D=>obtain⟨p,⟨o,e⟩,st⟩:=x;exact⟨st _ _ p λo q=>k _ _ (.inl J) q,⟨o,k _ _ (.inl J) e⟩,st⟩
theorem kH.lt(x:kH P w H h)(e:H a=U o):a<h.objs.size:=(x a o e).lt
def kH.fresh(x:kH P w H h)(e:h.objs.size<=a):H a=Y:=by
 cases q:H a with
 |none=>rfl
 |some u=>exact dy (fU (x.lt q) e)<|wM _
def kH.kept(x:kH P w H h)(k:∀b u,h.get? b=U u->h'.get? b=U u):kH P w H h':=λa o e=>
 (x a o e).nZ (λb u _ q=>k b u q) (λ_ q=>q) λ_ _ q=>q
def kH.laid(x:kH P w H h)(k:∀b u,h.get? b=U u->h'.get? b=U u)(f:h.objs.size<=a)(new:b_ P w (upd H a o) h' a o):kH P w (upd H a o) h':=λb u e=>by
 have d:=x.fresh f;by_cases hb:b=a
 .subst hb;rw[ak]at e;cases e;exact new
 .rw[aq hb]at e
  exact(x b u e).nZ (λc v _ q=>k c v q) (λc q=>by rw[aq<|aS q d];exact q) λc xs q=>by rw[aq<|aS q d];exact q
end
def Rd(H:Hp)(a:ax)(u:HO):Prop:=H a=U u\/∃o,H a=U (.iD o u)
def Rd.ok(r:Rd H a u)(x:kH P w H h):b_ P w H h a u:=by
 rcases r with r|⟨o,r⟩
 .exact x a u r
 .obtain⟨_,q⟩:=x a _ r
  exact q
def WJ:Option HO->Prop
 |U<|.lst _=>True
 |U<|.dK _=>True
 |U<|.dT _=>True
 |U<|.set _ _=>True
 |U<|.ins _ _ _=>True
 |U<|.ext _=>True
 |_=>False
section
variable{e:ax}
def kH.write(ok:kH P w H h)(mu:WJ<|H x)(he:e=x\/H e=U (.own x))(k:∀b u,b≠e->h.get? b=U u->h'.get? b=U u)(g:∃u,h'.get? e=U u)
  (new:b_ P w (upd H x j) h' x j):kH P w (upd H x j) h':=λb u q=>by
 have WL:∀c y,H c=U (.own y)->c≠x:=λc y r z=>by subst z;rw[r]at mu;exact mu
 have Ń:∀c xs,H c=U (.tup xs)->c≠x:=λc xs r z=>by subst z;rw[r]at mu;exact mu
 by_cases hb:b=x
 .subst hb;rw[ak]at q;lia
 .rw[aq hb]at q
  by_cases hbe:b=e
  .have d:H b=U (.own x):=by
    lia
   rw[q]at d;cases d;obtain⟨v,f⟩:=g;exact⟨v,by lia⟩
  .refine(ok b u q).nZ (λc v a r=>k c v ?_ r) (λc r=>by rw[aq<|WL c b r];lia) λc xs r=>by rw[aq<|Ń c xs r];lia
   grind
end
structure Un(fs ex:BM)(H H':Hp)(h h':eh):Prop where
 keep:∀b o,h.get? b=U o->H b=Y->b∉fs->b∉ex->h'.get? b=U o
 slot:∀b o,h.get? b=U o->H b=Y->b∈fs->b∉ex->∃sl,h'.get? b=U {o with slots:=sl}
 free:∀b o,h.get? b=U o->H b=Y->b∉ex->H' b=Y
 there:∀b o,h.get? b=U o->b∉ex->∃o',h'.get? b=U o'
 n_:∀b xs,H b=U (.tup xs)->H' b=U (.tup xs)
 mG:∀b o u,H b=U (.iD o u)->H' b=U (.iD o u)
 oh:∀b ps,H b=U (.tbl ps)->∃more,H' b=U (.tbl<|ps++more)
section
variable{e:ax}{o:HO}
def Un.any(u:Un fs ex H H1 h d){b:ax}(q:h.get? b=U ob)(n:H b=Y)(a:b∉ex):∃sl,d.get? b=U {ob with slots:=sl}:=by
 by_cases hb:b∈fs
 .exact u.slot b ob q n hb a
 .exact⟨ob.slots,u.keep b ob q n hb a⟩
def Un.kept(k:∀b u,h.get? b=U u->h'.get? b=U u):Un fs ex H H h h':=
 ⟨λb ob q _ _ _=>k b ob q,λb ob q _ _ _=>⟨ob.slots,k b ob q⟩,λ_ _ _ n _=>n,λb ob q _=>⟨ob,k b ob q⟩,λ_ _ q=>q,λ_ _ _ q=>q,λ_ ps q=>⟨#[],by rw[q];simp⟩⟩
def Un.refl:Un fs ex H H h h:=Un.kept λ_ _ q=>q
def Un.laid(k:∀b u,h.get? b=U u->h'.get? b=U u)(d:h.objs.size<=a)(c:H a=Y):Un fs ex H (upd H a o) h h' where
 keep:=λb u q _ _ _=>k b u q
 slot:=λb u q _ _ _=>⟨u.slots,k b u q⟩
 free:=λb u q n _=>by rw[aq<|eV<|fU (cw q) d];exact n
 there:=λb u q _=>⟨u,k b u q⟩
 n_:=λb xs q=>by rw[aq<|aS q c];exact q
 mG:=λb u xs q=>by rw[aq<|aS q c];exact q
 oh:=λb ps q=>⟨#[],by rw[aq<|aS q c,q];simp⟩
def Un.write(mu:WJ<|H x)(he:e=x\/H e=U (.own x))(k:∀b u,b≠e->h.get? b=U u->h'.get? b=U u)(f:∃u,h'.get? e=U u):Un fs ex H (upd H x o) h h':=by
 have c:∀b,H b=Y->b≠x:=λb n z=>by subst z;rw[n]at mu;exact mu
 have d:∀b,H b=Y->b≠e:=λb n z=>by
  subst z;rcases he with r|r
  .exact c b n r
  .rw[n]at r;cases r
 have a:∀b u,H b=U u->¬ WJ (U u)->b≠x:=λb u q nm z=>by subst z;rw[q]at mu;exact nm mu
 refine⟨λb u q n _ _=>k b u (d b n) q,λb u q n _ _=>⟨u.slots,k b u (d b n) q⟩,λb u q n _=>by rw[aq<|c b n];exact n,λb u q _=>?_,
  λb xs q=>by rw[aq<|a b _ q λz=>z];exact q,λb u xs q=>by rw[aq<|a b _ q λz=>z];exact q,λb ps q=>⟨#[],by rw[aq<|a b _ q λz=>z,q];simp⟩⟩
 by_cases hbe:b=e
 .subst hbe;exact f
 .exact⟨u,k b u hbe q⟩
end
def Ll(h:eh)(H:Hp):BM:=(cU h.objs.size).filter λa=>(H a).isSome
def uN(h:eh)(H:Hp):eh:=PySem.W.hideAll h<|Ll h H
def Eh(h:eh)(H:Hp):(uN h H).objs.size=h.objs.size:=PySem.W.hideAll_size ..
def GV{b:ax}{o:Obj}(e:h.get? b=U o)(n:H b=Y):(uN h H).get? b=U o:=
 PySem.W.hideAll_get _ e λa=>by
  have q:=(Gp.mp a).2;rw[n]at q;simp at q
def LB{b:ax}{o:Obj}(e:(uN h H).get? b=U o):h.get? b=U o/\H b=Y:=by
 have e':=PySem.W.of_hideAll _ e;refine⟨e',?_⟩;cases q:H b with
 |none=>rfl
 |some x=>
  have a:b∈Ll h H:=Gp.mpr ⟨wR.mpr<|cw e',by simp[q]⟩
  have z:(uN h H).get? b=Y:=PySem.W.hideAll_none _ a;lia
def LC(g h:eh)(L:ax):dJ:=(cU h.objs.size).filterMap λa=>if a=L\/(g.get? a).isSome=O then Y else(h.get? a).map λo=>(a,o)
def rest(g h:eh)(L d:ax):dJ:=(LC g h L).filter λp=>decide<|p.1≠d
structure Mod(K:bD)(mg:Str->D2)(base:eh):Prop where
 kin:K.In base
 glob:base.Ns eD mg
 blt:∃mb,base.Ns sr mb/\∀x:Str,x ≠ "__name__" -> mb x=hF x
 nolimit:base.NoLimit
structure Cx where
 prog:da
 w:de
 K:bD
 mg:Str->D2
 base:eh
 A:ef
 N:Bi
 s₀:ag
 H₀:Hp
 env:Env
 outer:List Env
 stack:List Env
 ex:BM
 fn:Str->Bool
 calm:Bool
 pn:dJ
 xe:F1
def lE(l:List Env):BM:=l.filterMap (·.frame)
abbrev Cx.fs(X:Cx):BM:=lE X.outer
def nA(sc:f7)(x:Str):Prop:=sc.names.lookup x=U .local\/sc.names.lookup x=U .cell\/sc.names.lookup x=U .free
def Loc(sc:f7)(x:Str):Prop:=sc.names.lookup x=U .local\/sc.names.lookup x=U .cell
def Look(env:Env)(h:eh)(m:Str->D2)(x:Str)(u:ao):Prop:=
 (env.kindOf x=U .local/\m x=U u)\/((env.kindOf x=U .cell\/env.kindOf x=U .free)/\∃c,env.cells.lookup x=U c/\h.IsCell c (U u))
structure Cx.Ok(X:Cx):Prop where
 mod:Mod X.K X.mg X.base
 kind:X.env.scope.kind=.function
 glob:X.env.globals=eD
 blt:X.env.builtins=sr
 above:X.s₀.heap.objs.size<=X.env.locals
 inj:∀x y c,X.env.cells.lookup x=U c->X.env.cells.lookup y=U c->x=y
 has:∀x,(X.env.kindOf x=U .cell\/X.env.kindOf x=U .free)->∃c,X.env.cells.lookup x=U c
 cab:∀x c,X.fn x=O->X.env.cells.lookup x=U c->X.s₀.heap.objs.size<=c
 hd:X.calm=O->X.A.handled=Y
 frames:X.A.frames=U X.stack
 stk:X.stack=X.outer\/(X.stack=X.env::X.outer/\X.env.frame=U X.env.locals)
 exf:∀b∈X.ex,b≠X.env.locals/\∀x c,X.env.cells.lookup x=U c->c≠b
 bs:∀b o,X.base.get? b=U o->X.s₀.heap.get? b=U o/\X.H₀ b=Y
 bsz:X.base.objs.size<=X.s₀.heap.objs.size
 noex:∀b o,X.base.get? b=U o->b∉X.ex
 exfs:∀b∈X.ex,b∉X.fs
 mH:X.s₀.heap.FunFrames X.base X.outer
 frf:∀b∈X.fs,X.H₀ b=Y
structure Inv(X:Cx)(ae:dJ)(σ:List<|Option V)(H:Hp)(s:ag):Prop where
 ok:X.Ok
 os:s.os=X.s₀.os
 bare:kx s.gens
 base:Un X.fs X.ex X.H₀ H X.s₀.heap s.heap
 loc:∃m,s.heap.Ns X.env.locals m/\∀(i:Nat)(x:Str)(v:V),X.N[i]?=U x->σ[i]?=U (U v)->nA X.env.scope x->∃u,RelV v u/\Look X.env s.heap m x u
 cell:∀x c,X.env.cells.lookup x=U c->∃v,s.heap.IsCell c v
 free:H X.env.locals=Y
 freeC:∀x c,X.env.cells.lookup x=U c->H c=Y
 pin:∀p∈X.pn++ae,s.heap.get? p.1=U p.2/\H p.1=Y/\p.1≠X.env.locals/\p.1∉X.fs/\∀v,p.2.data≠.cell v
 bF:kH X.prog X.w H s.heap
 len:σ.length=X.N.length
section
variable{X:Cx}
def Cx.Ok.ń(ok:X.Ok){b:ax}{o:Obj}(e:X.base.get? b=U o):b∉X.fs:=λa=>by
 have:=(ok.mH.mem a).1
 lia
theorem Inv.bs(I:Inv X ae σ H s):∀b o,X.base.get? b=U o->s.heap.get? b=U o/\H b=Y:=λb o e=>
 ⟨I.base.keep b o (I.ok.bs b o e).1 (I.ok.bs b o e).2 (I.ok.ń e)<|I.ok.noex b o e,I.base.free b o (I.ok.bs b o e).1 (I.ok.bs b o e).2<|I.ok.noex b o e⟩
def Inv.bk(I:Inv X ae σ H s):∀b o,X.base.get? b=U o->s.heap.get? b=U o:=λb o e=>(I.bs b o e).1
theorem Inv.mod(I:Inv X ae σ H s):Mod X.K X.mg X.base:=I.ok.mod
def Inv.jk(I:Inv X ae σ H s):X.K.In s.heap:=I.ok.mod.kin.keeps I.bk
theorem Inv.lt(I:Inv X ae σ H s):X.env.locals<s.heap.objs.size:=let⟨_,hn,_⟩:=I.loc;hn.lt
def Inv.sz(I:Inv X ae σ H s):X.s₀.heap.objs.size<=s.heap.objs.size:=cJ I.ok.above<|Gh I.lt
def Inv.Ņ(I:Inv X ae σ H s)(h:s.heap.objs.size<=a):a∉X.fs:=λc=>by
 obtain⟨_,o,b,_⟩:=I.ok.mH.mem c;exact dy (fU (cw b)<|cJ I.sz h)<|wM _
def Inv.LD(I:Inv X ae σ H s):∀x c,X.env.cells.lookup x=U c->c≠X.env.locals:=λx c e z=>by
 obtain⟨v,o,a,hd⟩:=I.cell x c e;obtain⟨m,⟨f,es,g,d,b,_⟩,_⟩:=I.loc;lia
theorem Inv.mH(I:Inv X ae σ H s):s.heap.FunFrames X.base X.outer:=by
 have all:∀(l:List Env),(∀b∈lE l,b∈X.fs)->X.s₀.heap.FunFrames X.base l->s.heap.FunFrames X.base l:=by
  intro l
  induction l with
  |nil=>intro _ _;trivial
  |cons env r f=>
   intro hs hl;obtain⟨hk,⟨L,o,a,h,g,hd⟩,hr⟩:=hl;have d:=hs L (by unfold lE;rw[zm,a];exact d_)
   obtain⟨sl,e⟩:=I.base.slot L o g (I.ok.frf L d) d λz=>I.ok.exfs L z d;exact⟨hk,⟨L,_,a,h,e,hd⟩,f (λb c=>hs b<|by unfold lE;rw[zm,a];exact eG _ c) hr⟩
 exact all X.outer (λ_ c=>c) I.ok.mH
theorem Inv.stack(I:Inv X ae σ H s):s.heap.FunFrames X.base X.stack:=by
 rcases I.ok.stk with e|⟨e,b⟩
 .rw[e];exact I.mH
 .rw[e]
  obtain⟨m,a,_⟩:=I.loc;refine .cons (by rw[I.ok.kind];decide) b a ?_ I.mH
  exact me<|cJ I.ok.bsz I.ok.above
def Inv.kI(I:Inv X ae σ H s):∀b∈lE X.stack,b∈X.env.locals::X.fs:=λb a=>by
 rcases I.ok.stk with e|⟨e,c⟩
 .rw[e]at a;exact eG _ a
 .rw[e]at a
  unfold lE at a;rw[zm,c]at a;exact a
def Inv.oR(I:Inv X ae σ H s):∀b∈lE X.stack,H b=Y:=λb a=>by
 rcases bM.mp (I.kI b a)with e|a
 . exact e▸I.free
 .obtain⟨_,o,c,_⟩:=I.ok.mH.mem a
  exact I.base.free b o c (I.ok.frf b a) λz=>I.ok.exfs b z a
def Inv.step{ch:BM}(I:Inv X ae σ H s)
  (C:∀b∈ch,(b∈X.ex\/X.s₀.heap.objs.size<=b)/\b≠X.env.locals/\(∀x c,X.env.cells.lookup x=U c->c≠b)/\∀p∈X.pn++ae,p.1≠b)
  (keep:∀b o,b≠X.env.locals->b∉X.fs->b∉ch->s.heap.get? b=U o->H b=Y->h'.get? b=U o)
  (slot:∀b o,b≠X.env.locals->b∈X.fs->b∉ch->s.heap.get? b=U o->H b=Y->∃sl,h'.get? b=U {o with slots:=sl}) (free:∀b o,b∉ch->s.heap.get? b=U o->H b=Y->H' b=Y)
  (there:∀b o,b∉ch->s.heap.get? b=U o->∃t,h'.get? b=U t)
  (n_:∀b xs,H b=U (.tup xs)->H' b=U (.tup xs)) (mG:∀b o u,H b=U (.iD o u)->H' b=U (.iD o u)) (oh:∀b ps,H b=U (.tbl ps)->∃y,H' b=U (.tbl<|ps++y))
  (ns:∀m,s.heap.Ns X.env.locals m->h'.Ns X.env.locals m) (bF:kH X.prog X.w H' h') (G:kx g') :
  Inv X ae σ H' {s with heap:=h',gens:=g',drawn:=d',toks:=t'}:=by
 have WM:∀b o,X.s₀.heap.get? b=U o->b≠X.env.locals:=λb o e=>eV<|fU (cw e) I.ok.above;have Ď:∀b o,X.s₀.heap.get? b=U o->b∉X.ex->b∉ch:=λb o e a h=>by
  rcases(C b h).1 with z|z
  .exact a z
  .exact dy (fU (cw e) z)<|wM _
 have f:∀x c,X.env.cells.lookup x=U c->∀v,s.heap.IsCell c v->h'.IsCell c v:=λx c e v E=>by
  obtain⟨o,j,hd⟩:=E;have B:=λz=>(C c z).2.2.1 x c e J;by_cases hc:c∈X.fs
  .obtain⟨sl,q⟩:=slot c o (I.LD x c e) hc B j<|I.freeC x c e
   exact⟨_,q,hd⟩
  .exact⟨o,keep c o (I.LD x c e) hc B j<|I.freeC x c e,hd⟩
 refine⟨I.ok,I.os,G,⟨λb o e n h a=>?_,λb o e n h a=>?_,λb o e n a=>?_,λb o e a=>?_,λb xs e=>n_ b xs<|I.base.n_ b xs e,λb o xs e=>mG b o xs<|I.base.mG b o xs e,λb ps e=>?_⟩,?_,λx c e=>?_,?_,λx c e=>?_,λp D=>?_,bF,I.len⟩
 .exact keep b o (WM b o e) h (Ď b o e a) (I.base.keep b o e n h a)<|I.base.free b o e n a
 .obtain⟨sl,g⟩:=I.base.slot b o e n h a
  obtain⟨L,A⟩:=slot b _ (WM b o e) h (Ď b o e a) g<|I.base.free b o e n a;exact⟨L,A⟩
 .obtain⟨t,g⟩:=I.base.there b o e a
  exact free b t (Ď b o e a) g<|I.base.free b o e n a
 .obtain⟨t,g⟩:=I.base.there b o e a
  exact there b t (Ď b o e a) g
 .obtain⟨m1,g⟩:=I.base.oh b ps e
  obtain⟨m2,A⟩:=oh b _ g;exact⟨m1++m2,by rw[A,Array.append_assoc]⟩
 .obtain⟨m,F,hl⟩:=I.loc
  refine⟨m,ns m F,λi x v g A K=>?_⟩;obtain⟨u,r,l⟩:=hl i x v g A K;refine⟨u,r,?_⟩;rcases l with l|⟨k,c,e,z⟩
  .exact .inl l
  .exact .inr ⟨k,c,e,f x c e _ z⟩
 .obtain⟨v,z⟩:=I.cell x c e
  exact⟨v,f x c e v z⟩
 .obtain⟨m,⟨o,_,_,j,_⟩,_⟩:=I.loc
  exact free _ o (λz=>(C _ z).2.1 J) j I.free
 .obtain⟨v,o,j,hd⟩:=I.cell x c e
  exact free c o (λz=>(C c z).2.2.1 x c e J) j<|I.freeC x c e
 .obtain⟨e,n,ne,nf,d⟩:=I.pin p D
  have B:=λz=>(C _ z).2.2.2 p D J;exact⟨keep _ _ ne nf B e n,free _ _ B e n,ne,nf,d⟩
def Inv.un(I:Inv X ae σ H s)(u:Un X.fs [] H H' s.heap h')(bF:kH X.prog X.w H' h'):Inv X ae σ H' {s with heap:=h',toks:=t'}:=by
 obtain⟨m,⟨o,es,l,c,r⟩,_⟩:=id I.loc;obtain⟨sl,h⟩:=u.any c I.free (by simp)
 exact I.step (ch:=[]) (λ_ z=>nomatch z) (λb o _ a _ e n=>u.keep b o e n a<|by simp) (λb o _ a _ e n=>u.slot b o e n a<|by simp) (λb o _ e n=>u.free b o e n<|by simp) (λb o _ e=>u.there b o e<|by simp) u.n_ u.mG u.oh (λk g=>by
  obtain⟨j,i,ņ,d,f⟩:=g;rw[c]at d;cases d;exact⟨_,i,ņ,h,f⟩) bF I.bare
def Inv.call(I:Inv X ae σ H s)(u:Un (lE X.stack) ch H H' s.heap h')(bF:kH X.prog X.w H' h')(k:kx g')
  (g:∀b∈ch,(b∈X.ex\/X.s₀.heap.objs.size<=b)/\b≠X.env.locals/\(∀x c,X.env.cells.lookup x=U c->c≠b)/\∀p∈X.pn++ae,p.1≠b) :
  Inv X ae σ H' {s with heap:=h',gens:=g',drawn:=d',toks:=t'}:=by
 obtain⟨m,⟨o,es,y,f,r⟩,_⟩:=id I.loc;obtain⟨sl,d⟩:=u.any f I.free λz=>(g _ z).2.1 J;exact I.step g (λb o d l a e n=>u.keep b o e n (λz=>(bM.mp<|I.kI b z).elim d l) a) (λb o _ _ a e n=>u.any e n a) (λb o a e n=>u.free b o e n a) (λb o a e=>u.there b o e a) u.n_ u.mG u.oh (λv j=>by
  obtain⟨t,q,ņ,h,i⟩:=j;rw[f]at h;cases h;exact⟨_,q,ņ,d,i⟩) bF k
def Inv.turned(I:Inv X ae σ H s)(k:∀b o,b≠it->s.heap.get? b=U o->h'.get? b=U o)(h:H it=Y)(f:it≠X.env.locals)
  (w:it∈X.ex\/X.s₀.heap.objs.size<=it) (t:∀x c,X.env.cells.lookup x=U c->c≠it) (l:∀p∈X.pn++ae,p.1≠it):Inv X ae σ H {s with heap:=h',toks:=t'}:=by
 have d:∀b u,H b=U u->b≠it:=λb u e z=>by rw[z,h]at e;cases e
 refine I.step (ch:=[it]) (λb j=>?_) (λb o _ _ a e _=>k b o (λz=>a<|by simp[z]) e) (λb o _ _ a e _=>⟨o.slots,k b o (λz=>a<|by simp[z]) e⟩) (λ_ _ _ _ n=>n)
  (λb o a e=>⟨o,k b o (λz=>a<|by simp[z]) e⟩) (λ_ _ e=>e) (λ_ _ _ e=>e) (λb ps e=>⟨#[],by rw[e];simp⟩) (λm i=>?_) (λb u e=>?_) I.bare
 .have e:=by simpa using j
  subst e;exact⟨w,f,t,l⟩
 .obtain⟨o,es,y,g,r⟩:=i
  exact⟨o,es,y,k _ o (e7 f) g,r⟩
 .refine(I.bF b u e).nZ (λc v a q=>k c v ?_ q) (λ_ q=>q) λ_ _ q=>q
  rcases a with z|z
  .rw[z];exact d b u e
  .exact d c _ z
def Inv.tok(I:Inv X ae σ H s)(t:Nat):Inv X ae σ H {s with toks:=t}:=I.un Un.refl I.bF
theorem Inv.kept(I:Inv X ae σ H s)(k:∀b u,s.heap.get? b=U u->h'.get? b=U u):Inv X ae σ H {s with heap:=h',toks:=t'}:=I.un (Un.kept k)<|I.bF.kept k
theorem Inv.laid{o:HO}(I:Inv X ae σ H s)(k:∀b u,s.heap.get? b=U u->h'.get? b=U u)(c:s.heap.objs.size<=a)(new:b_ X.prog X.w (upd H a o) h' a o) :
  Inv X ae σ (upd H a o) {s with heap:=h',toks:=t'}:=I.un (Un.laid k c<|I.bF.fresh c)<|I.bF.laid k c new
theorem Inv.write{x e:ax}{o:HO}(I:Inv X ae σ H s)(mu:WJ<|H x)(he:e=x\/H e=U (.own x))(k:∀b u,b≠e->s.heap.get? b=U u->h'.get? b=U u)(a:∃u,h'.get? e=U u)
  (new:b_ X.prog X.w (upd H x o) h' x o):Inv X ae σ (upd H x o) {s with heap:=h',toks:=t'}:=I.un (Un.write mu he k a)<|I.bF.write mu he k a new
def Inv.weak{a:List<|Option V}(I:Inv X ae σ H s)(hl:a.length=σ.length)(w:∀(i:Nat)v,a[i]?=U (U v)->σ[i]?=U (U v)):Inv X ae a H s:=
 ⟨I.ok,I.os,I.bare,I.base,let⟨m,hn,LF⟩:=I.loc;⟨m,hn,λi x v d c b=>LF i x v d (w i v c) b⟩,I.cell,I.free,I.freeC,I.pin,I.bF,hl.trans I.len⟩
def Inv.BH{a:dJ}(I:Inv X ae σ H s)(h:∀p∈a,s.heap.get? p.1=U p.2/\H p.1=Y/\p.1≠X.env.locals/\p.1∉X.fs/\∀v,p.2.data≠.cell v):Inv X a σ H s:=
 ⟨I.ok,I.os,I.bare,I.base,I.loc,I.cell,I.free,I.freeC,λp b=>(eW.mp b).elim (λz=>I.pin p<|rM _ z)<|h p,I.bF,I.len⟩
def pQ{N:Bi}(c:N.Nodup){i j:Nat}{x:Str}(a:N[i]?=U x)(b:N[j]?=U x):i=j:=by
 obtain⟨g,e⟩:=dw.mp a;obtain⟨f,d⟩:=dw.mp b;exact(List.getElem_inj c).mp<|e.trans d.symm
abbrev F6(X:Cx)(x:Str):Prop:=X.fn x=O\/X.env.scope.names.lookup x=U .local
def sR{x:Str}{Q:F2}(I:Inv X ae σ H s)(hN:X.N.Nodup)(G:X.N[i]?=U x)(t:Loc X.env.scope x)(r:RelV v u)
  (h:∀s',Inv X ae (σ.set i<|U v) H s'->(∃a,oC a s.heap s'.heap/\(a=X.env.locals\/X.env.cells.lookup x=U a))->Q () s') (hf:F6 X x:=by first|exact .inl J|exact .inr J|assumption):c4 M A (storeName X.env x u) Q E s:=by
 obtain⟨m,hn,hl⟩:=id I.loc;have R_:(X.env.scope.kind == .class ||(X.env.scope.kind == .module&&X.env.locals != X.env.globals))=Zb:=by rw[I.ok.kind];rfl
 have C:i<σ.length:=by rw[I.len];exact(dw.mp G).1
 have LD:=I.LD;have f:∀{a:ax}{h':eh},(∃o,s.heap.get? a=U o/\H a=Y)->oC a s.heap h'->kH X.prog X.w H h':=λ{a h'} ha hs b ob e=>by
  obtain⟨_,_,sU⟩:=ha;refine(I.bF b ob e).nZ (λc L l q=>(hs.2 c ?_).trans q) (λ_ q=>q) λ_ _ q=>q
  rintro rfl
  rcases l with rfl|l
  .rw[sU]at e;cases e
  .rw[sU]at l;cases l
 rcases t with hk|hk
 .refine wpAny_storeName_local hk hn (λh' Wd hs=>?_) R_
  obtain⟨oL,_,_,hoL,_⟩:=id hn;refine h _ ⟨I.ok,I.os,I.bare,⟨λb o e n D t=>?_,λb o e n D t=>?_,I.base.free,λb o e t=>?_,I.base.n_,I.base.mG,I.base.oh⟩,⟨_,Wd,λj y R g B e3=>?_⟩,λy c e=>?_,I.free,I.freeC,λp Z=>?_,f ⟨oL,hoL,I.free⟩ hs,by simpa using I.len⟩ ⟨_,hs,.inl J⟩
  .exact(hs.2 b<|eV<|fU (cw e) I.ok.above).trans<|I.base.keep b o e n D t
  .obtain⟨sl,g⟩:=I.base.slot b o e n D t
   exact⟨sl,(hs.2 b<|eV<|fU (cw e) I.ok.above).trans g⟩
  .obtain⟨W,g⟩:=I.base.there b o e t
   exact⟨W,(hs.2 b<|eV<|fU (cw e) I.ok.above).trans g⟩
  .by_cases hj:j=i
   .subst hj
    rw[G]at g;cases g;rw[f9 C]at B;cases B;exact⟨u,r,.inl ⟨hk,by simp⟩⟩
   .rw[e9<|e7 hj]at B
    obtain⟨S,T,q⟩:=hl j y R g B e3;refine⟨S,T,?_⟩;rcases q with⟨k,e⟩|⟨k,c,e,z⟩
    .refine .inl ⟨k,?_⟩
     have:y≠x:=λe=>hj<|pQ hN g<|e▸G
     simp[this,e]
    .exact .inr ⟨k,c,e,z.sameBut hs<|LD y c e⟩
  .obtain⟨L,z⟩:=I.cell y c e
   exact⟨L,z.sameBut hs<|LD y c e⟩
  .obtain⟨e,n,ne,nf,d⟩:=I.pin p Z
   exact⟨(hs.2 p.1 ne).trans e,n,ne,nf,d⟩
 .have WO:X.fn x=O:=by
   rcases hf with z|z
   .exact z
   .rw[z]at hk;cases hk
  obtain⟨c,l⟩:=I.ok.has x<|.inl hk;obtain⟨L,z⟩:=I.cell x c l;refine wpAny_storeName_cell I.ok.kind hk l z λh' K hs=>?_;obtain⟨oc,F,Ň⟩:=id z;refine h {s with heap:=h'} ⟨I.ok,I.os,I.bare,⟨λb o e n D t=>?_,λb o e n D t=>?_,I.base.free,λb o e t=>?_,I.base.n_,I.base.mG,I.base.oh⟩,⟨m,hn.sameBut hs<|e7<|LD x c l,λj y R g B e3=>?_⟩,λy P e=>?_,I.free,I.freeC,λp Z=>?_,f ⟨oc,F,I.freeC x c l⟩ hs,by simpa using I.len⟩ ⟨c,hs,.inr l⟩
  .exact(hs.2 b<|eV<|fU (cw e)<|I.ok.cab x c WO l).trans<|I.base.keep b o e n D t
  .obtain⟨sl,g⟩:=I.base.slot b o e n D t
   exact⟨sl,(hs.2 b<|eV<|fU (cw e)<|I.ok.cab x c WO l).trans g⟩
  .obtain⟨W,g⟩:=I.base.there b o e t
   exact⟨W,(hs.2 b<|eV<|fU (cw e)<|I.ok.cab x c WO l).trans g⟩
  .by_cases hj:j=i
   .subst hj
    rw[G]at g;cases g;rw[f9 C]at B;cases B;exact⟨u,r,.inr ⟨.inl hk,c,l,K⟩⟩
   .rw[e9<|e7 hj]at B
    obtain⟨S,T,q⟩:=hl j y R g B e3;refine⟨S,T,?_⟩;rcases q with q|⟨k,P,e,z'⟩
    .exact .inl q
    .refine .inr ⟨k,P,e,z'.sameBut hs ?_⟩
     rintro rfl
     exact hj<|pQ hN g<|I.ok.inj _ _ _ e l▸G
  .by_cases We:P=c
   .subst We;exact⟨_,K⟩
   .obtain⟨w2,z2⟩:=I.cell y P e
    exact⟨w2,z2.sameBut hs We⟩
  .obtain⟨e,n,ne,nf,d⟩:=I.pin p Z
   refine⟨(hs.2 p.1 ?_).trans e,n,ne,nf,d⟩;intro q;rw[q,F]at e;have q':oc=p.2:=lD.inj e;exact d L (by rw[<- q'];exact Ň)
def ju{x:Str}{Q:F2}(I:Inv X ae σ H s)(d:X.N.Nodup)(b:X.N[i]?=U x)(a:Loc X.env.scope x)(r:RelV v u)
  (h:∀s',Inv X ae (σ.set i<|U v) H s'->Q () s') (c:F6 X x:=by first|exact .inl J|exact .inr J|assumption):c4 M A (storeName X.env x u) Q E s:=
 sR I d b a r (λs' e _=>h s' e) c
def Inv.GW(I:Inv X ae σ H s)(d:s'.os=s.os)(u:Un (lE X.stack) ch H H' s.heap s'.heap)(bF:kH X.prog X.w H' s'.heap)(f:kx s'.gens)
  (g:∀b∈ch,(b∈X.ex\/X.s₀.heap.objs.size<=b)/\b≠X.env.locals/\(∀x c,X.env.cells.lookup x=U c->c≠b)/\∀p∈X.pn++ae,p.1≠b):Inv X ae σ H' s':=by
 obtain⟨h',g',d',t',a⟩:=s';have e:=d;subst e;exact I.call u bF f g
end
abbrev XK:=ao->Option ax->Hp->Prop
abbrev St:=List<|Option V
abbrev VK:=V->Hp->Prop
abbrev TE:=St->Hp->VK->Prop
abbrev TT:=St->Hp->(Bool->Hp->Prop)->Prop
abbrev TA:=St->Hp->(List V->Hp->Prop)->Prop
structure Ends where
 nx:St->Hp->Prop
 rt:VK
 bk:St->Hp->Prop:=λ_ _=>False
 ct:St->Hp->Prop:=λ_ _=>False
abbrev TS:=Ends->St->Hp->Prop
def EP(X:Cx)(ae:dJ)(a:St)(Q:VK)(u:ao)(s':ag):Prop:=∃v H',Inv X ae a H' s'/\RelV v u/\Q v H'
def TP(X:Cx)(ae:dJ)(a:St)(Q:Bool->Hp->Prop)(b:Bool)(s':ag):Prop:=∃H',Inv X ae a H' s'/\Q b H'
def AP(X:Cx)(ae:dJ)(b:St)(Q:List V->Hp->Prop)(us:B2)(s':ag):Prop:=∃a H',Inv X ae b H' s'/\Vals a us/\Q a H'
def SP(X:Cx)(ae:dJ)(D:Ends)(f:Flow)(s':ag):Prop:=
 match f with
 |.next=>∃a H',Inv X ae a H' s'/\D.nx a H'
 |.brk=>∃a H',Inv X ae a H' s'/\D.bk a H'
 |.cont=>∃a H',Inv X ae a H' s'/\D.ct a H'
 |.ret u=>∃v a H',Inv X ae a H' s'/\RelV v u/\D.rt v H'
abbrev Gf{α:Type}(X:Cx)(p:PySem.Sem α):=c4 (cv X.prog X.w) X.A p
def PE(X:Cx)(e:cx)(t:TE):Prop:=
 ∀(ae:dJ)(s:ag)(a:St)(H:Hp)(Q:VK),Inv X ae a H s->t a H Q->Gf X (eE e X.env) (EP X ae a Q) X.xe s
def PT(X:Cx)(e:cx)(t:TT):Prop:=
 ∀(ae:dJ)(s:ag)(a:St)(H:Hp)(Q:Bool->Hp->Prop),Inv X ae a H s->t a H Q->Gf X (Er e X.env<|eE e X.env) (TP X ae a Q) X.xe s
def PW(X:Cx)(e:cx)(t:TT):Prop:=
 ∀(b:Sem ao)(ae:dJ)(s:ag)(a:St)(H:Hp)(Q:Bool->Hp->Prop),Inv X ae a H s->t a H Q->Gf X (Er e X.env b) (TP X ae a Q) X.xe s
def PW.pt(h:PW X e t):PT X e t:=h _
def PA(X:Cx)(es:Bz)(t:TA):Prop:=
 ∀(pos:Pos)(ae:dJ)(s:ag)(a:St)(H:Hp)(Q:List V->Hp->Prop),Inv X ae a H s->t a H Q->Gf X (spliced<|hG pos<|c3 es X.env) (AP X ae a Q) X.xe s
def PS(X:Cx)(st:gL)(t:TS):Prop:=
 ∀(ae:dJ)(s:ag)(a:St)(H:Hp)(D:Ends),Inv X ae a H s->t D a H->Gf X (exec st X.env) (SP X ae D) X.xe s
def iz(X:Cx)(st:Fh)(t:TS):Prop:=
 ∀(ae:dJ)(s:ag)(a:St)(H:Hp)(D:Ends),Inv X ae a H s->t D a H->Gf X (execs st X.env) (SP X ae D) X.xe s
def cH{b:Type}{t:Sem b}{Q c:b->ag->Prop}(h:c4 M A t Q E s)(d:∀a s,Q a s->c a s):c4 M A t c E s:=ey h d λ_ _ x=>x
section
def GX(i:Nat):TE:=λa H Q=>∃v,a[i]?=U (U v)/\Q v H
def tC(v:V):TE:=λ_ H Q=>Q v H
def cu{x:Str}(n:X.N[i]?=U x)(g:nA X.env.scope x)(hd:bB x:=by decide)(f:gk x:=by decide):PE X (.Name x pos)<|GX i:=by
 intro ae s d H Q I h;obtain⟨v,e,h⟩:=h;obtain⟨m,j,hl⟩:=I.loc;obtain⟨u,r,l⟩:=hl i x v n e g;have fin:EP X ae d Q u s:=⟨v,H,I,r,h⟩;rcases l with⟨hk,k⟩|⟨hk,c,b,a⟩
 .exact wpAny_Name (wpAny_loadName_local I.ok.kind hk j k fin) hd
 .rcases hk with hk|hk
  .exact wpAny_Name (wpAny_loadName_cell I.ok.kind hk b a fin) hd
  .exact wpAny_Name (wpAny_loadName_free I.ok.kind hk b a fin f) hd
def GY{i j pos}:PE X (.Constant (.int i) j pos)<|tC<|.int i:=λ_ _ _ H _ I h=>wpAny_Constant_int ⟨.int i,H,I.tok _,⟨_,J⟩,h⟩
def WQ{b j pos}:PE X (.Constant (.bool b) j pos)<|tC<|.bl b:=λ_ _ _ H _ I h=>Constant_bool ⟨.bl b,H,I,J,h⟩
def GZ{j pos}:PE X (.Constant .none j pos)<|tC .non:=λ_ _ _ H _ I h=>Constant_none ⟨.non,H,I,J,h⟩
def Sa{x j pos}:PE X (.Constant (.str x) j pos)<|tC<|.str x:=λ_ _ _ H _ I h=>Calls.Constant_str ⟨.str x,H,I.tok _,⟨_,J⟩,h⟩
def Gl(X:Cx)(x:Str):Prop:=X.env.kindOf x=U .globalImplicit
def gp{a:St}{x:Str}(I:Inv X ae a H s)(c:Gl X x)(b:X.mg x=U u)(h:Q u s)
  (hd:bB x:=by decide):Gf X (eE (.Name x pos) X.env) Q E s:=
 tj I.ok.kind c (Calls.loadGlobal_global (by rw[I.ok.glob];exact I.mod.glob.keeps I.bk) b h) hd
def iU{a:St}{x:Str}(I:Inv X ae a H s)(e:Gl X x)(d:X.mg x=Y)(b:hF x=U u)(h:Q u s)
  (c:x ≠ "__name__" := by decide) (hd:bB x:=by decide):Gf X (eE (.Name x pos) X.env) Q E s:=by
 obtain⟨mb,g,f⟩:=I.mod.blt;exact tj I.ok.kind e (Calls.loadGlobal_builtin (by rw[I.ok.glob];exact I.mod.glob.keeps I.bk) d (by rw[I.ok.blt];exact g.keeps I.bk) ((f x c).trans b) h) hd
def oS{x:Str}(b:Gl X x)(a:X.mg x=U u)(r:RelV v u)(hd:bB x:=by decide):PE X (.Name x pos)<|tC v:=
 λ_ _ _ H _ I h=>gp I b a ⟨v,H,I,r,h⟩ hd
def BI{x:Str}(d:Gl X x)(c:X.mg x=Y)(a:hF x=U u)(r:RelV v u)(b:x ≠ "__name__" := by decide)(hd:bB x:=by decide):PE X (.Name x pos)<|tC v:=
 λ_ _ _ H _ I h=>iU I d c a ⟨v,H,I,r,h⟩ b hd
variable{a:cx}
def PC(X:Cx)(op:lp)(a b:cx)(t:TE):Prop:=
 ∀(ae:dJ)(s:ag)(e:St)(H:Hp)(Q:VK),Inv X ae e H s->t e H Q ->
  Gf X (eE a X.env) (λv d=>Gf X (eE b X.env) (λu c=>Gf X (et op v u) (EP X ae e Q) X.xe c) X.xe d) X.xe s
def tB(t:TE):TT:=λa H Q=>t a H λx H1=>∃c,x=.bl c/\Q c H1
variable{rest:Bz}
def ň(t u:TT):TT:=λa H Q=>t a H λc H1=>if c=O then u a H1 Q else Q Zb H1
def tOr(t u:TT):TT:=λa H Q=>t a H λc H1=>if c=O then Q O H1 else u a H1 Q
def Ŋ(t:TT):TT:=λa H Q=>t a H λc H1=>Q (!c) H1
def LG(d:PT X a tA):PW X (.BoolOp .And [a] pos) tA:=by
 intro wh ae s b H Q I h;refine isTrue_and<|cH (d ae s b H Q I h) λc f e=>?_;cases c with
 |true=>exact isTrue_and_nil e
 |false=>exact e
def Sb(d:PT X a tA):PW X (.BoolOp .Or [a] pos) tA:=by
 intro wh ae s b H Q I h;refine isTrue_or<|cH (d ae s b H Q I h) λc f e=>?_;cases c with
 |false=>exact isTrue_or_nil e
 |true=>exact e
def Sd(j:PT X a tA)(i:PW X (.BoolOp .And (b::rest) pos) ď):PW X (.BoolOp .And (a::b::rest) pos)<|ň tA ď:=by
 intro wh ae s d H Q I h;refine isTrue_and<|cH (j ae s d H _ I h) λc g f=>?_;obtain⟨H1,e,q1⟩:=f;cases c with
 |true=>exact i wh ae g d H1 Q e q1
 |false=>exact⟨H1,e,q1⟩
def WR(j:PT X a tA)(i:PW X (.BoolOp .Or (b::rest) pos) ď):PW X (.BoolOp .Or (a::b::rest) pos)<|tOr tA ď:=by
 intro wh ae s d H Q I h;refine isTrue_or<|cH (j ae s d H _ I h) λc g f=>?_;obtain⟨H1,e,q1⟩:=f;cases c with
 |true=>exact⟨H1,e,q1⟩
 |false=>exact i wh ae g d H1 Q e q1
def Se(d:PT X a tA):PT X (.UnaryOp .Not a pos)<|Ŋ tA:=by
 intro ae s b H Q I h;exact isTrue_not<|d ae s b H _ I h
def WS(u y:TE):TE:=λa H Q=>u a H λx H1=>∃c,x=.bl c/\if c=O then y a H1 Q else Q (.bl Zb) H1
def ŋ(u y:TE):TE:=λa H Q=>u a H λx H1=>∃c,x=.bl c/\if c=O then Q (.bl O) H1 else y a H1 Q
def WT(u:TE):TE:=λa H Q=>u a H λx H1=>∃c,x=.bl c/\Q (.bl<|!c) H1
def Sf{op}(h:PE X a t):PE X (.BoolOp op [a] pos) t:=λae s b H Q I c=>BoolOp_one<|h ae s b H Q I c
def Sg(k:PE X a u)(j:PE X (.BoolOp .And (b::rest) pos) y):PE X (.BoolOp .And (a::b::rest) pos)<|WS u y:=by
 intro ae s d H Q I h;refine BoolOp_and<|cH (k ae s d H _ I h) λv g f=>?_;obtain⟨x,H1,e,i,q1⟩:=f;obtain⟨c,rfl,q1⟩:=q1;cases i;apply ip;cases c with
 |true=>exact j ae g d H1 Q e q1
 |false=>exact⟨.bl Zb,H1,e,J,q1⟩
def WU(k:PE X a u)(j:PE X (.BoolOp .Or (b::rest) pos) y):PE X (.BoolOp .Or (a::b::rest) pos)<|ŋ u y:=by
 intro ae s d H Q I h;refine BoolOp_or<|cH (k ae s d H _ I h) λv g f=>?_;obtain⟨x,H1,e,i,q1⟩:=f;obtain⟨c,rfl,q1⟩:=q1;cases i;apply ip;cases c with
 |false=>exact j ae g d H1 Q e q1
 |true=>exact⟨.bl O,H1,e,J,q1⟩
def Sh(f:PE X a u):PE X (.UnaryOp .Not a pos)<|WT u:=by
 intro ae s b H Q I h;refine UnaryOp_<|cH (f ae s b H _ I h) λv i d=>?_;obtain⟨x,H1,g,e,q1⟩:=d;obtain⟨c,rfl,q1⟩:=q1;cases e;exact not_of<|ip ⟨.bl _,H1,g,J,q1⟩
def tIf(t:TT)(u y:TE):TE:=λa H Q=>t a H λc H1=>if c=O then u a H1 Q else y a H1 Q
def xq(j:PT X c tA)(l:PE X a u)(k:PE X b y):PE X (.IfExp c a b pos)<|tIf tA u y:=by
 intro ae s e H Q I h;refine wpAny_IfExp<|cH (j ae s e H _ I h) λd f i=>?_;obtain⟨H1,g,q1⟩:=i;cases d with
 |true=>exact l ae f e H1 Q g q1
 |false=>exact k ae f e H1 Q g q1
end
def dY(K:bD)(H:Hp)(a:ax)(xs:List V):Prop:=
 Rd H a (.lst xs) \/
  ∃(o:Obj)(b:Array ao)(n:Nat),K.lookup a=U o/\o.cls=.type "list" /\ o.dict=Y/\o.data=.seq b n/\b.size<=cC/\Vals xs b.toList
def nB(K:bD)(H:Hp)(a:ax)(xs:List V):Prop:=
 Rd H a (.tup xs) \/
  ∃(o:Obj)(b:Array ao)(n:Nat),K.lookup a=U o/\o.cls=.type "tuple" /\ o.data=.seq b n/\b.size<=cC/\Vals xs b.toList
def Ō:ao->Option V
 |.none=>U .non
 |.bool b=>U<|.bl b
 |.int i _=>U<|.int i
 |.str x _=>U<|.str x
 |.bytes b _=>U<|.byt b
 |.float b _=>U<|.flt b
 |.ref a=>U<|.ref a
 |.type n=>U<|.ty n
 |_=>Y
def RelV.abs{x:V}(r:RelV x u):Ō u=U x:=by
 cases x with
 |non=>cases r;rfl
 |bl _=>cases r;rfl
 |int _=>obtain⟨t,rfl⟩:=r;rfl
 |str _=>obtain⟨t,rfl⟩:=r;rfl
 |byt _=>obtain⟨t,rfl⟩:=r;rfl
 |flt _=>obtain⟨t,rfl⟩:=r;rfl
 |ref _=>cases r;rfl
 |ty _=>cases r;rfl
theorem RelV.inj{x y:V}(r:RelV x u)(q:RelV y u):x=y:=lD.inj<|r.abs.symm.trans q.abs
theorem Vals.inj:∀{xs ys:List V}{us:B2},Vals xs us->Vals ys us->xs=ys
 |_,_,_,.nil,.nil=>J
 |_,_,_,.cons r t,.cons b a=>by rw[r.inj b,Vals.inj t a]
def dY.of{K:bD}(h:H a=U (.lst xs)):dY K H a xs:=.inl<|.inl h
def nB.of{K:bD}(h:H a=U (.tup xs)):nB K H a xs:=.inl<|.inl h
def Inv.list(I:Inv X ae j H s)(h:dY X.K H a xs):∃b:B2,Vals xs b/\PlainL s.heap a b.toArray/\xs.length<=cC:=by
 rcases h with h|⟨o,b,n,hk,c,hd,hs,hz,r⟩
 .obtain⟨z,b,n,r,e⟩:=h.ok I.bF
  exact⟨b,r,⟨_,n,e,J,J,J⟩,z⟩
 .refine⟨b.toList,r,⟨o,n,I.jk a o hk,c,hd,by simpa using hs⟩,?_⟩
  have e:=r.length;simp only[gP]at e
  lia
def Inv.tuple(I:Inv X ae j H s)(h:nB X.K H a xs):∃b:B2,Vals xs b/\IsTup s.heap a b.toArray/\xs.length<=cC:=by
 rcases h with h|⟨o,b,n,hk,c,hs,hz,r⟩
 .obtain⟨z,b,r,p⟩:=h.ok I.bF
  exact⟨b,r,p,z⟩
 .refine⟨b.toList,r,⟨o,I.jk a o hk,c,n,by simpa using hs⟩,?_⟩
  have e:=r.length;simp only[gP]at e
  lia
def Inv.G0(I:Inv X ae j H s)(h:dY X.K H a xs)(h':dY X.K H a ys):xs=ys:=by
 obtain⟨g,r,⟨o,n,e,_,_,d⟩,_⟩:=I.list h;obtain⟨b,f,⟨i,n',e',_,_,c⟩,_⟩:=I.list h';rw[e]at e';cases e';rw[d]at c;injection c with d1 _
 have:=by simpa using dv vT d1
 subst this;exact r.inj f
def Inv.sV(I:Inv X ae j H s)(h:nB X.K H a xs)(h':nB X.K H a ys):xs=ys:=by
 obtain⟨g,r,⟨o,e,_,n,d⟩,_⟩:=I.tuple h;obtain⟨b,f,⟨i,e',_,n',c⟩,_⟩:=I.tuple h';rw[e]at e';cases e';rw[d]at c;injection c with d1 _
 have:=by simpa using dv vT d1
 subst this;exact r.inj f
abbrev Cx.oi(X:Cx)(E:F1):Cx:={X with xe:=E}
abbrev Cx.sX(X:Cx):Cx:=X.oi λ_ _=>False
theorem Cx.Ok.oi{X:Cx}(ok:X.Ok)(E:F1):(X.oi E).Ok:=
 ⟨ok.mod,ok.kind,ok.glob,ok.blt,ok.above,ok.inj,ok.has,ok.cab,ok.hd,ok.frames,ok.stk,ok.exf,ok.bs,ok.bsz,ok.noex,ok.exfs,ok.mH,ok.frf⟩
def Cx.Ok.ib{X:Cx}(ok:(X.oi E).Ok):X.Ok:=
 ⟨ok.mod,ok.kind,ok.glob,ok.blt,ok.above,ok.inj,ok.has,ok.cab,ok.hd,ok.frames,ok.stk,ok.exf,ok.bs,ok.bsz,ok.noex,ok.exfs,ok.mH,ok.frf⟩
theorem Inv.oi(I:Inv X ae d H s)(E:F1):Inv (X.oi E) ae d H s:=⟨I.ok.oi E,I.os,I.bare,I.base,I.loc,I.cell,I.free,I.freeC,I.pin,I.bF,I.len⟩
theorem Inv.ib(I:Inv (X.oi E) ae d H s):Inv X ae d H s:=⟨I.ok.ib,I.os,I.bare,I.base,I.loc,I.cell,I.free,I.freeC,I.pin,I.bF,I.len⟩
theorem SP.ib{f:Flow}(h:SP (X.oi E) ae D f s'):SP X ae D f s':=by
 cases f with
 |next=>obtain⟨a,H',I,q⟩:=h;exact⟨a,H',I.ib,q⟩
 |brk=>obtain⟨a,H',I,q⟩:=h;exact⟨a,H',I.ib,q⟩
 |cont=>obtain⟨a,H',I,q⟩:=h;exact⟨a,H',I.ib,q⟩
 |ret u=>obtain⟨v,a,H',I,r,q⟩:=h;exact⟨v,a,H',I.ib,r,q⟩
theorem iz.sX{st:Fh}(h:iz X.sX st t):iz X st t:=λae s d H D I a=>
 ey (h ae s d H D (I.oi _) a) (λ_ _ q=>q.ib) λ_ _ z=>eJ z
section
variable{st:gL}{rest:Fh}
def G1:TS:=λD a H=>D.nx a H
def WV(t u:TS):TS:=λD a H=>t {D with nx:=u D} a H
def uO:iz X [] G1:=λ_ _ a H _ I h=>fv ⟨a,H,I,h⟩
def jv(e:PS X st t)(d:iz X rest u):iz X (st::rest)<|WV t u:=by
 intro ae s b H D I h;refine i5<|cH (e ae s b H _ I h) λf c q=>?_
 cases f with
 |next=>
  obtain⟨a,H',g,q⟩:=q;exact d ae c a H' D g q
 |ret v=>exact q
 |brk=>exact q
 |cont=>exact q
def lF(b:PS X st t):iz X [st] t:=by
 intro ae s a H D I h;refine i5<|cH (b ae s a H D I h) λf c q=>?_;cases f with
 |next=>exact fv q
 |ret v=>exact q
 |brk=>exact q
 |cont=>exact q
def LH:PS X (.Pass pos) G1:=λ_ _ a H _ I h=>wpAny_Pass ⟨a,H,I,h⟩
def Inv.quiet{a:St}(I:Inv X ae a H s):interactive X.env=Zb:=by simp[interactive,I.ok.kind]
def WW(j:TE):TS:=λD a H=>j a H λ_ H1=>D.nx a H1
def jQ(he:PE X e j)(hs:eP e Y pos.line X.env=pure Zb:=by rfl):PS X (.Expr e pos)<|WW j:=by
 intro ae s a H D I h;exact wpAny_Expr_any (cH (he ae s a H _ I h)<|by rintro v c ⟨x,H1,b,d,q1⟩;exact⟨a,H1,b,q1⟩) I.quiet hs
def ō(j:TE):TS:=λD a H=>j a H D.rt
def G2(he:PE X e j):PS X (.Return (U e) pos)<|ō j:=by
 intro ae s a H D I h;exact wpAny_Return_some<|cH (he ae s a H _ I h)<|by rintro v d ⟨x,H1,c,b,q1⟩;exact⟨x,a,H1,c,b,q1⟩
def WY:TS:=λD _ H=>D.rt .non H
def LJ:PS X (.Return Y pos) WY:=λ_ _ a H _ I h=>wpAny_Return_none ⟨.non,a,H,I,J,h⟩
def Ŏ(c:TT)(t u:TS):TS:=λD a H=>c a H λb H1=>if b=O then t D a H1 else u D a H1
def Qd{a b:Fh}{f:TT}(k:PT X c f)(m:iz X a t)(l:iz X b u):PS X (.If c a b pos)<|Ŏ f t u:=by
 intro ae s e H D I h;refine wpAny_If<|cH (k ae s e H _ I h) λd g j=>?_;obtain⟨H1,i,q1⟩:=j;cases d with
 |true=>exact m ae g e H1 D i q1
 |false=>exact l ae g e H1 D i q1
end
abbrev TG:=V->St->Hp->(St->Hp->Prop)->Prop
abbrev Qe:=List V->St->Hp->(St->Hp->Prop)->Prop
def PG(X:Cx)(a:cx)(t:TG):Prop:=
 ∀(ae:dJ)(s:ag)(c:St)(H:Hp)(v:V)(u:ao)(Q:St->Hp->Prop),Inv X ae c H s->RelV v u->t v c H Q ->
  Gf X (sx a X.env u) (λ_ d=>∃b H',Inv X ae b H' d/\Q b H') X.xe s
def WZ(X:Cx)(ts:Bz)(t:Qe):Prop:=
 ∀(ae:dJ)(s:ag)(b:St)(H:Hp)(c:List V)(d:B2)(Q:St->Hp->Prop),Inv X ae b H s->Vals c d->t c b H Q ->
  Gf X (assignInOrder ((hW ts X.env).map (·.2)) d) (λ_ e=>∃a H',Inv X ae a H' e/\Q a H') X.xe s
abbrev Si:=V->V->V->Hp->(Hp->Prop)->Prop
def W0(X:Cx)(t:Si):Prop:=
 ∀(ae:dJ)(s:ag)(a:St)(H:Hp)(o i v:V)(ov b u:ao)(Q:Hp->Prop),Inv X ae a H s->RelV o ov->RelV i b->RelV v u->t o i v H Q ->
  Gf X (setItem ov b u) (λ_ c=>∃H',Inv X ae a H' c/\Q H') X.xe s
abbrev Đ:=V->V->Hp->VK->Prop
def PIp(X:Cx)(op:og)(t:Đ):Prop:=
 ∀(ae:dJ)(s:ag)(a:St)(H:Hp)(x y:V)(v u:ao)(Q:VK),Inv X ae a H s->RelV x v->RelV y u->t x y H Q ->
  Gf X (inplaceOp op v u) (EP X ae a Q) X.xe s
section
variable{X:Cx}
def xu(i:Nat):TG:=λv a H Q=>Q (a.set i<|U v) H
def uP{x:Str}(d:X.N.Nodup)(b:X.N[i]?=U x)(a:Loc X.env.scope x)(c:F6 X x:=by first|exact .inl J|exact .inr J|assumption):PG X (.Name x pos)<|xu i:=by
 intro ae s f H v u Q I r h;exact wpAny_assign_Name<|ju I d b a r (λg e=>⟨_,H,e,h⟩) c
def W2:Qe:=λb a H Q=>b=[]/\Q a H
def Qf(t:TG)(u:Qe):Qe:=λc b H Q=>∃v r,c=v::r/\t v b H λa H'=>u r a H' Q
def LK:WZ X [] W2:=by
 intro ae s a H b c Q I r h;obtain⟨e,h⟩:=h;exact assignInOrder_nil ⟨a,H,I,h⟩
def G3{e:cx}{es:Bz}{t:TG}{u:Qe}(i:PG X e t)(g:WZ X es u)
  (hs:(hW (e::es) X.env).map (·.2)=sx e X.env::(hW es X.env).map (·.2):=by rfl):WZ X (e::es)<|Qf t u:=by
 intro ae s b H l n Q I r h;obtain⟨v,m,j,h⟩:=h;subst j;cases r with
 |cons r f=>
  rw[hs];refine assignInOrder_cons<|cH (i ae s b H _ _ _ I r h) λ_ d c=>?_;obtain⟨a,H1,k,q1⟩:=c;exact g ae d a H1 _ _ Q k f q1
def Sj(K:bD)(n:Nat)(t:Qe):TG:=λv b H Q=>∃a xs,v=.ref a/\nB K H a xs/\xs.length=n/\t xs b H Q
def G4{es:Bz}{k:Nat}{t:Qe}{n:Nat}(l:X.calm=O)(h:WZ X es t)
  (j:(hW es X.env).length=n:=by rfl) (q:(hW es X.env).findIdx? (·.1)=Y:=by rfl):PG X (.Tuple es k pos)<|Sj X.K n t:=by
 intro ae s d H v u Q I r c;obtain⟨a,xs,m,i,hl,c⟩:=c;subst m;cases r;obtain⟨w,f,ht,hz⟩:=I.tuple i;refine assign_Tuple_tuple (I.ok.hd l) ht (by simp[j,<- hl,f.length]) q λh' g=>?_
 have p:Inv X ae d H {s with heap:=h'}:=I.kept (t':=s.toks) λb o e=>g b o (eV<|cw e) e
 exact h ae _ d H xs _ Q p (by simpa using f) c
def ŏ(to b:TE)(t:Si):TG:=λv a H Q=>to a H λo H1=>b a H1 λi d=>t o i v d λc=>Q a c
def Sk(k:PE X o to)(l:PE X i d)(hs:W0 X t)
  (m:∀v,sx (.Subscript o i pos) X.env v=(do
   let ov <- ry [v] (eE o X.env)
   let b <- ry [v,ov] (eE i X.env)
   ri pos
   ry [v,ov,b] (setItem ov b v)
   release [v,ov,b] []):=by intro _;rfl):PG X (.Subscript o i pos)<|ŏ to d t:=by
 intro ae s c H v u Q I r h;rw[m];refine av<|ke<|cH (k ae s c H _ I h) λov e a=>?_;obtain⟨x,H1,q,g,q1⟩:=a;refine av<|ke<|cH (l ae e c H1 _ q q1) λb s2 a=>?_;obtain⟨y,z,p,f,q2⟩:=a;refine av<|mM<|av<|ke<|cH (hs ae s2 c z x y v ov b u _ p g f r q2) λ_ A a=>?_;obtain⟨w,n,j⟩:=a;exact wpAny_release ⟨c,w,n,j⟩
def W3(b:TE)(g:TG):TS:=λD a H=>b a H λx H1=>g x a H1 D.nx
def G5{tg e:cx}{b:TE}{g:TG}(he:PE X e b)(j:PG X tg g)(hs:swapsWithSole [tg] e pos.line X.env=pure Zb:=by rfl)(i:sg [tg] e X.env=pure Y:=by rfl)
  (k:(hW [tg] X.env).map (·.2)=[sx tg X.env]:=by rfl):PS X (.Assign [tg] e pos)<|W3 b g:=by
 intro ae s a H D I h;refine wpAny_Assign_stores (cH (he ae s a H _ I h) λv d c=>?_) hs i;obtain⟨x,H1,l,f,q1⟩:=c;rw[k];exact cH (j ae d a H1 x v _ l f q1) λ_ s2 q=>q
def jw{x:Str}{a:TE}{b:Pos}(l:X.N.Nodup)(j:X.N[i]?=U x)(g:Loc X.env.scope x)(he:PE X e a)(hs:eP e (U<|.Name x b) pos.line X.env=pure Zb:=by rfl)(k:F6 X x:=by first|exact .inl J|exact .inr J|assumption) :
  PS X (.Assign [.Name x b] e pos)<|W3 a<|xu i:=by
 intro ae s c H D I h;refine wpAny_Assign_Name (cH (he ae s c H _ I h) λv o d=>?_) hs;obtain⟨y,H1,n,f,q1⟩:=d;exact ju n l j g f (λs2 m=>⟨_,H1,m,q1⟩) k
def Ő(i:Nat)(c:TE)(b:Đ):TS:=λD a H=>∃x,a[i]?=U (U x)/\c a H λy H1=>b x y H1 λz d=>D.nx (a.set i<|U z) d
def Sl{x:Str}{o:TE}{P:Pos}(L:X.N.Nodup)(p:X.N[i]?=U x)(g:Loc X.env.scope x)(he:PE X e o)(C:PIp X op n)(G:F6 X x:=by first|exact .inl J|exact .inr J|assumption) :
  PS X (.AugAssign (.Name x P) op e pos)<|Ő i o n:=by
 intro ae s j H D I h;obtain⟨v,M,h⟩:=h;obtain⟨m,E,hl⟩:=I.loc;have Q:nA X.env.scope x:=by rcases g with k|k;exact .inl k;exact .inr<|.inl k
 obtain⟨u,r,l⟩:=hl i x v p M Q;apply wpAny_AugAssign_Name;have go:Gf X (eE e X.env) (λw d=>Gf X (inplaceOp op u w) (λr b=>Gf X (storeName X.env x r) (λ_=>SP X ae D .next) X.xe b) X.xe d) X.xe s:=by
  refine cH (he ae s j H _ I h) λw q f=>?_;obtain⟨y,H1,T,B,q1⟩:=f;refine cH (C ae q j H1 v y u w _ T r B q1) λz s2 f=>?_;obtain⟨W,V,S,t,q2⟩:=f;exact ju S L p g t (λZ R=>⟨_,V,R,q2⟩) G
 rcases l with⟨hk,F⟩|⟨hk,c,K,a⟩
 .exact wpAny_loadName_local I.ok.kind hk E F go
 .rcases hk with hk|hk
  .exact wpAny_loadName_cell I.ok.kind hk K a go
  .rcases g with k|k
   .have:X.env.scope.names.lookup x=U .free:=hk
    rw[k]at this;cases this
   .have:X.env.scope.names.lookup x=U .free:=hk
    rw[k]at this;cases this
def ipI(f:Int->Int->Int):Đ:=λx y H Q=>∃i j,x=.int i/\y=.int j/\Q (.int<|f i j) H
def Sm:PIp X .Add<|ipI λi j=>i+j:=by
 intro ae s e H x y v u Q I b a h;obtain⟨i,j,d,c,q⟩:=h;subst d;subst c;obtain⟨t,rfl⟩:=b;obtain⟨f,rfl⟩:=a;exact iadd_int ⟨.int _,H,I.tok _,⟨_,J⟩,q⟩
end
def Sn(c:TT)(f:TS):TS:=λD a H=>∃W:Nat->St->Hp->Prop,(∃m,W m a H)/\∀m a H,W m a H ->
 c a H λb H1=>if b=O then ∃N:St->Hp->Prop,(∀d H',N d H'->∃e,e<m/\W e d H')/\f {D with nx:=N,ct:=N,bk:=D.nx} a H1 else D.nx a H1
def xw{e:Fh}(u:mB (cv X.prog X.w) X.A X.env X.xe)(L:PT X c r)(M:iz X e t):PS X (.While c e [] pos)<|Sn r t:=by
 intro ae s B H D I h;obtain⟨W,⟨m0,F⟩,i⟩:=h;refine wpAny_While<|codeAny_whileLoop (λn K=>∃g H',Inv X ae g H' K/\W n g H') ?_ m0 ⟨B,H,I,F⟩
 rintro n G ⟨d,H1,P,E⟩
 refine h9 u<|cH (L ae G d H1 _ P<|i n d H1 E) λb s2 C=>?_;obtain⟨z,y,q2⟩:=C;cases b with
 |true=>
  obtain⟨N,x,q2⟩:=q2;refine h9 u<|cH (M ae s2 d z _ y q2) λf Q k=>?_;cases f with
  |next=>
   obtain⟨a,j,q,m⟩:=k;obtain⟨o,p,l⟩:=x a j m;exact⟨o,p,a,j,q,l⟩
  |cont=>
   obtain⟨a,j,q,m⟩:=k;obtain⟨o,p,l⟩:=x a j m;exact⟨o,p,a,j,q,l⟩
  |brk=>exact k
  |ret v=>exact k
 |false=>
  exact fv ⟨d,z,y,q2⟩
structure It where
 go:Nat->Hp->Prop
 yld:Nat->Hp->V->Hp->Prop
 stop:Nat->Hp->Prop
def pR(X:Cx)(ae:dJ)(H:Hp)(b:ax):Prop:=
 H b=Y/\b≠X.env.locals/\b∉X.fs/\(b∈X.ex\/X.s₀.heap.objs.size<=b)/\(∀x c,X.env.cells.lookup x=U c->c≠b)/\∀p∈X.pn++ae,p.1≠b
def Inv.uQ{b:ax}(I:Inv X ae d H s)(a:s.heap.objs.size<=b)(g:H' b=Y):pR X ae H' b:=by
 refine⟨g,Ea<|fU I.lt a,I.Ņ a,.inr<|cJ I.sz a,λx c e z=>?_,λp f z=>?_⟩
 .obtain⟨v,q⟩:=I.cell x c e
  exact dy (fU q.lt<|by rw[z];exact a)<|wM _
 .exact dy (fU (cw (I.pin p f).1)<|by rw[z];exact a)<|wM _
structure Turn(P:da)(w:de)(K:bD)(tg:cx)(a:It)(fp:BM)(it:ax)(tn:Nat->eh->Prop):Prop where
 mem:it∈fp
 obj:∀i h,tn i h->∀b∈fp,∃o,h.get? b=U o/\∀v,o.data≠.cell v
 keep:∀i h h',tn i h->(∀b∈fp,∀o,h.get? b=U o->h'.get? b=U o)->tn i h'
 item:∀(X:Cx),X.prog=P->X.w=w->X.K=K->X.calm=O->∀(i:Nat)(ae:dJ)(s:ag)(σ:St)(H:Hp)(E:F1),Inv X ae σ H s->(∀b∈fp,pR X ae H b)->tn i s.heap->a.go i H ->
  c4 (cv P w) X.A (pyNext<|.ref it) (λr s1=>∃u,r=U u /\
   c4 (cv P w) X.A (pB tg (.ref it) u) (λ_ s2=>∃x H',Inv X ae σ H' s2/\RelV x u/\a.yld i H x H'/\tn (i+1) s2.heap/\∀b∈fp,H' b=Y) E s1) E s
 done:∀(X:Cx),X.prog=P->X.w=w->X.K=K->X.calm=O->∀(i:Nat)(ae:dJ)(s:ag)(σ:St)(H:Hp)(E:F1),Inv X ae σ H s->(∀b∈fp,pR X ae H b)->tn i s.heap->a.stop i H ->
  c4 (cv P w) X.A (pyNext<|.ref it) (λr s1=>r=Y/\Inv X ae σ H s1) E s
 self:∀(A:ef)(i:Nat)(s:ag)(Q:F1)(E:F1),tn i s.heap->Q (.ref it) s->c4 (cv P w) A (pyIter<|.ref it) Q E s
abbrev TI:=St->Hp->(It->Hp->Prop)->Prop
def PIE(X:Cx)(ae:dJ)(d:St)(tg:cx)(R:It->Hp->Prop)(ő:ao)(s2:ag):Prop:=
 ∃(it:ax)(c:BM)(a:Nat->eh->Prop)(e:It)(H':Hp),ő=.ref it/\Inv X ae d H' s2/\Turn X.prog X.w X.K tg e c it a/\a 0 s2.heap/\(∀b∈c,pR X ae H' b)/\R e H'
def PI(X:Cx)(tg a:cx)(c:TI):Prop:=
 ∀(ae:dJ)(s:ag)(b:St)(H:Hp)(R:It->Hp->Prop),Inv X ae b H s->c b H R ->
  Gf X (eE a X.env) (λv d=>Gf X (pyIter v) (PIE X ae b tg R) X.xe d) X.xe s
def xx{o:Obj}(b:s.heap.get? it=U o)(d:o.cls=.type n)(hd:o.data=.fields vs)
  (c:["enumerate","zip","dict_itemiterator","dict_reverseitemiterator","odict_iterator","itertools.zip_longest","itertools.pairwise"].contains n=Zb) (a:Q () s):c4 M A (pB tg (.ref it) u) Q E s:=by
 cases tg<;>first
  |exact dn a
  | (cases u<;>first
    |exact dn a
    | (refine av<|wpAny_load b ?_
       rw[d,hd];show c4 M A (if(["enumerate","zip","dict_itemiterator","dict_reverseitemiterator","odict_iterator","itertools.zip_longest","itertools.pairwise"].contains n&&vs[0]? == U _)=O then _ else _) Q E s
       rw[bt (by intro h;rw[c]at h;cases h)]
       exact dn a))
def đ(K:bD)(a:ax):It:=
 ⟨λi H=>∃xs x,dY K H a xs/\xs[i]?=U x,λi H x H'=>H'=H/\∀xs,dY K H a xs->xs[i]?=U x,λi H=>∃xs,dY K H a xs/\xs.length<=i⟩
def Œ(K:bD)(a:ax):It:=
 ⟨λi H=>∃xs x,nB K H a xs/\xs[i]?=U x,λi H x H'=>H'=H/\∀xs,nB K H a xs->xs[i]?=U x,λi H=>∃xs,nB K H a xs/\xs.length<=i⟩
def W6(lo:Int)(n:Nat):It:=⟨λi _=>i<n,λi H x H'=>H'=H/\x=.int (lo+i),λi _=>n<=i⟩
def Ei{K:bD}(a it:ax):Turn P w K tg (đ K a) [it] it λi h=>h.IsListIter it a i where
 mem:=by simp
 obj:=λi h st b f=>by
  have e:=by simpa using f
  subst e;obtain⟨o,e,c,d⟩:=st;exact⟨o,e,λv z=>by rw[d]at z;cases z⟩
 keep:=λi h h' st k=>st.at λo e=>k it (by simp) o e
 item:=by
  intro X r n t L i ae s F H E I j st q;subst r n t;obtain⟨xs,x,g,m⟩:=q;obtain⟨V,l,p,hz⟩:=I.list g;obtain⟨u,R,N⟩:=l.get m;obtain⟨D,C,S,B,A,y⟩:=j it (by simp)
  refine wpAny_pyNext_list_item st p.isList (by simpa using R) λh' G M=>?_
  have W:=I.turned (t':=s.toks) (λb o f e=>(M.2 b f).trans e) D C B A y
  obtain⟨o,e,c,d⟩:=id G;exact⟨u,J,xx e c d (by decide) ⟨x,H,W,N,⟨J,λys Q=>by rw[I.G0 Q g];exact m⟩,G,λb f=>(j b f).1⟩⟩
 done:=by
  intro X r n t L i ae s F H E I j st q;subst r n t;obtain⟨xs,g,m⟩:=q;obtain⟨V,l,p,hz⟩:=I.list g;obtain⟨D,C,S,B,A,y⟩:=j it (by simp)
  have hl:=l.length;exact wpAny_pyNext_list_end (I.ok.hd L) st p.isList (by simp;lia) λh' T=>⟨J,I.turned (λb o f e=>T b o f e) D C B A y⟩
 self:=λ_ _ _ _ _ st h=>wpAny_pyIter_listiter st h
def zG{K:bD}(a it:ax):Turn P w K tg (Œ K a) [it] it λi h=>h.IsTupleIter it a i where
 mem:=by simp
 obj:=λi h st b f=>by
  have e:=by simpa using f
  subst e;obtain⟨o,e,c,d⟩:=st;exact⟨o,e,λv z=>by rw[d]at z;cases z⟩
 keep:=λi h h' st k=>st.at λo e=>k it (by simp) o e
 item:=by
  intro X r n t M i ae s G H E I j st q;subst r n t;obtain⟨xs,x,g,m⟩:=q;obtain⟨F,l,p,hz⟩:=I.tuple g;obtain⟨u,S,Q⟩:=l.get m;obtain⟨D,C,T,B,A,y⟩:=j it (by simp)
  refine wpAny_pyNext_tuple_item st (p) (by simpa using S) λh' L N=>?_
  have W:=I.turned (t':=s.toks) (λb o f e=>(N.2 b f).trans e) D C B A y
  obtain⟨o,e,c,d⟩:=id L;exact⟨u,J,xx e c d (by decide) ⟨x,H,W,Q,⟨J,λys R=>by rw[I.sV R g];exact m⟩,L,λb f=>(j b f).1⟩⟩
 done:=by
  intro X r n t M i ae s G H E I j st q;subst r n t;obtain⟨xs,g,m⟩:=q;obtain⟨F,l,p,hz⟩:=I.tuple g;obtain⟨D,C,T,B,A,y⟩:=j it (by simp)
  have hl:=l.length;exact wpAny_pyNext_tuple_end (I.ok.hd M) st (p) (by simp;lia) λh' V=>⟨J,I.turned (λb o f e=>V b o f e) D C B A y⟩
 self:=λ_ _ _ _ _ st h=>wpAny_pyIter_tupleiter st h
def zH{K:bD}(it:ax)(lo:Int)(n:Nat):Turn P w K tg (W6 lo n) [it] it λi h=>vj h it (lo+(i:Nat)*1) ((n:Int)-(i:Nat)) 1 where
 mem:=by simp
 obj:=λi h st b a=>by
  have e:=by simpa using a
  subst e;exact⟨_,st,λv z=>by
   have A:=z;cases A⟩
 keep:=λi h h' st k=>k it (by simp) _ st
 item:=by
  intro X j d l g i ae s x H E I c st f;subst j d l;obtain⟨u,r,D,q,p,m⟩:=c it (by simp)
  have W:=Walks.range (prog:=X.prog) (w:=X.w) (I.ok.hd g) it lo 1 n;refine W.item i s _ _ f st λv h' tk C y B=>?_;obtain⟨t,rfl⟩:=C;have G:Inv X ae x H {s with heap:=h',toks:=tk}:=I.turned (λb o a e=>B b o (by simpa using a) e) u r q p m
  refine⟨_,J,xx y J J (by decide) ⟨.int _,H,G,⟨t,?_⟩,⟨J,J⟩,y,λb a=>(c b a).1⟩⟩
  rw[Int.mul_one]
 done:=by
  intro X j d l g i ae s x H E I c st f;obtain⟨u,r,D,q,p,m⟩:=c it (by simp)
  exact CC (I.ok.hd g) st (by have:n<=i:=f;lia) λh' F=>⟨J,I.turned (λb o a e=>F b o a e) u r q p m⟩
 self:=λ_ _ _ _ _ st h=>CQ st h
def W7(K:bD)(c:TE):TI:=λb H R=>c b H λx H1=>∃a,x=.ref a/\(∃xs,dY K H1 a xs)/\R (đ K a) H1
def œ(K:bD)(c:TE):TI:=λb H R=>c b H λx H1=>∃a,x=.ref a/\(∃xs,nB K H1 a xs)/\R (Œ K a) H1
def LL(hl:PE X l d):PI X tg l<|W7 X.K d:=by
 intro ae s f H R I h;refine cH (hl ae s f H _ I h) λv c g=>?_;obtain⟨x,H1,I1,i,q1⟩:=g;obtain⟨a,e,⟨xs,j⟩,q⟩:=q1;subst e;cases i;obtain⟨n,m,p,hz⟩:=I1.list j;refine iq p.isList ?_;refine⟨c.heap.objs.size,[c.heap.objs.size],_,_,H1,J,I1.kept λb o e=>ar _ e,Ei a _,⟨_,c5 _ J,J,J⟩,λb k=>?_,q⟩;have e:=by simpa using k
 subst e;exact I1.uQ (bP _)<|I1.bF.fresh<|bP _
def So(hl:PE X l d):PI X tg l<|œ X.K d:=by
 intro ae s f H R I h;refine cH (hl ae s f H _ I h) λv c g=>?_;obtain⟨x,H1,I1,i,q1⟩:=g;obtain⟨a,e,⟨xs,j⟩,q⟩:=q1;subst e;cases i;obtain⟨m,n,p,hz⟩:=I1.tuple j;refine wpAny_pyIter_tuple (p) ?_;refine⟨c.heap.objs.size,[c.heap.objs.size],_,_,H1,J,I1.kept λb o e=>ar _ e,zG a _,⟨_,c5 _ J,J,J⟩,λb k=>?_,q⟩;have e:=by simpa using k
 subst e;exact I1.uQ (bP _)<|I1.bF.fresh<|bP _
def xy{lo a:Int}(I:Inv X ae c H s)(i:-(2^62)<=lo)(h:lo<2^62)(g:-(2^62)<=a)(f:a<2^62)
  (q:R (W6 lo (a-lo).toNat) H):Gf X (pyIter<|.ref s.heap.objs.size) (PIE X ae c tg R) E {s with heap:=s.heap.push {cls:=.type "range",data:=.fields #[.int lo t,.int a u,.int 1 v]},toks:=tk}:=by
 refine wpAny_pyIter_range (IsRange.new ..) (small_one i h g f) ?_;have I1:Inv X ae c H {s with heap:=s.heap.push {cls:=.type "range",data:=.fields #[.int lo t,.int a u,.int 1 v]},toks:=tk}:=I.kept λb o e=>ar _ e
 refine⟨(s.heap.push _).objs.size,[(s.heap.push _).objs.size],_,_,H,J,
  I1.kept λb o e=>ar _ e,zH _ lo _,?_,λb d=>?_,q⟩
 .have k:lo+((0:Nat))*1=lo:=by simp
  have j:(((a-lo).toNat))-((0:Nat))=ij lo a 1:=by rw[rangeSize_one];lia
  show vj _ _ (lo+((0:Nat))*1) ((((a-lo).toNat))-((0:Nat))) 1;rw[k,j];exact c5 _ J
 .have e:b=(s.heap.push {cls:=.type "range",data:=.fields #[.int lo t,.int a u,.int 1 v]}).objs.size:=by simpa using d
  subst e;exact I1.uQ (bP _)<|I1.bF.fresh<|bP _
def W8(c:TA):TI:=λa H R=>c a H λb H1=>∃j:Int,b=[.int j]/\-(2^62)<=j/\j<2^62/\R (W6 0 j.toNat) H1
def W9(c:TA):TI:=λa H R=>c a H λb H1=>∃i j:Int,b=[.int i,.int j]/\(-(2^62)<=i/\i<2^62/\-(2^62)<=j/\j<2^62)/\R (W6 i (j-i).toNat) H1
def Ej{a:cx}{b:TA}(k:Gl X "range")(i:X.mg "range" = Y)(l:PA X [a] b)(hs:c3 [a] X.env=[(Zb,eE a X.env)]:=by rfl):PI X tg (.Call (.Name "range" p) [a] [] pos)<|W8 b:=by
 intro ae s c H R I h;refine Call_<|iU I k i boot_range<|Ec (cH (l pos ae s c H _ I h) λo u d=>?_) hs J;obtain⟨n,H1,m,g,q1⟩:=d;obtain⟨j,e,q1,q2,q⟩:=q1;subst e;cases g with
 |cons r f=>
  cases f;obtain⟨t,rfl⟩:=r;exact call_range_1<|xy m (by lia) (by lia) q1 q2<|by simpa using q
def Ek{a b:cx}(u:Gl X "range")(o:X.mg "range" = Y)(v:PA X [a,b] d)(hs:c3 [a,b] X.env=[(Zb,eE a X.env),(Zb,eE b X.env)]:=by rfl)(f:c3 [b] X.env=[(Zb,eE b X.env)]:=by rfl) :
  PI X tg (.Call (.Name "range" p) [a,b] [] pos)<|W9 d:=by
 intro ae s g H R I h;refine Call_<|iU I u o boot_range<|Ec (cH (v pos ae s g H _ I h) λy A k=>?_) (by rw[hs,f])<|by rw[f];rfl
 obtain⟨x,H1,w,l,q1⟩:=k;obtain⟨i,j,e,⟨q1,q2,n,q4⟩,q⟩:=q1;subst e;cases l with
 |cons r c=>
  cases c with
  |cons m c=>
   cases c;obtain⟨t,rfl⟩:=r;obtain⟨z,rfl⟩:=m;exact call_range_2<|xy w q1 q2 n q4 q
def Ŕ(e:TI)(g:TG)(f:TS):TS:=λD a H=>e a H λj H1=>∃W:Nat->Nat->St->Hp->Prop,(∃m,W 0 m a H1)/\∀i m a H,W i m a H ->
 (j.stop i H/\D.nx a H)\/(j.go i H/\∃N:St->Hp->Prop,(∀b H',N b H'->∃d,d<m/\W (i+1) d b H')/\∀x H',j.yld i H x H'->g x a H' λc h=>f {D with nx:=N,ct:=N,bk:=D.nx} c h)
def pS(a:BM)(h:eh):dJ:=a.filterMap λb=>(h.get? b).map λo=>(b,o)
def iV{a:BM}{b:ax}{o:Obj}(c:b∈a)(e:h.get? b=U o):(b,o)∈pS a h:=Eb.mpr ⟨b,c,by rw[e];rfl⟩
def El{a:BM}{p:ax×Obj}(c:p∈pS a h):p.1∈a/\h.get? p.1=U p.2:=by
 obtain⟨b,d,e⟩:=Eb.mp c;cases q:h.get? b with
 |none=>rw[q]at e;cases e
 |some o=>
  rw[q]at e;have e':=lD.inj e;subst e';exact⟨d,q⟩
def Inv.pinned{a:BM}(I:Inv X ae c H s)(i:∀b∈a,pR X ae H b)(h:∀b∈a,∃o,s.heap.get? b=U o/\∀v,o.data≠.cell v):Inv X (ae++pS a s.heap) c H s:=
 I.BH λp g=>(eW.mp g).elim (λz=>I.pin p<|ku _ z) λz=>by
  obtain⟨f,e⟩:=El z;obtain⟨l,k,j,_⟩:=i _ f;obtain⟨o,e',d⟩:=h _ f;rw[e]at e';cases e';exact⟨e,l,k,j,d⟩
def Inv.lG{a:St}(I:Inv X (ae++pl) a H s):Inv X ae a H s:=I.BH λp b=>I.pin p<|ku _<|rM _ b
def G6{V:TI}(E:mB (cv X.prog X.w) X.A X.env X.xe)(hc:X.calm=O)(hi:PI X tg k V)(hg:PG X tg g)(l:iz X t tb)
  (hs:∀x,eI k X.env x=pure x:=by intro _;rfl):PS X (.For tg k t [] pos)<|Ŕ V g tb:=by
 intro ae s S H D I h;refine wpAny_For (cH (hi ae s S H _ I h) λv s1 h1=>cH h1 λő s2 h2=>?_) hs;obtain⟨it,G,Z,qC,H2,e,I2,T,Ln,f2,W,⟨m0,w0⟩,z⟩:=h2;subst e;have M:∀{H':Hp},(∀b∈G,H' b=Y)->∀b∈G,pR X ae H' b:=λhn b l=>⟨hn b l,(f2 b l).2⟩;refine codeAny_forLoop_any (λn s'=>∃i j H',Inv X ae j H' s'/\Z i s'.heap/\(∀b∈G,H' b=Y)/\W i n j H') ?_ m0 ⟨0,S,H2,I2,Ln,λb l=>(f2 b l).1,w0⟩
 rintro n s3 ⟨i,c,K,I3,B,F,w3⟩
 rcases z i n c K w3 with⟨stop,qn⟩|⟨go,N,hN,step⟩
 .refine h9 E<|cH (T.done X J J J hc i ae s3 c K X.xe I3 (M F) B stop) λr s4 y=>?_
  obtain⟨hr,I4⟩:=y;subst hr;exact fv ⟨c,K,I4,qn⟩
 .refine h9 E<|cH (T.item X J J J hc i ae s3 c K X.xe I3 (M F) B go) λr s4 y=>?_
  obtain⟨u,hr,h4⟩:=y;subst hr;refine h9 E<|cH h4 λ_ s5 y=>?_;obtain⟨x,H5,I5,r5,y5,Q,Ē⟩:=y;have R:=I5.pinned (M Ē)<|T.obj _ _ Q;refine h9 E<|cH (hg _ s5 c H5 x u _ R r5<|step x H5 y5) λ_ s6 y=>?_;obtain⟨L,H6,I6,q6⟩:=y;refine h9 E<|cH (l _ s6 L H6 _ I6 q6) λf P q7=>?_;have again:∀{a:St}{q:Hp},Inv X (ae++pS G s5.heap) a q P->N a q->∃m,m<n/\∃i j H',Inv X ae j H' P/\Z i P.heap/\(∀b∈G,H' b=Y)/\W i m j H':=λ{a q} p C=>by
   obtain⟨m',hm,w7⟩:=hN a q C;refine⟨m',hm,i+1,a,q,p.lG,T.keep _ _ _ Q λb l o e=>(p.pin (b,o)<|ku _<|ku _<|iV l e).1,λb l=>?_,w7⟩;obtain⟨o,e,d⟩:=T.obj _ _ Q b l;exact(p.pin (b,o)<|ku _<|ku _<|iV l e).2.1
  cases f with
  |next=>obtain⟨a,q,p,C⟩:=q7;exact again p C
  |cont=>obtain⟨a,q,p,C⟩:=q7;exact again p C
  |brk=>obtain⟨a,q,p,q7⟩:=q7;exact⟨a,q,p.lG,q7⟩
  |ret v=>obtain⟨x7,a,q,p,r7,q7⟩:=q7;exact⟨x7,a,q,p.lG,r7,q7⟩
abbrev R2:=V->V->Hp->VK->Prop
def ic(X:Cx)(f:ao->ao->Sem ao)(r:R2):Prop:=
 ∀(ae:dJ)(s:ag)(a:St)(H:Hp)(x y:V)(v u:ao)(Q:VK),Inv X ae a H s->RelV x v->RelV y u->r x y H Q ->
  Gf X (f v u) (EP X ae a Q) X.xe s
def ē(X:Cx)(f:ao->Sem ao)(r:V->Hp->VK->Prop):Prop:=
 ∀(ae:dJ)(s:ag)(a:St)(H:Hp)(x:V)(v:ao)(Q:VK),Inv X ae a H s->RelV x v->r x H Q ->
  Gf X (f v) (EP X ae a Q) X.xe s
def fM(X:Cx)(f:ao)(r:List V->Hp->VK->Prop):Prop:=
 ∀(ae:dJ)(s:ag)(a:St)(H:Hp)(xs:List V)(b:B2)(Q:VK),Inv X ae a H s->Vals xs b->r xs H Q ->
  Gf X (call f b) (EP X ae a Q) X.xe s
def ŕ(X:Cx)(r:V->Hp->(Bool->Hp->Prop)->Prop):Prop:=
 ∀(ae:dJ)(s:ag)(a:St)(H:Hp)(x:V)(v:ao)(Q:Bool->Hp->Prop),Inv X ae a H s->RelV x v->r x H Q ->
  Gf X (truthy v) (TP X ae a Q) X.xe s
def Qg(r:R2)(c b:TE):TE:=λa H Q=>c a H λx H1=>b a H1 λy d=>r x y d Q
def tUn(r:V->Hp->VK->Prop)(b:TE):TE:=λa H Q=>b a H λx H1=>r x H1 Q
def rI(C:Int->Int->Prop)(g:Int->Int->V):R2:=λx y H Q=>∃i j,x=.int i/\y=.int j/\C i j/\Q (g i j) H
def FN(g:Int->Int->V):R2:=λx y H Q=>∃i j,x=.int i/\y=.int j/\Q (g i j) H
def rU(g:Int->V):V->Hp->VK->Prop:=λx H Q=>∃i,x=.int i/\Q (g i) H
section
variable{a c:cx}
def Sq(o:PE X a t)(n:PE X b B){c:St}{R:V->V->Hp->Prop}(I:Inv X ae c H s)
  (h:t c H λx H1=>B c H1 λy d=>R x y d)  {f:ao->ao->Sem ao}
  (m:∀v u s2 x y d,Inv X ae c d s2->RelV x v->RelV y u->R x y d->Gf X (f v u) Q X.xe s2) :
  Gf X (eE a X.env) (λv g=>Gf X (eE b X.env) (λu e=>Gf X (f v u) Q X.xe e) X.xe g) X.xe s:=by
 refine cH (o ae s c H _ I h) λv j i=>?_;obtain⟨x,H1,q,l,q1⟩:=i;refine cH (n ae j c H1 _ q q1) λu s2 i=>?_;obtain⟨y,d,p,k,q2⟩:=i;exact m v u s2 x y d p l k q2
def nC(f:ic X (ll op) r)(i:PE X a t)(g:PE X b B):PE X (.BinOp a op b pos)<|Qg r t B:=by
 intro ae s c H Q I h;exact wpAny_BinOp<|Sq i g I h λv u s2 x y k j e d q=>f ae s2 c k x y v u Q j e d q
def W_(e:ē X (unaryOp op) r)(f:PE X a t):PE X (.UnaryOp op a pos)<|tUn r t:=by
 intro ae s b H Q I h;exact UnaryOp_<|cH (f ae s b H _ I h)<|by rintro v c ⟨x,H1,g,d,q1⟩;exact e ae c b H1 x v Q g d q1
def Ŗ{f:ao->ao->Sem ao}{C:Int->Int->Prop}{g:Int->Int->Int}
  (rule:∀(i j:Int)(t u:Tok)(s:ag)(Q:F1)(E:F1),C i j->Q (.int (g i j) s.toks) {s with toks:=s.toks+1}->Gf X (f (.int i t)<|.int j u) Q E s) :
  ic X f<|rI C λi j=>.int<|g i j:=by
 intro ae s e H x y v u Q I c b h;obtain⟨i,j,rfl,rfl,d,q⟩:=h;obtain⟨t,rfl⟩:=c;obtain⟨a,rfl⟩:=b;exact rule i j t a s _ _ d ⟨.int _,H,I.tok _,⟨_,J⟩,q⟩
def Xa{f:ao->ao->Sem ao}{g:Int->Int->Int}
  (rule:∀(i j:Int)(t u:Tok)(s:ag)(Q:F1)(E:F1),Q (.int (g i j) s.toks) {s with toks:=s.toks+1}->Gf X (f (.int i t)<|.int j u) Q E s) :
  ic X f<|FN λi j=>.int<|g i j:=by
 intro ae s d H x y v u Q I c b h;obtain⟨i,j,rfl,rfl,q⟩:=h;obtain⟨t,rfl⟩:=c;obtain⟨a,rfl⟩:=b;exact rule i j t a s _ _ ⟨.int _,H,I.tok _,⟨_,J⟩,q⟩
def LQ{f:ao->ao->Sem ao}{g:Int->Int->Bool}
  (rule:∀(i j:Int)(t u:Tok)(s:ag)(Q:F1)(E:F1),Q (.bool<|g i j) s->Gf X (f (.int i t)<|.int j u) Q E s) :
  ic X f<|FN λi j=>.bl<|g i j:=by
 intro ae s d H x y v u Q I c b h;obtain⟨i,j,rfl,rfl,q⟩:=h;obtain⟨t,rfl⟩:=c;obtain⟨a,rfl⟩:=b;exact rule i j t a s _ _ ⟨.bl _,H,I,J,q⟩
def Xb(i j:Int):Prop:=0<j/\j<1073741824
def abB(i j:Int):Prop:=0<=j/\j<=1000000/\i.natAbs<2^64
def Ss(i j:Int):Prop:=(-(2^64)<i/\i<2^64)\/(-(2^64)<j/\j<2^64)
def Ss.ok(h:Ss i j):IntMulOk i j:=by
 rcases h with⟨b,a⟩|⟨b,a⟩
 .exact .of_left<|intBits_le_64 b a
 .exact .of_right<|intBits_le_64 b a
def Su:ic X (ll .Add)<|FN λi j=>.int<|i+j:=Xa λ_ _ _ _ _ _ _ q=>add_int q
def Sv:ic X (ll .Sub)<|FN λi j=>.int<|i-j:=Xa λ_ _ _ _ _ _ _ q=>sub_int q
def LR:ic X (ll .FloorDiv)<|rI Xb λi j=>.int<|i/j:=Ŗ λi j _ _ _ _ _ a q=>by
 have c:=a.1;have b:=a.2;exact floordiv_int (by lia) (by rw[Int.fdiv_eq_ediv_of_nonneg i<|by lia];exact q)<|.inl<|u4<|by lia
def Sw:ic X (ll .Mod)<|rI (λ_ j=>0<j) λi j=>.int<|i % j:=Ŗ λi j _ _ _ _ _ a q=>by
 have b:=a;exact mod_int' (by lia) (by rw[Int.fmod_eq_emod_of_nonneg i<|by lia];exact q)
def unI{f:ao->Sem ao}{g:Int->Int}
  (rule:∀(i:Int)(t:Tok)(s:ag)(Q:F1)(E:F1),Q (.int (g i) s.toks) {s with toks:=s.toks+1}->Gf X (f<|.int i t) Q E s) :
  ē X f<|rU λi=>.int<|g i:=by
 intro ae s b H x v Q I a h;obtain⟨i,rfl,q⟩:=h;obtain⟨t,rfl⟩:=a;exact rule i t s _ _ ⟨.int _,H,I.tok _,⟨_,J⟩,q⟩
def Sx:ē X (unaryOp .USub)<|rU λi=>.int<|-i:=unI λ_ _ _ _ _ q=>neg_int q
def uR:ē X (unaryOp .Invert)<|rU λi=>.int<|Builtin.bitNot i:=unI λ_ _ _ _ _ q=>invert_int q
end
section
variable{a c:cx}
def jx{a:St}(I:Inv X ae a H s)(q:Q (.bl k) H)(e:k=k'):EP X ae a Q (.bool k') s:=by
 subst e;exact⟨.bl k,H,I,J,q⟩
def Xc:ic X (et .Lt)<|FN λi j=>.bl<|decide<|i<j:=LQ λ_ _ _ _ _ _ _ q=>lt_int q
def Xd:ic X (et .LtE)<|FN λi j=>.bl<|decide<|i<=j:=LQ λ_ _ _ _ _ _ _ q=>le_int q
def Xe:ic X (et .Gt)<|FN λi j=>.bl<|decide<|j<i:=LQ λ_ _ _ _ _ _ _ q=>gt_int q
def Xg:ic X (et .GtE)<|FN λi j=>.bl<|decide<|j<=i:=LQ λ_ _ _ _ _ _ _ q=>ge_int q
def Em:ic X (et .In) λx y H Q=>∃i j,x=.str i/\y=.str j/\Q (.bl<|!(eg j i 0 j.length 1).isEmpty) H:=by
 intro ae s c H x y v u Q I b a h;obtain⟨i,j,rfl,rfl,q⟩:=h;obtain⟨t,rfl⟩:=b;obtain⟨d,rfl⟩:=a;exact in_str<|jx I q J
def Sy:ic X (et .Is) λx y H Q=>y=.non/\Q (.bl<|decide<|x=.non) H:=by
 intro ae s c H x y v u Q I a b h;obtain⟨rfl,q⟩:=h;cases b;refine is_none_gen<|jx I q ?_;cases x<;>first
  |(obtain⟨t,rfl⟩:=a;rfl)
def LS:ic X (et .IsNot) λx y H Q=>y=.non/\Q (.bl<|!decide (x=.non)) H:=by
 intro ae s c H x y v u Q I a b h;obtain⟨rfl,q⟩:=h;cases b;refine isnot_none_gen<|jx I q ?_;cases x<;>first
  |(obtain⟨t,rfl⟩:=a;rfl)
def uS:ic X (et .NotIn) λx y H Q=>∃i j,x=.str i/\y=.str j/\Q (.bl<|!(!(eg j i 0 j.length 1).isEmpty)) H:=by
 intro ae s c H x y v u Q I b a h;obtain⟨i,j,rfl,rfl,q⟩:=h;obtain⟨t,rfl⟩:=b;obtain⟨d,rfl⟩:=a;exact notIn_str<|jx I q J
def ic.or{f:ao->ao->Sem ao}{r d:R2}(h:ic X f r)(h':ic X f d):ic X f λx y H Q=>r x y H Q\/d x y H Q:=by
 intro ae s a H x y v u Q I c b q;rcases q with q|q
 .exact h ae s a H x y v u Q I c b q
 .exact h' ae s a H x y v u Q I c b q
def oU(f:ic X (et op) r)(j:PE X a F)(i:PE X b D)(g:eR op b=Zb):PE X (.Compare a [op] [b] pos)<|Qg r F D:=by
 intro ae s c H Q I h;exact wpAny_Compare1 (Sq j i I h λv u s2 x y l k e d q=>f ae s2 c l x y v u Q k e d q) g
def Xh(t:TE):TT:=λa H Q=>t a H λx H'=>∃k,x=.bl k/\Q k H'
def lH(m:ic X (et op) r)(p:PE X a F)(o:PE X b D)(n:eR op b=Zb):PT X (.Compare a [op] [b] pos)<|Xh<|Qg r F D:=by
 intro ae s d H Q I h;refine wpAny_isTrue_Compare1 (cH (p ae s d H _ I h) λv f ⟨x,H1,w,j,q1⟩=>cH (o ae f d H1 _ w q1) λu s2 ⟨y,B,t,i,q2⟩=>
  cH (m ae s2 d B x y v u _ t j i q2) λc C ⟨z,A,q,g,k,e,l⟩=>?_) n
 subst e;cases g;exact ip ⟨A,q,l⟩
def Sz(K:bD)(x:V)(H:Hp)(k:Bool):Prop:=
 match x with
 |.non=>k=Zb
 |.bl b=>k=b
 |.int i=>k=(i != 0)
 |.str y=>y.length<=cC/\k=((y.length:Int) != 0)
 |.byt y=>y.size<=cC/\k=((y.size:Int) != 0)
 |.ref p=>(∃xs,dY K H p xs/\k=!xs.isEmpty)\/(∃xs,nB K H p xs/\k=!xs.isEmpty)\/∃a,H p=U (.dK a)/\k=!a.isEmpty
 |_=>False
def zK{a:Type}{kvs:List<|a×V}{vs:List<|a×ao}(r:KV kvs vs):(!vs.isEmpty)=!kvs.isEmpty:=by
 cases r<;>rfl
def pT{a:B2}(r:Vals xs a):(!a.toArray.isEmpty)=!xs.isEmpty:=by
 cases r<;>simp
def mJ:(cC:Nat)<2^63:=by decide
def SA:ŕ X λx H Q=>∃k,Sz X.K x H k/\Q k H:=by
 intro ae s u H x v Q I c h;obtain⟨k,e,q⟩:=h;have hs:=dZ;cases x with
 |non=>
  cases c;have e':=e;subst e';exact truthy_none ⟨H,I,q⟩
 |bl b=>
  cases c;have e':=e;subst e';exact ip ⟨H,I,q⟩
 |int i=>
  obtain⟨t,rfl⟩:=c;have e':=e;subst e';exact PySem.P.truthy_int ⟨H,I,q⟩
 |str y=>
  obtain⟨t,rfl⟩:=c;obtain⟨l,e'⟩:y.length<=cC/\k=((y.length:Int) != 0):=e;subst e';exact PySem.P.truthy_str (by lia) ⟨H,I.tok _,q⟩
 |byt y=>
  obtain⟨t,rfl⟩:=c;obtain⟨l,e'⟩:y.size<=cC/\k=((y.size:Int) != 0):=e;subst e';exact PySem.W.truthy_bytes (by lia) ⟨H,I.tok _,q⟩
 |ref p=>
  cases c;have e':=e;rcases e' with⟨xs,d,e'⟩|⟨xs,d,e'⟩|⟨a,d,e'⟩
  .subst e'
   obtain⟨o,r,g,hz⟩:=I.list d;have j:=r.length;exact wpAny_truthy_list g.isList (by simp only[cD];lia) ⟨H,I.tok _,by rw[pT r];exact q⟩
  .subst e'
   obtain⟨o,r,g,hz⟩:=I.tuple d;have j:=r.length;exact truthy_tuple g (by simp only[cD];lia) ⟨H,I.tok _,by rw[pT r];exact q⟩
  .subst e'
   obtain⟨hz,n,f,r,m⟩:a.length<=cC/\(p == hM)=Zb/\∃f,KV a f/\s.heap.DictOf _ p f:=I.bF p _ d;have j:=Paired.length r;exact wpAny_truthy_dict n m (by lia) ⟨H,I.tok _,by rw[zK r];exact q⟩
 |_=>exact(e).elim
def G7(f:PE X a F)(he:∀c,Er a X.env c=(do let v <- c;ri a.pos;ry [v] (truthy v))) :
  PT X a λb H Q=>F b H λx H'=>∃k,Sz X.K x H' k/\Q k H':=by
 intro ae s b H Q I h;exact isTrue_plain (cH (f ae s b H _ I h)<|by rintro v d ⟨x,H1,g,e,q1⟩;exact SA ae d b H1 x v Q g e q1)<|he _
def zL:ic X (ll .Add) λx y H Q=>∃i j,x=.str i/\y=.str j/\i.length+j.length<=cC/\Q (.str<|i++j) H:=by
 intro ae s d H x y v u Q I c b h;obtain⟨i,j,rfl,rfl,hz,q⟩:=h;obtain⟨t,rfl⟩:=c;obtain⟨a,rfl⟩:=b;exact add_str (λa tk=>⟨.str _,H,I.tok _,⟨_,J⟩,q⟩) hz
def vals1{x:V}(r:Vals [x] us):∃u,us=[u]/\RelV x u:=by
 cases r with
 |cons b a=>cases a;exact⟨_,J,b⟩
def vals2{x y:V}(r:Vals [x,y] us):∃u a,us=[u,a]/\RelV x u/\RelV y a:=by
 cases r with
 |cons e d=>
  cases d with
  |cons c b=>cases b;exact⟨_,_,J,e,c⟩
def En(a:X.calm=O):fM X (.builtin "max") λxs H Q=>∃i j,xs=[.int i,.int j]/\Q (.int<|if j > i then j else i) H:=by
 intro ae s b H xs d Q I r h;obtain⟨i,j,rfl,q⟩:=h;obtain⟨u,c,rfl,⟨t,rfl⟩,⟨e,rfl⟩⟩:=vals2 r;refine max_two_ints (I.ok.hd a) λh' tk k=>⟨_,H,I.kept k,?_,q⟩;by_cases hj:j > i
 .rw[b0 hj,b0 hj];exact⟨_,J⟩
 .rw[bt hj,bt hj];exact⟨_,J⟩
def uT:fM X (.type "str") λxs H Q=>∃i,xs=[.int i]/\i.natAbs.log2<1920/\Q (.str<|toString i) H:=by
 intro ae s a H xs b Q I r h;obtain⟨i,rfl,hz,q⟩:=h;obtain⟨u,rfl,t,rfl⟩:=vals1 r;exact PySem.P.str_of_int hz ⟨.str _,H,I.tok _,⟨_,J⟩,q⟩
def Xi(K:bD)(x:V)(H:Hp)(n:Nat):Prop:=
 match x with
 |.str y=>y.length<=cC/\n=y.length
 |.byt y=>y.size<=cC/\n=y.size
 |.ref p=>(∃xs,dY K H p xs/\n=xs.length)\/∃xs,nB K H p xs/\n=xs.length
 |_=>False
def G8:fM X (.builtin "len") λxs H Q=>∃x n,xs=[x]/\Xi X.K x H n/\Q (.int n) H:=by
 intro ae s j H xs k Q I r h;obtain⟨x,n,rfl,e,q⟩:=h;obtain⟨u,rfl,a⟩:=vals1 r;have hs:=dZ;cases x with
 |str y=>
  obtain⟨t,rfl⟩:=a;obtain⟨g,e'⟩:y.length<=cC/\n=y.length:=e;subst e';exact len_str (by lia) ⟨.int _,H,I.tok _,⟨_,J⟩,q⟩
 |byt y=>
  obtain⟨t,rfl⟩:=a;obtain⟨g,e'⟩:y.size<=cC/\n=y.size:=e;subst e';exact PySem.W.len_bytes (by lia) ⟨.int _,H,I.tok _,⟨_,J⟩,q⟩
 |ref p=>
  cases a;have e':=e;rcases e' with⟨xs,d,e'⟩|⟨xs,d,e'⟩
  .subst e'
   obtain⟨i,b,c,hz⟩:=I.list d;have f:=b.length;exact Calls.call_len_list c.isList (by simp only[cD];lia) ⟨.int xs.length,H,I.tok _,⟨_,by simp only[cD];rw[f]⟩,q⟩
  .subst e'
   obtain⟨i,b,c,hz⟩:=I.tuple d;have f:=b.length;exact len_tuple c (by simp only[cD];lia) ⟨.int xs.length,H,I.tok _,⟨_,by simp only[cD];rw[f]⟩,q⟩
 |_=>exact(e).elim
end
structure zM(h:eh)(x dx C:ax)(mA:Str->D2):Prop where
 obj:h.get? x=U (wH C dx)
 ns:h.Ns1 dx mA
 ne:dx≠x
def sZ{b:Str->D2}(n:h.Ns1 dx b):∃od,h.get? dx=U od/\∀name,Be name od=U (b name):=by
 obtain⟨o,es,i,d,hd,hk,_,f⟩:=n;refine⟨o,d,λname=>?_⟩;have e:=f name;unfold nsFind findBy at e;rw[<- z8]at e;unfold Be;rw[hd];dsimp only;split
 .rename_i y q
  rw[q]at e;exact dv U e
 .rename_i q
  rw[q]at e;have a:es.toList.any (·.refKey)=Zb:=by
   rw[List.any_eq_false];intro y c;obtain⟨z,t,ŗ⟩:=hk y<|Array.mem_toList_iff.mp c;simp[DictEntry.refKey,ŗ]
  have g:¬ es.toList.any (·.refKey)=O:=by rw[a];exact e_
  rw[bt g];exact dv U e
def zM.look{a:Str->D2}(I:zM h x dx C a):∃od,PySem.W.InstAt h x (wH C dx) C (U od)/\∀name,Be name od=U (a name):=
 let⟨od,ho,hl⟩:=sZ I.ns
 ⟨od,⟨I.obj,J,J,ho⟩,hl⟩
section
variable{K:bD}
def get_map{a:Bool}(X:K.In s.heap)(I:zM s.heap x dx C t)(d:wJ K C name=O)(c:wK K C=O)
  (e:f6 K (.ref C) name=U Y) (b:t name=U v) (f:O4 v=O) (h:Q v {s with toks:=s.toks+1}) :
  c4 (cv prog w) A (getAttr (.ref x) name a) Q E s:=by
 obtain⟨od,g,hl⟩:=I.look;exact PySem.W.get_value X g (F8 d).1 (PySem.W.findObj_own c e J<|by rw[hl,b]) f h
def G9(X:K.In s.heap)(I:zM s.heap x dx C t)(a:wJ K C name=O)
  (c:f6 K (.ref C) name=U (U<|.ref f)) (ht:D9 K (.ref f)=O) (b:t name=Y) (h:Q (.ref f,[.ref x]) s) :
  c4 (cv prog w) A (uZ (.ref x) name pl) Q E s:=by
 obtain⟨od,d,hl⟩:=I.look;exact PySem.W.method_fn X d (F8 a).1 (F8 a).2 c (beq_iff_eq.mp ht) (by show(Be name od).map _=U Zb;rw[hl,b];rfl) h
def LU{Q:F2}(X:K.In s.heap)(I:zM s.heap x dx C t)
  (hs:f6 K (.ref C) "__setattr__" = U (U<|.builtin "object.__setattr__")) (g:F9 K C=O) (ht:F_ K C name=U Y) (i:wK K C=O)
  (f:mq t ns) (hsz:ns.length<=cC)
  (h:∀h',zM h' x dx C (λy=>if y=name then U v else t y)->oC dx s.heap h'->Q () {s with heap:=h',toks:=s.toks+2}) :
  c4 (cv prog w) A (v3 (.ref x) name v) Q E s:=by
 obtain⟨od,u,hl⟩:=I.look;refine PySem.W.set_plain X u hs<|PySem.W.osa_open X u g ht λb=>?_
 obtain⟨q,j,n⟩:=Ga i;have e:=I.obj;refine av<|dn<|av<|av<|qs e<|av<|Gb.here (PySem.W.looks_clsIn X j) ?_
 rw[n];refine dn<|av<|dn<|av ?_;refine C1 I.ns λh' d c=>?_
 obtain⟨oD,k,l,o,m,p⟩:=d.count<|PySem.Within.cons name v f;refine av<|ub o (m▸uY<|cJ p<|by rw[dU];lia) ?_
 exact dn<|h _ ⟨(c.2 _<|e7 I.ne).trans I.obj,d,I.ne⟩ c
def G_{a:List<|Str×ao}(X:K.In s.heap)(b:wL K C=O)
  (c:f6 K (.ref C) "__init__" = U (U<|.ref f)) (e:PySem.W.typeIn K (.ref f)=U (.type "function"))
  (h:jA (cv prog w) (A.under<|.builtin "type.__call__" ⟨.ref C::vs,a⟩) (.call (.ref f) ⟨.ref (s.heap.objs.size+1)::vs,a⟩) (PySem.W.InitBack (s.heap.objs.size+1) R)
   {s with heap:=(s.heap.push uE).push (wH C s.heap.objs.size)}) :
  jA (cv prog w) A (.call (.ref C) ⟨vs,a⟩) R s:=by
 exact PySem.W.make_core (PySem.W.makes_of X b) (PySem.W.looks_findIn X c) (λself=>PySem.W.bind_fn X self e) (.inl J) h
end
def eL(f:Str)(v:V):List (Str×V)->List (Str×V)
 |[]=>[(f,v)]
 |(g,x)::r=>if g=f then(g,v)::r else(g,x)::eL f v r
theorem nE(f g:Str)(v:V):∀fs:List<|Str×V,(eL f v fs).lookup g=if g=f then U v else fs.lookup g
 |[]=>by
  show iA g [(f,v)]=_;grind
 |(k,x)::r=>by
  have b:=nE f g v r;rw[show eL f v _=(if k=f then(k,v)::r else(k,x)::eL f v r)from J]
  grind
theorem mK(f:Str)(v:V):∀fs:List<|Str×V,f∈(eL f v fs).map (·.1)/\∀g,g∈fs.map (·.1)->g∈(eL f v fs).map (·.1)
 |[]=>⟨by simp[eL],λg h=>by simp at h⟩
 |(k,x)::r=>by
  obtain⟨b,a⟩:=mK f v r;rw[show eL f v _=(if k=f then(k,v)::r else(k,x)::eL f v r)from J]
  grind
theorem nF(f:Str)(v:V):∀fs:List<|Str×V,(eL f v fs).length<=fs.length+1
 |[]=>by simp[eL]
 |(k,x)::r=>by
  have a:=nF f v r;rw[show eL f v _=(if k=f then(k,v)::r else(k,x)::eL f v r)from J]
  by_cases hk:k=f
  .rw[b0 hk,dU,dU];lia
  .rw[bt hk,dU,dU];lia
def ia.some_of{o:D2}(r:ia (U v) o):∃u,o=U u/\RelV v u:=by
 cases o with
 |none=>exact(r).elim
 |some u=>exact⟨u,J,r⟩
def ia.none_of{o:D2}(r:ia Y o):o=Y:=by
 cases o with
 |none=>rfl
 |some u=>exact(r).elim
def Es(r:RelV v u):O4 u=O:=by
 cases v with
 |non=>cases(r);rfl
 |bl b=>cases(r);rfl
 |int i=>obtain⟨t,e⟩:=(r);cases e;rfl
 |str x=>obtain⟨t,e⟩:=(r);cases e;rfl
 |byt b=>obtain⟨t,e⟩:=(r);cases e;rfl
 |flt b=>obtain⟨t,e⟩:=(r);cases e;rfl
 |ref a=>cases(r);rfl
 |ty n=>cases(r);rfl
def lI(bF:kH P w H h)(e:H a=U (.ins C dx fs)):∃b,zM h a dx C b/\(∀f,ia (fs.lookup f)<|b f)/\mq b (fs.map (·.1))/\fs.length<=1000/\H dx=U (.own a):=by
 obtain⟨d,z,ne,ob,b,n,r,q⟩:=(bF a _ e);exact⟨b,⟨ob,n,ne⟩,r,q,z,d⟩
structure rF(K:bD)(C:ax):Prop where
 pg:wJ K C w1=O
 hd:wK K C=O
 po:F9 K C=O
 sa:f6 K (.ref C) "__setattr__" = U (U<|.builtin "object.__setattr__")
def rF.get{K:bD}(c:rF K C)(f:Str):wJ K C f=O:=c.pg
def cO(K:bD)(C:ax)(f:Str):Prop:=f6 K (.ref C) f=U Y
def cO.Xl{K:bD}{f:Str}(n:cO K C f):F_ K C f=U Y:=by
 unfold F_;rw[n];rfl
structure Meth(K:bD)(C:ax)(m:Str)(f:ax):Prop where
 at_:f6 K (.ref C) m=U (U<|.ref f)
 fn:D9 K (.ref f)=O
 kp:lC K (.ref f)=O
section
variable{f:Str}
def pU{b:Bool}{Q:F1}(I:Inv X ae B H s)(e:H a=U (.ins C dx fs))(c:rF X.K C)(n:cO X.K C f)(l:fs.lookup f=U v)
  (h:∀u s',Inv X ae B H s'->RelV v u->Q u s'):c4 (cv X.prog X.w) A (getAttr (.ref a) f b) Q E s:=by
 obtain⟨g,j,r,_,_,_⟩:=lI I.bF e;obtain⟨u,i,d⟩:=ia.some_of (l▸r f)
 exact get_map I.jk j (c.get f) c.hd n i (Es d)<|h u _ (I.tok _) d
def pV(I:Inv X ae B H s)(e:H a=U (.ins C dx fs))(c:rF X.K C)(k:Meth X.K C m g)(l:fs.lookup m=Y)
  (h:Q (.ref g,[.ref a]) s):c4 (cv X.prog X.w) A (uZ (.ref a) m pl) Q E s:=by
 obtain⟨b,f,r,_,_,_⟩:=lI I.bF e;have d:=ia.none_of (l▸r m)
 exact G9 I.jk f (c.get m) k.at_ k.fn d h
def pW{Q:F2}(I:Inv X ae B H s)(e:H a=U (.ins C dx fs))(c:rF X.K C)(n:cO X.K C f)(hl:fs.length<1000)(m:RelV y u)
  (h:∀s',Inv X ae B (upd H a<|.ins C dx<|eL f y fs) s'->Q () s'):c4 (cv X.prog X.w) A (v3 (.ref a) f u) Q E s:=by
 obtain⟨j,v,r,i,_,k⟩:=lI I.bF e;have hz:(fs.map (·.1)).length<=cC:=by rw[bQ,dZ];lia
 refine LU I.jk v c.sa c.po n.Xl c.hd i hz λh' d l=>h _ ?_;have hd:∃o,h'.get? dx=U o:=let⟨o,_,_,e',_⟩:=d.ns;⟨o,e'⟩;refine I.write (by rw[e];exact fA) (.inr k) (λb q t z=>(l.2 b t).trans z) hd ?_
 refine⟨by rw[aq v.ne];exact k,?_,v.ne,d.obj,_,d.ns,λg=>?_,λg p=>?_⟩
 .have:=nF f y fs;lia
 .show ia _ _
  rw[nE];by_cases q:g=f
  .rw[b0 q,b0 q];exact m
  .rw[bt q,bt q];exact r g
 .by_cases q:g=f
  .rw[q];exact(mK f y fs).1
  .refine(mK f y fs).2 g<|i g λz=>p ?_
   show(if g=f then U u else j g)=Y
   rw[bt q];exact z
def Inv.made(I:Inv X ae B H s):Inv X ae B (upd (upd H s.heap.objs.size<|.own<|s.heap.objs.size+1) (s.heap.objs.size+1)<|.ins C s.heap.objs.size [])
  {s with heap:=(s.heap.push uE).push (wH C s.heap.objs.size)}:=by
 have c:(s.heap.push uE).get? s.heap.objs.size=U uE:=c5 s.heap J;have h:=by
  have:=c5 (s.heap.push uE) (o:=wH C s.heap.objs.size) J
  rwa [kv]at this
 have g:(s.heap.push uE).Ns s.heap.objs.size λ_=>Y:=⟨uE,#[],_,c,J,(λe f=>dy f<|by simp),λ_=>J⟩
 have i:=I.laid (o:=.own<|s.heap.objs.size+1) (t':=s.toks) (λb u q=>ar _ q) (bP _) ⟨_,c⟩;refine i.laid (λb u q=>ar _ q) (uG<|kv _ _) ?_;have ne:s.heap.objs.size≠s.heap.objs.size+1:=eV<|pN _;refine⟨by rw[aq ne,ak],dO _,ne,h,λ_=>Y,(y6 g).at λo q=>ar _ q,λ_=>fA,λy d=>dy J d⟩
def LW(b:kn e f env (eE e env)=eE e env)
  (h:c4 (cv prog w) A (eE e env) (λo a=>c4 (cv prog w) A (getAttr o f O) Q E a) E s):c4 (cv prog w) A (eE (.Attribute e f pos) env) Q E s:=
 Attribute_any_ h (by rw[arm_eval_Attribute,b])
end
def Ř(K:bD)(c:TE)(f:Str):TE:=λb H Q=>c b H λx H1=>∃a C dx fs v,x=.ref a/\H1 a=U (.ins C dx fs)/\rF K C/\cO K C f/\fs.lookup f=U v/\Q v H1
def Xm(K:bD)(d tv:TE)(f:Str):TS:=λD b H=>tv b H λy H1=>d b H1 λx c=>∃a C dx fs,x=.ref a/\c a=U (.ins C dx fs)/\rF K C/\cO K C f/\fs.length<1000 /\
 D.nx b (upd c a<|.ins C dx<|eL f y fs)
def Xn(X:Cx)(op:og)(rd:V->V->Hp->VK->Prop):Prop:=
 ∀(ae:dJ)(s:ag)(a:St)(H:Hp)(x y:V)(u v:ao)(Q:VK),Inv X ae a H s->RelV x u->RelV y v->rd x y H Q->Gf X (inplaceOp op u v) (EP X ae a Q) X.xe s
def LX(K:bD)(e tv:TE)(rd:V->V->Hp->VK->Prop)(f:Str):TS:=λD b H=>e b H λx H1=>∃a C dx fs v,x=.ref a/\H1 a=U (.ins C dx fs)/\rF K C/\cO K C f/\fs.lookup f=U v /\
 tv b H1 λy g=>rd v y g λz d=>∃Ĕ c,d a=U (.ins C Ĕ c)/\c.length<1000/\D.nx b (upd d a<|.ins C Ĕ<|eL f z c)
section
variable{f:Str}
def Hb(he:PE X e ta)(j:kn e f X.env (eE e X.env)=eE e X.env):PE X (.Attribute e f pos)<|Ř X.K ta f:=by
 intro ae s b H Q I h;refine LW j<|cH (he ae s b H _ I h) λu r d=>?_;obtain⟨x,H1,o,g,a,C,dx,fs,v,ex,k,c,n,l,q⟩:=d;subst ex
 obtain rfl:u=Value.ref a:=g
 exact pU o k c n l λp s2 m i=>⟨v,H1,m,i,q⟩
def zN(k:PE X o ta)(j:PE X value tv)(hs:eP value (U<|.Attribute o f B) pos.line X.env=pure Zb):PS X (.Assign [.Attribute o f B] value pos)<|Xm X.K ta tv f:=by
 intro ae s b H D I h;refine mn (cH (j ae s b H _ I h) λu e d=>?_) hs;obtain⟨y,H1,t,g,q⟩:=d;refine cH (k ae e b H1 _ t q) λov s2 d=>?_;obtain⟨x,w,r,i,a,C,dx,fs,ex,m,c,n,l,q2⟩:=d;subst ex
 obtain rfl:ov=Value.ref a:=i
 exact pW r m c n l g λv p=>⟨b,_,p,q2⟩
def Et(B:PE X o ta)(A:PE X value tv)(e:Xn X op rd):PS X (.AugAssign (.Attribute o f jy) op value pos)<|LX X.K ta tv rd f:=by
 intro ae s d H D I h;refine wpAny_AugAssign_AttributeAny<|cH (B ae s d H _ I h) λov W b=>?_;obtain⟨x,H1,N,p,a,C,dx,fs,v,ex,E,c,n,l,q⟩:=b;subst ex
 obtain rfl:ov=Value.ref a:=p
 refine pU N E c n l λu s2 M r=>cH (A ae s2 d H1 _ M q) λi j b=>?_;obtain⟨y,P,L,m,t⟩:=b;refine cH (e ae j d P v y u i _ L r m t) λQ T b=>?_;obtain⟨z,Z,G,k,Ĕ,R,g,w,q4⟩:=b;exact pW G g c n w k λS F=>⟨d,_,F,q4⟩
def ř:V->V->Hp->VK->Prop:=λx y H Q=>∃i j,x=.int i/\y=.int j/\Q (.int<|i+j) H
def SD:Xn X .Add ř:=by
 rintro ae s d H x y u v Q I c b ⟨i,j,rfl,rfl,q⟩
 obtain⟨t,rfl⟩:=(c);obtain⟨a,rfl⟩:=(b);exact PyProof.Rows.iadd_int ⟨.int _,H,I.tok _,⟨_,J⟩,q⟩
end
section
variable{Q:F1}{b:Bool}
inductive j7(K:bD)(H:Hp):V->ao->Prop where
 |non:j7 K H .non<|.type "NoneType"
 |bl (x:Bool):j7 K H (.bl x)<|.type "bool"
 |int (i:Int):j7 K H (.int i)<|.type "int"
 |str (x:Str):j7 K H (.str x)<|.type "str"
 |flt (x:UInt64):j7 K H (.flt x)<|.type "float"
 |lst {a:ax} {xs:List V} (e:H a=U (.lst xs)):j7 K H (.ref a)<|.type "list"
 |iD {a:ax} {o:Obj} {xs:List V} (e:H a=U (.iD o<|.lst xs)):j7 K H (.ref a)<|.type "list"
 |tup {a:ax} {xs:List V} (e:nB K H a xs):j7 K H (.ref a)<|.type "tuple"
 |dK {a:ax} {kvs:List<|Key×V} (e:H a=U (.dK kvs)):j7 K H (.ref a)<|.type "dict"
 |dT {a:ax} {kvs:List<|List Key×V} (e:H a=U (.dT kvs)):j7 K H (.ref a)<|.type "dict"
 |ins {a C dx:ax} {fs:List<|Str×V} (e:H a=U (.ins C dx fs)) (cl:rF K C) (ha:f6 K (.ref C) "__class__" = U (U<|.builtin Hl))
   (hn:Bf K (.builtin Hl) "__get__" = U (U<|.builtin "getset_descriptor.__get__")) (BK:Bg K (.builtin Hl)=U O)
   (hm:D_ K C (.type "object")=U O):j7 K H (.ref a)<|.ref C
def s_{x:V}(I:Inv X ae G H s)(d:RelV x u)(ty:j7 X.K H x t)(e:pK X.K t c=U b)(h:∀tk,Q (.bool b) {s with toks:=tk}) :
  c4 (cv X.prog X.w) A (call (.builtin "isinstance") [u,c]) Q E s:=by
 cases ty with
 |non=>cases(d);exact pL PySem.W.kitx_none I.jk fA e (λz=>nomatch z) h
 |bl y=>cases(d);exact pL PySem.W.kitx_bool I.jk fA e (λz=>nomatch z) h
 |int i=>obtain⟨t,q⟩:=(d);cases q;exact pL PySem.W.kitx_int I.jk fA e (λz=>nomatch z) h
 |str y=>obtain⟨t,q⟩:=(d);cases q;exact pL PySem.W.kitx_str I.jk fA e (λz=>nomatch z) h
 |flt y=>obtain⟨t,q⟩:=(d);cases q;exact pL PySem.W.kitx_float I.jk fA e (λz=>nomatch z) h
 | @lst a xs f=>
  cases(d);obtain⟨_,_,n,_,g⟩:=(I.bF a _ f);exact pL O5 I.jk ⟨_,g,J⟩ e (λz=>nomatch z) h
 | @iD a ob xs f=>
  cases(d);obtain⟨_,_,_,n,_,g⟩:=(I.bF a _ f);exact pL O5 I.jk ⟨_,g,J⟩ e (λz=>nomatch z) h
 | @tup a xs f=>
  cases(d);obtain⟨_,_,p,_⟩:=I.tuple f;obtain⟨o,g,k,_⟩:=p;exact pL PySem.W.kitx_tuple I.jk ⟨o,g,k⟩ e (λz=>nomatch z) h
 | @dK a j f=>
  cases(d);obtain⟨_,_,D,_,p⟩:=(I.bF a _ f);obtain⟨o,es,v,g,k,_⟩:=p;exact pL O6 I.jk ⟨o,g,k.1⟩ e (λz=>nomatch z) h
 | @dT a j f=>
  cases(d);obtain⟨_,_,xs,_,o,es,v,g,k,_⟩:=(I.bF a _ f);exact pL O6 I.jk ⟨o,g,k.1⟩ e (λz=>nomatch z) h
 | @ins a C dx fs f cl r l B m=>
  cases(d);obtain⟨F,L,_⟩:=lI I.bF f;obtain⟨od,M,_⟩:=L.look;exact pL (O7 (cl.get _) cl.hd r l B m) I.jk M e (λz=>nomatch z) h
end
structure bI(k:Nat)(A:ef):Prop where
 hd:A.handled=Y
 dp:A.depth+3*k+5<recursionLimit
 un:A.units+16*k+200<kf
def bI.mono(r:bI k A)(h:j<=k):bI j A:=⟨r.hd,by have:=r.dp;lia,by have:=r.un;lia⟩
theorem bI.deeper(r:bI (k+1) A)(env:Env):bI k<|A.deeper env:=
 ⟨r.hd,by have:=r.dp;show A.depth+1+3*k+5<_;lia,by have:=r.un;show A.units+3+16*k+200<_;lia⟩
def zP{a:List<|Str×ao}:(A.under<|.builtin "type.__call__" ⟨.ref C::us,a⟩).depth=A.depth+1:=by
 rfl
def zQ{a:List<|Str×ao}:(A.under<|.builtin "type.__call__" ⟨.ref C::us,a⟩).units=A.units+1:=by
 rfl
def bI.make(r:bI (k+1) A)(C:ax)(us:B2)(a:List<|Str×ao):bI k<|A.under<|.builtin "type.__call__" ⟨.ref C::us,a⟩:=
 ⟨r.hd,by have:=r.dp;rw[zP];lia,by have:=r.un;rw[zQ];lia⟩
theorem bI.depth(r:bI k A):A.depth<recursionLimit:=by have:=r.dp;lia
theorem bI.units(r:bI k A):A.units+64<kf:=by have:=r.un;lia
def LY:TA:=λ_ H Q=>Q [] H
def Xo(b:TE)(tr:TA):TA:=λa H Q=>b a H λx H1=>tr a H1 λxs c=>Q (x::xs) c
def cy:PA X [] LY:=λ_ _ _ _ H Q I h=>B8 ⟨[],H,I,.nil,h⟩
def aU(g:PE X e v)(hr:PA X es t)(hs:c3 (e::es) X.env=(Zb,eE e X.env)::c3 es X.env:=by rfl):PA X (e::es)<|Xo v t:=by
 intro pos ae s a H Q I h;rw[hs];show c4 _ _ (spliced<|(Zb,eE e X.env)::hG pos (c3 es X.env)) _ _ s;refine qr<|cH (g ae s a H _ I h) λu c b=>?_;obtain⟨x,H1,j,f,q1⟩:=b;exact cH (hr pos ae c a H1 _ j q1) (by rintro l s2 ⟨xs,k,i,d,q2⟩;exact⟨x::xs,k,i,.cons f d,q2⟩)
def Ś(t:TA):TE:=λa H Q=>t a H λxs H1=>xs.length<=cC/\∀p,H1 p=Y->Q (.ref p) (upd H1 p<|.tup xs)
def ś(t:TA):TE:=λa H Q=>t a H λxs H1=>xs.length<=cC/\∀p,H1 p=Y->Q (.ref p) (upd H1 p<|.lst xs)
def Hc{g}(h:PA X es t):PE X (.Tuple es g pos)<|Ś t:=by
 intro ae s d H Q I j;refine wpAny_Tuple_spliced<|cH (h pos ae s d H _ I j) λi a f=>?_;obtain⟨xs,H1,c,r,z,q⟩:=f;refine⟨by rw[<- r.length];exact z,?_⟩
 have k:=c.bF.fresh<|bP _;refine⟨.ref a.heap.objs.size,upd H1 a.heap.objs.size _,c.laid (λb u e=>ar _ e) (bP _) ?_,J,q _ k⟩;exact⟨z,i,r,⟨_,c5 _ J,J,_,J⟩⟩
def pX(h:PA X es t):PE X (.List es pos)<|ś t:=by
 intro ae s d H Q I i;refine wpAny_List_spliced<|cH (h pos ae s d H _ I i) λg a f=>?_;obtain⟨xs,H1,c,r,z,q⟩:=f;refine⟨by rw[<- r.length];exact z,?_⟩
 have j:=c.bF.fresh<|bP _;refine⟨.ref a.heap.objs.size,upd H1 a.heap.objs.size _,c.laid (λb u e=>ar _ e) (bP _) ?_,J,q _ j⟩;exact⟨z,g,0,r,c5 _ J⟩
abbrev Sp:=List V->Hp->VK->XK->Prop
abbrev FP:=List Env->Hp->ag->XK->F1
structure zR(P:da)(w:de)(K:bD)(mg:Str->D2)(base:eh)(A:ef)(outer:List Env)(s:ag)(H:Hp):Prop where
 frames:A.frames=U outer
 mod:Mod K mg base
 bs:∀b o,base.get? b=U o->s.heap.get? b=U o/\H b=Y
 bsz:base.objs.size<=s.heap.objs.size
 mH:s.heap.FunFrames base outer
 frf:∀b∈lE outer,H b=Y
 bF:kH P w H s.heap
 bare:kx s.gens
def CE(outer:List Env)(P:da)(w:de)(H:Hp)(s:ag)(Q:VK)(u:ao)(s':ag):Prop:=
 ∃v H',s'.os=s.os/\kx s'.gens/\Un (lE outer) [] H H' s.heap s'.heap/\kH P w H' s'.heap/\RelV v u/\Q v H'
def CR(CX:FP)(outer:List Env)(P:da)(w:de)(H:Hp)(s:ag)(Q:VK)(E:XK)(r:Result)(s':ag):Prop:=
 match r with
 |.ok<|.ret u=>CE outer P w H s Q u s'
 |.ok _=>False
 |.error e=>CX outer H s E e s'
structure cX(P:da)(w:de)(K:bD)(mg:Str->D2)(base:eh)(CX:FP)(k:Nat)(f:ax)(fd:dA)(ps:Bi)(sp:Sp):Prop where
 len:∀vs H Q E,sp vs H Q E->vs.length=ps.length
 run:∀(A:ef)(outer:List Env)(s:ag)(H:Hp)(args:Args)(us:B2)(vs:List V)(Q:VK)(E:XK),bI k A->zR P w K mg base A outer s H->EZ s fd args (ps.zip us)->Vals vs us->sp vs H Q E ->
  jA (cv P w) A (.call (.ref f) args) (CR CX outer P w H s Q E) s
def cX.imp{K:bD}{sp a:Sp}(F:cX P w K mg base CX k f fd ps sp)
  (h:∀vs H Q E,a vs H Q E->sp vs H Q E):cX P w K mg base CX k f fd ps a:=
 ⟨λvs H Q E q=>F.len vs H Q E<|h _ _ _ _ q,λA outer s H b c vs Q E hr e g d hs=>F.run A outer s H b c vs Q E hr e g d<|h _ _ _ _ hs⟩
def zR.make{K:bD}(e:zR P w K mg base A outer s H)(C:ax)(us:B2)(a:List<|Str×ao) :
  zR P w K mg base (A.under<|.builtin "type.__call__" ⟨.ref C::us,a⟩) outer s H:=⟨by first|exact e.frames,e.mod,e.bs,e.bsz,e.mH,e.frf,e.bF,e.bare⟩
def Inv.LZ(I:Inv X ae j H s):zR X.prog X.w X.K X.mg X.base X.A X.stack s H:=
 ⟨I.ok.frames,I.ok.mod,I.bs,cJ I.ok.bsz I.sz,I.stack,I.oR,I.bF,I.bare⟩
def Inv.after(I:Inv X ae j H s)(h:CE X.stack X.prog X.w H s Q u s'):EP X ae j Q u s':=by
 obtain⟨v,H',os,bare,un,bF,r,q⟩:=h;obtain⟨c,g,d,t,a⟩:=s'
 obtain rfl:a=s.os:=os
 exact⟨v,H',I.call un bF bare λb z=>dy z<|by simp,r,q⟩
def Qh(sp:Sp)(c:List V)(E:XK)(t:TA):TE:=λa H Q=>t a H λb H1=>sp (b++c) H1 Q E
def xA(C:ax)(m:Str)(sp:Sp)(e:List V)(E:XK)(d:TE)(t:TA):TE:=λb H Q=>d b H λx H1=>∃a dx fs,x=.ref a/\H1 a=U (.ins C dx fs)/\fs.lookup m=Y /\
 t b H1 λc f=>sp (x::(c++e)) f Q E
def Xp(C:ax)(sp:Sp)(c:List V)(E:XK)(t:TA):TE:=λa H Q=>t a H λb H1=>∀x dx,H1 x=Y->H1 dx=Y->dx≠x ->
 sp (.ref x::(b++c)) (upd (upd H1 dx<|.own x) x<|.ins C dx []) (λv d=>v=.non/\Q (.ref x) d) E
def Binds(K:bD)(fd:dA)(ps:Bi)(ds:B2):Prop:=
 ∀(s:ag)(a:B2),K.In s.heap->(a++ds).length=ps.length->EZ s fd ⟨a,[]⟩ (ps.zip<|a++ds)
def Binds.all{K:bD}{ps:Bi}(h:∀us:B2,us.length=ps.length->bindArgs fd ⟨us,[]⟩=pure (ps.zip us)):Binds K fd ps []:=λs us _ hl=>by
 rw[b9]at hl ⊢;exact .of_eq<|h us hl
def Passes(CX:FP)(X:Cx)(E:XK):Prop:=∀(ae:dJ)(b:St)(H:Hp)(s:ag)(e:ao)(a:ag),Inv X ae b H s->CX X.stack H s E e a->X.xe e a
section
variable{E:XK}{x m:Str}
def uU{b:St}(F:cX X.prog X.w X.K X.mg X.base CX k f fd ps sp)(hr:bI k X.A)(i:Binds X.K fd ps ds)(hd:Vals L ds)(g:Passes CX X E)
  (I:Inv X ae b H s) (r:Vals vs us) (h:sp (vs++L) H Q E):Gf X (call (.ref f) us) (EP X ae b Q) X.xe s:=by
 have c:=r.append hd;have hl:(us++ds).length=ps.length:=c.length▸F.len _ _ _ _ h
 refine iv<|gV (F.run X.A X.stack s H _ _ _ Q E hr I.LZ (i s us I.jk hl) c h) λr d a=>?_;cases r with
 |error e=>exact g ae b H s e d I a
 |ok j=>
  cases j with
  |ret u=>exact I.after a
  |next=>exact eJ a
  |brk=>exact eJ a
  |cont=>exact eJ a
def BL(F:cX X.prog X.w X.K X.mg X.base CX k f fd ps sp)(hr:bI k X.A)(j:Gl X x)(i:X.mg x=U (.ref f))(hk:lC X.K (.ref f)=O)(l:Binds X.K fd ps ds)(hd:Vals L ds)(g:Passes CX X E)
  (m:PA X (e::es) t) (d:bB x:=by decide) (he:c3 (e::es) X.env=(Zb,eE e X.env)::c3 es X.env:=by rfl) (hpl:(hG pos<|c3 es X.env).any (·.1)=Zb:=by rfl) :
  PE X (.Call (.Name x p) (e::es) [] pos)<|Qh sp L E t:=by
 intro ae s b H Q I h;refine ff<|gp I j i ?_ d;refine Bj (h₀:=X.base) I.ok.mod.kin hk (cH (m pos ae s b H _ I h) λo u c=>?_) he hpl;obtain⟨n,H1,a,r,q⟩:=c;refine⟨a.jk,?_⟩;exact uU F hr l hd g a r q
def Hd(F:cX X.prog X.w X.K X.mg X.base CX k f fd ps sp)(hr:bI k X.A)(d:Gl X x)(c:X.mg x=U (.ref f))(hk:lC X.K (.ref f)=O)(e:Binds X.K fd ps ds)(hd:Vals L ds)(b:Passes CX X E)
  (a:bB x:=by decide):PE X (.Call (.Name x p) [] [] pos)<|Qh sp L E LY:=by
 intro ae s g H Q I h;refine ff<|gp I d c ?_ a;exact Gd I.jk hk<|uU (us:=[]) F hr e hd b I .nil h
def BN(he:PE X o R)(c:rF X.K C)(g:Meth X.K C m f)(F:cX X.prog X.w X.K X.mg X.base CX k f fd ps sp)(hr:bI k X.A)(y:Binds X.K fd ps ds)(hd:Vals L ds)(v:Passes CX X E)(z:PA X (e::es) t)
  (D:c3 (e::es) X.env=(Zb,eE e X.env)::c3 es X.env:=by rfl) (hpl:(hG pos<|c3 es X.env).any (·.1)=Zb:=by rfl)
  (ht:eE (.Call (.Attribute o m N) (e::es) [] pos) X.env=(do
   let ov <- eE o X.env
   ri N.atName
   let(f,first) <- ry [ov] (uZ ov m pl)
   callWith pos f first (hG pos<|c3 (e::es) X.env) (o4 pos<|kS [] X.env)):=by rfl) :
  PE X (.Call (.Attribute o m N) (e::es) [] pos)<|xA C m sp L E R t:=by
 intro ae s d H Q I h;refine O8 (pl:=pl) (cH (he ae s d H _ I h) λu n b=>?_) ht;obtain⟨x,H1,j,p,a,dx,fs,ex,B,l,q⟩:=b;subst ex
 obtain rfl:u=Value.ref a:=p
 refine pV j B c g l ?_;refine Bj (first:=[.ref a]) (h₀:=X.base) I.ok.mod.kin g.kp (cH (z pos ae n d H1 _ j q) λus s2 b=>?_) D hpl
 obtain⟨vs,G,i,r,q2⟩:=b;refine⟨i.jk,?_⟩;exact uU (us:=.ref a::us) (vs:=.ref a::vs) F hr y hd v i (.cons J r) q2
def xC(he:PE X o R)(c:rF X.K C)(d:Meth X.K C m f)(F:cX X.prog X.w X.K X.mg X.base CX k f fd ps sp)(hr:bI k X.A)(n:Binds X.K fd ps ds)(hd:Vals L ds)(j:Passes CX X E)
  (ht:eE (.Call (.Attribute o m N) [] [] pos) X.env=(do
   let ov <- eE o X.env
   ri N.atName
   let(f,first) <- ry [ov] (uZ ov m pl)
   callWith pos f first (hG pos<|c3 [] X.env) (o4 pos<|kS [] X.env)):=by rfl) :
  PE X (.Call (.Attribute o m N) [] [] pos)<|xA C m sp L E R LY:=by
 intro ae s e H Q I h;refine O8 (pl:=pl) (cH (he ae s e H _ I h) λu r g=>?_) ht;obtain⟨x,H1,b,i,a,dx,fs,ex,p,l,q⟩:=g;subst ex
 obtain rfl:u=Value.ref a:=i
 refine pV b p c d l ?_;exact Gd (first:=[.ref a]) b.jk d.kp<|uU (us:=[.ref a]) (vs:=[.ref a]) F hr n hd j b (.cons J .nil) q
structure Mk(K:bD)(C f:ax):Prop where
 makes:wL K C=O
 init:f6 K (.ref C) "__init__" = U (U<|.ref f)
 fn:D9 K (.ref f)=O
 kp:lC K (.ref C)=O
def Hf{Q:VK}(M:Mk X.K C f)(F:cX X.prog X.w X.K X.mg X.base CX k f fd ps sp)(hr:bI (k+1) X.A)(n:Binds X.K fd ps ds)(hd:Vals L ds)
  (m:Passes CX X E) (I:Inv X ae c H s) (r:Vals vs us)
  (h:∀x dx,H x=Y->H dx=Y->dx≠x->sp (.ref x::(vs++L)) (upd (upd H dx<|.own x) x<|.ins C dx []) (λv t=>v=.non/\Q (.ref x) t) E) :
  Gf X (call (.ref C) us) (EP X ae c Q) X.xe s:=by
 have g:=h _ s.heap.objs.size (I.bF.fresh<|wN _) (I.bF.fresh<|bP _)<|eV<|pN _;have b:=Inv.made (C:=C) I;have d:Vals (V.ref (s.heap.objs.size+1)::(vs++L)) _:=.cons J<|r.append hd;have hl:=by
  have e:=d.length;rw[F.len _ _ _ _ g]at e;exact e.symm
 refine iv<|G_ I.jk M.makes M.init (beq_iff_eq.mp M.fn)<|gV (F.run _ X.stack _ _ _ _ _ _ E (hr.make C us [])
  (b.LZ.make C us []) (n _ _ b.jk hl) d g) λr i a=>?_
 cases r with
 |error e=>exact m ae c _ _ e i b a
 |ok o=>
  cases o with
  |ret u=>
   obtain⟨v,H',q,j,p,l⟩:=b.after a;subst p;exact⟨j,⟨V.ref _,H',q,J,l⟩⟩
  |next=>exact eJ a
  |brk=>exact eJ a
  |cont=>exact eJ a
def oV(M:Mk X.K C f)(F:cX X.prog X.w X.K X.mg X.base CX k f fd ps sp)(hr:bI (k+1) X.A)(j:Gl X x)(i:X.mg x=U (.ref C))(l:Binds X.K fd ps ds)(hd:Vals L ds)(g:Passes CX X E)
  (m:PA X (e::es) t) (d:bB x:=by decide) (he:c3 (e::es) X.env=(Zb,eE e X.env)::c3 es X.env:=by rfl) (hpl:(hG pos<|c3 es X.env).any (·.1)=Zb:=by rfl) :
  PE X (.Call (.Name x p) (e::es) [] pos)<|Xp C sp L E t:=by
 intro ae s b H Q I h;refine ff<|gp I j i ?_ d;refine Bj (h₀:=X.base) I.ok.mod.kin M.kp (cH (m pos ae s b H _ I h) λo u c=>?_) he hpl;obtain⟨n,H1,a,r,q⟩:=c;refine⟨a.jk,?_⟩;exact Hf M F hr l hd g a r q
end
structure gS(N P:Bi)(sc:f7):Prop where
 kind:sc.kind=.function
 co:sc.isCoroutine=Zb
 gen:sc.isGenerator=Zb
 nd:N.Nodup
 pre:N.take P.length=P
 par:∀x∈P,sc.names.lookup x=U .local\/sc.names.lookup x=U .cell
 nofree:∀y∈sc.names,y.2≠.free
theorem tm{kindOf:Str->Option o6}{x:Str}:∀{a:List<|Str×ao}{m:Str->D2},(∀v,(x,v)∉a)->BR kindOf a m x=m x
 |[],_,_=>J
 |(n,v)::r,m,h=>by
  unfold BR;rw[tm λw b=>h w<|eG _ b];split
  .have:x≠n:=by rintro rfl;exact h v d_
   simp[this]
  .rfl
theorem tu{kindOf:Str->Option o6}{x:Str}:∀{a:List<|Str×ao}{m:Str->D2},(∀v,(x,v)∉a)->B0 kindOf a m x=m x
 |[],_,_=>J
 |(n,v)::r,m,h=>by
  unfold B0;rw[tu λw b=>h w<|eG _ b];split
  .rfl
  .have:x≠n:=by rintro rfl;exact h v d_
   simp[this]
theorem tD{kindOf:Str->Option o6}{x:Str}:∀{P:Bi}{vs:B2}{i:Nat}{m:Str->D2},P.Nodup->P[i]?=U x->vs[i]?=U v->kindOf x=U .local ->
  BR kindOf (P.zip vs) m x=U v
 |[],_,_,_,_,h,_,_=>by simp at h
 |_::_,[],_,_,_,_,h,_=>by simp at h
 |p::P,w::vs,0,m,nd,b,a,hk=>by
  simp at b a;subst b;subst a;show BR kindOf ((p,w)::P.zip vs) m p=_;unfold BR;rw[tm λv c=>(pO.mp nd).1 (Br c).1,b0 hk];simp
 |p::P,w::vs,i+1,m,nd,b,a,hk=>by
  show BR kindOf _ m x=_;unfold BR;exact tD (pO.mp nd).2 (by simpa using b) (by simpa using a) hk
theorem tF{kindOf:Str->Option o6}{x:Str}:∀{P:Bi}{vs:B2}{i:Nat}{m:Str->D2},P.Nodup->P[i]?=U x->vs[i]?=U v->kindOf x≠U .local ->
  B0 kindOf (P.zip vs) m x=U v
 |[],_,_,_,_,h,_,_=>by simp at h
 |_::_,[],_,_,_,_,h,_=>by simp at h
 |p::P,w::vs,0,m,nd,b,a,hk=>by
  simp at b a;subst b;subst a;show B0 kindOf ((p,w)::P.zip vs) m p=_;unfold B0;rw[tu λv c=>(pO.mp nd).1 (Br c).1,bt hk];simp
 |p::P,w::vs,i+1,m,nd,b,a,hk=>by
  show B0 kindOf _ m x=_;unfold B0;exact tF (pO.mp nd).2 (by simpa using b) (by simpa using a) hk
def start(N:Bi)(vs:List V):St:=vs.map U++cK (N.length-vs.length) Y
def mL(CX:FP)(P:da)(w:de)(K:bD)(mg:Str->D2)(base:eh)(N:Bi)(qual:Str)(scope:f7)(f:ax)(a:ao)(A:ef)(outer:List Env)(s:ag)(H:Hp)(E:XK):Cx where
 prog:=P
 w:=w
 K:=K
 mg:=mg
 base:=base
 A:=A.deeper (u0 qual scope s.heap.objs.size f a)
 N:=N
 s₀:=s
 H₀:=H
 env:=u0 qual scope s.heap.objs.size f a
 outer:=outer
 stack:=u0 qual scope s.heap.objs.size f a::outer
 ex:=[]
 calm:=O
 fn:=λ_=>O
 pn:=[]
 xe:=λe c=>c4 (cv P w) (A.deeper<|u0 qual scope s.heap.objs.size f a) (v5 (u0 qual scope s.heap.objs.size f a) e) (λ_ b=>CX outer H s E e b) (λe' b=>CX outer H s E e' b) c
def xF{sc:f7}{x:Str}(h:sc.names.lookup x=U .cell):∃c,(cellsFrom n sc.names []).lookup x=U c:=by
 have q:=O9 sc.names n []<|.inl h;exact GO.mp q
def Ew{K:bD}{E:XK}
  (S:gS N ps scope) (hd:A.handled=Y) (g:zR P w K mg base A outer s H) (hl:vs.length=ps.length) (r:Vals vs us)
  (x:InCallC s s.heap.objs.size (BR (u0 qual scope s.heap.objs.size f B).kindOf (ps.zip us) λ_=>Y) (cellsFrom (s.heap.objs.size+1) scope.names []) (B0 (u0 qual scope s.heap.objs.size f B).kindOf (ps.zip us) λ_=>Y) s1) :
  Inv (mL CX P w K mg base N qual scope f B A outer s H E) [] (start N vs) H s1:=by
 have F:ps.length<=N.length:=by have:=dv Bs S.pre;rw[kB]at this;lia
 obtain⟨t,tk,rfl,hk⟩:=x.done;have Xq:∀b:ax,b∉(mL CX P w K mg base N qual scope f B A outer s H E).ex:=λb z=>dy (show b∈[]from z) (by simp)
 refine⟨⟨g.mod,S.kind,J,J,bP _,λy z c t d=>?_,λy j=>?_,λy c _ h=>?_,λ_=>hd,Around.frames_deeper g.frames,.inr ⟨J,J⟩,λb z=>dy z<|Xq b,g.bs,g.bsz,λb _ _=>Xq b,λb z=>dy z<|Xq b,g.mH,g.frf⟩,
  J,g.bare,Un.kept hk,⟨_,x.toInCall.ns,λi y v t d I=>?_⟩,λy c h=>⟨_,x.cell y c h⟩,g.bF.fresh<|bP _,λy c h=>?_,λp m=>dy (show p∈[]from m)<|by simp,g.bF.kept hk,?_⟩
 .exact name_of_addr x.apart (gN t)<|gN d
 .have j:=j
  rcases j with j|j
  .exact xF j
  .exact dy J<|S.nofree _<|gN j
 .exact Gh<|x.above y c<|gN h
 .have o:i<vs.length:=by
   unfold start at d;by_cases o:i<vs.length
   .exact o
   .rw[iB<|by simpa using o]at d
    rw[zo]at d;split at d<;>cases d
  have G:vs[i]?=U v:=by
   unfold start at d;rw[j4<|by simpa using o,eX]at d
   cases e:vs[i]? with
   |none=>rw[e]at d;cases d
   |some a=>rw[e]at d;cases d;rfl
  obtain⟨u,C,D⟩:=r.get G;have m:ps[i]?=U y:=by
   rw[<- S.pre,List.getElem?_take_of_lt<|by lia];exact t
  have l:ps.Nodup:=by rw[<- S.pre];exact S.nd.sublist<|List.take_sublist _ _
  refine⟨u,D,?_⟩;rcases S.par y (ji m)with k|k
  .exact .inl ⟨k,tD l m C k⟩
  .obtain⟨c,e⟩:=xF k
   refine .inr ⟨.inl k,c,e,?_⟩;have q:=x.cell y c e;rw[tF l m C<|by show scope.names.lookup y≠_;rw[k];decide]at q
   exact q
 .exact g.bF.fresh<|Gh<|x.above y c<|gN h
 .unfold start
  show _=N.length;rw[bU,bQ,wU]
  lia
def Qi{K:bD}{a:Arguments}{B kV i z g ct M:ao}
    {sp:Sp} (lk:K.lookup f=U ⟨M,od,.func<|zk name qual a c scope B kV i z an g ct,G⟩) (R:Ge K g qual=O) (S:gS N ps scope)
  (len:∀vs H Q E,sp vs H Q E->vs.length=ps.length)
  (Hg:∀(A:ef)(outer:List Env)(s:ag)(H:Hp)(vs:List V)(Q:VK)(E:XK),bI k (A.deeper<|u0 qual scope s.heap.objs.size f g)->sp vs H Q E ->
   ∃t,iz (mL CX P w K mg base N qual scope f g A outer s H E) c t/\t {nx:=λ_ H'=>Q .non H',rt:=Q} (start N vs) H) :
  cX P w K mg base CX (k+1) f (zk name qual a c scope B kV i z an g ct) ps sp:=by
 refine⟨len,λA outer s H C L vs Q E hr h hb r D=>?_⟩;have hl:=len _ _ _ _ D;have F:=h.mod.kin.keeps λb o e=>(h.bs b o e).1;have m:=h.mod.nolimit.keeps λb o e=>(h.bs b o e).1;have Xr:∀y∈ps.zip L,scope.names.lookup y.1=U .local\/(scope.names.lookup y.1=U .cell/\((cellsFrom (s.heap.objs.size+1) scope.names []).lookup y.1).isSome=O):=λ⟨n,v⟩ T=>by
  rcases S.par n (Br T).1 with q|q
  .exact .inl q
  .exact .inr ⟨q,O9 _ _ _<|.inl q⟩
 refine codeAny_call_function hr.depth (F _ _ lk) J S.co S.gen J (PySem.W.codeRec_of F R)<|hb _ _ _ _ ?_;refine wpAny_newFunctionEnv_cells S.kind Xr λenv Z p x=>?_;subst Z;refine⟨m.keeps x.toInCall.keep,codeAny_func ?_⟩;obtain⟨t,ht,X⟩:=Hg A outer s H vs Q E (hr.deeper _) D;have I:Inv (mL CX P w K mg base N qual scope f g A outer s H E) [] _ H p:=Ew S hr.hd h hl r x;refine ey (ht [] p _ H _ I X) (λfl j hs=>?_) λe j hs=>hs;have fin:∀{d:St}{H':Hp}{v:V}{u:ao},Inv (mL CX P w K mg base N qual scope f g A outer s H E) [] d H' j->RelV v u->Q v H'->CE outer P w H s Q u j:=
  λ{d H' v u} qC l q=>⟨v,H',qC.os,qC.bare,qC.base,qC.bF,l,q⟩
 cases fl with
 |ret u=>
  obtain⟨v,d,H',qC,l,q⟩:=hs;exact fin qC l q
 |next=>
  obtain⟨d,H',qC,q⟩:=hs;exact fin (v:=V.non) qC J q
 |brk=>
  obtain⟨_,_,_,q⟩:=hs;exact eJ q
 |cont=>
  obtain⟨_,_,_,q⟩:=hs;exact eJ q
section
variable{x:Str}{id T:String}
def Ŝ(r:List V->Hp->VK->Prop)(t:TA):TE:=λa H Q=>t a H λb H1=>r b H1 Q
def gA(m:fM X (.builtin id) r)(l:Gl X x)(k:X.mg x=Y)(i:hF x=U (.builtin id))(n:PA X (e::es) t)(j:x ≠ "__name__" := by decide)(g:bB x:=by decide)
  (he:c3 (e::es) X.env=(Zb,eE e X.env)::c3 es X.env:=by rfl) (hpl:(hG pos<|c3 es X.env).any (·.1)=Zb:=by rfl):PE X (.Call (.Name x p) (e::es) [] pos)<|Ŝ r t:=by
 intro ae s a H Q I h;refine ff<|iU I l k i ?_ j g;exact PyProof.Rows.callWith_builtin1 (cH (n pos ae s a H _ I h)<|by rintro c d ⟨b,H1,o,f,q1⟩;exact m ae d a H1 b c Q o f q1) he hpl
def iF(m:fM X (.type T) r)(l:Gl X x)(k:X.mg x=Y)(i:hF x=U (.type T))(n:PA X (e::es) t)(j:x ≠ "__name__" := by decide)(g:bB x:=by decide)
  (he:c3 (e::es) X.env=(Zb,eE e X.env)::c3 es X.env:=by rfl) (hpl:(hG pos<|c3 es X.env).any (·.1)=Zb:=by rfl):PE X (.Call (.Name x p) (e::es) [] pos)<|Ŝ r t:=by
 intro ae s a H Q I h;refine ff<|iU I l k i ?_ j g;exact Ec (cH (n pos ae s a H _ I h)<|by rintro c d ⟨b,H1,o,f,q1⟩;exact m ae d a H1 b c Q o f q1) he hpl
end
end L2
namespace HT
open PySem PyProof.Rows
section
open PySem.SeqAt
open PySem.AutoSeq1 (wpAny_loadPart')
open PySem.MeetsSeq PySem.MeetsSeq2 PySem.MeetsSeq3
end
def iW(n d:Nat):Dx->Nat
 |none=>d
 |some v=>if v<0 then(v+(n:Int)).toNat else min v.toNat n
end HT
namespace L2
open PySem PySem.Spec PyProof.Rows
abbrev TO:=St->Hp->(Dx->Hp->Prop)->Prop
def PO(X:Cx)(e:Option cx)(t:TO):Prop:=
 ∀(b:dJ)(s:ag)(a:St)(H:Hp)(Q:Dx->Hp->Prop),Inv X b a H s->t a H Q ->
  Gf X (evalPart e X.env) (λu d=>∃o c,Inv X b a c d/\IsPart u o/\Q o c) X.xe s
def L_:TO:=λ_ H Q=>Q Y H
def Xs(t:TE):TO:=λa H Q=>t a H λx H1=>∃i,x=.int i/\Q (U i) H1
variable{X:Cx}
section
variable{G K:Option cx}
def Ma:PO X Y L_:=by
 intro b s a H Q I h;exact dn ⟨Y,H,I,.none,h⟩
def Mb(h:PE X e L):PO X (U e)<|Xs L:=by
 intro f s a H Q I d;refine cH (h f s a H _ I d) λu j b=>?_;obtain⟨x,H1,g,c,q1⟩:=b;obtain⟨i,rfl,q⟩:=q1;obtain⟨t,rfl⟩:=c;exact⟨U i,H1,g,.int i t,q⟩
def Qj(X:Cx)(r:V->Dx->Dx->Hp->VK->Prop):Prop:=
 ∀(d:dJ)(s:ag)(a:St)(H:Hp)(x:V)(v c b:ao)(G K:Dx)(sl:ax)(Q:VK),Inv X d a H s->RelV x v->s.heap.IsSliceOf sl c b .none->IsPart c G->IsPart b K->r x G K H Q ->
  ∃T id,so (.type T) "__getitem__" = pure (U<|.builtin id)/\s.TypeIs v T/\Gf X (v9 v<|.ref sl) (EP X d a Q) X.xe s
def Qj.or{r e:V->Dx->Dx->Hp->VK->Prop}(h:Qj X r)(h':Qj X e):Qj X λx G K H Q=>r x G K H Q\/e x G K H Q:=by
 intro i s a H x v c b G K sl Q I d hs g f q;rcases q with q|q
 .exact h i s a H x v c b G K sl Q I d hs g f q
 .exact h' i s a H x v c b G K sl Q I d hs g f q
def tSl(r:V->Dx->Dx->Hp->VK->Prop)(L:TE)(M N:TO):TE:=λa H Q=>L a H λx H1=>M a H1 λl c=>N a c λu b=>r x l u b Q
def Hh(hr:Qj X r)(he:PE X e L)(hl:PO X G M)(t:PO X K N):PE X (.Subscript e (.Slice G K Y P) pos)<|tSl r L M N:=by
 intro d s c H Q I h;refine y0<|cH (he d s c H _ I h) λv k f=>?_;obtain⟨x,H1,E,m,q1⟩:=f;refine wpAny_Slice<|cH (hl d k c H1 _ E q1) λi s2 f=>?_;obtain⟨l,F,D,p,q2⟩:=f;refine cH (t d s2 c F _ D q2) λg a f=>?_;obtain⟨u,j,C,o,n⟩:=f;apply dn;have B:Inv X d c j {a with heap:=a.heap.push {cls:=.type "slice",data:=.fields #[i,g,.none]}}:=C.kept λb ob q=>ar _ q
 obtain⟨T,id,z,ht,y⟩:=hr d _ c j x v i g l u a.heap.objs.size Q B m (Heap.IsSliceOf.new ..) p o n
 show c4 _ X.A _ _ X.xe _
 exact tail_any ht z y (by rfl)
def Ey(xs:List V)(G K:Dx):List V:=(xs.drop<|HT.iW xs.length 0 G).take<|HT.iW xs.length xs.length K-HT.iW xs.length 0 G
def xG(xs:List V)(G K:Dx):(Ey xs G K).length<=xs.length:=by
 unfold Ey;rw[kB,hU]
 lia
end
def Mc(n:Nat)(i:Int):Option Nat:=if 0<=i then(if i<n then U i.toNat else Y)else if -(n:Int)<=i then U (i+n).toNat else Y
def Hi{a:Type}(xs:List a)(i:Int):Option a:=(Mc xs.length i).bind λj=>xs[j]?
def BO(h:Mc n i=U j):seqIndex? i n=U j/\j<n/\-(n:Int)<=i/\i<n:=by
 unfold Mc at h;by_cases h0:0<=i
 .rw[b0 h0]at h
  by_cases h1:i<n
  .rw[b0 h1]at h
   have e:=lD.inj h;exact⟨by rw[seqIndex_of h0 h1,e],by lia,by lia,h1⟩
  .rw[bt h1]at h;cases h
 .rw[bt h0]at h
  by_cases h1:-n<=i
  .rw[b0 h1]at h
   have e:=lD.inj h;exact⟨by rw[Ef (by lia) h1,e],by lia,h1,by lia⟩
  .rw[bt h1]at h;cases h
def uV{v:a}(h:Hi xs i=U v):∃j,seqIndex? i xs.length=U j/\xs[j]?=U v/\j<xs.length/\-(xs.length:Int)<=i/\i<xs.length:=by
 unfold Hi at h;cases e:Mc xs.length i with
 |none=>rw[e]at h;cases h
 |some j=>
  rw[e]at h;obtain⟨f,d,c,b⟩:=BO e;exact⟨j,f,h,d,c,b⟩
def jR(b:cx):Prop:=∀o i,qy b Zb o i=operate [o,i] (v9 o i)
def Me(X:Cx)(r:R2):Prop:=
 ∀(b a:cx)(d:dJ)(s:ag)(c:St)(H:Hp)(x y:V)(v u:ao)(Q:VK),Inv X d c H s->RelV x v->RelV y u->r x y H Q ->
  qy a Zb v u=operate [v,u] (v9 v u)->Gf X (si b a v u) (EP X d c Q) X.xe s
def Qk(X:Cx)(id:String)(r:V->List V->Hp->VK->Prop):Prop:=
 ∀(c:dJ)(s:ag)(a:St)(H:Hp)(x:V)(xs:List V)(v:ao)(b:B2)(Q:VK),Inv X c a H s->RelV x v->Vals xs b->r x xs H Q ->
  Gf X (call (.builtin id)<|v::b) (EP X c a Q) X.xe s
section
variable{a b:cx}
def Me.or(h:Me X r)(h':Me X f):Me X λx y H Q=>r x y H Q\/f x y H Q:=by
 intro a b g s c H x y v u Q I e d q hs;rcases q with q|q
 .exact h a b g s c H x y v u Q I e d q hs
 .exact h' a b g s c H x y v u Q I e d q hs
def Ql(hr:Me X r)(g:PE X a B)(f:PE X b M)(hs:jR b):PE X (.Subscript a b pos)<|Qg r B M:=by
 intro i s c H Q I h;exact y0<|Sq g f I h λv u s2 x y k j e d q=>hr a b i s2 c k x y v u Q j e d q<|hs ..
def Xu(K:bD):R2:=λx y H Q=>∃p xs i v,x=.ref p/\y=.int i/\dY K H p xs/\Hi xs i=U v/\Q v H
def Xv(K:bD):R2:=λx y H Q=>∃p xs i v,x=.ref p/\y=.int i/\nB K H p xs/\Hi xs i=U v/\Q v H
def Xw:R2:=λx y H Q=>∃z i c,x=.str z/\y=.int i/\z.length<=cC/\Hi z.cps.toList i=U c/\Q (.str ⟨#[c]⟩) H
def BQ:Me X<|Xu X.K:=by
 intro b c k s f H x y v u Q I o n h hs;obtain⟨p,xs,i,z,rfl,rfl,A,B,q⟩:=h;cases o;obtain⟨t,rfl⟩:=n;obtain⟨F,r,d,hz⟩:=I.list A;obtain⟨j,a,E,L,D,C⟩:=uV B;obtain⟨w,g,l⟩:=r.get E;have hl:=r.length;have G:=mJ;have fin:EP X k f Q w s:=⟨z,H,I,l,q⟩;by_cases h0:0<=i
 .have e:=by
   rw[seqIndex_of h0 C]at a;exact lD.inj a
  exact item_listR d.isList h0 (by lia) (by rw[e];simpa using g) fin hs
 .have e:(i+F.toArray.size).toNat=j:=by
   rw[Ef (by lia) D]at a
   rw[cD,<- hl];exact lD.inj a
  exact DL d.isList.typeIs slot_list_getitem.lookup
   (wpAny_getItem_list_neg d.isList (by lia) (by rw[cD]<;>lia) (by lia) (by rw[e];simpa using g) ⟨J,fin⟩) hs
def SE:Me X<|Xv X.K:=by
 intro a b e s c H x y v u Q I l k h hs;obtain⟨p,xs,i,z,rfl,rfl,m,n,q⟩:=h;cases l;obtain⟨t,rfl⟩:=k;obtain⟨G,r,d,hz⟩:=I.tuple m;obtain⟨j,A,o,F,E,D⟩:=uV n;obtain⟨w,B,f⟩:=r.get o;have hl:=r.length;have C:=mJ;have fin:EP X e c Q w s:=⟨z,H,I,f,q⟩;exact DL d.typeIs slot_tuple_getitem.lookup
  (getItem_tuple d (by lia) (by lia) (by rw[cD,<- hl];exact A) (by simpa using B) ⟨J,fin⟩) hs
def SG:Me X Xw:=by
 intro a b B s p H x y v u Q I f e h hs;obtain⟨z,i,c,rfl,rfl,hz,g,q⟩:=h;obtain⟨t,rfl⟩:=f;obtain⟨r,rfl⟩:=e;obtain⟨j,d,m,A,l,k⟩:=uV g;have hl:z.cps.toList.length=z.length:=by rfl
 rw[hl]at d l k;have w:=mJ;exact tail_any (pa s z t) slot_str_getitem.lookup (getItem_str (by
  lia) (by grind) ⟨.str _,H,I.tok _,⟨_,J⟩,q⟩) hs
def rIx(K:bD):R2:=λx y H Q=>Xu K x y H Q\/Xv K x y H Q\/Xw x y H Q
def SH:Me X<|rIx X.K:=BQ.or<|SE.or SG
def zS(a:B2)(n j:Nat)(u:ao):q0 (·.setIfInBounds j u) {cls:=.type "list",data:=.seq a.toArray n}={cls:=.type "list",data:=.seq (a.set j u).toArray n}:=by
 simp[q0]
theorem Inv.lst{c:dJ}{b:St}{H:Hp}{s:ag}{p:ax}{xs:List V}(I:Inv X c b H s)(h:H p=U (.lst xs)) :
  ∃(a:B2)(n:Nat),Vals xs a/\s.heap.get? p=U {cls:=.type "list",data:=.seq a.toArray n}/\xs.length<=cC:=by
 obtain⟨z,a,n,r,e⟩:=I.bF p _ h;exact⟨a,n,r,e,z⟩
def Inv.SI{a:St}{g its':B2}(I:Inv X d a H s)(h:H p=U (.lst xs))
  (i:s.heap.get? p=U {cls:=.type "list",data:=.seq g.toArray n}) (c:f {cls:=.type "list",data:=.seq g.toArray n}={cls:=.type "list",data:=.seq its'.toArray n'}) (r:Vals ys its') (hz:ys.length<=cC) (t:Nat) :
  Inv X d a (upd H p<|.lst ys) {s with heap:=s.heap.update p f,toks:=t}:=by
 have e:(s.heap.update p f).get? p=U {cls:=.type "list",data:=.seq its'.toArray n'}:=by
  rw[k4 f i<|by rw[c]<;>rfl,c]
 refine I.write (by rw[h];trivial) (.inl J) (λb u j q=>(fy _ _<|e7 j).trans q) ⟨_,e⟩ ?_
 exact⟨hz,its',n',r,e⟩
def Xx:V->V->V->Hp->(Hp->Prop)->Prop:=λo i v H Q=>∃p xs k j,o=.ref p/\i=.int k/\H p=U (.lst xs)/\Mc xs.length k=U j/\Q (upd H p<|.lst<|xs.set j v)
def set_list:W0 X Xx:=by
 intro y s l H o i v ov z u Q I ro w m h;obtain⟨p,xs,k,j,rfl,rfl,c,x,q⟩:=h;cases ro;obtain⟨t,rfl⟩:=w;obtain⟨f,n,r,b,hz⟩:=I.lst c;obtain⟨a,B,e,d⟩:=BO x;have hl:=r.length;have A:=mJ;have g:=
  I.SI c b (zS f n j u) (r.set m j) (by rw[fF];exact hz) s.toks
 by_cases h0:0<=k
 .have hk:=by
   rw[seqIndex_of h0 d]at a;exact lD.inj a
  exact PySem.W.ki_setAt b h0 (by lia) (by rw[cD,<- hl];exact d) (by rw[hk];exact⟨_,g,q⟩)
 .have hk:(k+f.toArray.size).toNat=j:=by
   rw[Ef (by lia) e]at a
   rw[cD,<- hl];exact lD.inj a
  exact PySem.W.ki_setBack b (by lia) (by rw[cD,<- hl];exact e) (by lia) (by rw[hk];exact⟨_,g,q⟩)
def uW(lo a:Dx)(n:Nat):(fE lo a Y n).1=((HT.iW n 0 lo:Nat):Int)/\(fE lo a Y n).2.1=((HT.iW n n a:Nat):Int)/\(fE lo a Y n).2.2=1:=by
 refine⟨?_,?_,J⟩
 .cases lo with
  |none=>simp[fE,HT.iW]
  |some i=>
   simp only[fE,HT.iW,PX,show(1) > 0 by decide]
   by_cases h:i<0
   .simp only[h]<;>lia
   .simp only[h]<;>lia
 .cases a with
  |none=>simp[fE,HT.iW]
  |some i=>
   simp only[fE,HT.iW,PX,show(1) > 0 by decide]
   by_cases h:i<0
   .simp only[h]<;>lia
   .simp only[h]<;>lia
def rQ(a:B2)(lo b:Dx):z9 a.toArray lo b Y=((a.drop<|HT.iW a.length 0 lo).take<|HT.iW a.length a.length b-HT.iW a.length 0 lo).toArray:=by
 obtain⟨e,d,c⟩:=uW lo b a.toArray.size;unfold z9;rw[e,d,c];simp only[sliceRange_one,pick_run]<;>rfl
def Xy(K:bD):V->Dx->Dx->Hp->VK->Prop:=λx lo b H Q=>∃a xs,x=.ref a/\dY K H a xs/\∀p,H p=Y->Q (.ref p) (upd H p<|.lst<|Ey xs lo b)
def Mf:Qj X<|Xy X.K:=by
 intro m s j H x v l k lo c sl Q I d hs f e h;obtain⟨a,xs,rfl,g,q⟩:=h;cases d;obtain⟨n,r,ht,hz⟩:=I.list g;have i:=r.length;refine⟨"list",_,slot_list_getitem.lookup,ht.isList.typeIs,?_⟩;refine zv ht.isList hs f e .none (by simp) ?_ (by rw[cD]<;>lia)
 rw[rQ,<- i];refine⟨.ref s.heap.objs.size,_,I.laid (λb ob q=>ar _ q) (bP _) ?_,J,q _<|I.bF.fresh<|bP _⟩;exact⟨cJ (xG xs lo c) hz,_,0,(r.drop _).take _,c5 _ J⟩
def fP:V->Bool
 |.non=>O
 |.bl _=>O
 |.int _=>O
 |.str _=>O
 |_=>Zb
def Hj:V->V->Bool
 |.non,.non=>O
 |.bl a,.bl b=>a == b
 |.bl a,.int b=>(if a then 1 else 0) == b
 |.int a,.bl b=>a == (if b then 1 else 0)
 |.int a,.int b=>a == b
 |.str a,.str b=>a == b
 |_,_=>Zb
def zT{A:ef}(e:RelV y u)(c:RelV x v)(f:fP y=O)(fx:fP x=O):nL A s u v<|Hj y x:=by
 cases y with
 |non=>
  cases e;cases x with
  |non=>cases c;exact SeqAt.EqAt.same _
  |bl b=>cases c;exact SeqAt.EqAt.none_bool b
  |int b=>obtain⟨t,rfl⟩:=c;exact SeqAt.EqAt.none_int b t
  |str b=>obtain⟨t,rfl⟩:=c;exact SeqAt.EqAt.none_str b t
  |_=>exact dy (fx) e_
 |bl a=>
  cases e;cases x with
  |non=>cases c;exact SeqAt.EqAt.bool_none a
  |bl b=>cases c;exact SeqAt.EqAt.bool_bool a b
  |int b=>obtain⟨t,rfl⟩:=c;exact SeqAt.EqAt.bool_int a b t
  |str b=>obtain⟨t,rfl⟩:=c;exact SeqAt.EqAt.bool_str a b t
  |_=>exact dy (fx) e_
 |int a=>
  obtain⟨d,rfl⟩:=e;cases x with
  |non=>cases c;exact SeqAt.EqAt.int_none a d
  |bl b=>cases c;exact SeqAt.EqAt.int_bool a d b
  |int b=>obtain⟨t,rfl⟩:=c;exact SeqAt.EqAt.int_int a d b t
  |str b=>obtain⟨t,rfl⟩:=c;exact vi a d b t
  |_=>exact dy (fx) e_
 |str a=>
  obtain⟨d,rfl⟩:=e;cases x with
  |non=>cases c;exact SeqAt.EqAt.str_none a d
  |bl b=>cases c;exact SeqAt.EqAt.str_bool a d b
  |int b=>obtain⟨t,rfl⟩:=c;exact vh a d b t
  |str b=>obtain⟨t,rfl⟩:=c;exact SeqAt.EqAt.str_str a d b t
  |_=>exact dy (fx) e_
 |_=>exact dy (f) e_
def zU(x:V)(u:ao):Bool:=match u with
 |.none=>Hj .non x
 |.bool b=>Hj (.bl b) x
 |.int i _=>Hj (.int i) x
 |.str z _=>Hj (.str z) x
 |_=>Zb
def Hk(r:RelV y u)(f:fP y=O):zU x u=Hj y x:=by
 cases y with
 |non=>cases r;rfl
 |bl b=>cases r;rfl
 |int i=>obtain⟨t,rfl⟩:=r;rfl
 |str z=>obtain⟨t,rfl⟩:=r;rfl
 |_=>exact dy (f) e_
theorem lJ:∀{xs:List V}{us:B2},Vals xs us->xs.all fP=O->us.any (zU x)=xs.any λy=>Hj y x
 |_,_,.nil,_=>J
 |y::xs,u::us,.cons r t,f=>by
  rw[dW,cL]at f;rw[rN,rN,Hk r f.1,lJ t f.2]
theorem jz{A:ef}(b:RelV x v)(fx:fP x=O):∀{xs:List V}{us:B2},Vals xs us->xs.all fP=O->∀u∈us,nL A s u v (zU x u)
 |_,_,.nil,_=>λu a=>by cases a
 |y::xs,u::us,.cons r t,f=>λc a=>by
  rw[dW,cL]at f;rcases bM.mp a with rfl|a
  .rw[Hk r f.1];exact zT r b f.1 fx
  .exact jz b fx t f.2 c a
def ŝ(x:V)(xs:List V):Bool:=xs.any λy=>Hj y x
def ĕ(K:bD)(neg:Bool):R2:=λx y H Q=>∃p xs,y=.ref p/\(dY K H p xs\/nB K H p xs)/\fP x=O/\xs.all fP=O/\Q (.bl<|if neg then !ŝ x xs else ŝ x xs) H
def Ez:ic X (et .In)<|ĕ X.K Zb:=by
 intro i s g H x y v u Q I e f h;obtain⟨p,xs,rfl,a,fx,fs,q⟩:=h;cases f;rcases a with a|a
 .obtain⟨b,r,c,hz⟩:=I.list a
  refine SeqAt.in_listAt _ c.isList (λw d=>jz e fx r fs w<|by simpa using d) ⟨.bl _,H,I,J,?_⟩
  rw[show b.toArray.any _=b.any (zU x) by simp,lJ r fs]
  exact q
 .obtain⟨b,r,c,hz⟩:=I.tuple a
  refine SeqAt.in_tupleAt _ c (λw d=>jz e fx r fs w<|by simpa using d) ⟨.bl _,H,I,J,?_⟩
  rw[show b.toArray.any _=b.any (zU x) by simp,lJ r fs]
  exact q
def uX:ic X (et .NotIn)<|ĕ X.K O:=by
 intro i s g H x y v u Q I e f h;obtain⟨p,xs,rfl,a,fx,fs,q⟩:=h;cases f;rcases a with a|a
 .obtain⟨b,r,c,hz⟩:=I.list a
  refine SeqAt.notIn_listAt _ c.isList (λw d=>jz e fx r fs w<|by simpa using d) ⟨.bl _,H,I,J,?_⟩
  rw[show b.toArray.any _=b.any (zU x) by simp,lJ r fs]
  exact q
 .obtain⟨b,r,c,hz⟩:=I.tuple a
  refine SeqAt.notIn_tupleAt _ c (λw d=>jz e fx r fs w<|by simpa using d) ⟨.bl _,H,I,J,?_⟩
  rw[show b.toArray.any _=b.any (zU x) by simp,lJ r fs]
  exact q
def iX:fM X (.type "list") λxs H Q=>∃p ys,xs=[.ref p]/\(dY X.K H p ys\/nB X.K H p ys)/\∀l,H l=Y->Q (.ref l) (upd H l<|.lst ys):=by
 intro y s t H xs z Q I r h;obtain⟨p,ys,rfl,g,q⟩:=h;obtain⟨u,rfl,v⟩:=vals1 r;cases v;have fin:∀(c:B2),Vals ys c->ys.length<=cC->∀(a:eh)(f:Nat),(∀b m,s.heap.get? b=U m->a.get? b=U m) ->
   a.get? s.heap.objs.size=U _->EP X y t Q _ {s with heap:=a}:=λc d hz a f kp e=>
  ⟨.ref s.heap.objs.size,_,I.laid kp (bP _)<|show b_ X.prog X.w _ a _ (.lst ys)from⟨hz,c,f,d,e⟩,J,q _<|I.bF.fresh<|bP _⟩
 rcases g with g|g
 .obtain⟨c,d,i,hz⟩:=I.list g
  have x:=d.length;obtain⟨o,j,k,n,hd⟩:=i.isList;exact call_list_seq p (.inl J) j k hd (λa f kp e=>fin c d hz a f kp e) (by simp[cD]<;>lia)
 .obtain⟨c,d,i,hz⟩:=I.tuple g
  have x:=d.length;obtain⟨o,j,k,n,hd⟩:=i;exact call_list_seq p (.inr J) j k hd (λa f kp e=>fin c d hz a f kp e) (by simp[cD]<;>lia)
def tyV(K:bD)(T:String)(x:V)(H:Hp):Prop:=match x with
 |.str _=>T = "str"
 |.int _=>T = "int"
 |.ref p=>(T = "list" /\ ∃xs,dY K H p xs)\/(T = "tuple" /\ ∃o,K.lookup p=U o/\o.cls=.type "tuple" /\ o.dict=Y) \/
   (T = "dict" /\ ((∃a,H p=U (.dK a))\/∃a,H p=U (.dT a)))\/(T = "set" /\ ∃S n,H p=U (.set S n))
 |_=>False
def SJ(I:Inv X k g H s)(r:RelV x v)(ty:tyV X.K T x H) :
  s.TypeIs v T/\∀a,v=.ref a->∃ob,s.heap.get? a=U ob/\ob.dict=Y:=by
 cases x with
 |str z=>
  obtain⟨t,rfl⟩:=r;cases(ty);exact⟨pa s z t,λ_ e=>nomatch e⟩
 |int i=>
  obtain⟨t,rfl⟩:=r;cases(ty);exact⟨typeIs_int s i t,λ_ e=>nomatch e⟩
 |ref p=>
  cases r;rcases ty with⟨rfl,xs,h⟩|⟨rfl,o,hk,j,hd⟩|⟨rfl,hk⟩|⟨rfl,S,n,hk⟩
  .obtain⟨l,_,f,_⟩:=I.list h
   refine⟨f.isList.typeIs,λa e=>?_⟩;cases e;obtain⟨o,n,e,c,hd,_⟩:=f;exact⟨o,e,hd⟩
  .refine⟨⟨o,I.jk p o hk,j⟩,λa e=>?_⟩
   cases e;exact⟨o,I.jk _ o hk,hd⟩
  .have z:∃o,s.heap.get? p=U o/\o.ExactDict:=by
    rcases hk with⟨b,hk⟩|⟨b,hk⟩
    .obtain⟨_,_,_,_,o,_,_,e,ex,_⟩:=I.bF p _ hk
     exact⟨o,e,ex⟩
    .obtain⟨_,_,_,_,o,_,_,e,ex,_⟩:=I.bF p _ hk
     exact⟨o,e,ex⟩
   obtain⟨o,e,ex⟩:=z;refine⟨⟨o,e,ex.1⟩,λa d=>?_⟩;cases d;exact⟨o,e,ex.2.1⟩
  .obtain⟨o,_,_,_,e,ex,_⟩:=I.bF p _ hk
   refine⟨⟨o,e,ex.1⟩,λa d=>?_⟩;cases d;exact⟨o,e,ex.2.1⟩
 |_=>exact eJ ty
def tBM(K:bD)(T:String)(r:V->List V->Hp->VK->Prop)(to:TE)(t:TA):TE:=λa H Q=>to a H λx H1=>tyV K T x H1/\t a H1 λxs b=>r x xs b Q
variable{T id:String}
def xJ(m:PlainAttrs T)(slot:Slot T name id)(z:xB (.builtin id)=pure (.type "method_descriptor"))(q:Qk X id r)(p:PE X o to)(u:PA X (e::es) t)
  (A:kn o name X.env (eE o X.env)=eE o X.env:=by rfl)
  (Ş:((hG F<|c3 (e::es) X.env).all (λx=>!x.1)&&(o4 F<|kS [] X.env).all (λx=>x.1.isSome)
   && decide ((e::es).length+([]:List pk).length+(if([]:List pk).isEmpty then 0 else 1)<30))=O:=by rfl)
  (n:(E.endLine == F.line)=O:=by rfl) (hs:c3 (e::es) X.env=(Zb,eE e X.env)::c3 es X.env:=by rfl) (B:(hG F<|c3 es X.env).any (·.1)=Zb:=by rfl) :
  PE X (.Call (.Attribute o name E) (e::es) [] F)<|tBM X.K T r to t:=by
 intro b s a H Q I h;refine wpAny_Call_method_late A Ş n J<|cH (p b s a H _ I h) λv k g=>?_;obtain⟨x,H1,f,c,ty,q1⟩:=g;obtain⟨y,w⟩:=SJ f c ty;refine⟨T,id,m,slot,z,y,w,?_⟩;have d:=u F b k a H1 _ f q1;rw[hs]at d ⊢;refine vy (by show(Zb ||(hG F<|c3 es X.env).any (·.1))=Zb;rw[B]<;>rfl)<|o7 ?_
 exact cH d (by rintro j s2 ⟨i,D,C,l,q2⟩;exact q b s2 a D x i v j Q C c l q2)
end
def MtM(X:Cx)(id:String)(r:V->List V->Hp->VK->Prop):Prop:=
 ∀(c:dJ)(s:ag)(a:St)(H:Hp)(x:V)(xs:List V)(v:ao)(b:B2)(Q:VK),Inv X c a H s->RelV x v->Vals xs b->r x xs H Q ->
  Gf X (call (.builtin id)<|v::b) (EP X c a Q) X.xe s
def Vals.one:∀{x:V}{us:B2},Vals [x] us->∃u,us=[u]/\RelV x u:=by
 intro x us h;cases h with
 |cons r t=>cases t;exact⟨_,J,r⟩
def Vals.two:∀{x y:V}{us:B2},Vals [x,y] us->∃u v,us=[u,v]/\RelV x u/\RelV y v:=by
 intro x y us h;cases h with
 |cons r t=>
  obtain⟨v,rfl,q⟩:=Vals.one t;exact⟨_,_,J,r,q⟩
theorem Vals.rep(h:Vals xs us):∀k:Nat,Vals (cK k xs).flatten (cK k us).flatten
 |0=>.nil
 |k+1=>by
  rw[uI,uI,zp];exact Vals.append h<|Vals.rep h k
theorem foldl_rep(b:B2):∀(k:Nat)(a:B2),
  Gq (λd c=>d++c) a.toArray (cK k b.toArray)=(a++(cK k b).flatten).toArray
 |0,a=>by simp
 |k+1,a=>by
  have e:a.toArray++b.toArray=(a++b).toArray:=by simp
  have f:(a++b)++(cK k b).flatten=a++(cK (k+1) b).flatten:=by
   rw[uI,zp,fG]
  rw[<- f,<- foldl_rep b k _,<- e,uI,List.foldl_cons]
def Inv.XC{a its':B2}(I:Inv X j t H s)(h:H l=U (.lst xs))
  (e:s.heap.get? l=U {cls:=.type "list",data:=.seq a.toArray n}) (d:f a.toArray=its'.toArray) (b:Vals ys its') (hz:ys.length<=cC) :
  Inv X j t (upd H l<|.lst ys) {s with heap:=s.heap.update l (q0 f),toks:=t'}:=by
 have q:=PySem.IsL.update e f;rw[d]at q;refine I.write (h▸trivial) (.inl J) (λi u g c=>(fy s.heap _<|e7 g).trans c) ⟨_,q⟩ ?_
 exact⟨hz,its',_,b,q⟩
def Inv.EA(I:Inv X j t H s)(b:Vals ys a)(hz:ys.length<=cC) :
  Inv X j t (upd H s.heap.objs.size<|.lst ys) {s with heap:=s.heap.push {cls:=.type "list",data:=.seq a.toArray},toks:=t'}:=
 I.laid (λ_ _ q=>ar _ q) (bP _) ⟨hz,a,0,b,c5 _ J⟩
theorem Inv.fresh(I:Inv X j t H s):H s.heap.objs.size=Y:=I.bF.fresh<|bP _
def Inv.EB(I:Inv X j t H s)(b:H l=U (.lst xs)):xs.length<=cC/\∃(a:B2)(n:Nat),Vals xs a/\xs.length=a.length/\s.heap.get? l=U {cls:=.type "list",data:=.seq a.toArray n}:=by
 obtain⟨z,a,n,r,e⟩:=I.bF l _ b;exact⟨z,a,n,r,r.length,e⟩
def xK(h:n<=cC):h8 n=Zb:=by
 exact cq (by lia)
def Mg:V->List V->Hp->VK->Prop:=λx a H Q=>∃l xs y,x=.ref l/\a=[y]/\H l=U (.lst xs)/\xs.length<cC/\Q .non (upd H l<|.lst<|xs++[y])
def jS:MtM X "list.append" Mg:=by
 intro k s g H x i v j Q I c d h;obtain⟨l,xs,y,rfl,rfl,a,hz,q⟩:=h;cases c;obtain⟨u,rfl,f⟩:=d.one;obtain⟨z,b,n,r,hl,e⟩:=I.EB a;refine oa F.slot_list_append ⟨_,e,J⟩ F.entry_list_append (F.args_list_append_2 ..) (PySem.list_append l b.toArray n u<|by rw[cD];lia) ⟨e,?_⟩
 refine⟨.non,_,I.XC a e (by simp) (r.append<|.cons f .nil) ?_,J,q⟩
 rw[bU,h_]
 lia
def Mh:V->List V->Hp->VK->Prop:=λx a H Q=>∃l b xs zs,x=.ref l/\a=[.ref b]/\H l=U (.lst xs)/\H b=U (.lst zs)/\xs.length+zs.length<=cC/\Q .non (upd H l<|.lst<|xs++zs)
def EC:MtM X "list.extend" Mh:=by
 intro A s p H x w v y Q I g i h;obtain⟨l,b,xs,zs,rfl,rfl,f,hB,hz,q⟩:=h;cases g;obtain⟨u,rfl,j⟩:=i.one;cases j;obtain⟨z,a,n,r,hl,e⟩:=I.EB f;obtain⟨t,c,n2,k,B,m⟩:=I.EB hB;have d:a.toArray.size+c.toArray.size<=cC:=by rw[cD,cD];lia
 have o:¬ (!a.toArray.isEmpty&&h8 (a.toArray.size+c.toArray.size))=O:=by
  rw[xK d,P0];exact e_
 refine oa F.slot_list_extend ⟨_,e,J⟩ F.entry_list_extend (F.args_list_extend_2 _ _)
  (AutoSeq1.list_extend_list_list_0 l a.toArray n b c.toArray n2 o (by lia)<|by lia) ⟨e,m,?_⟩
 refine⟨.non,_,I.XC f e (by simp) (r.append k) ?_,J,q⟩
 rw[bU]
 lia
def XE:R2:=λx y H Q=>∃l b xs zs,x=.ref l/\y=.ref b/\H l=U (.lst xs)/\H b=U (.lst zs)/\xs.length+zs.length<=cC/\∀p,H p=Y->Q (.ref p) (upd H p<|.lst<|xs++zs)
def zW:ic X (ll .Add) XE:=by
 intro p s m H x y v u Q I f d h;obtain⟨l,b,xs,zs,rfl,rfl,i,hB,hz,q⟩:=h;cases f;cases d;obtain⟨z,c,n,r,hl,e⟩:=I.EB i;obtain⟨o,a,n2,g,t,k⟩:=I.EB hB;refine PySem.P.add_list e k ?_ (by rw[cD,cD];lia)
 have j:c.toArray++a.toArray=(c++a).toArray:=by simp
 exact j▸⟨.ref _,_,I.EA (r.append g)<|by rw[bU];lia,J,q _ I.fresh⟩
def XG:R2:=λx y H Q=>∃l k xs,x=.ref l/\y=.int k/\H l=U (.lst xs)/\-(2^63)<=k/\k<2^63/\xs.length*k.toNat<=cC /\
 ∀p,H p=Y->Q (.ref p) (upd H p<|.lst (cK k.toNat xs).flatten)
def len_rep{a:Type}(xs:List a)(k:Nat):(cK k xs).flatten.length=k*xs.length:=by
 simp
def Hm:ic X (ll .Mult) XG:=by
 intro E s C H x y v u Q I i g h;obtain⟨l,k,xs,rfl,rfl,j,p,o,hz,q⟩:=h;cases i;obtain⟨t,rfl⟩:=g;obtain⟨z,b,n,r,hl,e⟩:=I.EB j;have A:b.toArray.size*k.toNat<=cC:=by rw[cD,<- hl];exact hz
 have ş:¬ b.toArray.size*k.toNat > (2^63-1)/8:=by
  have:cC<=(2^63-1)/8:=by decide
  lia
 have Š:¬ (!Builtin.List.listFitsIndex k)=O:=by
  rw[fitsIndex_both p o];exact e_
 have B:¬ h8 (b.toArray.size*k.toNat)=O:=by
  rw[xK A];exact e_
 have š:Gq (λd c=>d++c) #[] (cK (if b.toArray.isEmpty=O then 0 else k.toNat) b.toArray)=(cK k.toNat b).flatten.toArray:=by
  have w:=λm=>by
   have:=foldl_rep b m []
   rw[uJ]at this;exact this
  rw[w];cases b with
  |nil=>simp
  |cons a D=>rw[bt<|by simp]
 refine wpAny_binaryOp_repeat_ref (by decide) ⟨_,e,J⟩ (λf=>typeIs_int f k t) noFill_list_mul F.fills_int_mul F.slot_int_rmul repeat_list F.slot_int_index.lookup
 <|oa F.slot_int_rmul (typeIs_int s k t) F.entry_int_rmul (F.args_int_rmul_2 _ _) (int___rmul___int_list k t l b.toArray n)
   ⟨e,J,⟨_,e,J⟩,oa F.slot_list_mul ⟨_,e,J⟩ F.entry_list_mul (F.args_list_mul_2 _ _) (AutoListH.list___mul___list_int_3 l b.toArray n k t Š ş B) ⟨e,?_⟩⟩
 rw[š];exact⟨.ref _,_,I.EA (r.rep k.toNat)<|by rw[len_rep,Nat.mul_comm];exact hz,J,q _ I.fresh⟩
end L2
namespace Att
open PySem PySem.W PySem.Calls PyProof.Rows
def oj:∀(ns:Ee)(vs:B2),WellAll P h vs (ns.map WData.int)->IntsAre vs ns:=by
 intro ns
 induction ns with
 |nil=>
  intro vs w;cases w;exact .nil
 |cons n ns c=>
  intro vs w;cases w with
  |cons a b=>
   cases a;exact .cons _ _<|c _ b
def ED{l:OpenLaw}(p:l.most=U n)
  (i:l.row.toRowW.claim.pre args=O) (Ţ:WellAll P h b args) :
  ∃a vs ns,b=[Value.ref a]/\args=[WData.list<|ns.map WData.int]/\h.get? a=U {cls:=.type "list",data:=.seq vs.toArray}/\IntsAre vs ns/\ns.length<=n:=by
 have ţ:=(pre_splitW i).1;have g:l.pre.holds [] _=O:=(pre_splitW i).2;obtain⟨d,r,rfl,u,t⟩:=hasAllW_cons ţ
 obtain rfl:=hasAllW_nil t
 obtain⟨xs,rfl,s⟩:=hasW_list u;obtain⟨ns,rfl⟩:=items_int s;have v:ns.length<=n:=by
  have f:=by
   have f:=(holds_andW g).1;rw[p]at f;exact f
  have e:=condW_of f<|w_not<|w_lt w_lit<|w_len_list<|w_arg J;grind
 cases Ţ with
 |cons k j=>
  cases j;cases k with
  |list o c=>exact⟨_,_,ns,J,J,o,oj ns _ c,v⟩
def EE(l:OpenLaw)(args:List WData):l.row.toRowW.claim.post args (.bool O) args=O:=
 postW_of
  (by rfl)
  (w_eq_bool (w_res J) w_lit) J
end Att
namespace L2
open PySem PySem.Spec PyProof.Rows
theorem tG:∀{vs:B2}{ns:Ee},IntsAre vs ns->Vals (ns.map V.int) vs
 |_,_,.nil=>.nil
 |_,_,.cons n t h=>.cons ⟨t,J⟩<|tG h
def SN(H:Hp):Prop:=∀b,H b=Y\/∃o xs,H b=U (.iD o<|.lst xs)
def Hn{K:bD}
  (N:K.In c.heap) (D:c.heap.Ns eD mg) (f:c.heap.Ns sr mb) (A:∀x:Str,x ≠ "__name__" -> mb x=hF x) (Ť:c.heap.NoLimit) (W:c.gens=#[])
  (y:c.heap.get? a=U {cls:=.type "list",data:=.seq vs.toArray}) (G:IntsAre vs ns) (hl:ns.length<=cC) (hr:bI k td)
  (F:∀base:eh,K.In base->base.Ns eD mg->cX P w K mg base CX k C fd [x] sp) (XH:∀(s:ag)(u:ao),EZ s fd ⟨[u],[]⟩ [(x,u)])
  (L8:∀H:Hp,SN H->dY K H a (ns.map V.int)->sp [.ref a] H (λv _=>v=.bl O) λ_ _ _=>False)
  (B:∀H e g,CX [] H c (λ_ _ _=>False) e g->False) :
  jA (cv P w) td (.call (.ref C) ⟨[.ref a],[]⟩) (λr g=>r=.ok (.ret<|.bool O)/\OldK c.heap g.heap/\g.os=c.os/\kx g.gens) c:=by
 have E:=tG G;have ť:=G.length;have i:∀H:Hp,SN H->dY K H a (ns.map V.int)->kH P w H c.heap->(∀b,H b≠Y->b=a)->(H a≠Y->K.lookup a=Y) ->
   jA (cv P w) td (.call (.ref C) ⟨[.ref a],[]⟩) (λr g=>r=.ok (.ret<|.bool O)/\OldK c.heap g.heap/\g.os=c.os/\kx g.gens) c:=by
  intro H I X bF L hK;have Q:∀{b:ax}{o:Obj},c.heap.get? b=U o->H b=Y->(uN c.heap H).get? b=U o:=λe n=>GV e n;have Xq:∀{b:ax}{o:Obj}{p:Array DictEntry}{t:Nat},c.heap.get? b=U o->o.data=.dict p t->H b=Y:=λ{b o p t} e d=>by
   cases q:H b with
   |none=>rfl
   |some u=>
    have e':=L b (by rw[q];simp)
    subst e';rw[y]at e;cases e;have d':=d;cases d'
  have Ė:∀{b:ax}{m:Str->D2},c.heap.Ns b m->(uN c.heap H).Ns b m:=λ{b m} ⟨o,p,t,e,d,r⟩=>⟨o,p,t,Q e<|Xq e d,d,r⟩;have l:=λb o e=>Q (N b o e) (by
   cases q:H b with
   |none=>rfl
   |some u=>
    have e':=L b (by rw[q];simp)
    subst e';rw[hK<|by rw[q];simp]at e;cases e)
  have Z:Mod K mg _:=⟨l,Ė D,⟨mb,Ė f,A⟩,let⟨mc,h1,h2⟩:=Ť;⟨mc,Ė h1,h2⟩⟩;have e0:zR P w K mg _ td [] c H:=⟨J,Z,λb o e=>LB e,uG<|Eh _ _,trivial,λb f=>dy (show b∈[]from f)<|by simp,bF,.of_eq W⟩
  refine gV ((F _ l<|Ė D).run td [] c H _ [.ref a] [.ref a] _ _ hr e0 (XH c _) (.cons J .nil)<|L8 H I X) λr g h=>?_;cases r with
  |error e=>exact(B H e g h).elim
  |ok fl=>
   cases fl with
   |next=>exact eJ h
   |brk=>exact eJ h
   |cont=>exact eJ h
   |ret u=>
    obtain⟨v,H',os,bare,un,Ŧ,S,q⟩:=h;have T:=q;subst T
    obtain rfl:u=qd O:=S
    refine⟨J,OldK.of_keep λb o e=>?_,os,bare⟩;cases q:H b with
    |none=>exact un.keep b o e q (by intro z;exact dy (show b∈[]from z)<|by simp) (by simp)
    |some u=>
     rcases I b with z|⟨ob,xs,z⟩
     .rw[q]at z;cases z
     .have R:=un.mG b ob _ z
      obtain⟨M,_⟩:=bF b _ z;obtain⟨e2,_⟩:=Ŧ b _ R;rw[e]at M;cases M;exact e2
 cases hk:K.lookup a with
 |some o=>
  have e:=N a o hk;rw[y]at e;cases e;refine i _ (λ_=>.inl J) (.inr ⟨_,vs.toArray,_,hk,J,J,J,by rw[cD,ť];exact hl,by simpa using E⟩) (λb u z=>by have j:=z;cases j) (λb z=>dy J z) λz=>dy J z
 |none=>
  refine i (λb=>if b=a then U _ else Y) (λb=>?_) (.inl<|.inr ⟨{cls:=.type "list",data:=.seq vs.toArray},b0 J⟩) (λb u z=>?_) (λb z=>?_) λ_=>hk
  .by_cases f:b=a
   .exact .inr ⟨_,_,b0 f⟩
   .exact .inl<|bt f
  .by_cases f:b=a
   .have j:=(b0 f).symm.trans z
    cases j;subst f;exact⟨y,by rw[bQ];exact hl,vs,_,E,y⟩
   .have j:=(bt f).symm.trans z
    cases j
  .by_cases f:b=a
   .exact f
   .exact dy (bt f) z
def inClass(s:gL)(j:Nat):gL:=match s with
 |.ClassDef _ _ _ a _ _ _ _ _ _ _=>a.getD j<|.Pass ⟨0,0,0,0⟩
 |_=>.Pass ⟨0,0,0,0⟩
def jT(s:gL):Arguments:=match s with
 |.FunctionDef _ a _ _ _ _ _ _ _ _=>a
 |_=>{posonlyargs:=[],args:=[],vararg:=Y,kwonlyargs:=[],kw_defaults:=[],kwarg:=Y,defaults:=[]}
def cP(s:gL):Fh:=match s with
 |.FunctionDef _ _ b _ _ _ _ _ _ _=>b
 |_=>[]
def aK(s:gL):f7:=match s with
 |.FunctionDef _ _ _ _ _ _ sc _ _ _=>sc
 |_=>{kind:=.function,names:=[],isGenerator:=Zb,isCoroutine:=Zb}
abbrev lu:FP:=λ_ _ _ _ _ _=>False
abbrev E0:XK:=λ_ _ _=>False
def nG:Passes lu X E0:=λ_ _ _ _ _ _ _ h=>h.elim
def om{A B:Prop}(h:B):if Zb=O then A else B:=by
 exact h
def oq{A B:Prop}(h:A):if O=O then A else B:=by
 exact h
def aT(H H':Hp):Prop:=∀b o,H b=U o->H' b=U o
def aT.refl(H:Hp):aT H H:=λ_ _ h=>h
def aT.trans(a:aT H H1)(b:aT H1 d):aT H d:=λc o h=>b c o<|a c o h
def aT.free(e:aT H H')(h:H' l=BD):H l=BD:=by
 cases q:H l with
 |none=>rfl
 |some o=>
  rw[e l o q]at h;lia
def aT.seq{K:bD}(e:aT H H')(h:dY K H a xs):dY K H' a xs:=by
 rcases h with(h|⟨o,h⟩)|h
 .exact .inl<|.inl<|e _ _ h
 .exact .inl<|.inr ⟨o,e _ _ h⟩
 .exact .inr h
end L2
set_option maxHeartbeats 400000
namespace L2
open PySem PySem.Spec PyProof.Rows
def EF{prog:da}{w:de}{A:ef}{R:Result->ag->Prop}{s:ag}{elt a j:cx}{o:Bz}{scope:f7}{pos:Pos}{it z:ao}{env:Env}(I:Nat->ag->Prop)
  (p:∀n s,I n s->c4 (cv prog w) A (pyNext it) (λr d=>match r with
   |none=>R (.ok .next) d
   |some v=>c4 (cv prog w) A (pB a it v) (λ_ s₀=>c4 (cv prog w) A (sx a env v) (λ_ i=>
     c4 (cv prog w) A (forIn o O λc r=>if r=O then do let ok <- Er c env (eE c env);pure (fC ok)else pure (fC r)) (λok b=>
      if ok=O then c4 (cv prog w) A (eE elt env) (λx g=>
       c4 (cv prog w) A (call (.builtin "list.append") [z,x]) (λ_ f=>∃m,m<n/\I m f) (λ_ _=>False) g) (λ_ _=>False) b
      else ∃m,m<n/\I m b) (λ_ _=>False) i) (λ_ _=>False) s₀) (λ_ _=>False) d) (λ_ _=>False) s)
  (n:Nat) (h:I n s):jA (cv prog w) A (.compLoop (.ListComp elt [⟨a,j,o,0⟩] scope pos) 0 it z env) R s:=by
 refine codeAny_loop J I (λn s B=>?_) n h;show c4 _ A ((compTurn (.ListComp elt [⟨a,j,o,0⟩] scope pos) 0 it z env).onRaise λx=>do rr x env;theTreesLotGoes x) _ _ s
 apply wpAny_noted;rw[compTurn_list];refine av<|mM<|av<|ey (p n s B) (λr d l=>?_) λ_ _ e=>e.elim;cases r with
 |none=>exact dn l
 |some v=>
  refine av<|ey l (λ_ s₀ y=>av<|ey y (λ_ i u=>av<|ey u (λok b k=>?_) λ_ _ e=>e.elim) λ_ _ e=>e.elim) λ_ _ e=>e.elim;cases ok with
  |false=>exact dn ⟨J,k⟩
  |true=>
   exact av<|av<|ey k (λx g t=>av<|ey t (λ_ f q=>dn<|dn ⟨J,q⟩) λ_ _ e=>e.elim) λ_ _ e=>e.elim
theorem ig(env:Env):∀(names:List<|Str×o6)(b:List<|Str×ax),(∀p∈names,p.2=.free->∃c,env.cells.lookup p.1=U c)->(∀x c,b.lookup x=U c->env.cells.lookup x=U c) ->
  ∃cl,(forIn names b λ(p:Str×o6) (cs:List<|Str×ax)=>if p.2 == .free then do let c <- cellOf env p.1;pure (fC<|(p.1,c)::cs)else pure (fC cs):Sem<|List<|Str×ax)=pure cl /\
   (∀x c,cl.lookup x=U c->env.cells.lookup x=U c)/\(∀x c,b.lookup x=U c->∃c',cl.lookup x=U c')/\(∀p∈names,p.2=.free->∃c,cl.lookup p.1=U c)
 |[],b,_,j=>⟨b,J,j,λx c e=>⟨c,e⟩,λ_ h=>nomatch h⟩
 |(n,k)::r,b,m,j=>by
  by_cases hk:k=.free
  .subst hk
   obtain⟨c,s⟩:=m _ d_ J;have ė:∀x d,((n,c)::b).lookup x=U d->env.cells.lookup x=U d:=λx d e=>by
    rw[kC]at e;cases f:x == n with
    |true=>rw[f]at e;have f:=eq_of_beq f;subst f;cases e;exact s
    |false=>rw[f]at e;exact j x d e
   obtain⟨cl,e,q,l,o⟩:=ig env r _ (λp a=>m p<|eG _ a) ė;have self:=l n c (by simp)
   refine⟨cl,?_,q,λx d f=>?_,λp a i=>?_⟩
   .rw[Ph]
    show((do let c <- cellOf env n;pure _) >>= _)=_
    unfold cellOf;rw[s];exact e
   .cases g:x == n with
    |true=>have:=eq_of_beq g;subst this;exact self
    |false=>exact l x d (by rw[kC,g];exact f)
   .rcases bM.mp a with rfl|a
    .exact self
    .exact o p a i
  .obtain⟨cl,e,q,l,o⟩:=ig env r b (λp a=>m p<|eG _ a) j
   refine⟨cl,?_,q,l,λp a i=>?_⟩
   .rw[Ph]
    have t:(k == NameKind.free)=Zb:=by simpa using hk
    show((if(k == NameKind.free)=O then _ else pure _) >>= _)=_
    rw[t];exact e
   .rcases bM.mp a with rfl|a
    .exact dy i hk
    .exact o p a i
def rR(h:∀p∈scope.names,p.2=.free->∃c,env.cells.lookup p.1=U c) :
  ∃cl,closureFor scope env=pure cl/\(∀x c,cl.lookup x=U c->env.cells.lookup x=U c)/\∀p∈scope.names,p.2=.free->∃c,cl.lookup p.1=U c:=by
 obtain⟨cl,e,b,_,a⟩:=ig env scope.names [] h (λ_ _ e=>nomatch e);refine⟨cl,?_,b,a⟩;exact(dv (λz:Sem _=>z >>= λcs=>pure cs) e)
abbrev Cx.block(X:Cx)(N:Bi)(scope:f7)(cl:List<|Str×ax)(C:ax)(a:BM)(s:ag)(H:Hp):Cx where
 prog:=X.prog
 w:=X.w
 K:=X.K
 mg:=X.mg
 base:=X.base
 A:=X.A
 N:=N
 s₀:=s
 H₀:=H
 env:=compEnvC scope cl C X.env
 outer:=X.stack
 stack:=X.stack
 ex:=a
 fn:=λ_=>Zb
 calm:=X.calm
 pn:=[]
 xe:=λ_ _=>False
inductive gB(X:Cx)(scope:f7):B1->Bi->Prop where
 |nil:gB X scope [] []
 |cons {j:Nat} {x:Str} {js:B1} {xs:Bi}:X.N[j]?=U x->scope.names.lookup x=U .free->X.env.kindOf x=U .cell->gB X scope js xs->gB X scope (j::js) (x::xs)
theorem gB.get:∀{js:B1}{xs:Bi},gB X scope js xs->∀{i:Nat}{x:Str},xs[i]?=U x->∃j,js[i]?=U j/\X.N[j]?=U x/\scope.names.lookup x=U .free/\X.env.kindOf x=U .cell
 |_,_,.nil,_,_,e=>by simp at e
 |_,_,.cons f d c _,0,_,e=>by simp at e;subst e;exact⟨_,J,f,d,c⟩
 |_,_,.cons _ _ _ t,i+1,_,e=>by
  obtain⟨j,a,b⟩:=t.get (by simpa using e)
  exact⟨j,by simpa using a,b⟩
theorem gB.length:∀{js:B1}{xs:Bi},gB X scope js xs->js.length=xs.length
 |_,_,.nil=>J
 |_,_,.cons _ _ _ t=>by simp[t.length]
def dG(k:Nat)(js:B1)(a:St):St:=cK k Y++js.map λj=>(a[j]?).join
theorem gh{env:Env}(hk:env.scope.kind=.function):∀{names:List<|Str×o6}{x:Str},names.lookup x=U .free->env.kindOf x=U .cell ->
  (names.map λ(n,k)=>if(k == NameKind.free&&env.scope.kind == .function&&env.kindOf n == U .cell)then(n,NameKind.cell)else(n,k)).lookup x=U .cell
 |[],_,h,_=>by simp at h
 |(n,k)::r,x,h,b=>by
  have c:=@gh env hk r x;show iA x ((if(k == NameKind.free&&env.scope.kind == .function&&env.kindOf n == U .cell)=O then(n,NameKind.cell)else(n,k))::_)=_
  cases a:x == n with
  |true=>
   have e:=eq_of_beq a;subst e;simp only[kC,a]at h;cases h;rw[b0<|by rw[hk,b];rfl]
   simp[kC]
  |false=>
   simp only[kC,a]at h;by_cases hq:(k == NameKind.free&&env.scope.kind == .function&&env.kindOf n == U .cell)=O
   .rw[b0 hq];simp only[kC,a];exact c h b
   .rw[bt hq];simp only[kC,a];exact c h b
theorem gC{env:Env}:∀{names:List<|Str×o6}{x:Str},(∀p∈names,p.2≠.cell) ->
  ((names.map λ(n,k)=>if(k == NameKind.free&&env.scope.kind == .function&&env.kindOf n == U .cell)then(n,NameKind.cell)else(n,k)).lookup x=U .cell \/
   (names.map λ(n,k)=>if(k == NameKind.free&&env.scope.kind == .function&&env.kindOf n == U .cell)then(n,NameKind.cell)else(n,k)).lookup x=U .free)->∃p∈names,p.1=x/\p.2=.free
 |[],_,_,h=>by simp at h
 |(n,k)::r,x,c,h=>by
  have d:=@gC env r x λp b=>c p<|eG _ b;have h:iA x ((if(k == NameKind.free&&env.scope.kind == .function&&env.kindOf n == U .cell)=O then(n,NameKind.cell)else(n,k))::(r.map λ(n,k)=>if(k == NameKind.free&&env.scope.kind == .function&&env.kindOf n == U .cell)then(n,NameKind.cell)else(n,k)))=U .cell \/
   iA x ((if(k == NameKind.free&&env.scope.kind == .function&&env.kindOf n == U .cell)=O then(n,NameKind.cell)else(n,k))::(r.map λ(n,k)=>if(k == NameKind.free&&env.scope.kind == .function&&env.kindOf n == U .cell)then(n,NameKind.cell)else(n,k)))=U .free:=h
  cases a:x == n with
  |true=>
   have e:=eq_of_beq a;subst e;refine⟨(x,k),d_,J,?_⟩;by_cases hq:(k == NameKind.free&&env.scope.kind == .function&&env.kindOf x == U .cell)=O
   .cases k<;>first|rfl|(simp at hq)
   .rw[bt hq]at h
    simp only[kC,kl]at h;rcases h with h|h
    .cases h;exact dy J<|c (x,.cell) d_
    .cases h;rfl
  |false=>
   have f:iA x (r.map λ(n,k)=>if(k == NameKind.free&&env.scope.kind == .function&&env.kindOf n == U .cell)then(n,NameKind.cell)else(n,k))=U .cell \/
    iA x (r.map λ(n,k)=>if(k == NameKind.free&&env.scope.kind == .function&&env.kindOf n == U .cell)then(n,NameKind.cell)else(n,k))=U .free:=by
    by_cases hq:(k == NameKind.free&&env.scope.kind == .function&&env.kindOf n == U .cell)=O
    .rw[b0 hq]at h;simp only[kC,a]at h;exact h
    .rw[bt hq]at h;simp only[kC,a]at h;exact h
   obtain⟨p,b,i,g⟩:=d f;exact⟨p,eG _ b,i,g⟩
structure gT(X:Cx)(scope:f7):Prop where
 kind:scope.kind=.function
 nocell:∀p∈scope.names,p.2≠.cell
 names:∀p∈scope.names,p.2=.local->scope.names.lookup p.1=U .local
 frees:∀p∈scope.names,p.2=.free->X.env.kindOf p.1=U .cell
variable{X:Cx}
def Inv.enter{cl:List<|Str×ax}{h₁:eh}(I:Inv X ae σ H s)(S:gT X scope)(F:gB X scope js fs)
  (Mj:∀x c,cl.lookup x=U c->X.env.cells.lookup x=U c) (h:∀p∈scope.names,p.2=.free->∃c,cl.lookup p.1=U c)
  (n:∀b∈E,pR X ae H b) (D:∀b∈E,b<s.heap.objs.size) (N:h₁.Ns s.heap.objs.size λ_=>Y) (hk:∀b o,s.heap.get? b=U o->h₁.get? b=U o) :
  Inv (X.block (ls++fs) scope cl s.heap.objs.size E s H) [] (dG ls.length js σ) H {s with heap:=h₁,toks:=tk}:=by
 refine⟨⟨I.ok.mod,?_,I.ok.glob,I.ok.blt,bP _,λx y c T R=>I.ok.inj x y c (Mj x c T)<|Mj y c R,λx A=>?_,(λx c A=>by cases A),I.ok.hd,I.ok.frames,.inl J,λb f=>⟨eV<|D b f,λx c e=>(n b f).2.2.2.2.1 x c<|Mj x c e⟩,
  I.bs,cJ I.ok.bsz I.sz,λb o e f=>?_,λb f z=>?_,I.stack,I.oR⟩,J,I.bare,Un.kept hk,⟨_,N,λi x v K d Z=>?_⟩,λx c e=>?_,I.bF.fresh<|bP _,λx c e=>I.freeC x c<|Mj x c e,λp B=>dy B<|by simp,I.bF.kept hk,?_⟩
 . exact S.kind
 .obtain⟨p,B,K,d⟩:=gC S.nocell A
  obtain⟨c,e⟩:=h p B d;exact⟨c,by rw[<- K];exact e⟩
 .rcases(n b f).2.2.2.1 with z|z
  .exact I.ok.noex b o e z
  .exact dy (fU (cw (I.ok.bs b o e).1) z)<|wM _
 .rcases bM.mp (I.kI b z)with e|e
  .exact(n b f).2.1 e
  .exact(n b f).2.2.1 e
 .-- a name of the block that has a value: one from around
  have k:ls.length<=i:=by
   by_cases k:i<ls.length
   .unfold dG at d
    rw[j4<|by simpa using k,zo]at d
    split at d<;>cases d
   .lia
  have G:=by
   have q:=K;rw[iB k]at q;exact q
  obtain⟨j,P,Q,M,ŧ⟩:=F.get G;have g:=by
   unfold dG at d;rw[iB<|by simpa using k,eX]at d
   simp only[wU]at d;rw[P]at d;simpa using d
  have w:σ[j]?=U (U v):=by
   cases q:σ[j]? with
   |none=>rw[q]at g;cases g
   |some z=>rw[q]at g;have g:z=U v:=g;rw[g]
  obtain⟨m,_,hl⟩:=I.loc;obtain⟨u,r,l⟩:=hl j x v Q w<|.inr<|.inl ŧ;refine⟨u,r,.inr ⟨.inl<|gh I.ok.kind M ŧ,?_⟩⟩;rcases l with⟨z,_⟩|⟨_,c,e,q⟩
  .have L:=z
   rw[ŧ]at L;cases L
  .obtain⟨V,e'⟩:=h _ (gN M) J
   have t:=Mj x V e';rw[e]at t;rw[<- t]at e';obtain⟨o,C,hd⟩:=q;exact⟨c,e',o,hk _ _ C,hd⟩
 .obtain⟨v,o,C,hd⟩:=I.cell x c<|Mj x c e
  exact⟨v,o,hk _ _ C,hd⟩
 .unfold dG
  rw[bU,wU,bQ,bU,F.length]
def Lo(X:Cx)(b:Bz)(t:TT):Prop:=
 ∀(d:dJ)(s:ag)(a:St)(H:Hp)(Q:Bool->Hp->Prop),Inv X d a H s->t a H Q ->
  Gf X (forIn b O λc r=>if r=O then do let ok <- Er c X.env (eE c X.env);pure (fC ok)else pure (fC r)) (TP X d a Q) X.xe s
def Ũ:TT:=λ_ H Q=>Q O H
def Ml:Lo X [] Ũ:=λ_ _ _ H _ I h=>wpAny_tests_nil ⟨H,I,h⟩
def Mm(h:PT X c t):Lo X [c] t:=λd s a H Q I b=>wpAny_tests_one<|h d s a H Q I b
def dQ:St->St->Prop
 |[],[]=>True
 |Y::a,_::b=>dQ a b
 |U v::a,U w::b=>v=w/\dQ a b
 |_,_=>False
theorem dQ.len:∀{a b:St},dQ a b->a.length=b.length
 |[],[],_=>J
 |[],_::_,h=>h.elim
 |Y::a,[],h=>h.elim
 |U _::a,[],h=>h.elim
 |Y::a,x::b,h=>by simp[dQ.len (a:=a) (b:=b) h]
 |U _::a,Y::b,h=>h.elim
 |U _::a,U _::b,h=>by simp[dQ.len (a:=a) (b:=b) h.2]
theorem dQ.get:∀{a b:St},dQ a b->∀(i:Nat)(v:V),a[i]?=U (U v)->b[i]?=U (U v)
 |[],[],_,_,_,e=>e
 |[],_::_,h,_,_,_=>h.elim
 |Y::a,[],h,_,_,_=>h.elim
 |U _::a,[],h,_,_,_=>h.elim
 |Y::a,x::b,h,0,v,e=>by simp at e
 |Y::a,x::b,h,i+1,v,e=>by
  have:=dQ.get (b:=b) h i v (by simpa using e)
  simpa using this
 |U _::a,Y::b,h,_,_,_=>h.elim
 |U y::a,U z::b,h,0,v,e=>by have c:=h.1;subst c;simpa using e
 |U y::a,U z::b,h,i+1,v,e=>by
  have:=dQ.get h.2 i v (by simpa using e)
  simpa using this
@[irreducible] def tComp(j:TI)(k:Nat)(js:B1)(g:TG)(l:TT)(n:TE):TE:=λd H Q=>j d H λp H1=>∀D,H1 D=Y->∃W:Nat->Nat->List V->Hp->Prop,(∃m,W 0 m []<|upd H1 D<|.lst []) /\
 ∀i m ys H,W i m ys H->(p.stop i H/\Q (.ref D) H)\/(p.go i H/\∀x h,p.yld i H x h->g x (dG k js d) h λa o=>dQ (dG k js d) a/\l a o λb f=>
  if b=O then n a f λy e=>e D=U (.lst ys)/\ys.length<cC/\∃c,c<m/\W (i+1) c (ys++[y]) (upd e D<|.lst<|ys++[y])
  else ∃c,c<m/\W (i+1) c ys f)
def tH
  (hc:X.calm=O) (S:gT X scope) (F:gB X scope js fs) (hi:PI X tg l wi)
  (hg:∀cl C f s H,PG (X.block (ls++fs) scope cl C f s H) tg g) (ht:∀cl C f s H,Lo (X.block (ls++fs) scope cl C f s H) M tt) (he:∀cl C f s H,PE (X.block (ls++fs) scope cl C f s H) elt te)
       (I:Inv X L G H s) (h:tComp wi ls.length js g tt te G H Q)
  (fin:∀D C s' H' m,Inv X L G H' s'->pR X L H' C->s'.heap.Ns C m->Q (.ref D) H'->compPost (cv X.prog X.w) X.A X.xe use Qo (.ref D) C (.ok .next) s')
  (hs:∀x,eI l X.env x=pure x) :
  Gf X (comprehension (.ListComp elt [⟨tg,l,M,0⟩] scope pos) scope X.env cV (newList []) Zb (eE l X.env) use) Qo X.xe s:=by
 unfold tComp at h;obtain⟨cl,ecl,h1,h2⟩:=rR λp hp hf=>I.ok.has _<|.inl<|S.frees p hp hf;refine wpAny_comprehension_free J hs ecl S.kind S.names<|cH (hi L s G H _ I h) λv s1 q1=>cH q1 λő s2 q2=>?_;obtain⟨it,f,tn,qC,H2,e,I2,T,Ln,f2,q⟩:=q2;subst e;refine wpAny_newObj_type<|wpAny_newFunctionEnv S.nocell (by intro y hy;simp at hy) (λh₁ k j=>?_) S.kind
 have I3:=I2.EA (t':=s2.toks) .nil<|dO _
 obtain⟨W,⟨m0,w0⟩,step⟩:=q s2.heap.objs.size I2.fresh;dsimp only at k j ⊢
 generalize SO:({s2 with heap:=s2.heap.push {cls:=.type "list",dict:=Y,data:=.seq [].toArray}})=s3 at I3
 have XI:s3.heap=s2.heap.push {cls:=.type "list",dict:=Y,data:=.seq [].toArray}:=by rw[<- SO]
 rw[<- XI]at k j ⊢;have old:=λb o e=>j.extBut b o (eV<|cw e)<|ar _ e;have up:∀b o,s2.heap.get? b=U o->s3.heap.get? b=U o:=λb o e=>by rw[XI];exact ar _ e
 have fz2:∀b∈f,b<s2.heap.objs.size:=λb a=>by
  obtain⟨o,e,_⟩:=T.obj 0 _ Ln b a;exact cw e
 have B:∀b∈f,pR X L (upd H2 s2.heap.objs.size<|.lst []) b:=λb a=>⟨by rw[aq<|eV<|fz2 b a];exact(f2 b a).1,(f2 b a).2⟩
 have fz3:∀b∈f,b<s3.heap.objs.size:=λb a=>by
  obtain⟨o,e,_⟩:=T.obj 0 _ Ln b a;exact cw<|up b o e
 have I4:=I3.enter (ls:=ls) (tk:=s2.toks+([]:List<|Str×ao).length) S F h1 h2 B fz3 (by simpa using k) old
 have Z:=T.keep 0 _ _ Ln λb _ o e=>old b o<|up b o e
 generalize hC:s3.heap.objs.size=C at I4 k j ⊢
 generalize hH3:upd H2 s2.heap.objs.size _=H3 at I3 I4 B w0
 have zJ:∀{H':Hp},(∀b∈f,H' b=Y)->∀b∈f,pR (X.block (ls++fs) scope cl C f s3 H3) [] H' b:=λhn b a=>
  ⟨hn b a,by rw[<- hC];exact eV<|fz3 b a,λz=>(bM.mp<|I3.kI b z).elim (B b a).2.1 (B b a).2.2.1,.inl a,λx c e=>(B b a).2.2.2.2.1 x c<|h1 x c e,λp hp=>dy hp<|by simp⟩
 have FI:∀b∈f,(b∈X.ex\/X.s₀.heap.objs.size<=b)/\b≠X.env.locals/\(∀x c,X.env.cells.lookup x=U c->c≠b)/\∀p∈X.pn++L,p.1≠b:=λb a=>⟨(B b a).2.2.2.1,(B b a).2.1,(B b a).2.2.2.2.1,(B b a).2.2.2.2.2⟩;have K:∀s4:ag,s4={s3 with heap:=h₁,toks:=s2.toks+([]:List<|Str×ao).length} ->
   jA (cv X.prog X.w) X.A (.compLoop (.ListComp elt [⟨tg,l,M,0⟩] scope pos) 0 (.ref it) (.ref s2.heap.objs.size)<|compEnvC scope cl C X.env) (compPost (cv X.prog X.w) X.A X.xe use Qo (.ref s2.heap.objs.size) C) s4:=by
  rintro s4 rfl
  refine EF (λn s'=>∃i ys H',Inv _ [] _ H' s'/\tn i s'.heap/\(∀b∈f,H' b=Y)/\W i n ys H') ?_ m0 ⟨0,[],H3,I4,Z,λb a=>(B b a).1,w0⟩
  rintro n s5 ⟨i,ys,H5,I5,LP,Ē,w5⟩
  rcases step i n ys H5 w5 with⟨stop,qf⟩|⟨go,nxt⟩
  .refine cH (T.done (X.block _ scope cl C f s3 H3) J J J hc i [] s5 _ H5 _ I5 (zJ Ē) LP stop) λr s6 t=>?_
   obtain⟨hr,V⟩:=t;subst hr;obtain⟨m,hm,_⟩:=id V.loc;have J6:=I3.GW V.os V.base V.bF V.bare FI;exact fin _ C s6 H5 m J6 (I3.uQ (uG hC) V.free) hm qf
  .refine cH (T.item (X.block _ scope cl C f s3 H3) J J J hc i [] s5 _ H5 _ I5 (zJ Ē) LP go) λr s6 t=>?_
   obtain⟨u,hr,h6⟩:=t;subst hr;refine cH h6 λ_ s7 t=>?_;obtain⟨x,H7,I7,r7,y7,ũ,fr7⟩:=t;have I7':=I7.pinned (zJ fr7)<|T.obj _ _ ũ;refine cH (hg cl C f s3 H3 _ s7 _ H7 x u _ I7' r7<|nxt x H7 y7) λ_ s8 t=>?_;obtain⟨E,H8,I8,kp,q8⟩:=t;have again:∀{P:ag}{N:Hp},Inv _ _ E N P ->
     Inv (X.block (ls++fs) scope cl C f s3 H3) [] _ N P/\tn _ P.heap/\∀b∈f,N b=Y:=λ{P N} R=>by
    refine⟨R.lG.weak kp.len kp.get,T.keep _ _ _ ũ λb a o e=>(R.pin _<|ku _<|ku _<|iV a e).1,λb a=>?_⟩;obtain⟨o,e,d⟩:=T.obj _ _ ũ b a;exact(R.pin _<|ku _<|ku _<|iV a e).2.1
   refine cH (ht cl C f s3 H3 _ s8 E H8 _ I8 q8) λb P t=>?_;obtain⟨N,R,q9⟩:=t;cases b with
   |false=>
    obtain⟨m',hm,w9⟩:=q9;obtain⟨a1,a2,a3⟩:=again R;exact⟨m',hm,i+1,ys,N,a1,a2,a3,w9⟩
   |true=>
    refine cH (he cl C f s3 H3 _ P E N _ R q9) λxv s10 t=>?_;obtain⟨y,H10,I10,r10,hD,hz,m',hm,w10⟩:=t;refine cH (jS _ s10 E H10 (.ref s2.heap.objs.size) _ _ _ (λ_ H11=>H11=upd H10 s2.heap.objs.size _) I10 J (.cons r10 .nil)
     ⟨_,ys,y,J,J,hD,hz,J⟩) λ_ s11 ⟨z,H11,I11,_,e11⟩=>?_
    subst e11;obtain⟨a1,a2,a3⟩:=again I11;exact⟨m',hm,i+1,ys++[y],_,a1,a2,a3,w10⟩
 have abE:({newEnv scope C X.env.globals cl X.env.qual Y .none (U X.env) sr with scope:=Ep scope X.env})=compEnvC scope cl C X.env:=J
 exact codeAny_compStart_list (K _<|by rw[<- SO])<|T.self X.A 0 _ _ _ Z<|K _<|by rw[<- SO]
def Mn(ls:Bi)(l:X.calm=O)(S:gT X scope)(F:gB X scope js fs)(j:PI X tg iter wi)
  (k:∀cl C a s H,PG (X.block (ls++fs) scope cl C a s H) tg g) (ht:∀cl C a s H,Lo (X.block (ls++fs) scope cl C a s H) ifs tt) (he:∀cl C a s H,PE (X.block (ls++fs) scope cl C a s H) elt te)
  (hs:∀x,eI iter X.env x=pure x:=by intro _;rfl):PE X (.ListComp elt [⟨tg,iter,ifs,0⟩] scope pos)<|tComp wi ls.length js g tt te:=by
 intro u s r H Q I h;rw[eval_ListComp];refine tH (use:=Y) l S F j k ht he I h ?_ hs;intro D C f p m v c i q;exact⟨m,i,λt d=>⟨.ref D,p,v.turned (t':=f.toks) (it:=C) (λb o n e=>(d.2 b n).trans e) c.1 c.2.1 c.2.2.2.1 c.2.2.2.2.1 c.2.2.2.2.2,J,q⟩⟩
def BS(ls:Bi)(K:X.calm=O)(P:X.N.Nodup)(p:X.N[i]?=U x)(w:Loc X.env.scope x)(S:gT X scope)(F:gB X scope js fs)(B:PI X tg iter wi)
  (E:∀cl C f s H,PG (X.block (ls++fs) scope cl C f s H) tg g) (ht:∀cl C f s H,Lo (X.block (ls++fs) scope cl C f s H) ifs tt) (he:∀cl C f s H,PE (X.block (ls++fs) scope cl C f s H) elt te)
  (hs:∀x,eI iter X.env x=pure x:=by intro _;rfl) (G:F6 X x:=by first|exact .inl J|exact .inr J|assumption)
  (R:eP (.ListComp elt [⟨tg,iter,ifs,0⟩] scope pos) (U<|.Name x d) t.line X.env=pure O:=by rfl) :
  PS X (.Assign [.Name x d] (.ListComp elt [⟨tg,iter,ifs,0⟩] scope pos) t) λD j H=>tComp wi ls.length js g tt te j H λv H1=>D.nx (j.set i<|U v) H1:=by
 intro Q s j H D I h;rw[exec_Assign_Name_used _ _ _ _ R];refine av<|mM<|av ?_;show c4 _ X.A (do let _ <- comprehension (.ListComp elt [⟨tg,iter,ifs,0⟩] scope pos) scope X.env _ (newList []) Zb (eE iter X.env) (U<|sx (.Name x d) X.env)) _ _ s
 refine av<|ey (tH (use:=U<|sx (.Name x d) X.env) (Qo:=λ_ k=>SP X Q D .next k) K S F B E ht he I h ?_ hs) (λ_ k y=>dn<|dn y) λ_ _ e=>e
 intro r C k W m qC c z q;show c4 _ X.A (sx (.Name x d) X.env<|.ref r) _ _ _;refine wpAny_assign_Name<|sR qC P p w (show RelV (.ref r) (.ref r)from J) (λT V u=>?_) G;obtain⟨a,l,M⟩:=u;have ne:C≠a:=by
  rcases M with e|e
  .rw[e];exact c.2.1
  .exact e7<|c.2.2.2.2.1 x a e
 refine⟨m,z.sameBut l ne,λZ n=>?_⟩;exact⟨_,W,V.turned (t':=T.toks) (it:=C) (λb o L e=>(n.2 b L).trans e) c.1 c.2.1 c.2.2.2.1 c.2.2.2.2.1 c.2.2.2.2.2,q⟩
def Ho{K:bD}{St:Nat->eh->Prop}(val:Nat->V->Prop)
  (W:∀A:ef,A.handled=Y->Walks P w A it [it] [it] n D St) (N:∀i v,D i v->∃y,RelV y v/\val i y)
  (R:∀i h,St i h->∃o,h.get? it=U o/\∀v,o.data≠.cell v) (hk:∀i(h h':eh),St i h->(∀o,h.get? it=U o->h'.get? it=U o)->St i h')
  (T:∀(A:ef)(i:Nat)(s:ag)(Q:F1)(E:F1),St i s.heap->Q (.ref it) s->c4 (cv P w) A (pyIter<|.ref it) Q E s) :
  Turn P w K (.Name x M) ⟨λi _=>i<n,λi H y H'=>H'=H/\val i y,λi _=>i=n⟩ [it] it St where
 mem:=by simp
 obj:=λi h st b a=>by
  have e:=by simpa using a
  subst e;exact R i h st
 keep:=λi h h' st k=>hk i h h' st<|k it<|by simp
 item:=by
  intro X m g p j i C s B H E I d st c;obtain⟨z,u,S,t,r,q⟩:=d it (by simp)
  refine(W X.A<|I.ok.hd j).item i s _ _ c st λv h' tk l L f=>?_;obtain⟨y,G,F⟩:=N i v l;have Z:Inv X C B H {s with heap:=h',toks:=tk}:=I.turned (λb o a e=>f b o (by simpa using a) e) z u t r q
  exact⟨v,J,dn ⟨y,H,Z,G,⟨J,F⟩,L,λb a=>(d b a).1⟩⟩
 done:=by
  intro X m g p j i C s B H E I d st c;obtain⟨z,u,S,t,r,q⟩:=d it (by simp)
  have c:=c;rw[c]at st;exact(W X.A<|I.ok.hd j).done s _ _ st λh' tk f=>⟨J,I.turned (λb o a e=>f b o (by simpa using a) e) z u t r q⟩
 self:=T
def Its(z:Str):It:=⟨λi _=>i<z.cps.size,λi H y a=>a=H/\∃c,z.cps[i]?=U c/\y=.str ⟨#[c]⟩,λi _=>i=z.cps.size⟩
def Ū(b:TE):TI:=λa H R=>b a H λv H1=>∃z,v=.str z/\R (Its z) H1
def SQ(hl:PE X l m):PI X (.Name x F) l<|Ū m:=by
 intro w s C H R I h;refine cH (hl w s C H _ I h) λv a D=>?_;obtain⟨y,H1,I1,E,q1⟩:=D;obtain⟨z,rfl,q⟩:=q1;obtain⟨t,rfl⟩:=E;have f:∀b∈[a.heap.objs.size],pR X w H1 b:=λb G=>by
  have e:=by simpa using G
  subst e;exact I1.uQ (bP _)<|I1.bF.fresh<|bP _
 have n:∀i v,SignAt z i v->∃y,RelV y v/\∃c,z.cps[i]?=U c/\y=.str ⟨#[c]⟩:=by rintro i v ⟨c,u,e,K⟩;exact⟨.str _,⟨u,K⟩,c,e,J⟩
 have B:∀(ty:String)(i:Nat)(h:eh),h.IsStrIter a.heap.objs.size ty z t i->∃o,h.get? a.heap.objs.size=U o/\∀v,o.data≠.cell v:=λty i h ⟨o,e,_,d⟩=>⟨o,e,λv q=>by rw[d]at q;cases q⟩
 have kp:∀(ty:String)(i:Nat)(h j:eh),h.IsStrIter a.heap.objs.size ty z t i->(∀o,h.get? a.heap.objs.size=U o->j.get? a.heap.objs.size=U o)->j.IsStrIter a.heap.objs.size ty z t i:=by rintro ty i h j ⟨o,e,r⟩ k;exact⟨o,k o e,r⟩
 cases p:z.cps.all _
 .refine wpAny_pyIter_wide p ?_
  exact⟨a.heap.objs.size,[a.heap.objs.size],_,_,H1,J,I1.kept λb o e=>ar _ e,
   Ho _ (λA g=>Walks.strWide g _ z t) n (B _) (kp _) λ_ _ _ _ _ st h=>wpAny_pyIter_striter_wide st h,⟨_,c5 _ J,J,J⟩,f,q⟩
 .refine wpAny_pyIter_ascii p ?_
  exact⟨a.heap.objs.size,[a.heap.objs.size],_,_,H1,J,I1.kept λb o e=>ar _ e,
   Ho _ (λA g=>Walks.strAscii g _ z t) n (B _) (kp _) λ_ _ _ _ _ st h=>wpAny_pyIter_striter_ascii st h,⟨_,c5 _ J,J,J⟩,f,q⟩
def ū(a:Int)(n:Nat):It:=⟨λi _=>i<n,λi H x b=>b=H/\x=.int (a-i),λi _=>n<=i⟩
def EG{K:bD}(it:ax)(c:Int)(n:Nat):Turn P w K tg (ū c n) [it] it λi h=>vj h it (c+(i:Nat)*(-1)) ((n:Int)-(i:Nat))<|-1 where
 mem:=by simp
 obj:=λi h st b a=>by
  have e:=by simpa using a
  subst e;exact⟨_,st,λv z=>by
   have D:=z;cases D⟩
 keep:=λi h f st k=>k it (by simp) _ st
 item:=by
  intro X m g p l i C s A H E I d st j;subst m g p;obtain⟨y,x,L,u,r,q⟩:=d it (by simp)
  have W:=Walks.range (prog:=X.prog) (w:=X.w) (I.ok.hd l) it c (-1) n;refine W.item i s _ _ j st λv f tk G B F=>?_;obtain⟨t,rfl⟩:=G;have N:Inv X C A H {s with heap:=f,toks:=tk}:=I.turned (λb o a e=>F b o (by simpa using a) e) y x u r q
  refine⟨_,J,xx B J J (by decide) ⟨.int _,H,N,⟨t,?_⟩,⟨J,J⟩,B,λb a=>(d b a).1⟩⟩
  have e:c+i*(-1)=c-i:=by lia
  rw[e]
 done:=by
  intro X m g p l i C s A H E I d st j;obtain⟨y,x,L,u,r,q⟩:=d it (by simp)
  exact CC (I.ok.hd l) st (by have:n<=i:=j;lia) λf M=>⟨J,I.turned (λb o a e=>M b o a e) y x u r q⟩
 self:=λ_ _ _ _ _ st h=>CQ st h
def XM(c:TA):TI:=λa H R=>c a H λb H1=>∃i:Int,b=[.int i,.int<|-1,.int<|-1]/\-1<=i/\i<2^30/\R (ū i (i+1).toNat) H1
def Mp(z:Gl X "range")(y:X.mg "range" = Y)(B:PA X [a,b,c] m)(hs:c3 [a,b,c] X.env=[(Zb,eE a X.env),(Zb,eE b X.env),(Zb,eE c X.env)]:=by rfl)
  (n:c3 [b,c] X.env=[(Zb,eE b X.env),(Zb,eE c X.env)]:=by rfl):PI X tg (.Call (.Name "range" p) [a,b,c] [] pos)<|XM m:=by
 intro u s l H R I h;refine Call_<|iU I z y boot_range<|Ec (cH (B pos u s l H _ I h) λG f v=>?_) (by rw[hs,n])<|by rw[n];rfl
 obtain⟨F,H1,E,w,q1⟩:=v;obtain⟨i,e,q1,q2,q⟩:=q1;subst e;cases w with
 |cons r d=>
  cases d with
  |cons x d=>
   cases d with
   |cons j d=>
    cases d;obtain⟨t,rfl⟩:=r;obtain⟨t',rfl⟩:=x;obtain⟨g,rfl⟩:=j;refine call_range_3 (by decide) ?_<|.inl<|u4<|by decide
    have ik:ij i (-1) (-1)=i+1:=by
     unfold ij;rw[bt<|by decide]
     split
     .have e:-(-1:Int)=1:=J
      rw[e,Int.ediv_one];lia
     .lia
    have k:sY i (-1) (-1)=O:=by
     unfold sY;rw[ik];simp[Builtin.Range.rangeFitsLong]
     lia
    refine wpAny_pyIter_range (IsRange.new ..) k ?_
    generalize hh:f.heap.push {cls:=.type "range",data:=.fields #[.int i t,.int (-1) t',.int (-1) g]}=h2
    have I2:Inv X u l H1 {f with heap:=h2}:=E.kept (t':=f.toks) λb o e=>by rw[<- hh];exact ar _ e
    refine⟨h2.objs.size,[h2.objs.size],_,_,H1,J,I2.kept (t':=f.toks) λb o e=>ar _ e,EG _ i (i+1).toNat,?_,λb A=>?_,q⟩
    .have D:i+((0:Nat):Int)*(-1)=i:=by lia
     have C:(((i+1).toNat:Nat):Int)-((0:Nat):Int)=ij i (-1) (-1):=by
      rw[ik]
      lia
     show vj _ _ (i+((0:Nat):Int)*(-1)) ((((i+1).toNat:Nat):Int)-((0:Nat):Int))<|-1;rw[D,C];exact c5 _ J
    .have e:b=h2.objs.size:=by simpa using A
     subst e;exact I2.uQ (bP _)<|I2.bF.fresh<|bP _
structure Ę(a:It)(src:List V)(I:Hp->Prop):Prop where
 go:∀i H,I H->i<src.length->a.go i H
 yld:∀i H x H',I H->i<src.length->a.yld i H x H'->H'=H/\src[i]?=U x
 stop:∀i H,I H->i=src.length->a.stop i H
def Mq(z:Str):Ę (Its z) (z.cps.toList.map λc=>V.str ⟨#[c]⟩) λ_=>True:=
 ⟨λi H _ h=>by have h:=h;rw[bQ]at h;exact h,
  λi H x b _ _ y=>by
  obtain⟨e,c,a,ex⟩:=y;refine⟨e,?_⟩;rw[eX,xk,a,ex];rfl,
  λi H _ h=>by rw[bQ]at h;exact h⟩
def tK(lo:Int)(n:Nat):Ę (W6 lo n) ((cU n).map λk=>V.int<|lo+(k:Nat)) λ_=>True:=
 ⟨λi H _ h=>by have h:=h;rw[bQ,kD]at h;exact h,
  λi H x b _ a y=>by
  obtain⟨e,ex⟩:=y;refine⟨e,?_⟩;have a:=by rw[bQ,kD]at a;exact a
  rw[eX,Gs a,ex];rfl,
  λi H _ h=>by rw[bQ,kD]at h;exact uG h.symm⟩
def Itv(K:bD)(a:ax)(xs:List V):It:=⟨λi H=>i<xs.length/\dY K H a xs,λi H y b=>b=H/\xs[xs.length-1-i]?=U y,λi _=>i=xs.length⟩
def Hr{K:bD}(a it:ax)(xs:List V):Turn P w K tg (Itv K a xs) [it] it λi h=>h.IsRevIter it a<|(xs.length:Int)-1-(i:Int) where
 mem:=by simp
 obj:=λi h st b f=>by
  have e:=by simpa using f
  subst e;obtain⟨o,e,c,d⟩:=st;exact⟨o,e,λv z=>by rw[d]at z;cases z⟩
 keep:=λi h l st k=>st.at λo e=>k it (by simp) o e
 item:=by
  intro X q n r G i L s D H E I j st g;subst q n r;obtain⟨hi,S⟩:=g;obtain⟨aO,N,p,hz⟩:=I.list S;have F:xs[xs.length-1-i]?=U _:=dP (by lia)
  obtain⟨u,R,Q⟩:=N.get F;obtain⟨C,B,T,A,y,t⟩:=j it (by simp)
  have e:xs.length-1-i=((xs.length-1-i:Nat):Int):=by lia
  rw[e]at st;refine wpAny_pyNext_rev_item st p.isList (by simpa using R) λl m M=>?_
  have I1:=I.turned (t':=s.toks) (λb o f e=>(M.2 b f).trans e) C B A y t
  have e2:((xs.length-1-i:Nat))-1=xs.length-1-((i+1):Int):=by lia
  rw[e2]at m;obtain⟨o,W,c,d⟩:=id m;exact⟨u,J,xx W c d (by decide) ⟨_,H,I1,Q,⟨J,F⟩,m,λb f=>(j b f).1⟩⟩
 done:=by
  intro X q n r G i L s D H E I j st g;obtain⟨C,B,T,A,y,t⟩:=j it (by simp)
  have g:i=xs.length:=g;have e:xs.length-1-(i:Int)=-1:=by lia
  rw[e]at st;exact wpAny_pyNext_rev_end (I.ok.hd G) st λl Z=>⟨J,I.turned (λb o f e=>Z b o f e) C B A y t⟩
 self:=λ_ _ _ _ _ st h=>wpAny_pyIter_revIter st h
def Ŭ(K:bD)(d:TA):TI:=λb H R=>d b H λc H1=>∃a xs,c=[.ref a]/\dY K H1 a xs/\R (Itv K a xs) H1
def SS(u:Gl X "reversed")(t:X.mg "reversed" = Y)(w:PA X [a] d)(hs:c3 [a] X.env=[(Zb,eE a X.env)]:=by rfl):PI X tg (.Call (.Name "reversed" p) [a] [] pos)<|Ŭ X.K d:=by
 intro y s f H R I h;refine Call_<|iU I u t PyProof.Rows.boot_reversed<|Ec (cH (w pos y s f H _ I h) λB c g=>?_) hs J;obtain⟨A,H1,I1,k,q1⟩:=g;obtain⟨l,xs,e,n,q⟩:=q1;subst e;cases k with
 |cons r j=>
  cases j;cases r;obtain⟨z,i,m,hz⟩:=I1.list n;have x:=i.length;refine call_reversed_list m.isList<|wpAny_pyIter_revIter ⟨_,c5 _ J,J,J⟩ ?_;refine⟨c.heap.objs.size,[c.heap.objs.size],_,_,H1,J,I1.kept (t':=c.toks) λb o e=>ar _ e,Hr l _ xs,?_,λb v=>?_,q⟩
  .refine⟨_,c5 _ J,J,?_⟩
   have e:((z.toArray.size:Nat):Int)-1=(xs.length:Int)-1-((0:Nat):Int):=by rw[cD,<- x];lia
   rw[<- e];rfl
  .have e:b=c.heap.objs.size:=by simpa using v
   subst e;exact I1.uQ (bP _)<|I1.bF.fresh<|bP _
def rT:Qk X "str.startswith" λx vs H Q=>∃a b,x=.str a/\vs=[.str b]/\Q (.bl<|pf a b) H:=by
 intro i s e H x vs v f Q I c d h;obtain⟨a,b,rfl,rfl,q⟩:=h;obtain⟨t,rfl⟩:=c;obtain⟨u,rfl,⟨g,rfl⟩⟩:=d.one;exact SC.startswith ⟨.bl _,H,I,J,q⟩
def xM:Qk X "str.endswith" λx vs H Q=>∃a b,x=.str a/\vs=[.str b]/\Q (.bl<|rV a b) H:=by
 intro i s e H x vs v f Q I c d h;obtain⟨a,b,rfl,rfl,q⟩:=h;obtain⟨t,rfl⟩:=c;obtain⟨u,rfl,⟨g,rfl⟩⟩:=d.one;exact SC.endswith ⟨.bl _,H,I,J,q⟩
def XO:Qk X "str.find" λx vs H Q=>∃a b i,x=.str a/\vs=[.str b,.int i]/\Q (.int<|Txt.find3 a b i) H:=by
 intro l s f H x vs v g Q I d e h;obtain⟨a,b,i,rfl,rfl,q⟩:=h;obtain⟨t,rfl⟩:=d;obtain⟨u,j,rfl,⟨k,rfl⟩,⟨c,rfl⟩⟩:=e.two;exact SC.find3 ⟨.int _,H,I.tok _,⟨_,J⟩,q⟩
theorem pY:∀{ys:Bi}{us:B2},Vals (ys.map V.str) us->wC us ys
 |[],_,.nil=>.nil
 |y::ys,_,.cons ⟨t,e⟩ r=>by
  subst e;exact .cons y t<|pY r
def Mr:Qk X "str.join" λx vs H Q=>∃a l ys,x=.str a/\vs=[.ref l]/\dY X.K H l (ys.map V.str)/\(ys.map (·.length)).sum+ys.length*a.length<=16777216/\Q (.str<|Str.join a ys) H:=by
 intro j s f H x vs v g Q I b c h;obtain⟨a,l,ys,rfl,rfl,hl,hz,q⟩:=h;obtain⟨t,rfl⟩:=b;obtain⟨u,rfl,d⟩:=c.one;cases d;obtain⟨m,r,p,_⟩:=I.list hl;refine join_list p.isList (by simpa using pY r) hz λi k=>?_
 have e:Txt.join a ys=Str.join a ys:=StrLaws.glued_eq_join a ys;exact e▸⟨.str _,H,I.tok _,⟨_,J⟩,q⟩
def SW:Qj X λx lo g H Q=>∃z,x=.str z/\z.length<=cC/\Q (.str<|wy z lo g) H:=by
 intro y s p H x v w r lo g sl Q I m hs n f h;obtain⟨z,rfl,hz,q⟩:=h;obtain⟨t,rfl⟩:=m;refine⟨"str",_,F.slot_str_getitem.lookup,pa ..,?_⟩;obtain⟨o,a,b,hd⟩:=hs;cases n with
 |none=>
  cases f with
  |none=>exact kA (l:=Y) (u:=Y) (st:=Y) ⟨o,a,b,hd⟩ J<|pz ⟨cJ (rS z ..) hz,λd k=>⟨.str _,H,I.tok _,⟨_,J⟩,q⟩⟩
  |int j c=>exact kA (l:=Y) (u:=U (j,c)) (st:=Y) ⟨o,a,b,hd⟩ J<|pz ⟨cJ (rS z ..) hz,λd k=>⟨.str _,H,I.tok _,⟨_,J⟩,q⟩⟩
 |int i e=>
  cases f with
  |none=>exact kA (l:=U (i,e)) (u:=Y) (st:=Y) ⟨o,a,b,hd⟩ J<|pz ⟨cJ (rS z ..) hz,λd k=>⟨.str _,H,I.tok _,⟨_,J⟩,q⟩⟩
  |int j c=>exact kA (l:=U (i,e)) (u:=U (j,c)) (st:=Y) ⟨o,a,b,hd⟩ J<|pz ⟨cJ (rS z ..) hz,λd k=>⟨.str _,H,I.tok _,⟨_,J⟩,q⟩⟩
def xN:ic X (et .IsNot) λx y H Q=>∃a b,x=.bl a/\y=.bl b/\Q (.bl<|a != b) H:=by
 intro f s e H x y v u Q I d c h;obtain⟨a,b,rfl,rfl,q⟩:=h;cases d;cases c;exact isnot_bool<|jx I q J
def xO:fM X (.builtin "isinstance") λxs H Q=>∃x T t b,xs=[x,.ty T]/\j7 X.K H x t/\pK X.K t (.type T)=U b/\Q (.bl b) H:=by
 intro i s d H xs f Q I r h;obtain⟨x,T,t,b,rfl,ty,e,q⟩:=h;obtain⟨u,g,rfl,a,c⟩:=vals2 r;cases c;exact s_ I a ty e λtk=>⟨.bl b,H,I.tok _,J,q⟩
def pZ{ks:Fs}(r:Vals (ks.map V.bl) c)(A:ef):TruthOf X.prog X.w A (λi v=>c.toArray[i]?=U v) λi=>ks.getD i O:=by
 intro i v s Q E a b;have a:=by simpa using a
 have d:i<ks.length:=by
  have j:=(dw.mp a).1;have h:=r.length;rw[bQ]at h
  lia
 obtain⟨u,e,f⟩:=r.get (by rw[eX,dP d];rfl)
 rw[a]at e;cases e;cases f;have g:ks.getD i O=ks[i]:=by rw[uK,dP d];rfl
 have b:Q (ks.getD i O) s:=b;rw[g]at b;exact ip b
def range_all(ks:Fs):(cU ks.length).all (λi=>ks.getD i O)=ks.all id:=by
 induction ks with
 |nil=>rfl
 |cons k ks a=>
  rw[dU,Gu,dW,Gv,dW,<- a];rfl
def range_any(ks:Fs):(cU ks.length).any (λi=>ks.getD i O)=ks.any id:=by
 induction ks with
 |nil=>rfl
 |cons k ks a=>
  rw[dU,Gu,rN,Gw,rN,<- a];rfl
def Hs(m:X.calm=O):fM X (.builtin "all") λxs H Q=>∃(p:ax)(ks:Fs),xs=[.ref p]/\dY X.K H p (ks.map V.bl)/\Q (.bl<|ks.all id) H:=by
 intro x s t H xs v Q I r h;obtain⟨p,ks,rfl,l,q⟩:=h;obtain⟨u,rfl,g⟩:=vals1 r;cases g;obtain⟨f,c,a,hz⟩:=I.list l;have d:=c.length;rw[bQ]at d;refine call_all_walk<|iq a.isList ?_;have j:=let⟨_,e,_⟩:=a.isList;eV<|cw e;refine⟨s.heap.objs.size,_,[s.heap.objs.size],f.toArray.size,_,_,λi=>ks.getD i O,J,Walks.list (show X.A.in1.handled=Y from I.ok.hd m) s.heap.objs.size p j f.toArray,⟨⟨_,c5 _ J,J,J⟩,vx a.isList _⟩,pZ c _,λw tk k=>?_⟩;rw[cD,<- d,range_all];refine⟨.bl _,H,?_,J,q⟩;refine I.kept λb o e=>k b o (λz=>?_)<|ar _ e;have n:=by simpa using z
 rw[n]at e;exact wM _<|cw e
def Ht(m:X.calm=O):fM X (.builtin "any") λxs H Q=>∃(p:ax)(ks:Fs),xs=[.ref p]/\dY X.K H p (ks.map V.bl)/\Q (.bl<|ks.any id) H:=by
 intro x s t H xs v Q I r h;obtain⟨p,ks,rfl,l,q⟩:=h;obtain⟨u,rfl,g⟩:=vals1 r;cases g;obtain⟨f,c,a,hz⟩:=I.list l;have d:=c.length;rw[bQ]at d;refine call_any_walk<|iq a.isList ?_;have j:=let⟨_,e,_⟩:=a.isList;eV<|cw e;refine⟨s.heap.objs.size,_,[s.heap.objs.size],f.toArray.size,_,_,λi=>ks.getD i O,J,Walks.list (show X.A.in1.handled=Y from I.ok.hd m) s.heap.objs.size p j f.toArray,⟨⟨_,c5 _ J,J,J⟩,vx a.isList _⟩,pZ c _,λw tk k=>?_⟩;rw[cD,<- d,range_any];refine⟨.bl _,H,?_,J,q⟩;refine I.kept λb o e=>k b o (λz=>?_)<|ar _ e;have n:=by simpa using z
 rw[n]at e;exact wM _<|cw e
theorem nH:∀{xs:List V}{us:B2},xs.length=us.length->(∀(i:Nat)x u,xs[i]?=U x->us[i]?=U u->RelV x u)->Vals xs us
 |[],[],_,_=>.nil
 |[],_::_,h,_=>by simp at h
 |_::_,[],h,_=>by simp at h
 |x::xs,u::us,h,k=>.cons (k 0 x u J J)<|nH (by simpa using h) λi y w b a=>k (i+1) y w (by simpa using b)<|by simpa using a
def EH:fM X (.type "range") λxs H Q=>∃j,xs=[.int j]/\∀p,H p=Y->Q (.ref p) (upd H p<|.mF 0 j):=by
 intro d s a H xs c Q I r h;obtain⟨j,rfl,q⟩:=h;obtain⟨u,rfl,⟨t,rfl⟩⟩:=vals1 r;refine call_range_1 ⟨.ref s.heap.objs.size,_,I.laid (o:=.mF 0 j) (λb o e=>ar _ e) (bP _) ⟨_,_,_,c5 _ J⟩,J,q _ I.fresh⟩
def rW(A:X.calm=O):fM X (.type "list") λxs H Q=>∃p d,xs=[.ref p]/\H p=U (.mF 0 d)/\0<=d/\d<=2^20/\∀l,H l=Y->Q (.ref l) (upd H l<|.lst<|(cU d.toNat).map λk=>V.int (k:Nat)):=by
 intro L s D H xs E Q I r h;obtain⟨p,d,rfl,z,G,F,q⟩:=h;obtain⟨u,rfl,w⟩:=vals1 r;cases w;obtain⟨t,u,v,e⟩:=I.bF p _ z;refine call_list_range (I.ok.hd A) (n:=d.toNat) e (small_one (by lia) (by lia) (by lia)<|by lia) (by rw[rangeSize_one];lia) (by lia) λK tk B C hk hl f=>?_
 obtain⟨j,f⟩:=f;refine⟨.ref s.heap.objs.size,_,I.laid (o:=.lst _) (λb o e=>hk b o e) (bP _) ⟨?_,B.toList,C,?_,by simpa using hl⟩,J,q _ I.fresh⟩
 .rw[bQ,kD,dZ];lia
 .refine nH (by rw[bQ,kD,gP,j]) λi x u g y=>?_
  have m:=by
   have:=(dw.mp g).1
   rw[bQ,kD]at this;exact this
  rw[eX,Gs m]at g;cases g;obtain⟨t,rfl⟩:=f i u (by simpa using y)
  exact⟨t,by lia⟩
end L2
namespace K64
open PySem L2
abbrev top(i:Nat):gL:=PySem.Challenge.pw_rowblade_k64_other_texts.main.body.getD i<|.Pass ⟨0,0,0,0⟩
end K64
noncomputable section
namespace KH
open PySem PySem.W PySem.Calls PyProof.Rows L2 K64
abbrev pw:da:=PySem.Challenge.pw_rowblade_k64_other_texts
abbrev r(a:Nat):ao:=.ref a
abbrev Zn(c:ao)(d:Option ax)(x:Data)(s:List D2):Obj:=⟨c,d,x,⟨s⟩⟩
abbrev W:=mI->Obj
abbrev Z:=Str×Nat×ao
abbrev D(P:mI)(e:Z):DictEntry:=⟨PyData.keyHash P e.1,.str e.1 e.2.1,e.2.2⟩
abbrev fN(n q:Str)(s:gL)(g:ax)(cl:List<|Str×ax)(e d a c:ao)(an:Option ax)(f ct:ao)(b:ax):dA:=⟨n,q,jT s,.stmts<|cP s,aK s,g,cl,e,d,a,c,an,f,ct,b⟩
abbrev C(n q:Str)(t u L a b c g:Nat)(x:ax)(B:Bool)(y:ax)(k l m o:ao):W:=λ_=>Zn (.type "code") Y (.fields ⟨[.str n t,.str q<|t+1,.str "/claim/cut.py"<|t+2,.int (kG L) 0,.int (kG a) 0,.int (kG b) 0,.int (kG c) 0,.int (kG g) 0,r x,.bool B,.int (kG 181) 0,r y,k,l,m,o,.int (kG u) 0,.int (kG L) 0,.str "/claim/cut.py"<|u+1]⟩) []
abbrev cf(n q:Str)(t u L a x:Nat):W:=C n q t u L a 0 0 3 x O (x+1) .none (r<|x+2) (r<|x+3)<|r<|x+4
abbrev cg(n:Str)(t u L a x:Nat):W:=cf n n t u L a x
abbrev cc(n:Str)(t L x:Nat):W:=C n n t (t+3) L 0 0 0 0 x Zb (x+1) .none .none .none .none
abbrev lt(b:Nat)(l:List<|Nat×Nat):W:=λ_=>Zn .none Y (.fields ⟨(l.map λp=>[.int (kG p.1) 0,.int (kG b) 0,r p.2]).flatten⟩) []
abbrev fO(n q:Str)(s:gL)(m:ao)(c:Nat):W:=λ_=>Zn (.type "function") Y (.func<|fN n q s 3 [] .none .none .none m Y (r c) .none 0) []
abbrev fn(n q:Str)(s:gL):W:=λ_=>Zn .none Y (.func<|fN n q s 0 [] .none .none .none .none Y .none .none 0) []
def sS:Nat->Bi->B2
 |_,[]=>[]
 |k,x::l=>.str x k::sS (k+1) l
abbrev tS(k:Nat)(l:Bi):W:=λ_=>Zn (.type "tuple") Y (.seq ⟨sS k l⟩ 0) []
abbrev tV(l:B2):W:=λ_=>Zn (.type "tuple") Y (.seq ⟨l⟩ 0) []
abbrev di(n:Nat)(l:List Z):W:=λP=>Zn (.type "dict") Y (.dict ⟨l.map<|D P⟩ n) []
abbrev c1(m:ao)(b:Nat)(q:Str)(L:Nat)(xs:List Z)(st a n:Nat):W:=di n<|("__module__",b,m)::("__qualname__",b+2,.str q<|b+1)::("__firstlineno__",b+4,.int (kG L)<|b+3)::(xs.append [("__static_attributes__",st,r a)])
abbrev c2(m:ao)(b L:Nat)(xs:List Z)(st a:Nat)(ys:List Z)(c n:Nat):W:=di n<|("__module__",b,m)::("__firstlineno__",b+4,.int (kG L)<|b+3)::(xs.append<|("__static_attributes__",st,r a)::(ys.append [("__doc__",c,.none)]))
abbrev cG(n:Str)(bs mr:B2)(d:Nat)(su:B2)(h:D2)(t:Nat)(nw:String):W:=λ_=>Zn (.type "type") Y (.cls ⟨n,bs,mr,d,n,O,[],su,Zb,Y,Zb⟩) [h,Y,U<|.str n t,U<|.str n<|t+8,U<|.builtin nw,U<|.bool O]
abbrev ob:ao:=.type "object"
abbrev cB(n:Str)(d b:Nat)(su:B2)(h t:Nat):W:=cG n [r b] [r<|d+1,r b,ob] d su (U<|r h) t "object.__new__"
abbrev c0(n:Str)(d:Nat)(su:B2)(t:Nat):W:=cG n [ob] [r<|d+1,ob] d su Y t "object.__new__"
abbrev fr(c l:Nat)(m:ao):W:=λ_=>Zn (.type "frame") Y .plain [U<|r c,U<|r 3,U<|r l,Y,U m,Y,U<|r 0]
abbrev is(c:Nat):W:=λ_=>Zn (.type "builtin_function_or_method") Y (.fields ⟨[.builtin "object.__init_subclass__",r c]⟩) []
abbrev su(c:Nat):W:=λ_=>Zn (.type "super") Y (.fields ⟨[r c,r c,r c]⟩) []
abbrev gd(t c:Nat):W:=λ_=>Zn (.type "getset_descriptor") Y (.fields ⟨[.str "__dict__" t,r c,.builtin "function.__dict__",.builtin "function.__dict__#set"]⟩) []
abbrev gw(t c:Nat):W:=λ_=>Zn (.type "getset_descriptor") Y (.fields ⟨[.str "__weakref__" t,r c,.builtin "ExceptionGroup.__weakref__",.none]⟩) []
abbrev N(o:mI->Obj)(l r:mI->BT):mI->BT:=λP=>.node (o P) (l P)<|r P
abbrev E:mI->BT:=λ_=>.nil
abbrev L(o:mI->Obj):mI->BT:=N o E E
abbrev dc:=tV []
abbrev jU:W:=λP=>Zn .none Y (.fields ⟨[]⟩) []
def HI:gL->Str
 |.FunctionDef n _ _ _ _ _ _ _ _ _=>n
 |.ClassDef n _ _ _ _ _ _ _ _ _ _=>n
 |_=>""
def HY:gL->Nat
 |.FunctionDef _ _ _ _ _ _ _ _ _ p=>p.line
 |.ClassDef _ _ _ _ _ _ _ _ _ _ p=>p.line
 |_=>0
def H9:gL->List Str
 |.ClassDef _ _ _ _ _ _ _ _ _ x _=>x
 |_=>[]
def Ih(s:gL):List Str:=(aK s).names.filterMap λx=>match x.2 with
 |.local=>U x.1
 |_=>Y
def Iy(s:gL):Nat:=(jT s).args.length
def ID(c:Nat)(n:Str):Str:=⟨⟨(HI (top c)).cps.toList.append (46::n.cps.toList)⟩⟩
abbrev IH(s:gL)(q:Str)(b a:Nat)(m:ao):List W:=[dc,jU,tS (a+3) (Ih s),dc,fn (HI s) q s,cf (HI s) q a (a+(Ih s).length+3) (HY s) (Iy s) b,fO (HI s) q s m (b+5)]
abbrev IZ(s:gL)(q:Str)(b a:Nat)(m:ao):List W:=[dc,jU,fn (HI s) q s,C (HI s) q a (a+3) (HY s) (Iy s) 0 0 3 b O (b+1) .none .none .none (r (b+2)),fO (HI s) q s m (b+3)]
def Jn(S:Nat->gL)(Q:Str->Str):Nat->Nat->Nat->Nat->Nat->ao->List W
 |0,_,_,_,_,_=>[]
 |k+1,w,i,b,a,m=>match w % 2 with
  |0=>IH (S i) (Q (HI (S i))) b a m++Jn S Q k (w/2) (i+1) (b+7) (a+6+(Ih (S i)).length) m
  |_=>IZ (S i) (Q (HI (S i))) b a m++Jn S Q k (w/2) (i+1) (b+5) (a+6) m
def J2(S:Nat->gL):Nat->Nat->Nat->Nat->Nat->List Z
 |0,_,_,_,_=>[]
 |k+1,w,i,b,a=>match w % 2 with
  |0=>(HI (S i),a+5+(Ih (S i)).length,r (b+6))::J2 S k (w/2) (i+1) (b+7) (a+6+(Ih (S i)).length)
  |_=>(HI (S i),a+5,r (b+4))::J2 S k (w/2) (i+1) (b+5) (a+6)
def Kb(S:Nat->gL):Nat->Nat->Nat->Nat->List (Nat × Nat)
 |0,_,_,_=>[]
 |k+1,w,i,b=>match w % 2 with
  |0=>(HY (S i),b+5)::Kb S k (w/2) (i+1) (b+7)
  |_=>(HY (S i),b+3)::Kb S k (w/2) (i+1) (b+5)
abbrev m0:ao:=.str "__main__" 164
abbrev m1:ao:=.str "rowblade.errors" 194
abbrev m2:ao:=.str "rowblade.rows" 380
abbrev m3:ao:=.str "rowblade.lines" 399
abbrev m4:ao:=.str "rowblade.signs" 950
abbrev m5:ao:=.str "rowblade.patterns" 973
abbrev m6:ao:=.str "rowblade.stretches" 1101
abbrev m7:ao:=.str "rowblade.truths" 1159
abbrev m8:ao:=.str "rowblade.pieces" 1280
abbrev m9:ao:=.str "rowblade.walker" 1330
abbrev m10:ao:=.str "rowblade.walk" 1554
abbrev SX:ao:=.str "rowblade.plans" 1568
abbrev oW:ao:=.str "rowblade.linereading" 1641
abbrev ę:ao:=.str "rowblade.reading" 1859
abbrev zX:ao:=.str "law_rowblade_k64_other_texts" 1902
abbrev d0:List Z:=[("__doc__",166,.none),("__package__",167,.none),("__loader__",168,.builtin "__main__.__loader__#opaque"),("__spec__",169,.none),("__annotations__",170,r 6),("__builtins__",171,r 4),("__file__",173,.str "/claim/cut.py" 172),("__cached__",174,.none),("_wall",193,r 21),("BladeError",213,r 31),("NoPattern",229,r 44),("NotThat",245,r 56),("NotWoven",261,r 68),("Finished",277,r 80)]
abbrev l0:List (Nat × Nat):=[(1,20),(5,27),(7,40),(9,52),(11,64),(13,76)]
abbrev d1:=d0.append [("NoLine",302,r 99),("TwoMarks",327,r 118),("NoMark",352,r 137),("Endless",379,r 156),("cut",389,r 165),("pasted",398,r 173)]
abbrev l1:=l0++[(15,88),(19,107),(23,126),(27,145),(33,164),(38,172)]
abbrev d2:=d1.append [("Program",429,r 190),("Line",460,r 211),("Cond",480,r 225),("Always",496,r 239),("RowIs",521,r 258)]
abbrev l2:=l1++[(46,179),(50,200),(55,221),(57,235),(59,247)]
abbrev d3:=d2.append [("Last",537,r 270),("Like",562,r 289),("Soon",589,r 308),("FromTo",616,r 327),("Not",641,r 346)]
abbrev l3:=l2++[(63,266),(65,278),(69,297),(74,316),(79,335)]
abbrev d4:=d3.append [("End",657,r 358),("Deed",677,r 370),("Mark",702,r 391),("Drop",718,r 403),("Print",734,r 415)]
abbrev l4:=l3++[(83,354),(85,366),(87,380),(91,399),(93,411)]
abbrev d5:=d4.append [("Done",750,r 427),("Say",775,r 446),("Swap",804,r 465),("Join",829,r 484),("Pile",856,r 503)]
abbrev l5:=l4++[(95,423),(97,435),(101,454),(107,473),(111,492)]
abbrev d6:=d5.append (List.append [("Bring",881,r 522),("Go",906,r 541),("Add",933,r 560),("Tell",949,r 572),("SIGNS",953,(.str "abcdefghijklmnopqrstuvwxyzABCDEFGHIJKLMNOPQRSTUVWXYZ0123456789 !\"#$&'()*+,-./:;<=>?\x40[\\]^_`{|}~" 952)),("SMALL_LETTERS",955,.str "abcdefghijklmnopqrstuvwxyz" 954),("FIGURES",957,.str "0123456789" 956)] (List.append (J2 top 2 1 43 575 958) (List.append [("MOST_ITEMS",976,.int 8 975),("MOST_SIGNS",978,.int 12 977),("NEVER_PLAIN",980,.str "^$.[]*+?/" 979),("NEVER_IN_A_SET",982,.str "]^/" 981),("ONCE",984,.str "1" 983),("HOW_MANY",986,.str "*+?" 985)] (J2 top 2 0 52 587 987))))
abbrev l6:=l5++[(116,511),(120,530),(124,549),(129,568),(135,578),(137,585),(149,592),(151,599)]
abbrev d7:=d6.append (List.append (J2 top 12 528 54 601 1005) (List.append [("NOWHERE",1105,.int (-1) 1104),("stretch",1117,r 688)] (List.append (J2 top 4 0 69 689 1118) ([("TextRow",1201,r 740),("text_rows",1207,r 749),("Truths",1263,r 783),("holds",1271,r 794)]))))
abbrev l7:=l6++(List.append (Kb top 12 528 54 601) (List.append [(230,687)] (List.append (Kb top 4 0 69 689) ([(261,722),(273,748),(275,755),(306,793)]))))
abbrev d8:=d7.append (List.append (J2 top 1 0 78 795 1272) (List.append [("MOST_FIGURES_pieces",1283,.int 60 1282)] (List.append (J2 top 5 4 81 802 1284) (List.append [("Walker",1537,r 991)] (List.append (J2 top 2 1 88 996 1538) ([("walk",1567,r 1014)]))))))
abbrev l8:=l7++(List.append [(312,800)] (List.append (Kb top 5 4 81 802) ([(347,840),(496,999),(498,1006),(505,1013)])))
abbrev d9:=(d8.append (List.append (J2 top 7 8 93 1015 1570) (List.append [("COND_BEGINNINGS",1650,r 1062),("MOST_ROW",1652,.int 999 1651),("MOST_FIGURES_linereading",1654,.int 3 1653),("MOST_SOON",1656,.int 3 1655),("LEAST_JOIN",1658,.int 2 1657),("MOST_SMALL",1660,.int 9 1659),("MOST_LETTERS",1662,.int 8 1661),("MOST_TEXT",1664,.int 40 1663),("Scan",1737,r 1114)] (J2 top 9 2 110 1119 1738)))).append (List.append (J2 top 6 0 119 1180 1809) ([("MOST_LINES",1862,.int 24 1861),("read",1871,r 1228)]))
abbrev l9:=l8++(List.append (Kb top 7 8 93 1015) (List.append [(571,1068)] (List.append (Kb top 15 2 110 1119) ([(713,1227)]))))
abbrev d10:=d9.append (List.append (J2 top 3 0 128 1229 1872) (J2 top 15 17512 132 1250 1904))
abbrev l10:=l9++(List.append (Kb top 3 0 128 1229) (Kb top 15 17512 132 1250))
abbrev jl:W:=λP=>Zn (.type "builtin_function_or_method") Y (.fields ⟨[(.builtin "type.__prepare__"),.type "type"]⟩) []
abbrev Qm:=tV [r 31]
abbrev ŭ:W:=λP=>Zn (.type "function") Y (.func<|fN "pasted" "pasted" (top 13) 3 [] (r 166) .none .none (.str "rowblade.rows" 380) Y (r 172) .none 0) []
abbrev xP:=tV [r 225]
abbrev ou:=tV [r 370]
abbrev Ů:W:=λP=>Zn (.type "function") Y (.func<|fN "stretch" "stretch" (top 68) 3 [] (r 681) .none .none (.str "rowblade.stretches" 1101) Y (r 687) .none 0) []
def od:List W->List W
 |[]=>[]
 |x::r=>x::(match r with
  |[]=>[]
  |_::r=>od r)
def br:Nat->List W->mI->BT
 |0,_,_=>.nil
 |n+1,l,P=>(match l with
  |[]=>.nil
  |x::r=>.node (x P) (br n (od r) P)<|br n (od r.tail) P)
def ov:List W->Nat->Nat->List (Nat×W)->List W
 |[],_,_,_=>[]
 |x::l,i,n,q=>(match n.beq i with
  |true=>[]
  |false=>(match q with
   |[]=>x::ov l (i+1) n []
   |y::r=>(match y.1.beq i with
    |true=>y.2::ov l (i+1) n r
    |false=>x::ov l (i+1) n q)))
abbrev jz0:List Z:=(J2 (inClass (top 74)) 2 0 0 724 1173)
abbrev jz1:List Z:=(J2 (inClass (top 76)) 4 5 0 757 1220)
abbrev jz2:List Z:=(J2 (inClass (top 87)) 21 0 0 842 1344)
abbrev jz3:List Z:=(J2 (inClass (top 109)) 6 0 0 1070 1677)
abbrev Qn(s0:Str)(n1 n2 a:Nat):List W:=[cG s0 [r 31] [(r<|n2+1),r 31,.type "ValueError",.type "Exception",.type "BaseException",.type "object"] n2 [] (U<|r n1) a "ValueError.__new__",su<|n2+1,is<|n2+1]
abbrev Wi(s0:Str)(n1 n2 a:Nat):List W:=[c0 s0 n1 [] n2,gd a<|n1+1,gw (a+2)<|n1+1,su<|n1+1,is<|n1+1]
abbrev tL(s0:Str)(n1 n2 a b:Nat):List W:=[cB s0 a n1 [] n2 b,su<|a+1,is<|a+1]
abbrev Ki(s:Str)(x n a:Nat):List W:=Qn s x n a
abbrev Kj(b:Nat)(s:Str)(x n a:Nat):List W:=tL s b x n a
abbrev Kk(g:Str->Nat->Nat->Nat->List W)(o:W)(x a c:Nat)(m:ao):List W:=[o,jl,c1 m (a+7) (HI (top c)) (HY (top c)) [] (a+12) (x+7) 4,dc,jU,cc (HI (top c)) (a+2) (HY (top c)) (x+3),fr (x+5) (x+2) m,dc,c2 m (a+7) (HY (top c)) [] (a+12) (x+7) [] (a+13) 2]++g (HI (top c)) x (x+8) a
abbrev Kt(g:Str->Nat->Nat->Nat->List W)(o:W)(x a c:Nat)(m:ao):List W:=[o,jl,c1 m (a+7) (HI (top c)) (HY (top c)) (J2 (inClass (top c)) 1 0 0 (x+7) (a+12)) (a+18+(Ih (inClass (top c) 0)).length+(H9 (top c)).length) (x+14) 5,dc,lt 4 (Kb (inClass (top c)) 1 0 0 (x+7)),cc (HI (top c)) (a+2) (HY (top c)) (x+3),fr (x+5) (x+2) m]++(Jn (inClass (top c)) (ID c) 1 0 0 (x+7) (a+12) m++([tS (a+18+(Ih (inClass (top c) 0)).length) (H9 (top c)),c2 m (a+7) (HY (top c)) (J2 (inClass (top c)) 1 0 0 (x+7) (a+12)) (a+18+(Ih (inClass (top c) 0)).length+(H9 (top c)).length) (x+14) [] (a+19+(Ih (inClass (top c) 0)).length+(H9 (top c)).length) 2]++g (HI (top c)) x (x+15) a))
abbrev a0:List W:=mD [[boot_o_0,boot_o_1,boot_o_2,di 142 (("__name__",165,.str "law_rowblade_k64_other_texts" 1902)::d10),boot_o_4,boot_o_5,boot_o_6,boot_o_7,boot_o_8,boot_o_9,boot_o_10,dc,lt 0 l10,cc "<module>" 182 1 11,fr 13 3 m0],Jn top id 1 0 0 15 187 m0,[tV [.type "ValueError"],jl,c1 m1 203 "BladeError" 5 [] 208 29 4,dc,jU,cc "BladeError" 198 5 25,fr 27 24 m1,dc,c2 m1 203 5 [] 208 29 [("__weakref__",210,r 32)] 211 3,cG "BladeError" [.type "ValueError"] [r 31,.type "ValueError",.type "Exception",.type "BaseException",.type "object"] 30 [r 44,r 56,r 68,r 80,r 99,r 118,r 137,r 156] (U (r 22)) 196 "ValueError.__new__",gw 209 31,su 31,is 31],Kk Ki Qm 35 214 3 m1,Kk Ki Qm 47 230 4 m1,Kk Ki Qm 59 246 5 m1,Kk Ki Qm 71 262 6 m1,Kt Ki Qm 83 278 7 m1]
abbrev a1:List W:=mD [Kt Ki Qm 102 303 8 m1,Kt Ki Qm 121 328 9 m1,Kt Ki Qm 140 353 10 m1,Jn top id 1 0 12 159 382 m2,[tV [(.bool O)],dc,jU,tS 393 ["rows","ended","text"],dc,fn "pasted" "pasted" (top 13),cg "pasted" 390 396 38 2 167,ŭ,dc,jl,c1 m3 408 "Program" 46 [("__init__",420,r 187)] 422 188 5,dc,lt 4 [(48,186)],cc "Program" 403 46 177,fr 179 176 m3],Jn (inClass (top 15)) (ID 15) 1 0 0 181 413 m3,[tS 421 ["lines"],c2 m3 408 46 [("__init__",420,r 187)] 422 188 [("__dict__",424,r 191),("__weakref__",426,r 192)] 427 4],Wi "Program" 189 401 423,[dc,jl,c1 m3 437 "Line" 50 [("__init__",450,r 208)] 453 209 5,dc,lt 4 [(52,207)],cc "Line" 432 50 198,fr 200 197 m3],Jn (inClass (top 16)) (ID 16) 1 0 0 202 442 m3,[tS 451 ["cond","deed"],c2 m3 437 50 [("__init__",450,r 208)] 453 209 [("__dict__",455,r 212),("__weakref__",457,r 213)] 458 4],Wi "Line" 210 430 454,[dc,jl,c1 m3 468 "Cond" 55 [] 473 223 4,dc,jU,cc "Cond" 463 55 219,fr 221 218 m3,dc,c2 m3 468 55 [] 473 223 [("__dict__",475,r 226),("__weakref__",477,r 227)] 478 4,c0 "Cond" 224 [r 239,r 258,r 270,r 289,r 308,r 327,r 346,r 358] 461,gd 474 225,gw 476 225,su 225,is 225]]
abbrev a2:List W:=mD [Kk (Kj 225) xP 230 481 18 m3,Kt (Kj 225) xP 242 497 19 m3,Kk (Kj 225) xP 261 522 20 m3,Kt (Kj 225) xP 273 538 21 m3,Kt (Kj 225) xP 292 563 22 m3,Kt (Kj 225) xP 311 590 23 m3,Kt (Kj 225) xP 330 617 24 m3,Kk (Kj 225) xP 349 642 25 m3,[dc,jl,c1 m3 665 "Deed" 85 [] 670 368 4,dc,jU,cc "Deed" 660 85 364,fr 366 363 m3,dc,c2 m3 665 85 [] 670 368 [("__dict__",672,r 371),("__weakref__",674,r 372)] 675 4,c0 "Deed" 369 [r 391,r 403,r 415,r 427,r 446,r 465,r 484,r 503,r 522,r 541,r 560,r 572] 658,gd 671 370,gw 673 370,su 370,is 370]]
abbrev a3:List W:=mD [Kt (Kj 370) ou 375 678 27 m3,Kk (Kj 370) ou 394 703 28 m3,Kk (Kj 370) ou 406 719 29 m3,Kk (Kj 370) ou 418 735 30 m3,Kt (Kj 370) ou 430 751 31 m3,Kt (Kj 370) ou 449 776 32 m3,Kt (Kj 370) ou 468 805 33 m3,Kt (Kj 370) ou 487 830 34 m3,Kt (Kj 370) ou 506 857 35 m3,Kt (Kj 370) ou 525 882 36 m3]
abbrev a4:List W:=mD [Kt (Kj 370) ou 544 907 37 m3,Kk (Kj 370) ou 563 934 38 m3,Jn top id 2 1 43 575 958 m4,Jn top id 14 2112 52 587 987 m5]
abbrev a5:List W:=mD [[tV [(.int 0 1106)],dc,jU,tS 1110 ["one","row","start","ends","begin"],dc,fn "stretch" "stretch" (top 68),cg "stretch" 1107 1115 230 3 682,Ů],Jn top id 4 0 69 689 1118 m6,[dc,jl,c1 m7 1168 "TextRow" 261 jz0 1194 738 6,dc,lt 4 [(263,729),(268,736)],cc "TextRow" 1163 261 720,fr 722 719 m7],Jn (inClass (top 74)) (ID 74) 2 0 0 724 1173 m7,[tS 1191 ["known","number","text"],c2 m7 1168 261 jz0 1194 738 [("__dict__",1196,r 741),("__weakref__",1198,r 742)] 1199 4],Wi "TextRow" 739 1161 1195,Jn top id 1 1 75 745 1202 m7,[dc,jl,c1 m7 1215 "Truths" 275 jz1 1256 781 8,dc,lt 4 (Kb (inClass (top 76)) 4 5 0 757),cc "Truths" 1210 275 753,fr 755 752 m7],Jn (inClass (top 76)) (ID 76) 4 5 0 757 1220 m7]
abbrev a6:List W:=mD [[tS 1254 ["conds","up"],c2 m7 1215 275 jz1 1256 781 [("__dict__",1258,r 784),("__weakref__",1260,r 785)] 1261 4],Wi "Truths" 782 1208 1257,Jn top id 2 0 77 788 1264 m7,Jn top id 5 4 81 802 1284 m8,[dc,jl,c1 m9 1339 "Walker" 347 jz2 1530 989 25,dc,lt 4 (Kb (inClass (top 87)) 21 0 0 842),cc "Walker" 1334 347 838,fr 840 837 m9],Jn (inClass (top 87)) (ID 87) 21 0 0 842 1344 m9]
abbrev a7:List W:=mD [[tS 1516 ["behind_marks","hand","hand_rows","lines","log","met","noted","passed","shelves","sums","taken","teller","truths","wanting"],c2 m9 1339 347 jz2 1530 989 [("__dict__",1532,r 992),("__weakref__",1534,r 993)] 1535 4],Wi "Walker" 990 1332 1531,Jn top id 2 1 88 996 1538 m9,Jn top id 1 0 91 1008 1556 m10,Jn top id 7 8 93 1015 1570 SX,[tS 1643 ["row ","last","/","soon ","from ","not ","end"],dc,jl,c1 oW 1672 "Scan" 571 jz3 1730 1112 10,dc,lt 4 (Kb (inClass (top 109)) 6 0 0 1070),cc "Scan" 1667 571 1066,fr 1068 1065 oW]]
abbrev a8:List W:=mD [Jn (inClass (top 109)) (ID 109) 6 0 0 1070 1677 oW,[tS 1728 ["number","rest"],c2 oW 1672 571 jz3 1730 1112 [("__dict__",1732,r 1115),("__weakref__",1734,r 1116)] 1735 4],Wi "Scan" 1113 1665 1731,Jn top id 15 2 110 1119 1738 oW]
abbrev a9:List W:=mD [Jn top id 4 0 127 1222 1863 ę,Jn top id 15 17512 132 1250 1904 zX]
abbrev os:List W:=a0++(a1++(a2++(a3++(a4++(a5++(a6++(a7++(a8++(a9)))))))))
abbrev tr(n:Nat)(q:List<|Nat×W):mI->BT:=br 12<|ov os 0 n q
abbrev lf:Life:=⟨[],[],[],0,[],[],Zb,#[],[],0,Zb,Zb,Zb,0,[2000,10,10],Zb,0,O,[],[],0,Zb⟩
abbrev TA(w:de)(os:hX):nq:=⟨tr 15 [(3,boot_o_3),(12,jU)] w.params,15,lf,⟨[]⟩,⟨0,0,0,0⟩,187,os⟩
abbrev T0(w:de)(os:hX):nq:=⟨tr 83 [(3,di 15<|("__name__",165,.str "rowblade.errors" 194)::d0),(12,lt 0 l0),(31,cG "BladeError" [.type "ValueError"] [r 31,.type "ValueError",.type "Exception",.type "BaseException",.type "object"] 30 [r 44,r 56,r 68,r 80] (U<|r 22) 196 "ValueError.__new__")] w.params,83,lf,⟨[]⟩,⟨0,0,0,0⟩,278,os⟩
abbrev T1(w:de)(os:hX):nq:=⟨tr 174 [(3,di 21<|("__name__",165,.str "rowblade.lines" 399)::d1),(12,lt 0 l1)] w.params,174,lf,⟨[]⟩,⟨0,0,0,0⟩,401,os⟩
abbrev T2(w:de)(os:hX):nq:=⟨tr 261 [(3,di 26<|("__name__",165,.str "rowblade.lines" 399)::d2),(12,lt 0 l2),(225,c0 "Cond" 224 [r 239,r 258] 461)] w.params,261,lf,⟨[]⟩,⟨0,0,0,0⟩,522,os⟩
abbrev T3(w:de)(os:hX):nq:=⟨tr 349 [(3,di 31<|("__name__",165,.str "rowblade.lines" 399)::d3),(12,lt 0 l3),(225,c0 "Cond" 224 [r 239,r 258,r 270,r 289,r 308,r 327,r 346] 461)] w.params,349,lf,⟨[]⟩,⟨0,0,0,0⟩,642,os⟩
abbrev T4(w:de)(os:hX):nq:=⟨tr 418 [(3,di 36<|("__name__",165,.str "rowblade.lines" 399)::d4),(12,lt 0 l4),(370,c0 "Deed" 369 [r 391,r 403,r 415] 658)] w.params,418,lf,⟨[]⟩,⟨0,0,0,0⟩,735,os⟩
abbrev T5(w:de)(os:hX):nq:=⟨tr 506 [(3,di 41<|("__name__",165,.str "rowblade.lines" 399)::d5),(12,lt 0 l5),(370,c0 "Deed" 369 [r 391,r 403,r 415,r 427,r 446,r 465,r 484,r 503] 658)] w.params,506,lf,⟨[]⟩,⟨0,0,0,0⟩,857,os⟩
abbrev T6(w:de)(os:hX):nq:=⟨tr 601 [(3,di 58<|("__name__",165,.str "rowblade.patterns" 973)::d6),(12,lt 0 l6)] w.params,601,lf,⟨[]⟩,⟨0,0,0,0⟩,1005,os⟩
abbrev T7(w:de)(os:hX):nq:=⟨tr 795 [(3,di 80<|("__name__",165,.str "rowblade.truths" 1159)::d7),(12,lt 0 l7)] w.params,795,lf,⟨[]⟩,⟨0,0,0,0⟩,1272,os⟩
abbrev T8(w:de)(os:hX):nq:=⟨tr 1015 [(3,di 91<|("__name__",165,.str "rowblade.plans" 1568)::d8),(12,lt 0 l8)] w.params,1015,lf,⟨[]⟩,⟨0,0,0,0⟩,1570,os⟩
abbrev T9(w:de)(os:hX):nq:=⟨tr 1229 [(3,di 124<|("__name__",165,.str "rowblade.reading" 1859)::d9),(12,lt 0 l9)] w.params,1229,lf,⟨[]⟩,⟨0,0,0,0⟩,1872,os⟩
abbrev XT(w:de)(os:hX):nq:=⟨tr 1345 [] w.params,1345,lf,⟨[]⟩,⟨0,0,0,0⟩,2039,os⟩
abbrev bE:Fh:=behindTheImports pw
abbrev nv:Env:={scope:=pw.main.scope,locals:=mainNs,globals:=mainNs,cells:=[],code:=(r 13),frame:=U 14}
abbrev cE:Code:=.body bE nv
abbrev BF:List Frame:=[topFrame ⟨0,0,0,0⟩]
abbrev an:D2:=(U<|r 6)
abbrev XU:Fh:=(bE.drop 0).take 7
abbrev XW:Fh:=(bE.drop 7).take 8
abbrev XX:Fh:=(bE.drop 15).take 5
abbrev XY:Fh:=(bE.drop 20).take 5
abbrev XZ:Fh:=(bE.drop 25).take 5
abbrev X0:Fh:=(bE.drop 30).take 5
abbrev X3:Fh:=(bE.drop 35).take 19
abbrev X4:Fh:=(bE.drop 54).take 24
abbrev X5:Fh:=(bE.drop 78).take 15
abbrev X6:Fh:=(bE.drop 93).take 35
abbrev Qp:Fh:=(bE.drop 128).take 19
abbrev S0(w:de)(os:hX):ag:=⟨oT w.params,Array.mk [],boot_drawn,boot_toks,os⟩
abbrev th0:n5:=lb XU nv cE ⟨0,0,0,0⟩ BF
abbrev th1:n5:=lb XW nv cE ⟨13,0,14,8⟩ BF
abbrev EI:n5:=lb XX nv cE ⟨45,0,45,8⟩ BF
abbrev th3:n5:=lb XY nv cE ⟨59,0,62,28⟩ BF
abbrev th4:n5:=lb XZ nv cE ⟨79,0,82,26⟩ BF
abbrev th5:n5:=lb X0 nv cE ⟨93,0,94,8⟩ BF
abbrev th6:n5:=lb X3 nv cE ⟨111,0,115,24⟩ BF
abbrev th7:n5:=lb X4 nv cE ⟨151,0,162,31⟩ BF
abbrev th8:n5:=lb X5 nv cE ⟨306,0,311,15⟩ BF
abbrev th9:n5:=lb X6 nv cE ⟨512,0,512,8⟩ BF
abbrev ű:n5:=lb Qp nv cE ⟨713,0,717,25⟩ BF
abbrev thA:n5:=⟨denote fu cE,cE,⟨0,0,0,0⟩,BF⟩
abbrev thB:n5:=blockOf bE nv cE ⟨0,0,0,0⟩ BF
abbrev thF:n5:=⟨doneF .next,cE,⟨851,0,872,127⟩,BF⟩
def jpd:Nat->Nat->Nat->B1
 |0,a,_=>[a]
 |k+1,a,n=>a::jpd k (a+n % 16) (n/16)
abbrev as:BM:=jpd 771 2 0x13112121121211212113112121121211212113113112121131121211212112121121211212112121121211212112121121211212112121121211212112121121211212112121121211212113112123111111212112121121211212112121121281121211212112121131121211212112121121211212113311111121211212112121121211212112121121211212112121121211212112121121211212112121121211212112121121211212112128121211212113112121121211212112123111111212113112121138133111111212112128121211212112121121211212111212112121131121211212112121121211311212112121121211212112121121211212113311731111212731111212731111212731111212731111212731111212731111212731173117311731111212731111a1173111121273111121273111121273111121273117311112127311731111a111111212a1111112128121211121231111212731111212731111212731111212731173117311731173111711212c1
def sl:List W->Nat->B1->List W
 |[],_,_=>[]
 |x::l,i,q=>(match q with
  |[]=>[]
  |y::r=>(match y.beq i with
   |true=>x::sl l (i+1) r
   |false=>sl l (i+1) q))
abbrev K(P:mI):y8:=as.zip<|(sl os 0 as).map λo=>o P
abbrev vw:da:={pw with main:={pw.main with body:=([0,2,3,4,5,6,7,8,9,10,12,15,16,17,18,19,20,21,22,23,24,25,26,27,28,29,30,31,32,33,34,35,36,37,38,40,41,42,43,44,46,47,48,49,50,51,52,53,54,55,56,57,58,59,60,61,62,63,64,65,67,69,70,71,72,74,75,76,77,78,80,81,82,83,84,85,87,88,89,91,93,94,95,96,97,98,99,101,102,103,104,105,106,107,108,109,110,111,112,113,114,115,116,117,118,119,120,121,122,123,124,126,127,128,129,130,132,133,134,135,136,137,138,139,140,141,142,143,144,145,146]:B1).map top}}
abbrev lz:Bi:=["pasted","stretch"]
def pre:∀w:de,(λos=>topGo fu pw w 11 an 12 (S0 w os)<|topStub pw)=λos=>U ((TA w os).abs,thA):=by
 exact λw=>by kernel_rfl
def Ě:∀w:de,(λos=>segRun fu pw w 11 an 1 1 (TA w os).abs thB)=λos=>U (hJ,(TA w os).abs,cE,(⟨0,0,0,0⟩:Pos)):=by
 exact λw=>by kernel_rfl
def g0:∀w:de,(λos=>n8 fu pw w 11 an 1 1077 (TA w os) th0)=λos=>U (hJ,T0 w os,cE,(⟨13,0,14,8⟩:Pos)):=by
 rewrite [dk]
 exact λw=>by kernel_rfl
def g1:∀w:de,(λos=>n8 fu pw w 11 an 1 1063 (T0 w os) th1)=λos=>U (hJ,T1 w os,cE,(⟨45,0,45,8⟩:Pos)):=by
 rewrite [dk]
 exact λw=>by kernel_rfl
def g2:∀w:de,(λos=>n8 fu pw w 11 an 1 1095 (T1 w os) EI)=λos=>U (hJ,T2 w os,cE,(⟨59,0,62,28⟩:Pos)):=by
 rewrite [dk]
 exact λw=>by kernel_rfl
def g3:∀w:de,(λos=>n8 fu pw w 11 an 1 1198 (T2 w os) th3)=λos=>U (hJ,T3 w os,cE,(⟨79,0,82,26⟩:Pos)):=by
 rewrite [dk]
 exact λw=>by kernel_rfl
def g4:∀w:de,(λos=>n8 fu pw w 11 an 1 1075 (T3 w os) th4)=λos=>U (hJ,T4 w os,cE,(⟨93,0,94,8⟩:Pos)):=by
 rewrite [dk]
 exact λw=>by kernel_rfl
def g5:∀w:de,(λos=>n8 fu pw w 11 an 1 1200 (T4 w os) th5)=λos=>U (hJ,T5 w os,cE,(⟨111,0,115,24⟩:Pos)):=by
 rewrite [dk]
 exact λw=>by kernel_rfl
def g6:∀w:de,(λos=>n8 fu pw w 11 an 1 1169 (T5 w os) th6)=λos=>U (hJ,T6 w os,cE,(⟨151,0,162,31⟩:Pos)):=by
 rewrite [dk]
 exact λw=>by kernel_rfl
def g7:∀w:de,(λos=>n8 fu pw w 11 an 1 1184 (T6 w os) th7)=λos=>U (hJ,T7 w os,cE,(⟨306,0,311,15⟩:Pos)):=by
 rewrite [dk]
 exact λw=>by kernel_rfl
def g8:∀w:de,(λos=>n8 fu pw w 11 an 1 1201 (T7 w os) th8)=λos=>U (hJ,T8 w os,cE,(⟨512,0,512,8⟩:Pos)):=by
 rewrite [dk]
 exact λw=>by kernel_rfl
def g9:∀w:de,(λos=>n8 fu pw w 11 an 1 1197 (T8 w os) th9)=λos=>U (hJ,T9 w os,cE,(⟨713,0,717,25⟩:Pos)):=by
 rewrite [dk]
 exact λw=>by kernel_rfl
def g10:∀w:de,(λos=>n8 fu pw w 11 an 1 561 (T9 w os) ű)=λos=>U (hJ,XT w os,cE,(⟨851,0,872,127⟩:Pos)):=by
 rewrite [dk]
 exact λw=>by kernel_rfl
def fin:∀w:de,(λos=>topRun fu pw w 11 an 2 (XT w os).abs thF)=λos=>U (XT w os).abs:=by
 exact λw=>by kernel_rfl
def chn(w:de)(os:hX):∀l,l=(XU++(XW++(XX++(XY++(XZ++(X0++(X3++(X4++(X5++(X6++(Qp++[])))))))))))->topRun fu pw w 11 an (1077+(1063+(1095+(1198+(1075+(1200+(1169+(1184+(1201+(1197+(561+2))))))))))) (TA w os).abs (restOf l nv cE ⟨0,0,0,0⟩ BF)=U (XT w os).abs:=λl e=>by
 rw[e];exact jd (i6<|ej (g0 w) os)<|jd (i6<|ej (g1 w) os)<|jd (i6<|ej (g2 w) os)<|jd (i6<|ej (g3 w) os)<|jd (i6<|ej (g4 w) os)<|jd (i6<|ej (g5 w) os)<|jd (i6<|ej (g6 w) os)<|jd (i6<|ej (g7 w) os)<|jd (i6<|ej (g8 w) os)<|jd (i6<|ej (g9 w) os)<|jd (i6<|ej (g10 w) os)<|ej (fin w) os
def run(w:de)(os:hX):topRun fu pw w 11 an (12+(1+(1077+(1063+(1095+(1198+(1075+(1200+(1169+(1184+(1201+(1197+(561+2))))))))))))) (S0 w os) (topStub pw)=U (XT w os).abs:=go_top (ej (pre w) os)<|piece_block (ej (Ě w) os)<|chn w os bE<|by kernel_rfl
def Wj:∀P,as=(K P).map (·.1):=λ_=>by kernel_rfl
abbrev H:Hook:=kHook K as Wj
abbrev H1(P:mI):eh:=absHeap ((tr 1345 []) P) 1345 lf
abbrev SF(w:de)(os:hX):ag:=⟨H1 w.params,Array.mk [],⟨0,0,0,0⟩,2039,os⟩
abbrev Xt(s:ag):Bool:=xlAt vw [] s&&recOk (RowW.records<|OpenRow.toRowW<|OpenLaw.row PySem.Challenge.rw_rowblade_k64_other_texts) s
def opn:∀w:de,(fencedOpening fu pw w 24144).map (λs=>(s.heap,s.gens,s.drawn,s.toks))=U (oT w.params,Array.mk [],boot_drawn,boot_toks):=boot_open (by kernel_rfl) (by decide) λs=>by kernel_rfl
def siz:∀w:de,((oT w.params).isNs eD&&(Array.mk []:Array ti).size == 0,(oT w.params).objs.size,(oT w.params).nsMap eD "__annotations__")=(O,11,an):=λw=>by kernel_rfl
def X7:∀w:de,(λos=>(staticsOk (vl pw.main.body) (oT w.params) (H1 w.params)&&namesBound pw (H1 w.params)&&gensDone (SF w os)&&laidKept (oT w.params) (H1 w.params)))=λ_=>O:=λw=>by kernel_rfl
def q1:∀w:de,(λos=>PyProof.Rows.seen (zr (λx=>x.name)<|P6 vw) (PyProof.Rows.ownsOf vw) [] {heap:=(SF w os).heap,drawn:=(SF w os).drawn,toks:=(SF w os).toks,os:=(SF w os).os})=λ_=>PyProof.Rows.expectedOf vw:=λw=>by kernel_rfl
def q2:∀w:de,(λos=>(SF w os).heap.bltView)=λ_=>bltViewBooted:=λw=>by kernel_rfl
def b1:∀w:de,(λos=>(SF w os).heap.keysOk (looseW vw lz) (zr (λx=>x.name)<|P6 vw) (zr (λx=>x.fst)<|PyProof.Rows.litsOf vw)<|zr (λx=>x.name)<|PyProof.Rows.clssOf vw<|looseW vw lz)=λ_=>O:=λw=>by kernel_rfl
def b2:∀w:de,(λos=>(SF w os).heap.accountedOkI<|vl pw.main.body)=λ_=>O:=λw=>by kernel_rfl
def b3:∀w:de,(λos=>(SF w os).heap.isNs eD)=λ_=>O:=λw=>by kernel_rfl
def b4:∀w:de,(λos=>(SF w os).heap.isNs sr)=λ_=>O:=λw=>by kernel_rfl
def b5:∀w:de,(λos=>PyProof.Rows.tablesOk vw (SF w os).heap)=λ_=>O:=λw=>by kernel_rfl
def b6:∀w:de,(λos=>Xt<|SF w os)=λ_=>O:=λw=>by kernel_rfl
def q4:∀w:de,(λos=>PyProof.Rows.tabsOk vw<|SF w os)=λ_=>O:=λw=>by kernel_rfl
def q5:∀w:de,(λos=>pinSeenD vw (P7 vw)<|SF w os)=λ_=>pinGoodD<|P7 vw:=λw=>by kernel_rfl
def q6:∀w:de,(λos=>PyProof.Rows.plainSeenE vw (looseW vw lz)<|SF w os)=λ_=>PyProof.Rows.plainGoodE vw<|looseW vw lz:=λw=>by kernel_rfl
def q7:∀w:de,(λos=>PyProof.Rows.plainSeenD vw lz<|SF w os)=λ_=>PyProof.Rows.plainGoodD vw lz:=λw=>by kernel_rfl
def q8:∀w:de,(λos=>wideSeen vw<|SF w os)=λ_=>wideGood vw:=λw=>by kernel_rfl
def q9:∀w:de,(λos=>clsSeenW vw lz<|SF w os)=λ_=>clsGoodW vw lz:=λw=>by kernel_rfl
def lk2:∀w:de,(λos=>openSeen vw lz (vl pw.main.body) Xt O<|SF w os)=λ_=>openGood vw lz:=λw=>xY λos=>ix (ej (q1 w) os)<|ix (ej (q2 w) os)<|ix (by
 show(_&&_&&_&&_&&_&&_&&_)=O;rw[ej (b1 w) os,ej (b2 w) os,ej (b3 w) os,ej (b4 w) os,ej (b5 w) os,ej (b6 w) os];rfl)<|ix (ej (q4 w) os)<|ix (ej (q5 w) os)<|ix (ej (q6 w) os)<|ix (ej (q7 w) os)<|ix (ej (q8 w) os)<|ej (q9 w) os
def sp{c b γ:Type}{f:c->γ}{g:b->γ}(n:Nat){a:List c}{k:List b}(e:(a.take n).map f=(k.take n).map g)(d:(a.drop n).map f=(k.drop n).map g):a.map f=k.map g:=by
 rw[<- uL n a,<- uL n k,gf,gf,e,d]
def l3a:∀w:de,(λos=>(as.take 258).map (SF w os).heap.get?)=λ_=>((K w.params).take 258).map λp=>U p.2:=λw=>by kernel_rfl
def l3b:∀w:de,(λos=>((as.drop 258).take 258).map (SF w os).heap.get?)=λ_=>(((K w.params).drop 258).take 258).map λp=>U p.2:=λw=>by kernel_rfl
def l3c:∀w:de,(λos=>((as.drop 258).drop 258).map (SF w os).heap.get?)=λ_=>(((K w.params).drop 258).drop 258).map λp=>U p.2:=λw=>by kernel_rfl
def lk3:∀w:de,(λos=>Hook.obs H<|SF w os)=λ_=>Hook.val H w:=λw=>xY λos=>sp 258 (ej (l3a w) os)<|sp 258 (ej (l3b w) os)<|ej (l3c w) os
def left:LeftO pw vw lz Xt (Hook.obs H) (Hook.val H) 24144:=LeftO.of_pieces (H₁:=H1) (gs₁:=Array.mk []) (d₁:=⟨0,0,0,0⟩) (k₁:=2039) opn siz run (by decide) λw=>xY λos=>ix (ej (X7 w) os)<|ix (ej (lk2 w) os)<|ej (lk3 w) os
end KH
end
namespace L2
open PySem PySem.Spec PyProof.Rows
section
variable{j:Type}[DecidableEq j]
def kJ(kvs:List<|j×V)(k:j):Option V:=(kvs.find? λa=>decide<|a.1=k).map (·.2)
def putK(kvs:List<|j×V)(k:j)(v:V):List<|j×V:=
 if(kvs.any λa=>decide<|a.1=k)=O then kvs.map (λa=>if a.1=k then(a.1,v)else a)else kvs++[(k,v)]
def jB{k:j}(e:p.1=k):kJ (p::r) k=U p.2:=by simp[kJ,e]
def jC{k:j}(e:¬ p.1=k):kJ (p::r) k=kJ r k:=by simp[kJ,e]
theorem p9(k:j):∀kvs:List<|j×V,(kvs.any λa=>decide<|a.1=k)=(kJ kvs k).isSome
 |[]=>J
 |p::r=>by
  rw[rN];by_cases e:p.1=k
  .simp[jB e,b7 e,GR,Option.isSome_some]
  .rw[jC e,cq e];exact p9 k r
def nI(kvs:List<|j×V)(k:j)(v:V):(putK kvs k v).length<=kvs.length+1:=by
 unfold putK;split
 .rw[bQ];lia
 .rw[bU,dU,Pj];lia
def ia.iG(r:ia o u):o.isSome=u.isSome:=by
 cases o with
 |none=>cases u with
  |none=>rfl
  |some _=>exact(r).elim
 |some _=>cases u with
  |none=>exact(r).elim
  |some _=>rfl
theorem ia.getD(r:ia o u)(rd:RelV d d'):RelV (o.getD d)<|u.getD d':=by
 cases o with
 |none=>cases u with
  |none=>exact rd
  |some _=>exact(r).elim
 |some _=>cases u with
  |none=>exact(r).elim
  |some _=>exact r
def KV.val(r:KV kvs vs)(k:j):ia (kJ kvs k)<|tc vs k:=by
 induction r with
 |nil=>exact fA
 | @cons p q ps a h t d=>
  obtain⟨c,f⟩:=h;by_cases e:p.1=k
  .have e':=c.symm.trans e
   have b:tc (q::a) k=U q.2:=by simp[tc,e']
   rw[jB e,b];exact f
  .have e':¬ q.1=k:=λz=>e<|c.trans z
   have b:tc (q::a) k=tc a k:=by simp[tc,e']
   rw[jC e,b];exact d
theorem KV.any(r:KV kvs vs)(k:j):(kvs.any λa=>decide<|a.1=k)=vs.any λa=>decide<|a.1=k:=by
 induction r with
 |nil=>rfl
 |cons h t b=>rw[rN,rN,b,h.1]
def KV.SY(r:KV kvs vs)(k:j)(c:RelV y u) :
  KV (kvs.map λa=>if a.1=k then(a.1,y)else a)<|vs.map λa=>if a.1=k then(a.1,u)else a:=by
 induction r with
 |nil=>exact .nil
 | @cons p q ps g h t d=>
  rw[gj,gj];refine .cons ?_ d;obtain⟨b,f⟩:=h;by_cases e:p.1=k
  .rw[b0 e,b0<|b.symm.trans e];exact⟨b,c⟩
  .rw[bt e,bt λz=>e<|b.trans z];exact⟨b,f⟩
def KV.put(r:KV kvs vs)(k:j)(a:RelV y u):KV (putK kvs k y)<|stored vs k u:=by
 unfold putK stored;rw[r.any k];by_cases e:(vs.any λb=>decide<|b.1=k)=O
 .rw[b0 e,b0 e];exact r.SY k a
 .rw[bt e,bt e];exact Paired.snoc r ⟨J,a⟩
def KV.keys{vs:List<|j×ao}(r:KV kvs vs):kvs.map (·.1)=vs.map (·.1):=by
 induction r with
 |nil=>rfl
 |cons h t a=>rw[gj,gj,a,h.1]
theorem KV.length{vs:List<|j×ao}(r:KV kvs vs):kvs.length=vs.length:=Paired.length r
end
def tM(r:RelV (kV k) u):(ck P w).is k u=O:=by
 cases k with
 |inl i=>obtain⟨t,e⟩:=(r);subst e;exact xn P w i t
 |inr x=>obtain⟨t,e⟩:=(r);subst e;exact xo P w x t
theorem tN:∀{ks:List Key}{us:B2},Vals (ks.map kV) us->ItemsAre (ck P w) ks us
 |[],_,r=>by cases r;exact .nil
 |k::ks,_,r=>by
  cases r with
  |cons h t=>exact .cons (tM h)<|tN t
abbrev KT(H:Hp):List (List Key×V)->List (List Key×ax×ao)->Prop:=Eu λp q=>p.1=q.1/\H q.2.1=U (.tup<|p.1.map kV)/\RelV p.2 q.2.2
def KT.val(r:KT H kvs xs)(k:List Key):ia (kJ kvs k)<|(yy xs k).map (·.2):=by
 induction r with
 |nil=>exact fA
 | @cons p q ps a h t d=>
  obtain⟨c,_,f⟩:=h;by_cases e:p.1=k
  .have e':=c.symm.trans e
   have b:yy (q::a) k=U q.2:=by simp[yy,e']
   rw[jB e,b];exact f
  .have e':¬ q.1=k:=λz=>e<|c.trans z
   have b:yy (q::a) k=yy a k:=by simp[yy,e']
   rw[jC e,b];exact d
def KT.SY(r:KT H kvs xs)(k:List Key)(d:RelV y u) :
  KT H (kvs.map λb=>if b.1=k then(b.1,y)else b)<|xs.map<|putAt k u:=by
 induction r with
 |nil=>exact .nil
 | @cons p q ps i h t f=>
  rw[gj];refine .cons ?_ f;obtain⟨a,c,g⟩:=h;unfold putAt;by_cases e:p.1=k
  .rw[b0 e,b0<|a.symm.trans e];exact⟨a,c,d⟩
  .rw[bt e,bt λz=>e<|a.trans z];exact⟨a,c,g⟩
def KT.put(r:KT H kvs xs)(k:List Key)(d:H b=U (.tup<|k.map kV))(a:RelV y u) :
  KT H (putK kvs k y)<|storedH xs k b u:=by
 have e:(kvs.any λc=>decide<|c.1=k)=(yy xs k).isSome:=by
  rw[p9,(r.val k).iG,GP]
 unfold putK storedH;rw[e];by_cases q:(yy xs k).isSome=O
 .rw[b0 q,b0 q];exact r.SY k a
 .rw[bt q,bt q];exact Paired.snoc r ⟨J,d,a⟩
def KT.keeps(r:KT H kvs xs)(ht:∀b ys,H b=U (.tup ys)->H' b=U (.tup ys)):KT H' kvs xs:=
 Paired.R8 r λ_ _ z=>⟨z.1,ht _ _ z.2.1,z.2.2⟩
variable{A:ef}{X:Cx}
def Qq{u:HO}(ok:kH P w H h)(e:Rd H a u):b_ P w H h a u:=e.ok ok
def nJ(ok:kH P w H h)(e:Rd H a<|.dK kvs):kvs.length<=cC/\(a == hM)=Zb/\∃vs,KV kvs vs/\h.DictOf (ck P w) a vs:=
 Qq ok e
def X8(ok:kH P w H h)(e:H a=U (.dK kvs)):kvs.length<=cC/\(a == hM)=Zb/\∃vs,KV kvs vs/\h.DictOf (ck P w) a vs:=nJ ok<|.inl e
def mO(ok:kH P w H h)(e:H a=U (.tup<|ks.map kV)):(rg<|ck P w).is h ks a:=by
 obtain⟨_,f,r,o,d,c,n,b⟩:=(ok a _ e);exact⟨o,f.toArray,n,d,c,b,by simpa using tN r⟩
def p_(ok:kH P w H h)(e:Rd H a<|.dT kvs):kvs.length<=cC/\(a == hM)=Zb /\
  ∃xs,KT H kvs xs/\h.DictOfH (rg<|ck P w) a xs:=by
 obtain⟨z,y,xs,r,o,n,s,k,j,i,g,f⟩:=(Qq ok e);refine⟨z,y,xs,r,o,n,s,k,j,i,g,λx b=>?_,f⟩;have all:∀{l:List _}{m:List _},KT H l m->∀x∈m,(rg<|ck P w).is h x.1 x.2.1:=by
  intro l m q
  induction q with
  |nil=>intro x b;exact nomatch b
  | @cons p q ps u c t d=>
   intro x b;rcases bM.mp b with e|b
   .subst e
    exact mO ok (by rw[<- c.1];exact c.2.1)
   .exact d x b
 exact all r x b
def X_(ok:kH P w H h)(e:H a=U (.dT kvs)):kvs.length<=cC/\(a == hM)=Zb /\
  ∃xs,KT H kvs xs/\h.DictOfH (rg<|ck P w) a xs:=p_ ok<|.inl e
def rY(H:Hp)(a:ax)(y:V)(r:Option V):Prop:=
 (∃c k,Rd H a (.dK c)/\y=kV k/\r=kJ c k)\/∃c k b,Rd H a (.dT c)/\y=.ref b/\H b=U (.tup<|k.map kV)/\r=kJ c k
def Ms(H:Hp)(a:ax)(y v:V)(H':Hp):Prop:=
 (∃c k,H a=U (.dK c)/\y=kV k/\c.length<cC/\H'=upd H a (.dK<|putK c k v)) \/
 ∃c k b,H a=U (.dT c)/\y=.ref b/\H b=U (.tup<|k.map kV)/\c.length<cC/\H'=upd H a (.dT<|putK c k v)
theorem rY.k{k:Key}(e:H a=U (.dK kvs)):rY H a (kV k)<|kJ kvs k:=.inl ⟨kvs,k,.inl e,J,J⟩
theorem Ms.k{k:Key}(e:H a=U (.dK kvs))(hl:kvs.length<cC):Ms H a (kV k) v<|upd H a<|.dK<|putK kvs k v:=.inl ⟨kvs,k,e,J,hl,J⟩
def Inv.big(I:Inv X S R H s):hM<s.heap.objs.size:=by
 have h:=(I.mod.glob.keeps I.bk).lt;exact Gj (by decide) h
def EJ{Q:F1}(t:A.units+1<kf)(I:Inv X S R H s)(g:rY H a y<|U v)(q:RelV y u)(h:∀d s',Inv X S R H s'->RelV v d->Q d s') :
  c4 (cv X.prog X.w) A (v9 (.ref a) u) Q E s:=by
 rcases g with⟨i,k,e,m,l⟩|⟨i,k,b,e,m,B,l⟩
 .subst m
  obtain⟨z,hd,r,c,n⟩:=nJ I.bF e;obtain⟨d,j,f⟩:=ia.some_of (l▸c.val k)
  exact wpAny_getItem_of (tM q) n.mapOf j<|h d _ (I.tok _) f
 .subst m
  cases(q);obtain⟨z,hd,xs,c,n⟩:=p_ I.bF e;obtain⟨d,j,f⟩:=ia.some_of (l▸c.val k)
  obtain⟨p,x,C⟩:=bZ.mp j;refine wpAny_getItem_heap (kz t) (mO I.bF B) n x ?_;exact C▸h d _ (I.tok _) f
def Ų{Q:F1}(m:A.units+1<kf)(I:Inv X S R H s)(g:rY H a y o)(j:RelV y u)(h:∀s',Inv X S R H s'->Q (.bool o.isSome) s') :
  c4 (cv X.prog X.w) A (et .In u<|.ref a) Q E s:=by
 rcases g with⟨d,k,e,f,l⟩|⟨d,k,b,e,f,n,l⟩
 .subst f
  obtain⟨z,hd,p,c,i⟩:=nJ I.bF e;refine wpAny_in_of (tM j) hd i.mapOf ?_;rw[<- (c.val k).iG,<- l];exact h _<|I.tok _
 .subst f
  cases(j);obtain⟨z,hd,xs,c,i⟩:=p_ I.bF e;refine wpAny_in_heap (kz m) (mO I.bF n) hd i ?_;have q:=(c.val k).iG;rw[GP]at q;rw[<- q,<- l];exact h _<|I.tok _
def Mu{Q:F1}(m:A.units+1<kf)(I:Inv X S R H s)(g:rY H a y o)(j:RelV y u)(h:∀s',Inv X S R H s'->Q (.bool<|!o.isSome) s') :
  c4 (cv X.prog X.w) A (et .NotIn u<|.ref a) Q E s:=by
 rcases g with⟨d,k,e,f,l⟩|⟨d,k,b,e,f,n,l⟩
 .subst f
  obtain⟨z,hd,p,c,i⟩:=nJ I.bF e;refine wpAny_notIn_of (tM j) hd i.mapOf ?_;rw[<- (c.val k).iG,<- l];exact h _<|I.tok _
 .subst f
  cases(j);obtain⟨z,hd,xs,c,i⟩:=p_ I.bF e;refine wpAny_notIn_heap (kz m) (mO I.bF n) hd i ?_;have q:=(c.val k).iG;rw[GP]at q;rw[<- q,<- l];exact h _<|I.tok _
def BU(I:Inv X S R H s)(mu:WJ<|H a)(hs:oC a s.heap h')(he:∃q,h'.get? a=U q)(new:b_ X.prog X.w (upd H a ob) h' a ob) :
  Inv X S R (upd H a ob) {s with heap:=h',toks:=t'}:=
 I.write mu (.inl J) (λb q c z=>(hs.2 b c).trans z) he new
def S1(z:kvs.length<=cC)(hd:(a == hM)=Zb)(b:KV kvs vs)(dd:h'.DictOf (ck P w) a vs) :
  b_ P w H' h' a<|.dK kvs:=⟨z,hd,vs,b,dd⟩
def EK{Q:F2}(D:A.units+1<kf)(I:Inv X S R H s)(g:Ms H a y v H')(o:RelV y u)(p:RelV v r)(h:∀s',Inv X S R H' s'->Q () s') :
  c4 (cv X.prog X.w) A (setItem (.ref a) u r) Q E s:=by
 rcases g with⟨f,k,e,j,l,m⟩|⟨f,k,b,e,j,B,l,m⟩
 .subst j m
  obtain⟨z,hd,C,d,n⟩:=X8 I.bF e;have hz:C.length<=cC:=by rw[<- d.length];exact z
  have hl:(putK f k v).length<=cC:=by have:=nI f k v;lia
  refine wpAny_setItem_pairs (tM o) n λt ě hs=>h _ ?_;have F:∃q,t.get? a=U q:=let⟨q,_,_,i,_⟩:=ě;⟨q,i⟩;exact BU I (by rw[e];exact fA) hs F<|S1 hl hd (d.put k p) ě
 .subst j m
  cases(o);obtain⟨z,hd,xs,d,n⟩:=X_ I.bF e;have hz:xs.length<=cC:=by rw[<- Paired.length d];exact z
  have hl:(putK f k v).length<=cC:=by have:=nI f k v;lia
  refine wpAny_setItem_heap (kz D) (mO I.bF B) n λt ě hs=>h _ ?_;obtain⟨q,N,P,i,M,L,K,_,G⟩:=ě;refine BU I (by rw[e];exact fA) hs ⟨q,i⟩ ⟨hl,hd,_,(d.put k B p).keeps λc ys x=>?_,q,N,P,i,M,L,K,G⟩
  rw[aq (WI x e (λz=>nomatch z))];exact x
def S3(i:cx):Prop:=∀ov a,qy i Zb ov a=operate [ov,a] (v9 ov a)
def Mv{b a:cx}{T id:String}
  (hl:so (.type T) "__getitem__" = pure (U<|.builtin id)) (hs:S3 a)
  (h:c4 (cv prog w) A (eE b env) (λo f=>c4 (cv prog w) A (eE a env) (λi c=>c.TypeIs o T/\c4 (cv prog w) A (v9 o i) Q E c) E f) E s) :
  c4 (cv prog w) A (eE (.Subscript b a pos) env) Q E s:=by
 refine y0<|ey h (λo f j=>ey j (λi c d=>?_) λ_ _ x=>x) λ_ _ x=>x;obtain⟨k,d⟩:=d;apply av;refine av<|wpAny_specialOf k hl ?_;have fin:c4 (cv prog w) A (qy a Zb o i) (λr e=>c4 (cv prog w) A (letTemporaryGo b o r >>= λ_=>pure r) Q E e) E c:=(hs o i)▸wpAny_operating<|ey d (λr e g=>av<|wpAny_letTemporaryGo<|dn g) λ_ _ x=>x
 first
  |exact dn<|av fin
  |rfl
def xQ(I:Inv X S R H s)(g:rY H a y o):s.TypeIs (.ref a) "dict" := by
 rcases g with⟨c,k,e,_,_⟩|⟨c,k,b,e,_,_,_⟩
 .obtain⟨_,_,f,_,d⟩:=nJ I.bF e
  exact d.typeIs
 .obtain⟨_,_,xs,_,d⟩:=p_ I.bF e
  exact d.typeIs
def Yb(c ty:TE):TE:=λR H Q=>c R H λx H1=>ty R H1 λy b=>∃a v,x=.ref a/\rY b a y (U v)/\Q v b
def Yc(c ty tv:TE):TS:=λD R H=>tv R H λv H1=>c R H1 λx e=>ty R e λy d=>∃a b,x=.ref a/\Ms d a y v b/\D.nx R b
section
variable{K ty tv:TE}
def BV(k:X.A.units+1<kf)(l:PE X o K)(m:PE X i ty)(hs:S3 i):PE X (.Subscript o i pos)<|Yb K ty:=by
 intro S s R H Q I h;refine Mv PySem.F.slot_dict_getitem.lookup hs<|cH (l S s R H _ I h) λu e b=>?_;obtain⟨x,H1,p,j,q1⟩:=b;refine cH (m S e R H1 _ p q1) λw s2 b=>?_;obtain⟨y,q,c,f,a,v,ex,g,q2⟩:=b;subst ex
 obtain rfl:u=Value.ref a:=j
 exact⟨xQ c g,EJ k c g f λr t n d=>⟨v,q,n,d,q2⟩⟩
def BW(l:X.A.units+1<kf)(m:PE X o K)(n:PE X i ty)(k:PE X Q tv)(hs:eP Q (U<|.Subscript o i L) pos.line X.env=pure Zb) :
  PS X (.Assign [.Subscript o i L] Q pos)<|Yc K ty tv:=by
 intro S s R H D I h;refine wpAny_Assign_Subscript (cH (k S s R H _ I h) λr c b=>?_) hs;obtain⟨v,H1,w,f,q1⟩:=b;refine cH (m S c R H1 _ w q1) λu s2 b=>?_;obtain⟨x,B,t,e,q2⟩:=b;refine cH (n S s2 R B _ t q2) λF E b=>?_;obtain⟨y,G,q,d,a,z,ex,g,j⟩:=b;subst ex
 obtain rfl:u=Value.ref a:=e
 exact EK l q g d f λC p=>⟨R,z,p,j⟩
end
def Hu(h:eh)(a:hM<h.objs.size):b_ P w H (h.push {cls:=.type "dict",data:=.dict #[]}) h.objs.size<|.dK []:=
 ⟨dO _,beq_eq_false_iff_ne.mpr<|e7<|eV a,[],.nil,Heap.DictOf.new h⟩
def S4:TE:=λ_ H Q=>∀p,H p=Y->Q (.ref p) (upd H p<|.dK [])
def xR:PE X (.Dict [] [] pos) S4:=λS s R H Q I h=>
 wpAny_Dict_empty ⟨.ref s.heap.objs.size,_,I.laid (λ_ _ q=>ar _ q) (bP _)<|Hu s.heap I.big,J,h _<|I.bF.fresh<|bP _⟩
structure M2(X:Cx)(o:cx)(m:Str)(bT:Pos)(e f:cx)(bq:Pos):Prop where
 base:kn o m X.env (eE o X.env)=eE o X.env
 EL:((hG bq<|c3 [e,f] X.env).all (λx=>!x.1)&&(o4 bq<|kS [] X.env).all (λx=>x.1.isSome)
  && decide (([e,f]:Bz).length+([]:List pk).length+(if([]:List pk).isEmpty then 0 else 1)<30))=O
 line:(bT.endLine == bq.line)=O
 trees:hG bq (c3 [e,f] X.env)=[(Zb,eE e X.env),(Zb,eE f X.env)]
def Wk(H:Hp)(a:ax):Prop:=(∃b,Rd H a<|.dK b)\/∃b,Rd H a<|.dT b
def S5(I:Inv X S R H s)(d:Wk H a) :
  s.TypeIs (.ref a) "dict" /\ (∀b,Value.ref a=.ref b->∃ob,s.heap.get? b=U ob/\ob.dict=Y)/\(a == hM)=Zb:=by
 rcases d with⟨f,e⟩|⟨f,e⟩
 .obtain⟨_,hd,i,_,c⟩:=nJ I.bF e
  refine⟨c.typeIs,λb q=>?_,hd⟩;cases q;obtain⟨ob,_,_,h,g,_⟩:=c;exact⟨ob,h,g.2.1⟩
 .obtain⟨_,hd,xs,_,c⟩:=p_ I.bF e
  refine⟨c.typeIs,λb q=>?_,hd⟩;cases q;obtain⟨ob,_,_,h,g,_⟩:=c;exact⟨ob,h,g.2.1⟩
def S6(p:A.units+1<kf)(I:Inv X S R H s)(g:rY H a y o)(n:RelV y u)(rd:RelV d r)(h:∀m s',Inv X S R H s'->RelV (o.getD d) m->Q m s') :
  c4 (cv X.prog X.w) A (call (.builtin "dict.get") [.ref a,u,r]) Q E s:=by
 rcases g with⟨i,k,e,j,l⟩|⟨i,k,b,e,j,q,l⟩
 .subst j
  obtain⟨z,hd,t,c,f⟩:=nJ I.bF e;refine call_meetsIn oy f.typeIs u3 (tq ..) (meets_dict_get_default _ a (tM n) hd r) ⟨_,f.mapOf,h _ _ (I.tok _) ?_⟩;exact l▸(c.val k).getD rd
 .subst j
  cases(n);obtain⟨z,hd,xs,c,f⟩:=p_ I.bF e;refine call_meetsIn oy f.typeIs u3 (tq ..) (meetsH_dict_get_default _ a b hd r) ⟨kz p,k,xs,mO I.bF q,f,h _ _ (I.tok _) ?_⟩;exact l▸(c.val k).getD rd
def S7(c ty tx:TE):TE:=λR H Q=>c R H λx H1=>∃a,x=.ref a/\Wk H1 a/\ty R H1 λy d=>tx R d λz b=>∃o,rY b a y o/\Q (o.getD z) b
def Hv(q:X.A.units+1<kf)(r:PE X o T)(he:PE X e ty)(t:PE X f tx)(m:M2 X o "get" N e f P):PE X (.Call (.Attribute o "get" N) [e,f] [] P)<|S7 T ty tx:=by
 intro S s R H Q I h;refine wpAny_Call_method m.base m.EL m.line PySem.F.plainAttrs_dict oy PySem.F.type_dict_get<|cH (r S s R H _ I h) λu j c=>?_;obtain⟨x,H1,b,n,a,ex,d,q1⟩:=c;subst ex
 obtain rfl:u=Value.ref a:=n
 obtain⟨t1,t2,_⟩:=S5 b d;refine⟨t1,t2,?_⟩;rw[m.trees];refine vy J<|o7<|qr<|cH (he S j R H1 _ b q1) λL s2 ⟨y,D,B,l,q2⟩=>
  qr<|cH (t S s2 R D _ B q2) λM K ⟨z,C,w,k,ov,g,p⟩=>B8 ?_
 exact S6 q w g l k λE G v i=>⟨_,C,v,i,p⟩
end L2
namespace Pf
end Pf
namespace L2
open PySem PySem.Spec PyProof.Rows
end L2
namespace PySem
open Sem (wp)
open AutoSeq1 (wpAny_loadPart')
section
variable{prog:da}{w:de}{A:ef}{E:F1}{s:ag}
set_option maxHeartbeats 4000000 in
def jD(l:ax)(items:Array ao)(n:Nat)(f_:Option ax)(sl:Array D2)(t:Tok) :
  Meets (Builtin.«enumerate.__new__» ⟨[.type "enumerate",.ref l],[(gs "start",.int 1 t)]⟩) λ_ R s=>s.heap.get? l=U {cls:=.type "list",dict:=f_,data:=.seq items n,slots:=sl} /\
   R (.ok<|.ret<|.ref (s.heap.push {cls:=.type "list_iterator",data:=.fields #[.ref l,.int 0 0]}).objs.size)
    {s with heap:=(s.heap.push {cls:=.type "list_iterator",data:=.fields #[.ref l,.int 0 0]}).push {cls:=.type "enumerate",data:=.fields #[.none,.bool Zb,.ref s.heap.objs.size,pb 1,.none,.none]}}:=
 .of_wp λprog w A R s h=>by
  obtain⟨hl,h⟩:=h;have ų:=sub_enumerate;have hL:Heap.IsList _ l items:=⟨_,hl,J,n,J⟩
  wp_walk using pv hl
  refine wpAny_stack_any λst=>dn ?_;split
  .rename_i c _ _ _ _ _
   cases(c == ox "enumerate")
   .wp_walk using pv hl,iq hL
    exact⟨_,J,h⟩
   .wp_walk using pv hl,iq hL
    exact⟨_,J,h⟩
  .wp_walk using pv hl,iq hL
   exact⟨_,J,h⟩
def kK(hl:so (.type T) "__init__" = pure (U<|.builtin "object.__init__"))
  (e:Bind.madeBy (.type T)=pure (U newId)) (d:(U newId != U "object.__new__")=O) :
  Meets (Builtin.«object.__init__» ⟨self::rest,b⟩) λ_ R s=>s.TypeIs self T/\R (.ok<|.ret .none) s:=by
 refine Meets.of_wp λprog w A R s hs=>?_;obtain⟨f,c⟩:=hs;cases rest with
 |nil=>
  cases b with
  |nil=>exact dn ⟨_,J,c⟩
  |cons a b=>
   repeat (any_goals (first|wp_step))
   exact⟨_,J,c⟩
 |cons a rest=>
  repeat (any_goals (first|wp_step))
  exact⟨_,J,c⟩
def jE(a b:ao):checkTypeCall "enumerate" ⟨[a],[(gs "start",b)]⟩=pure ():=by rfl
def j8(a b:ao):u1 "enumerate.__new__" ⟨[.type "enumerate",a],[(gs "start",b)]⟩=pure ():=by kernel_rfl
def xS(o a b:ao):argsOk "object.__init__" ⟨[o,a],[(gs "start",b)]⟩:=by
 unfold argsOk;rw[signature?_of (n:=['_','_','t','i','n','i','_','_']) (by rfl) F.owner_object];rfl
set_option maxHeartbeats 4000000 in
def mP{l:ax}{items:Array ao}{t:Tok}{Q:F1}(hL:s.heap.IsList l items)
  (h:∀h',IsEnum h' (s.heap.objs.size+1) s.heap.objs.size 1 .none->h'.IsListIter s.heap.objs.size l 0->h'.objs.size=s.heap.objs.size+2 ->
   (∀b o,s.heap.get? b=U o->h'.get? b=U o)->Q (.ref<|s.heap.objs.size+1) {s with heap:=h'}) :
  c4 (cv prog w) A (call (.type "enumerate") [.ref l] [(gs "start",.int 1 t)]) Q E s:=by
 obtain⟨⟨c,f_,dt,sl⟩,hl,hc,n,hd⟩:=hL
 replace hc := hc
 replace hd:=hd
 subst hc hd;have ft:=F.called_enumerate;have abA:=ft.made;have ų:=ft.sub;have hcn:=j8 (.ref l)<|.int 1 t;refine iv<|codeAny_of_tree ?_;show c4 _ _ _ _ _ _;refine dn ⟨n0 _<|by decide +kernel,codeAny_builtin F.entry_type_call ?_⟩
 repeat (any_goals (first|assumption|wp_step))
 have hz:(s.heap.push {cls:=.type "list_iterator",data:=.fields #[.ref l,.int 0 0]}).objs.size=s.heap.objs.size+1:=kv ..;have he:=by
  have:=c5 (s.heap.push {cls:=.type "list_iterator",data:=.fields #[.ref l,.int 0 0]})
   (o:={cls:=.type "enumerate",data:=.fields #[.none,.bool Zb,.ref s.heap.objs.size,pb 1,.none,.none]}) J
  rw[hz]at this;exact this
 have fin:=h _ he ⟨_,ar _<|c5 _ J,J,J⟩ (by rw[kv,hz]) λb o x=>ar _<|ar _ x
 refine gV (hA ft.plain F.entry_enumerate_new<|wpAny_of_eq hcn<|jD l items n f_ sl t prog w A.in1 (wants (λobj s₁=>s₁.TypeIs obj "enumerate" /\ Q obj s₁) E) s ⟨hl,?_⟩) λr s₁ hr=>?_
 .show _/\_
  rw[hz];exact⟨⟨_,he,J⟩,fin⟩
 cases r with
 |error e=>exact hr
 |ok fl=>
  cases fl with
  |ret obj=>
   obtain⟨hT,hq⟩:=hr;have Ŵ:=ft.init.lookup;have hbi:=ft.init.bind obj
   repeat (any_goals (first|assumption|wp_step))
   refine gV (hA ft.init.plain F.entry_object_init<|ft.init.check _ _ _ _ _ _ _ _ hT (xS _ _ _)<|kK ft.init.lookup ft.made (by decide) prog w A.in1 (wants (λr s₂=>r=.none/\Q obj s₂) E) s₁ ⟨hT,J,hq⟩) λr₂ s₂ hr₂=>?_
   cases r₂ with
   |error e=>exact hr₂
   |ok fl₂=>
    cases fl₂ with
    |ret r=>
     obtain⟨rfl,hq⟩:=hr₂
     repeat (any_goals (first|assumption|wp_step))
    |_=>exact hr₂.elim
  |_=>exact hr.elim
end
end PySem
namespace L2
open PySem PySem.Spec PyProof.Rows
def Hw{A:ef}{St:Nat->eh->Prop}(D:Draws prog w A it b n P St)(m:Nat):Draws prog w A it b (m+n) (λj x=>∃i,j=m+i/\P i x) λj h=>∃i,j=m+i/\St i h where
 live:=λ_ h ⟨i,_,st⟩=>D.live i h st
 frame:=λ_ h a ⟨i,e,st⟩ k=>⟨i,e,D.frame i h a st k⟩
 item:=λj s Q E l ⟨i,e,st⟩ f=>D.item i s Q E (by lia) st λx a tk p d c=>f x a tk ⟨i,e,p⟩ ⟨i+1,by lia,d⟩ c
 done:=λs Q E ⟨i,e,st⟩ g=>by
  have:i=n:=by lia
  subst this;exact D.done s Q E st g
def Yd(K:bD)(m:Nat)(l:ax)(xs:List V):It:=
 ⟨λi H=>i<xs.length/\dY K H l xs,λi H v a=>∃p x,H p=Y/\xs[i]?=U x/\v=.ref p/\a=upd H p (.tup [.int ((m+i:Nat):Int),x]),λi H=>i=xs.length/\dY K H l xs⟩
def qa{K:bD}(ŵ:e≠it)(hle:l≠e)(Ŵ:l≠it) :
  Turn P w K (.Tuple B x1 pos) (Yd K m l xs) [e,it] e λi h=>(∃old,IsEnum h e it ((m+i:Nat):Int) old)/\h.IsListIter it l i where
 mem:=by simp
 obj:=λi h st b a=>by
  obtain⟨⟨old,g⟩,o1,e1,_,d1⟩:=st;simp only[bM,kE,hQ]at a;rcases a with rfl|rfl
  .exact⟨_,g,λv q=>by cases q⟩
  .exact⟨o1,e1,λv q=>by rw[d1]at q;cases q⟩
 keep:=λi h M st k=>by
  obtain⟨⟨old,g⟩,y⟩:=st;exact⟨⟨old,k e (by simp) _ g⟩,y.at λo q=>k it (by simp) o q⟩
 item:=by
  intro X hP S hK j i ae s σ H E I f st hg;subst hP S hK;obtain⟨L,W⟩:=hg;obtain⟨⟨old,g⟩,y⟩:=st;obtain⟨z,F,Q,T⟩:=I.list W;obtain⟨u,hu,ru⟩:=F.get<|dP L;have Ĝ:i<z.toArray.size:=by rw[cD,<- F.length];exact L
  have D:=Hw (Draws.list (prog:=X.prog) (w:=X.w) (A:=X.A.in1) (I.ok.hd j) it l Ŵ z.toArray) m;refine wpAny_pyNext_enum_itemD D g ⟨i,J,y,Q.isList⟩ (by lia) ŵ (by simp only[bM,kE,hQ,not_or];exact⟨ŵ,e7 hle⟩) λx M tk G a1 a2 a3 a4 R=>?_
  obtain⟨p,ei,G⟩:=G
  have:p=i:=by lia
  subst this;have hx:=by
   rw[Pk,hu]at G;exact(lD.inj G).symm
  subst hx;obtain⟨i2,ei2,a2,_⟩:=a2
  have:i2=p+1:=by lia
  subst this;refine⟨.ref s.heap.objs.size,J,?_⟩;refine wpAny_letOwnedTupleGo_enum a1 λN b1 b2=>?_
  have lt:∀{d o},s.heap.get? d=U o->s.heap.objs.size≠d:=λe=>Ea<|cw e;have fpn:∀b∈[e,it],s.heap.objs.size≠b:=λb a=>by
   obtain⟨o1,e1,_⟩:=y;simp only[bM,kE,hQ]at a;rcases a with rfl|rfl
   .exact lt g
   .exact lt e1
  have keep:∀b o,b∉[e,it]->s.heap.get? b=U o->N.get? b=U o:=λb o a q=>by
   simp only[bM,kE,hQ,not_or]at a;exact(b2.2 b a.1).trans<|R b o a.1 a.2 q
  have t:=I.bF.fresh<|bP _;have hT:=(b2.2 _<|lt g).trans a3;have Ye:IsTup N s.heap.objs.size [.int ((m+p:Nat):Int) tk,x].toArray:=⟨_,hT,J,0,J⟩;have C:∀b v,H b=U v->b∉[e,it]:=λb v q a=>by rw[(f b a).1]at q;cases q
  have I1:Inv X ae σ (upd H s.heap.objs.size<|.tup [.int ((m+p)),xs[p]]) {s with heap:=N,toks:=tk+1}:=by
   refine I.step (λb a=>⟨(f b a).2.2.2.1,(f b a).2.1,(f b a).2.2.2.2.1,(f b a).2.2.2.2.2⟩) (λb o _ _ a e _=>keep b o a e) (λb o _ _ a e _=>⟨o.slots,keep b o a e⟩)
    (λb o a e n=>by rw[aq<|e7<|lt e];exact n) (λb o a e=>⟨o,keep b o a e⟩) (λb ys e=>by rw[aq<|aS e t];exact e) (λb o v e=>by rw[aq<|aS e t];exact e)
    (λb ps e=>⟨#[],by rw[aq<|aS e t,e];simp⟩) (λm hm=>?_) ?_ I.bare
   .obtain⟨o,es,ep,Z,r⟩:=hm
    exact⟨o,es,ep,keep _ o (λa=>(f _ a).2.1 J) Z,r⟩
   .intro b v e
    by_cases a:b=s.heap.objs.size
    .subst a
     rw[ak]at e;cases e;exact⟨by show 2<=cC;decide,_,.cons ⟨_,J⟩<|.cons ru .nil,Ye⟩
    .rw[aq a]at e
     refine(I.bF b v e).nZ (λc o j q=>keep c o ?_ q) (λc q=>by rw[aq<|aS q t];exact q) λc ys q=>by rw[aq<|aS q t];exact q
     rcases j with rfl|j
     .exact C c v e
     .exact C c _ j
  have eN:((m+p))+1=((m+(p+1))):=by lia
  refine⟨.ref s.heap.objs.size,_,I1,J,⟨_,_,t,dP L,J,J⟩,⟨⟨x,eN▸b1⟩,a2.at λo q=>(b2.2 it ŵ.symm).trans q⟩,λb a=>?_⟩;rw[aq<|e7<|fpn b a];exact(f b a).1
 done:=by
  intro X hP S hK j i ae s σ H E I f st hg;subst hP S hK;obtain⟨L,W⟩:=hg;obtain⟨⟨old,g⟩,y⟩:=st;obtain⟨z,F,Q,T⟩:=I.list W;have hl:=F.length;have D:=Hw (Draws.list (prog:=X.prog) (w:=X.w) (A:=X.A.in1) (I.ok.hd j) it l Ŵ z.toArray) m;refine wpAny_pyNext_enum_endD D g ⟨i,by rw[cD];lia,y,Q.isList⟩ λM R=>⟨J,?_⟩
  have C:∀b v,H b=U v->b∉[e,it]:=λb v q a=>by rw[(f b a).1]at q;cases q
  have keep:∀b o,b∉[e,it]->s.heap.get? b=U o->M.get? b=U o:=λb o a q=>by
   simp only[bM,kE,hQ,not_or]at a;exact R b o a.2 q
  refine I.step (λb a=>⟨(f b a).2.2.2.1,(f b a).2.1,(f b a).2.2.2.2.1,(f b a).2.2.2.2.2⟩) (λb o _ _ a e _=>keep b o a e) (λb o _ _ a e _=>⟨o.slots,keep b o a e⟩)
   (λb o a e n=>n) (λb o a e=>⟨o,keep b o a e⟩) (λ_ _ e=>e) (λ_ _ _ e=>e) (λb ps e=>⟨#[],by rw[e];simp⟩) (λm hm=>?_) (λb v e=>?_) I.bare
  .obtain⟨o,es,ep,Z,r⟩:=hm
   exact⟨o,es,ep,keep _ o (λa=>(f _ a).2.1 J) Z,r⟩
  .refine(I.bF b v e).nZ (λc o j q=>keep c o ?_ q) (λ_ q=>q) λ_ _ q=>q
   rcases j with rfl|j
   .exact C c v e
   .exact C c _ j
 self:=λ_ _ _ _ _ st h=>by obtain⟨⟨old,g⟩,_⟩:=st;exact s9 g h
def S8(K:bD)(m:Nat)(c:TA):TI:=λa H R=>c a H λb H1=>∃l xs,b=[.ref l]/\dY K H1 l xs/\R (Yd K m l xs) H1
def Yh(z:Gl X "enumerate")(y:X.mg "enumerate" = Y)(A:PA X [a] f)(hs:c3 [a] X.env=[(Zb,eE a X.env)]) :
  PI X (.Tuple d o w) (.Call (.Name "enumerate" p) [a] [] pos)<|S8 X.K 0 f:=by
 intro C s m H R I h;refine Call_<|iU I z y P8<|Ec (cH (A pos C s m H _ I h) λE c n=>?_) (by rw[hs];rfl) J
 obtain⟨D,H1,I1,t,q1⟩:=n;obtain⟨l,xs,e,x,q⟩:=q1;subst e;obtain⟨u,rfl,r⟩:=vals1 t;cases r;obtain⟨G,F,g,hz⟩:=I1.list x;refine call_enumerate_list g.isList λB a1 a2 _ v=>s9 a1 ?_
 have i:=let⟨_,e,_⟩:=g.isList;cw e;refine⟨c.heap.objs.size+1,_,_,_,H1,J,I1.kept v,qa (Ea<|pN _) (eV<|Gk i)<|eV i,⟨⟨_,a1⟩,a2⟩,λb j=>?_,q⟩;have k:c.heap.objs.size<=b:=by
  simp only[bM,kE,hQ]at j;rcases j with rfl|rfl
  .exact bH _ _
  .exact bP _
 exact I1.uQ k<|I1.bF.fresh k
def S9{A p pos j kp:Pos}(D:Gl X "enumerate")(C:X.mg "enumerate" = Y)(E:PA X [a] g)(hs:c3 [a] X.env=[(Zb,eE a X.env)]) :
  PI X (.Tuple d w A) (.Call (.Name "enumerate" p) [a] [⟨U<|gs "start",.Constant (.int 1) k1 j,kp⟩] pos)<|S8 X.K 1 g:=by
 intro o s f H R I h;refine ff<|iU I D C P8 ?_;refine PySem.W.callWith_of (P:=λ_=>True) (by rw[hs];rfl) (λh _=>⟨.machine,.inr<|.inl J,.now⟩) ?_
 refine PyProof.Rows.evalArgs_kw2 J (cH (E pos o s f H _ I h) λM c t=>?_) hs;obtain⟨L,H1,G,y,q1⟩:=t;show c4 _ _ _ _ _ c
 refine wpAny_evalAll_cons<|av<|wpAny_Constant_int<|av<|mM<|dn<|wpAny_evalAll_nil ⟨trivial,?_⟩;obtain⟨l,xs,e,B,q⟩:=q1;subst e;obtain⟨u,rfl,x⟩:=vals1 y;cases x;have I2:Inv X o f H1 {c with toks:=c.toks+1}:=G.tok _
 obtain⟨Q,N,i,hz⟩:=I2.list B;show c4 _ _ _ _ _ _
 refine mP i.isList λF a1 a2 _ z=>s9 a1 ?_
 have k:=let⟨_,e,_⟩:=i.isList;cw e;refine⟨c.heap.objs.size+1,_,_,_,H1,J,I2.kept z,qa (Ea<|pN _) (eV<|Gk k)<|eV k,⟨⟨_,a1⟩,a2⟩,λb n=>?_,q⟩;have r:c.heap.objs.size<=b:=by
  simp only[bM,kE,hQ]at n;rcases n with rfl|rfl
  .exact bH _ _
  .exact bP _
 exact I2.uQ r<|I2.bF.fresh r
end L2
namespace D
inductive Ky where
 |i (n:Int)|s (l:B1)
 deriving DecidableEq
inductive T where
 |non|bl (b:Bool)|int (i:Int)|str (l:B1)|tup (xs:List T)|lst (xs:List T)
 |scr (ns:Ee)
 |obj (c:Nat) (fs:List T)
 |own (k:Nat)
 |f_ (ks:List Ky) (vs:List T)
inductive C where
 |val (t:T)|ol (ts:List T)|od (ks:List Ky) (vs:List T)
 |yg (t:T)
structure Ob where
 c:Nat
 fs:List C
structure S where
 r:List<|Option C
 m:List Ob
abbrev FC:=List<|Option C
abbrev FK:=Option<|List T
abbrev FR:=List T
abbrev FV:=Option T
abbrev FX:=List Ob
inductive Res(α:Type) where
 |ok (a:α)|bad
 |exc (c:Nat) (fs:FR) (s:S)
def Res.bind(x:Res d)(f:d->Res b):Res b:=match x with
 |.ok a=>f a
 |.bad=>.bad
 |.exc c fs s=>.exc c fs s
def aa{x:Res e}{b:d}(h:x.bind f=.ok b):∃a,x=.ok a/\f a=.ok b:=by
 cases x with
 |ok a=>exact⟨a,J,h⟩
 |bad=>cases h
 |exc c fs s=>cases h
def bu:Option b->Res b
 |some a=>.ok a
 |none=>.bad
def abJ{x:Res d}{b:c}{P:Prop}(k:∀a,x=.ok a→f a=.ok b→P)(h:x.bind f=.ok b):P:=(aa h).elim λa q=>k a q.1 q.2
def abK{x:Res<|e×γ}{b:d}{P:Prop}(k:∀a c,x=.ok (a,c)→f (a,c)=.ok b→P)(h:x.bind f=.ok b):P:=(aa h).elim λa q=>k _ _ q.1 q.2
def abL{x:Res<|g×γ×δ}{b:e}{P:Prop}(k:∀a c d,x=.ok (a,c,d)→f (a,c,d)=.ok b→P)(h:x.bind f=.ok b):P:=(aa h).elim λa q=>k _ _ _ q.1 q.2
def au{a:c}(h:bu o=.ok a):o=U a:=by
 cases o with
 |none=>cases h
 |some b=>cases h;rfl
def gd{a:Type}(p:Prop)[Decidable p](x:a):Option a:=if p then U x else Y
def bz[Decidable p]{x a:b}(h:gd p x=U a):p/\x=a:=by
 unfold gd at h;lia
abbrev FE:=S->Res (T×S)
abbrev FT:=S->Res (Bool×S)
abbrev FL:=S->Res (FR×S)
inductive Out where
 |nx|rt (t:T)|bk|ct
abbrev FS:=S->Res (Out×S)
abbrev Fn:=FR->FX->Res (T×FX)
def Yi:T->T->FV
 |.int i,.int j=>U<|.int<|i+j
 |.str a,.str b=>gd (a.length+b.length<=1000000)<|.str<|a++b
 |.lst a,.lst b=>gd (Hq a+Hq b<=1000000)<|.lst<|a++b
 |_,_=>Y
def Yj:T->T->FV
 |.int i,.int j=>U<|.int<|i-j
 |_,_=>Y
def Mw:T->T->FV
 |.int i,.int j=>gd (((-(2^64)<i/\i<2^64)\/(-(2^64)<j/\j<2^64))\/(i.natAbs.log2<2000000/\j.natAbs.log2<2000000))<|.int<|i*j
 |.lst a,.int k=>gd (k<1000000/\-1000000<k/\a.length*k.toNat<=1000000)<|.lst (cK k.toNat a).flatten
 |.str a,.int k=>gd (2<=k/\k<1000000/\a≠[]/\a.length*k.toNat<=1000000)<|.str (cK k.toNat a).flatten
 |_,_=>Y
def Yk:T->T->FV
 |.int i,.int j=>gd (0<j/\j<1073741824)<|.int<|i/j
 |_,_=>Y
def Yl:T->T->FV
 |.int i,.int j=>gd (0<j)<|.int<|i % j
 |_,_=>Y
def fh:T->FV
 |.int i=>U<|.int<|-i
 |_=>Y
def Hx(f:Int->Int->Bool):T->T->FV
 |.int i,.int j=>U<|.bl<|f i j
 |_,_=>Y
mutual
def eqT:T->T->Bool
 |.non,.non=>O
 |.bl a,.bl b=>a == b
 |.int a,.int b=>decide<|a=b
 |.bl a,.int b=>decide<|(if a then 1 else 0:Int)=b
 |.int a,.bl b=>decide<|a=(if b then 1 else 0:Int)
 |.str a,.str b=>decide<|a=b
 |.tup a,.tup b=>iH a b
 |.lst a,.lst b=>iH a b
 |.scr a,.scr b=>decide<|a=b
 |.obj c a,.obj d b=>decide (c=d)&&iH a b
 |.own a,.own b=>decide<|a=b
 |.f_ ks a,.f_ ls b=>decide (ks=ls)&&iH a b
 |_,_=>Zb
def iH:FR->FR->Bool
 |[],[]=>O
 |a::as,b::bs=>eqT a b&&iH as bs
 |_,_=>Zb
end
mutual
theorem qb:∀t:T,eqT t t=O
 |.non=>J
 |.bl b=>by cases b<;>rfl
 |.int i=>b7 J
 |.str l=>b7 J
 |.tup xs=>iI xs
 |.lst xs=>iI xs
 |.scr ns=>b7 J
 |.obj c xs=>by
  show(decide (c=c)&&iH xs xs)=O;rw[b7 J,iI xs];rfl
 |.own k=>b7 J
 |.f_ ks xs=>by
  show(decide (ks=ks)&&iH xs xs)=O;rw[b7 J,iI xs];rfl
theorem iI:∀ts:FR,iH ts ts=O
 |[]=>J
 |t::ts=>by
  show(eqT t t&&iH ts ts)=O;rw[qb t,iI ts];rfl
end
def dq:T->Bool
 |.bl _=>O
 |.int _=>O
 |.str _=>O
 |.non=>O
 |_=>Zb
def all2(p:T->T->Bool):FR->FR->Bool
 |a::as,b::bs=>p a b&&all2 p as bs
 |_,_=>O
def shape:Nat->T->T->Bool
 |n+1,.tup as,.tup bs=>all2 (shape n) as bs
 |n+1,.lst as,.lst bs=>all2 (shape n) as bs
 |_,a,b=>dq a&&dq b
def eqD:T->T->FV:=λa b=>gd (shape 5 a b=O)<|.bl<|eqT a b
def neD:T->T->FV:=λa b=>gd (shape 5 a b=O)<|.bl<|!eqT a b
def mQ:T->Bool
 |.non=>O
 |_=>Zb
def Ym(p:Bool)(x y:T):FV:=match y with
 |.non=>U<|.bl<|p == mQ x
 |.bl b=>(match x with
  |.bl a=>U<|.bl<|p == (a == b)
  |_=>Y)
 |_=>Y
def Ŷ:B1->B1->Bool
 |[c],l=>decide<|c∈l
 |x,l=>(cU<|l.length+1).any λi=>decide (i+Hq x<=Hq l)&&((l.drop i).take x.length == x)
def Mx(x y:T):Option Bool:=match y with
 |.str l=>(match x with
  |.str x=>U<|Ŷ x l
  |_=>Y)
 |.tup ys=>gd (dq x=O/\ys.all dq=O)<|ys.any λy=>eqT y x
 |.lst ys=>gd (dq x=O/\ys.all dq=O)<|ys.any λy=>eqT y x
 |_=>Y
def inD:T->T->FV:=λx y=>(Mx x y).map .bl
def S_:T->T->FV:=λx y=>(Mx x y).map λb=>.bl<|!b
def atT{a:Type}(xs:List a)(i:Int):Option a:=if 0<=i then(if i<Hq xs then xs[i.toNat]? else Y)else if -(Hq xs:Int)<=i then xs[(i+Hq xs).toNat]? else Y
def fV(ks:List Ky)(vs:FR)(k:Ky):FV:=match ks,vs with
 |a::ks,v::vs=>if a=k then U v else fV ks vs k
 |_,_=>Y
def putK:List Ky->FR->Ky->T->List Ky×FR
 |a::ks,v::vs,k,t=>if a=k then(a::ks,t::vs)else let p:=putK ks vs k t;(a::p.1,v::p.2)
 |_,_,k,t=>([k],[t])
def jF:T->Option Ky
 |.int i=>U<|.i i
 |.str l=>U<|.s l
 |_=>Y
def BX:T->T->FV
 |.lst xs,.int i=>atT xs i
 |.tup xs,.int i=>atT xs i
 |.str l,.int i=>(atT l i).map λc=>.str [c]
 |.scr ns,.int i=>(atT ns i).map .int
 |.f_ ks a,x=>(jF x).bind<|fV ks a
 |_,_=>Y
def ŷ:T->FV
 |.str l=>U<|.int l.length
 |.tup xs=>U<|.int xs.length
 |.lst xs=>U<|.int xs.length
 |.scr ns=>U<|.int ns.length
 |.f_ ks _=>U<|.int ks.length
 |_=>Y
def iW(n d:Nat):Dx->Nat
 |none=>d
 |some v=>if v<0 then(v+(n:Int)).toNat else min v.toNat n
def bJ{a:Type}(xs:List a)(lo b:Dx):List a:=(xs.drop<|iW xs.length 0 lo).take<|iW xs.length xs.length b-iW xs.length 0 lo
def Ÿ(lo a:Dx):T->FV
 |.str l=>U<|.str<|bJ l lo a
 |.lst l=>U<|.lst<|bJ l lo a
 |.scr ns=>U<|.lst<|(bJ ns lo a).map .int
 |_=>Y
def Yn:T->Option Bool
 |.bl b=>U b
 |.lst ts=>U<|!ts.isEmpty
 |_=>Y
def strsOf:FR->Option Ap
 |[]=>U []
 |.str l::ts=>(strsOf ts).map (l::·)
 |_=>Y
def fQ(c:B1):Ap->B1
 |[]=>[]
 |[a]=>a
 |a::b::r=>a++c++fQ c (b::r)
def Qt:T->T->FV
 |.str a,.lst ts=>(strsOf ts).bind λys=>gd ((ys.map (·.length)).sum+ys.length*a.length<=1000000)<|.str<|fQ a ys
 |_,_=>Y
def pre(s l:B1):Bool:=decide (Hq s<=Hq l)&&(l.take s.length == s)
def Ź(s l:B1):Bool:=decide (Hq s<=Hq l)&&(l.drop (Hq l-Hq s) == s)
def boolsOf:FR->Option Fs
 |[]=>U []
 |.bl b::ts=>(boolsOf ts).map (b::·)
 |_=>Y
def xT:T->FV
 |.lst ts=>(boolsOf ts).map λbs=>.bl<|bs.all id
 |_=>Y
def Yo:T->FV
 |.lst ts=>(boolsOf ts).map λbs=>.bl<|bs.any id
 |_=>Y
def Qu:T->FV
 |.lst a=>U<|.lst a
 |.tup a=>U<|.lst a
 |_=>Y
def cR:FE:=λ_=>.bad
def cF(t:T):FE:=λs=>.ok (t,s)
def iT(s:S)(i:Nat)(c:C):S:={s with r:=s.r.set i (U c)}
def vF(i:Nat):FE:=λs=>match s.r[i]? with
 |U<|U<|.val t=>.ok (t,s)
 |U<|U<|.ol ts=>.ok (.lst ts,iT s i<|.val<|.lst ts)
 |U<|U<|.od ks ts=>.ok (.f_ ks ts,iT s i<|.val<|.f_ ks ts)
 |_=>.bad
def dz(g:T->FV)(a:FE):FE:=λs=>(a s).bind λp=>(bu<|g p.1).bind λt=>.ok (t,p.2)
def bo(g:T->T->FV)(a b:FE):FE:=λs=>(a s).bind λp=>(b p.2).bind λq=>(bu<|g p.1 q.1).bind λt=>.ok (t,q.2)
def a_:FL:=λs=>.ok ([],s)
def ba(a:FE)(r:FL):FL:=λs=>(a s).bind λp=>(r p.2).bind λq=>.ok (p.1::q.1,q.2)
def gD:FL:=λ_=>.bad
def aV(g:FR->FV)(a:FL):FE:=λs=>(a s).bind λp=>(bu<|g p.1).bind λt=>.ok (t,p.2)
def df(ts:FR):FV:=gd (Hq ts<=1000)<|.tup ts
def dm(ts:FR):FV:=gd (Hq ts<=1000)<|.lst ts
def rZ:FT:=λ_=>.bad
def tB(a:FE):FT:=λs=>(a s).bind λp=>(bu<|Yn p.1).bind λb=>.ok (b,p.2)
def gM(a b:FT):FT:=λs=>(a s).bind λp=>if p.1 then b p.2 else .ok (Zb,p.2)
def j9(a b:FT):FT:=λs=>(a s).bind λp=>if p.1 then .ok (O,p.2)else b p.2
def eM(a:FT):FT:=λs=>(a s).bind λp=>.ok (!p.1,p.2)
def eZ:FT:=λs=>.ok (O,s)
def Yp:T->Option Bool
 |.bl b=>U b
 |_=>Y
def ow(a b:FE):FE:=λs=>(a s).bind λp=>(bu<|Yp p.1).bind λk=>if k then b p.2 else .ok (.bl Zb,p.2)
def ź(a b:FE):FE:=λs=>(a s).bind λp=>(bu<|Yp p.1).bind λk=>if k then .ok (.bl O,p.2)else b p.2
def oz(a:FE):FE:=λs=>(a s).bind λp=>(bu<|Yp p.1).bind λk=>.ok (.bl<|!k,p.2)
def rG(c:FT)(a b:FE):FE:=λs=>(c s).bind λp=>if p.1 then a p.2 else b p.2
abbrev FO:=S->Res (Dx×S)
def je:FO:=λs=>.ok (Y,s)
def Ż:T->Dx
 |.int i=>U i
 |_=>Y
def dD(a:FE):FO:=λs=>(a s).bind λp=>(bu<|Ż p.1).bind λi=>.ok (U i,p.2)
def fK(a:FE)(lo b:FO):FE:=λs=>(a s).bind λp=>(lo p.2).bind λq=>(b q.2).bind λz=>(bu<|Ÿ q.1 z.1 p.1).bind λt=>.ok (t,z.2)
def mR:Option (Option C)->FK
 |U<|U<|.ol ts=>U ts
 |_=>Y
def xU(i:Nat)(b:FE):FE:=λs=>(bu<|mR s.r[i]?).bind λ_=>(b s).bind λp=>(bu<|mR p.2.r[i]?).bind λts=>(bu<|BX (.lst ts) p.1).bind λt=>.ok (t,p.2)
def iY(tab:Ap)(c f:Nat):Option Nat:=(tab[c]?).bind λns=>ns.idxOf? f
def aA(tab:Ap)(f:Nat)(a:FE):FE:=λs=>(a s).bind λp=>match p.1 with
 |.obj c fs=>(bu<|(iY tab c f).bind λj=>fs[j]?).bind λt=>.ok (t,p.2)
 |.own k=>(bu<|(p.2.m[k]?).bind λob=>(iY tab ob.c f).bind λj=>ob.fs[j]?).bind λc=>(match c with
  |.val t=>.ok (t,p.2)
  |_=>.bad)
 |_=>.bad
def dR(c n:Nat)(fl:FL):FE:=λs=>(fl s).bind λp=>if Hq p.1=n then .ok (.obj c p.1,p.2)else .bad
def kL(c:Nat)(g:Fn)(fl:FL):FE:=λs=>(fl s).bind λp=>match g (.own p.2.m.length::p.1) (p.2.m++[⟨c,[]⟩])with
 |.ok (.non,b)=>.ok (.own p.2.m.length,{p.2 with m:=b})
 |.exc c fs a=>.exc c fs {p.2 with m:=a.m}
 |_=>.bad
def Tc(c:Nat):T->FV
 |.lst ts=>U<|.obj c [.lst ts]
 |_=>Y
def ai(g:Fn)(ds:FR)(fl:FL):FE:=λs=>(fl s).bind λp=>match g (p.1++ds) p.2.m with
 |.ok q=>.ok (q.1,{p.2 with m:=q.2})
 |.bad=>.bad
 |.exc c fs a=>.exc c fs {p.2 with m:=a.m}
def aJ(g:Nat->Option Fn)(o:FE)(fl:FL):FE:=λs=>(o s).bind λp=>match p.1 with
 |.own k=>(bu<|(p.2.m[k]?).bind λob=>g ob.c).bind λh=>ai h [] (λs=>(fl s).bind λq=>.ok (.own k::q.1,q.2)) p.2
 |.obj c fs=>(bu<|g c).bind λh=>ai h [] (λs=>(fl s).bind λq=>.ok (.obj c fs::q.1,q.2)) p.2
 |_=>.bad
def Yq:T->FK
 |.lst ts=>U ts
 |.tup ts=>U ts
 |.str l=>U<|l.map λc=>.str [c]
 |.scr ns=>U<|ns.map .int
 |_=>Y
def nK(a:FE):FL:=λs=>(a s).bind λp=>(bu<|Yq p.1).bind λts=>.ok (ts,p.2)
def mF(lo:Int)(n:Nat):FR:=(cU n).map λk=>.int<|lo+(k:Nat)
def xV:FR->FK
 |[.int j]=>gd (j<1000000/\-1000000<j)<|mF 0 j.toNat
 |[.int i,.int j]=>gd (i<1000000/\-1000000<i/\j<1000000/\-1000000<j)<|mF i (j-i).toNat
 |[.int i,.int j,.int k]=>gd (k=-1/\i<1000000/\-1000000<i/\j<1000000/\-1000000<j)<|(cU (i-j).toNat).map λk=>.int<|i-(k:Nat)
 |_=>Y
def EM(g:FR->FK)(a:FL):FL:=λs=>(a s).bind λp=>(bu<|g p.1).bind λts=>.ok (ts,p.2)
def eU:Int->FR->FR
 |_,[]=>[]
 |n,t::ts=>.tup [.int n,t]::eU (n+1) ts
def Yr(n:Int):T->FK
 |.lst ts=>U<|eU n ts
 |_=>Y
def jf(n:Int)(a:FE):FL:=λs=>(a s).bind λp=>(bu<|Yr n p.1).bind λts=>.ok (ts,p.2)
abbrev FG:=T->FC->Option FC
def setG(i:Nat):FG:=λt r=>U<|r.set i<|U<|.val t
def BY:B1->FR->FC->Option FC
 |[],[],r=>U r
 |i::is,t::ts,r=>BY is ts<|r.set i<|U<|.val t
 |_,_,_=>Y
def bw(is:B1):FG:=λt r=>match t with
 |.tup ts=>BY is ts r
 |_=>Y
def My(r:FC)(j:Nat):FC:=match r[j]? with
 |U<|U<|.ol ts=>r.set j<|U<|.val<|.lst ts
 |_=>r
def kM:B1->FC->FC
 |[],r=>r
 |j::js,r=>kM js<|My r j
def jG(k:Nat)(js:B1)(r:FC):FC:=cK k Y++js.map λj=>match r[j]? with
 |U<|U<|.val t=>U<|.val t
 |_=>Y
def bA(g:FG)(c:FT)(e:FE)(b:FC):FR->FX->Res (FR×FX)
 |[],m=>.ok ([],m)
 |t::ts,m=>(bu<|g t b).bind λb1=>(c ⟨b1,m⟩).bind λp=>if p.1 then(e p.2).bind λq=>(bA g c e b ts q.2.m).bind λz=>.ok (q.1::z.1,z.2)else bA g c e b ts p.2.m
def cY(src:FL)(k:Nat)(js:B1)(g:FG)(c:FT)(e:FE):FL:=λs=>(src s).bind λp=>if Hq p.1<=1000000 then
  (bA g c e (jG k js<|kM js p.2.r) p.1 p.2.m).bind λq=>.ok (q.1,⟨kM js p.2.r,q.2⟩)else .bad
def eO(fl:FL):FE:=λs=>(fl s).bind λp=>.ok (.lst p.1,p.2)
def aM:FS:=λs=>.ok (.nx,s)
def cj:FS:=λ_=>.bad
def ah(a b:FS):FS:=λs=>(a s).bind λp=>match p.1 with
 |.nx=>b p.2
 |o=>.ok (o,p.2)
def aG(i:Nat)(a:FE):FS:=λs=>(a s).bind λp=>.ok (.nx,iT p.2 i<|.val p.1)
def iJ(i:Nat)(a:FL):FS:=λs=>(a s).bind λp=>.ok (.nx,iT p.2 i<|.ol p.1)
def oF(g:FG)(a:FE):FS:=λs=>(a s).bind λp=>(bu<|g p.1 p.2.r).bind λr=>.ok (.nx,{p.2 with r:=r})
def aC(a:FE):FS:=λs=>(a s).bind λp=>.ok (.rt p.1,p.2)
def aR(a:FE):FS:=λs=>(a s).bind λp=>.ok (.nx,p.2)
def bj(c:FT)(a b:FS):FS:=λs=>(c s).bind λp=>if p.1 then a p.2 else b p.2
def gO(i:Nat)(a:FE):FS:=λs=>(bu<|mR s.r[i]?).bind λ_=>(a s).bind λp=>(bu<|mR p.2.r[i]?).bind λts=>(bu<|gd (Hq ts<1000000) ts).bind λts=>.ok (.nx,iT p.2 i<|.ol<|ts++[p.1])
def eL(i:Nat)(b a:FE):FS:=λs=>(a s).bind λp=>(bu<|mR p.2.r[i]?).bind λ_=>(b p.2).bind λq=>(bu<|mR q.2.r[i]?).bind λts=>(bu<|Ż q.1).bind λj=>(bu<|gd (0<=j/\j<Hq ts)<|ts.set j.toNat p.1).bind λc=>.ok (.nx,iT q.2 i<|.ol c)
def zY(g:T->T->FV)(i:Nat)(a:FE):FS:=λs=>match s.r[i]? with
 |U<|U<|.val x=>(a s).bind λp=>(bu<|g x p.1).bind λt=>.ok (.nx,iT p.2 i<|.val t)
 |_=>.bad
def setAt(fs:List C)(j:Nat)(c:C):Option<|List C:=if j<Hq fs then U (fs.set j c)else if j=Hq fs then U (fs++[c])else Y
def gE(tab:Ap)(f:Nat)(c:C)(ob:Ob):Option Ob:=(iY tab ob.c f).bind λj=>(setAt ob.fs j c).map λfs=>⟨ob.c,fs⟩
def aQ(tab:Ap)(f:Nat)(o a:FE):FS:=λs=>(a s).bind λp=>(o p.2).bind λq=>match q.1 with
 |.own k=>(bu<|(q.2.m[k]?).bind<|gE tab f<|.val p.1).bind λob=>.ok (.nx,{q.2 with m:=q.2.m.set k ob})
 |_=>.bad
def bg(g:FG)(b:FS):FR->FS
 |[],s=>.ok (.nx,s)
 |t::ts,s=>(bu<|g t s.r).bind λr=>(b ⟨r,s.m⟩).bind λp=>match p.1 with
  |.nx=>bg g b ts p.2
  |.ct=>bg g b ts p.2
  |.bk=>.ok (.nx,p.2)
  |.rt t=>.ok (.rt t,p.2)
def dM(src:FL)(g:FG)(b:FS):FS:=λs=>(src s).bind λp=>bg g b p.1 p.2
def bW(c:FT)(b:FS):Nat->FS
 |0,_=>.bad
 |n+1,s=>(c s).bind λp=>if p.1 then(b p.2).bind λq=>(match q.1 with
  |.nx=>bW c b n q.2
  |.ct=>bW c b n q.2
  |.bk=>.ok (.nx,q.2)
  |.rt t=>.ok (.rt t,q.2))else .ok (.nx,p.2)
def il(n:Nat)(c:FT)(b:FS):FS:=bW c b n
def xW(c:Nat)(fl:FL):FE:=λs=>(fl s).bind λp=>.ok (.own p.2.m.length,{p.2 with m:=p.2.m++[⟨c,[.ol p.1]⟩]})
def aE(a n:Nat)(b:FS):Fn:=λts m=>if Hq ts=a then(b ⟨ts.map (λt=>U<|.val t)++cK (n-Hq ts) Y,m⟩).bind λp=>match p.1 with
 |.rt t=>.ok (t,p.2.m)
 |.nx=>.ok (.non,p.2.m)
 |_=>.bad else .bad
mutual
def noOwn:T->Bool
 |.own _=>Zb
 |.tup xs=>aB xs
 |.lst xs=>aB xs
 |.obj _ xs=>aB xs
 |.f_ _ xs=>aB xs
 |_=>O
def aB:FR->Bool
 |[]=>O
 |t::ts=>noOwn t&&aB ts
end
def aL(g:Fn):Fn:=λts m=>if aB ts=O then(match g ts []with
 |.ok q=>if noOwn q.1=O then .ok (q.1,m)else .bad
 |.bad=>.bad
 |.exc c fs s=>if aB fs=O then .exc c fs ⟨s.r,m⟩else .bad)else .bad
end D
namespace D
open PySem L2
abbrev SV(l:B1):V:=.str ⟨l.toArray⟩
structure KT where
 K:bD
 P:da
 w:de
 cn:Bi
 fn:List Bi
def iK(B:KT)(c:Nat)(C:ax)(ns:Bi):Prop:=∃n,B.cn[c]?=U n/\B.fn[c]?=U ns/\ns.Nodup/\pM B.K eD n=U (U<|.ref C)
def iK.eq{C j:ax}(h:iK B c C ns)(h':iK B c j i):C=j/\ns=i:=by
 obtain⟨n,a,b,_,d⟩:=h;obtain⟨n',g,f,_,e⟩:=h';lia
def lA:Ky->Key
 |.i n=>.inl n
 |.s l=>.inr ⟨l.toArray⟩
inductive kN where
 |loc (i:Nat)|ob (k:Nat)|fld (k j:Nat)
 deriving DecidableEq
structure G where
 HF:Hp
 o:ax->Option kN
 al:BM
def _root_.L2.Fz(H:Hp)(a:ax)(u:HO):Prop:=∃o,H a=U (.iD o u)
def _root_.L2.Fz.same{H H':Hp}{a:ax}{u:HO}(h:Fz H a u)(s:aT H H'):Fz H' a u:=let⟨o,q⟩:=h;⟨o,s _ _ q⟩
def _root_.L2.Fz.rd{H:Hp}{a:ax}{u:HO}(h:Fz H a u):Rd H a u:=.inr h
mutual
def Rep(B:KT)(al:BM)(H:Hp):T->V->Prop
 |.non,v=>v=.non
 |.bl b,v=>v=.bl b
 |.int i,v=>v=.int i
 |.str l,v=>v=SV l/\l.length<=1000000
 |.tup ts,v=>∃a vs,v=.ref a/\nB B.K H a vs/\aF B al H ts vs
 |.lst ts,v=>∃a vs,v=.ref a/\H a=U (.lst vs)/\aF B al H ts vs
 |.scr ns,v=>∃a,v=.ref a/\dY B.K H a (ns.map V.int)
 |.obj c ts,v=>∃a C dx ns vs,v=.ref a/\iK B c C ns/\H a=U (.ins C dx<|ns.zip vs)/\vs.length<=Hq ns/\H dx=U (.own a)/\aF B al H ts vs
 |.own k,v=>∃a,v=.ref a/\al[k]?=U a
 |.f_ ks ts,v=>∃a vs,v=.ref a/\Fz H a (.dK<|(ks.map lA).zip vs)/\ks.length=Hq vs/\aF B al H ts vs
def aF(B:KT)(al:BM)(H:Hp):FR->List V->Prop
 |[],vs=>vs=[]
 |t::ts,vs=>∃v r,vs=v::r/\Rep B al H t v/\aF B al H ts r
end
def cZ(s:aT H H')(q:nB K H a xs):nB K H' a xs:=by
 rcases q with(q|⟨o,q⟩)|q
 .exact .inl<|.inl<|s _ _ q
 .exact .inl<|.inr ⟨o,s _ _ q⟩
 .exact .inr q
def fj{b:Type}{l m:List b}(p:l <+: m){k:Nat}{a:b}(h:l[k]?=U a):m[k]?=U a:=by
 obtain⟨r,rfl⟩:=p;rw[j4 (dw.mp h).1];exact h
variable{B:KT}{al d:BM}{H H' HF F:Hp}
mutual
theorem Rep.mv(p:al <+: d)(s:aT H H'):∀{t:T}{v:V},Rep B al H t v->Rep B d H' t v
 |.non,_,h=>h
 |.bl _,_,h=>h
 |.int _,_,h=>h
 |.str _,_,h=>h
 |.tup ts,_,h=>by
  obtain⟨a,vs,e,q,r⟩:=h;exact⟨a,vs,e,cZ s q,aF.mv p s r⟩
 |.lst ts,_,h=>by
  obtain⟨a,vs,e,q,r⟩:=h;exact⟨a,vs,e,s _ _ q,aF.mv p s r⟩
 |.scr ns,_,h=>by
  obtain⟨a,e,q⟩:=h;exact⟨a,e,s.seq q⟩
 |.obj c ts,_,h=>by
  obtain⟨a,C,dx,ns,vs,e,z,q,l,q2,r⟩:=h;exact⟨a,C,dx,ns,vs,e,z,s _ _ q,l,s _ _ q2,aF.mv p s r⟩
 |.own k,_,h=>by
  obtain⟨a,e,q⟩:=h;exact⟨a,e,fj p q⟩
 |.f_ ks ts,_,h=>by
  obtain⟨a,vs,e,q,l,r⟩:=h;exact⟨a,vs,e,q.same s,l,aF.mv p s r⟩
theorem aF.mv(p:al <+: d)(s:aT H H'):∀{ts:FR}{vs:List V},aF B al H ts vs->aF B d H' ts vs
 |[],_,h=>h
 |t::ts,_,h=>by
  obtain⟨v,r,e,h1,h2⟩:=h;exact⟨v,r,e,Rep.mv p s h1,aF.mv p s h2⟩
end
def Rep.same(s:aT H H')(h:Rep B al H t v):Rep B al H' t v:=h.mv fH s
def aF.same(s:aT H H')(h:aF B al H t v):aF B al H' t v:=h.mv fH s
theorem aF.len:∀{ts:FR}{vs:List V},aF B al H ts vs->Hq ts=Hq vs
 |[],_,h=>by cases(h);rfl
 |t::ts,_,h=>by
  obtain⟨v,r,rfl,_,a⟩:=h;simp[aF.len a]
theorem aF.get:∀{ts:FR}{vs:List V},aF B al H ts vs->∀{i:Nat}{t:T},ts[i]?=U t->∃v,vs[i]?=U v/\Rep B al H t v
 |[],_,_,_,_,e=>by simp at e
 |t::ts,_,h,0,_,e=>by
  obtain⟨v,r,rfl,c,_⟩:=h;simp at e;subst e;exact⟨v,J,c⟩
 |t::ts,_,h,i+1,_,e=>by
  obtain⟨v,r,rfl,_,b⟩:=h;obtain⟨a,e',d⟩:=aF.get b (by simpa using e)
  exact⟨a,by simpa using e',d⟩
theorem aF.zZ:∀{ts:FR}{vs:List V},aF B al H ts vs->∀{i:Nat}{v:V},vs[i]?=U v->∃t,ts[i]?=U t/\Rep B al H t v
 |[],_,h,_,_,e=>by have h:=h;subst h;simp at e
 |t::ts,_,h,0,_,e=>by
  obtain⟨v,r,rfl,c,_⟩:=h;simp at e;subst e;exact⟨t,J,c⟩
 |t::ts,_,h,i+1,_,e=>by
  obtain⟨v,r,rfl,_,b⟩:=h;obtain⟨a,e',d⟩:=aF.zZ b (by simpa using e)
  exact⟨a,by simpa using e',d⟩
theorem aF.app:∀{ts us:FR}{vs b:List V},aF B al H ts vs->aF B al H us b->aF B al H (ts++us) (vs++b)
 |[],_,_,_,h,a=>by have h:=h;subst h;exact a
 |t::ts,_,_,_,h,a=>by
  obtain⟨v,r,rfl,d,c⟩:=h;exact⟨v,_,J,d,c.app a⟩
theorem aF.drop:∀{ts:FR}{vs:List V}(n:Nat),aF B al H ts vs->aF B al H (ts.drop n) (vs.drop n)
 |ts,vs,0,h=>by simpa using h
 |[],_,n+1,h=>by have h:=h;subst h;rfl
 |t::ts,_,n+1,h=>by
  obtain⟨v,r,rfl,_,a⟩:=h;simpa using a.drop n
theorem aF.take:∀{ts:FR}{vs:List V}(n:Nat),aF B al H ts vs->aF B al H (ts.take n) (vs.take n)
 |ts,vs,0,h=>by simp[aF]
 |[],_,n+1,h=>by have h:=h;subst h;rfl
 |t::ts,_,n+1,h=>by
  obtain⟨v,r,rfl,b,a⟩:=h;exact⟨v,r.take n,J,b,a.take n⟩
theorem aF.set(q:Rep B al H t v):∀{ts:FR}{vs:List V}(n:Nat),aF B al H ts vs->aF B al H (ts.set n t) (vs.set n v)
 |[],_,n,h=>by have h:=h;subst h;rfl
 |_::ts,_,0,h=>by
  obtain⟨w,r,rfl,b,a⟩:=h;exact⟨v,r,J,q,a⟩
 |u::ts,_,n+1,h=>by
  obtain⟨w,r,rfl,b,a⟩:=h;exact⟨w,r.set n v,J,b,a.set q n⟩
theorem aF.flat(h:aF B al H ts vs):∀n:Nat,aF B al H (cK n ts).flatten (cK n vs).flatten
 |0=>J
 |n+1=>by
  rw[uI,uI,zp];exact h.app<|h.flat n
def aF.one(q:Rep B al H t v):aF B al H [t] [v]:=⟨v,[],J,q,J⟩
theorem aF.ints:∀ns:Ee,aF B al H (ns.map T.int)<|ns.map V.int
 |[]=>J
 |n::ns=>⟨_,_,J,J,aF.ints ns⟩
theorem aF.signs:∀l:B1,aF B al H (l.map λc=>T.str [c])<|l.map λc=>V.str ⟨#[c]⟩
 |[]=>J
 |c::l=>⟨_,_,J,⟨J,by simp⟩,aF.signs l⟩
mutual
theorem Rep.no:∀{t:T}{v:V},noOwn t=O->Rep B al H t v->Rep B d H t v
 |.non,_,_,h=>h
 |.bl _,_,_,h=>h
 |.int _,_,_,h=>h
 |.str _,_,_,h=>h
 |.tup ts,_,n,h=>by
  obtain⟨a,vs,e,q,r⟩:=h;exact⟨a,vs,e,q,aF.no n r⟩
 |.lst ts,_,n,h=>by
  obtain⟨a,vs,e,q,r⟩:=h;exact⟨a,vs,e,q,aF.no n r⟩
 |.scr ns,_,_,h=>h
 |.obj c ts,_,n,h=>by
  obtain⟨a,C,dx,ns,vs,e,z,q,l,q2,r⟩:=h;exact⟨a,C,dx,ns,vs,e,z,q,l,q2,aF.no n r⟩
 |.own k,_,n,h=>by cases n
 |.f_ ks ts,_,n,h=>by
  obtain⟨a,vs,e,q,l,r⟩:=h;exact⟨a,vs,e,q,l,aF.no n r⟩
theorem aF.no:∀{ts:FR}{vs:List V},aB ts=O->aF B al H ts vs->aF B d H ts vs
 |[],_,_,h=>h
 |t::ts,_,n,h=>by
  obtain⟨v,r,e,h1,h2⟩:=h;have n:(noOwn t&&aB ts)=O:=n;rw[cL]at n;exact⟨v,r,e,Rep.no n.1 h1,aF.no n.2 h2⟩
end
structure Gr(HF H F H':Hp):Prop where
 fr:aT HF F
 sub:aT F H'
 rest:∀b o,H b=U o->HF b=Y->H' b=U o/\F b=Y
theorem Gr.refl(s:aT HF H):Gr HF H HF H:=⟨aT.refl _,s,λ_ _ h n=>⟨h,n⟩⟩
theorem Gr.trans{HF H e H1 d f:Hp}(a:Gr HF H e H1)(b:Gr e H1 d f):Gr HF H d f:=
 ⟨a.fr.trans b.fr,b.sub,λc o h n=>let⟨h1,n1⟩:=a.rest c o h n;b.rest c o h1 n1⟩
def Gr.same(s:aT HF H)(a:Gr HF H F H'):aT H H':=λb o h=>by
 cases e:HF b with
 |none=>exact(a.rest b o h e).1
 |some u=>
  have:=s b u e
  rw[h]at this;cases this;exact a.sub _ _<|a.fr _ _ e
def aW(h:H p=Y):aT H<|upd H p o:=λb u e=>by rw[aq<|aS e h];exact e
def Gr.new(s:aT HF H)(h:H p=Y):Gr HF H (upd HF p o)<|upd H p o:=by
 have c:=s.free h;refine⟨aW c,λb u e=>?_,λb u e n=>?_⟩
 .by_cases a:b=p
  .subst a;rw[ak]at e ⊢;exact e
  .rw[aq a]at e ⊢;exact s _ _ e
 .have a:=aS e h
  rw[aq a,aq a];exact⟨e,n⟩
def Gr.jm(s:aT HF H)(h:H p=Y):Gr HF H HF<|upd H p o:=
 ⟨aT.refl _,s.trans<|aW h,λb u e n=>⟨aW h _ _ e,n⟩⟩
def bK(B:KT)(g:G)(H:Hp)(p:kN):C->V->Prop
 |.val t,v=>Rep B g.al g.HF t v
 |.ol ts,v=>∃l a,v=.ref l/\g.o l=U p/\H l=U (.lst a)/\aF B g.al g.HF ts a
 |.od ks ts,v=>∃l a,v=.ref l/\g.o l=U p/\H l=U (.dK<|(ks.map lA).zip a)/\ks.length=Hq a/\aF B g.al g.HF ts a
 |.yg t,v=>∃c:Hp,(∀b u,c b=U u->g.o b=U p/\H b=U u)/\Rep B [] c t v
structure FY(B:KT)(g:G)(H:Hp)(k:Nat)(ob:Ob)(a C dx:ax)(ns:Bi)(vs:List V):Prop where
 al:g.al[k]?=U a
 o:g.o a=U (.ob k)
 cl:iK B ob.c C ns
 h:H a=U (.ins C dx<|ns.zip vs)
 le:Hq vs<=Hq ns
 ln:Hq vs=Hq ob.fs
 f:∀j c,ob.fs[j]?=U c->∃v,vs[j]?=U v/\bK B g H (.fld k j) c v
structure ĝ(B:KT)(g:G)(H:Hp)(k:Nat)(ob:Ob)(a:ax):Prop where
 al:g.al[k]?=U a
 nc:B.cn[ob.c]?=Y
 nf:B.fn[ob.c]?=Y
 f:∀c,ob.fs=[c]->bK B g H (.ob k) c (.ref a)
def Td(B:KT)(g:G)(H:Hp)(k:Nat)(ob:Ob):Prop:=(∃a C c ns b,FY B g H k ob a C c ns b)\/∃a,ĝ B g H k ob a
structure eQ(B:KT)(g:G)(H:Hp)(m:FX):Prop where
 sub:aT g.HF H
 live:∀b p,g.o b=U p->g.HF b=Y/\∃u,H b=U u
 len:Hq m=Hq g.al
 at_:∀k ob,m[k]?=U ob->Td B g H k ob
structure qg(B:KT)(g:G)(H:Hp)(σ:St)(r:FC):Prop where
 len:Hq r=σ.length
 at_:∀i c,r[i]?=U (U c)->∃v,σ[i]?=U (U v)/\bK B g H (.loc i) c v
structure SR(B:KT)(g:G)(H:Hp)(σ:St)(s:S):Prop where
 st:eQ B g H s.m
 lc:qg B g H σ s.r
structure dE(g:G)(H:Hp)(g':G)(H':Hp):Prop where
 fr:aT g.HF g'.HF
 pre:g.al <+: g'.al
 rest:∀b u,H b=U u->g.HF b=Y->g.o b=Y->H' b=U u/\g'.HF b=Y/\g'.o b=Y
 there:∀b,H' b=Y->H b=Y
variable{g g1 g2 g':G}
theorem dE.refl:dE g H g H:=⟨aT.refl _,fH,λ_ _ h n o=>⟨h,n,o⟩,λ_ h=>h⟩
theorem dE.trans(a:dE g H g1 H1)(b:dE g1 H1 g2 t):dE g H g2 t:=
 ⟨a.fr.trans b.fr,a.pre.trans b.pre,λc u h n o=>let⟨h1,n1,o1⟩:=a.rest c u h n o;b.rest c u h1 n1 o1,λc h=>a.there c<|b.there c h⟩
abbrev G.grow(g:G)(F:Hp):G:={g with HF:=F}
theorem bK.grow(a:Gr g.HF H F H')(lv:∀b p,g.o b=U p->g.HF b=Y/\∃u,H b=U u):∀{c:C}{v:V},bK B g H p c v->bK B (g.grow F) H' p c v
 |.val t,v,h=>h.same a.fr
 |.ol ts,v,h=>by
  obtain⟨l,d,e,o,q,r⟩:=h;exact⟨l,d,e,o,(a.rest l _ q (lv l p o).1).1,r.same a.fr⟩
 |.od ks ts,v,h=>by
  obtain⟨l,d,e,o,q,n,r⟩:=h;exact⟨l,d,e,o,(a.rest l _ q (lv l p o).1).1,n,r.same a.fr⟩
 |.yg t,v,h=>by
  obtain⟨i,f,r⟩:=h;exact⟨i,λb u e=>let⟨h2,h3⟩:=f b u e;⟨h2,(a.rest b u h3 (lv b p h2).1).1⟩,r⟩
theorem FY.grow{a C dx:ax}(x:FY B g H k ob a C dx ns vs)(d:Gr g.HF H F H')(lv:∀b p,g.o b=U p->g.HF b=Y/\∃u,H b=U u):FY B (g.grow F) H' k ob a C dx ns vs:=
 ⟨x.al,x.o,x.cl,(d.rest _ _ x.h (lv _ _ x.o).1).1,x.le,x.ln,λj c e=>let⟨v,h1,h2⟩:=x.f j c e;⟨v,h1,h2.grow d lv⟩⟩
theorem Td.grow(x:Td B g H k ob)(d:Gr g.HF H F H')(lv:∀b p,g.o b=U p->g.HF b=Y/\∃u,H b=U u):Td B (g.grow F) H' k ob:=by
 rcases x with⟨a,C,i,ns,h,y⟩|⟨a,y⟩
 .exact .inl ⟨a,C,i,ns,h,y.grow d lv⟩
 .exact .inr ⟨a,y.al,y.nc,y.nf,λc e=>(y.f c e).grow d lv⟩
theorem eQ.grow(x:eQ B g H m)(a:Gr g.HF H F H'):eQ B (g.grow F) H' m:=
 ⟨a.sub,λb p e=>by
  obtain⟨h,u,f⟩:=x.live b p e;obtain⟨d,c⟩:=a.rest b u f h;exact⟨c,u,d⟩,x.len,λk ob e=>(x.at_ k ob e).grow a x.live⟩
theorem SR.grow(x:SR B g H j s)(a:Gr g.HF H F H'):SR B (g.grow F) H' j s:=
 ⟨x.st.grow a,x.lc.len,λi c e=>let⟨v,h1,h2⟩:=x.lc.at_ i c e;⟨v,h1,h2.grow a x.st.live⟩⟩
theorem SR.sub(x:SR B g H j s):aT g.HF H:=x.st.sub
theorem Gr.free(c:Gr HF H F H')(a:aT HF H)(h:H' b=Y):H b=Y:=(c.same a).free h
def SR.j_(x:SR B g H j s)(a:Gr g.HF H F H'):dE g H (g.grow F) H':=
 ⟨a.fr,fH,λb u h n o=>let⟨h1,h2⟩:=a.rest b u h n;⟨h1,h2,o⟩,λb h=>a.free x.sub h⟩
end D
namespace L2
open PySem PySem.Spec PyProof.Rows
def Rl(H:Hp)(R:Hp->Prop):Prop:=R H\/∃d a,H d=U (.dK a)/\∀ob,R<|upd H d<|.iD ob<|.dK a
theorem Rl.imp(h:Rl H R)(f:∀H',R H'->R' H'):Rl H R':=Or.imp (f _) (λ⟨d,k,e,q⟩=>⟨d,k,e,λo=>f _<|q o⟩) h
def Inv.rl(I:Inv X i g H s)(h:Rl H R):∃H',Inv X i g H' s/\R H':=by
 rcases h with h|⟨d,a,e,h⟩
 .exact⟨H,I,h⟩
 obtain⟨z,lo,p,r,ob,t,v,j,hr⟩:=(I.bF d _ e);refine⟨_,?_,h ob⟩;have ne:∀b u,H b=U u->u≠.dK a->b≠d:=λb u q n z=>n (by rw[z,e]at q;cases q;rfl)
 have st:∀b u,H b=U u->b_ X.prog X.w (upd H d<|.iD ob<|.dK a) s.heap b u:=λb u q=>(I.bF b u q).nZ (λ_ _ _ k=>k) (λc k=>by rw[aq (ne c _ k (λz=>by cases z))];exact k) λc ys k=>by rw[aq (ne c _ k (λz=>by cases z))];exact k
 refine I.step (ch:=[]) (λb f=>by cases f) (λb o _ _ _ q _=>q) (λb o _ _ _ q _=>⟨o.slots,q⟩) (λb o _ _ n=>?_) (λb o _ q=>⟨o,q⟩)
  (λb ys q=>by rw[aq (ne b _ q (λz=>by cases z))];exact q) (λb o u q=>by rw[aq (ne b _ q (λz=>by cases z))];exact q) (λb ps q=>⟨#[],by rw[aq (ne b _ q (λz=>by cases z)),q];simp⟩) (λm l=>l) (λb u q=>?_) I.bare
 .have:b≠d:=λz=>by rw[z,e]at n;cases n
  rw[aq this];exact n
 .by_cases f:b=d
  .subst f
   rw[ak]at q;cases q;exact⟨j,st b _ e⟩
  .rw[aq f]at q
   exact st b u q
def Qv(h:PE X e t):PE X e λa H Q=>t a H λv H1=>Rl H1<|Q v:=λb s a H Q I q=>cH (h b s a H _ I q) λv d ⟨x,H1,c,r,k⟩=>let⟨H2,I2,k2⟩:=c.rl k;⟨x,H2,I2,r,k2⟩
end L2
namespace D
open PySem L2
variable{X:Cx}{a b c e:cx}{F W d:FE}{g g':G}{H H':Hp}{B:KT}{p pos:Pos}{s s':S}{R:St}
variable{al j:BM}{HF S H1 y:Hp}{m:FX}
theorem bK.mv{p:kN}(fr:aT g.HF g'.HF)(pre:g.al <+: g'.al)(k:∀l,g.o l=U p->g'.o l=U p/\H' l=H l):∀{c:C}{v:V},bK B g H p c v->bK B g' H' p c v
 |.val t,v,h=>Rep.mv pre fr h
 |.ol ts,v,h=>by
  obtain⟨l,a,e,o,q,r⟩:=h;obtain⟨d,f⟩:=k l o;exact⟨l,a,e,d,f.trans q,r.mv pre fr⟩
 |.od ks ts,v,h=>by
  obtain⟨l,a,e,o,q,n,r⟩:=h;obtain⟨d,f⟩:=k l o;exact⟨l,a,e,d,f.trans q,n,r.mv pre fr⟩
 |.yg t,v,h=>by
  obtain⟨j,i,r⟩:=h;exact⟨j,λb u e=>let⟨h2,h3⟩:=i b u e;let⟨h4,h5⟩:=k b h2;⟨h4,h5.trans h3⟩,r⟩
theorem FY.mv{a C dx:ax}(x:FY B g H k ob a C dx ns vs)(fr:aT g.HF g'.HF)(pre:g.al <+: g'.al)(b:∀l p,g.o l=U p->(p=.ob k\/∃j,p=.fld k j)->g'.o l=U p/\H' l=H l):FY B g' H' k ob a C dx ns vs:=by
 obtain⟨d,i⟩:=b a _ x.o<|.inl J;exact⟨fj pre x.al,d,x.cl,i.trans x.h,x.le,x.ln,λj c e=>let⟨v,h1,h2⟩:=x.f j c e;⟨v,h1,h2.mv fr pre λl z=>b l _ z<|.inr ⟨j,J⟩⟩⟩
theorem Td.mv(x:Td B g H k ob)(fr:aT g.HF g'.HF)(pre:g.al <+: g'.al)(b:∀l p,g.o l=U p->(p=.ob k\/∃j,p=.fld k j)->g'.o l=U p/\H' l=H l):Td B g' H' k ob:=by
 rcases x with⟨a,C,h,ns,d,y⟩|⟨a,y⟩
 .exact .inl ⟨a,C,h,ns,d,y.mv fr pre b⟩
 .exact .inr ⟨a,fj pre y.al,y.nc,y.nf,λc e=>(y.f c e).mv fr pre λl z=>b l _ z<|.inl J⟩
theorem eQ.mv(x:eQ B g H m)(sub:aT g'.HF H')(live:∀b p,g'.o b=U p->g'.HF b=Y/\∃u,H' b=U u)(fr:aT g.HF g'.HF)(a:g'.al=g.al)(c:∀l p,g.o l=U p->(∀i,p≠.loc i)->g'.o l=U p/\H' l=H l):eQ B g' H' m:=
 ⟨sub,live,a▸x.len,λk ob e=>(x.at_ k ob e).mv fr (by rw[a];simp) λl p h q=>c l p h (by
  lia)⟩
theorem qg.set{c:C}(x:qg B g H R r)(q:bK B g' H' (.loc i) c v)(b:∀j c v,j≠i->bK B g H (.loc j) c v->bK B g' H' (.loc j) c v):qg B g' H' (R.set i<|U v)<|r.set i<|U c:=by
 refine⟨by rw[fF,fF];exact x.len,λj d h=>?_⟩
 by_cases hj:i=j
 .subst hj
  have a:=by have:=(dw.mp h).1;rw[fF]at this;exact this
  rw[f9 a]at h;cases h;exact⟨v,f9<|by rw[<- x.len];exact a,q⟩
 .rw[e9 hj]at h
  obtain⟨w,f,e⟩:=x.at_ j d h;exact⟨w,by rw[e9 hj];exact f,b j d w (e7 hj) e⟩
theorem SR.set(x:SR B g H R s)(r:Rep B g.al g.HF t v):SR B g H (R.set i<|U v)<|iT s i<|.val t:=
 ⟨x.st,x.lc.set r λ_ _ _ _ h=>h⟩
def G.iD(g:G)(l:ax)(o:HO):G:={g with HF:=upd g.HF l o,o:=λb=>if b=l then Y else g.o b}
def qh{p q:kN}(hl:g.o l=U p)(f:g.HF l=Y)(d:q≠p){c:C}(h:bK B g H q c v):bK B (g.iD l o) (upd H l o) q c v:=
 bK.mv (g':=g.iD l o) (aW f) fH (λb a=>by
  have:b≠l:=λe=>d (by lia)
  exact⟨by show(if b=l then Y else g.o b)=_;lia,aq this⟩) h
def u6{p:kN}(hl:g.o l=U p)(a:g.HF l=Y):dE g H (g.iD l o)<|upd H l o:=
 ⟨aW a,fH,λb u h n z=>by
  have:b≠l:=λe=>by rw[e,hl]at z;cases z
  exact⟨by rw[aq this];exact h,by show upd g.HF l o b=Y;rw[aq this];exact n,by show(if b=l then Y else g.o b)=Y;rw[bt this];exact z⟩,λb h=>by
  by_cases hb:b=l
  .subst hb;rw[ak]at h;cases h
  .rw[aq hb]at h;exact h⟩
def BZ(x:eQ B g H m)(hl:g.o l=U (.loc i)):eQ B (g.iD l o) (upd H l o) m:=by
 have d:=(x.live l _ hl).1;refine x.mv (λb u e=>?_) (λb p e=>?_) (aW d) J λb p a c=>?_
 .have e:upd g.HF l o b=U u:=e
  by_cases a:b=l
  .subst a;rw[ak]at e ⊢;exact e
  .rw[aq a]at e ⊢;exact x.sub _ _ e
 .have e:(if b=l then Y else g.o b)=U p:=e
  by_cases a:b=l
  .rw[b0 a]at e;cases e
  .rw[bt a]at e
   obtain⟨h,f⟩:=x.live b p e;exact⟨by show upd g.HF l o b=Y;rw[aq a];exact h,by rw[aq a];exact f⟩
 .have:b≠l:=λe=>c i (by rw[e,hl]at a;cases a;rfl)
  exact⟨by show(if b=l then Y else g.o b)=_;rw[bt this];exact a,aq this⟩
def Hy(h:H l=U o):upd H l o=H:=by
 funext b
 by_cases hb:b=l
 .subst hb;rw[ak,h]
 .rw[aq hb]
theorem SR.iD(x:SR B g H R s){i:Nat}{ts:FR}(h:s.r[i]?=U (U<|.ol ts)):∃g' v,dE g H g' H/\SR B g' H R (iT s i<|.val<|.lst ts)/\R[i]?=U (U v)/\Rep B g'.al g'.HF (.lst ts) v:=by
 obtain⟨v,f,l,a,rfl,b,p,r⟩:=x.lc.at_ i _ h;have e:=(x.st.live l _ b).1;have rp:Rep B _ (g.iD l _).HF (.lst ts) _:=⟨l,a,J,ak,r.mv fH<|aW e⟩;have n:=Hy p;have m:=u6 (H:=H) (o:=.lst a) b e;have k:=BZ (o:=.lst a) x.st b;rw[n]at m k;refine⟨g.iD l _,.ref l,m,⟨k,?_⟩,f,rp⟩
 have:=x.lc.set (c:=.val<|.lst ts) rp λj c v d q=>by
  have q1:=qh (o:=.lst a) b e (λz=>d<|by cases z;rfl) q
  rw[n]at q1;exact q1
 have t:R.set i (U<|.ref l)=R:=by
  apply Bt;intro j;by_cases d:i=j
  .subst d
   rw[f9 (dw.mp f).1,f]
  .rw[e9 d]
 rw[t]at this;exact this
def SR.ż(x:SR B g H R s)(h:s.r[i]?=U (U<|.od ks ts)):∃v,R[i]?=U (U v)/\Rl H λH'=>∃g',dE g H g' H'/\SR B g' H' R (iT s i<|.val<|.f_ ks ts)/\Rep B g'.al g'.HF (.f_ ks ts) v:=by
 obtain⟨v,f,l,a,rfl,b,k,hl,r⟩:=x.lc.at_ i _ h;have e:=(x.st.live l _ b).1;refine⟨.ref l,f,.inr ⟨l,_,k,λob=>?_⟩⟩;have rp:Rep B _ (g.iD l _).HF (.f_ ks ts) _:=⟨l,a,J,⟨ob,ak⟩,hl,r.mv fH<|aW e⟩;refine⟨g.iD l _,u6 b e,⟨BZ x.st b,?_⟩,rp⟩
 have:=x.lc.set (c:=.val<|.f_ ks ts) rp λj c v d q=>qh b e (λz=>d<|by cases z;rfl) q
 have m:R.set i (U<|.ref l)=R:=by
  apply Bt;intro j;by_cases d:i=j
  .subst d
   rw[f9 (dw.mp f).1,f]
  .rw[e9 d]
 rw[m]at this;exact this
def G.own(g:G)(l:ax)(p:kN):G:={g with o:=λb=>if b=l then U p else g.o b}
def xX{p q:kN}(d:g.o l=Y){c:C}(h:bK B g H q c v):bK B (g.own l p) H q c v:=
 bK.mv (g':=g.own l p) (aT.refl g.HF) fH (λb a=>by
  have:b≠l:=λe=>by rw[e,d]at a;cases a
  exact⟨by show(if b=l then U p else g.o b)=_;rw[bt this];exact a,J⟩) h
def B3{p:kN}(x:eQ B g H m)(c:g.o l=Y)(f:g.HF l=Y)(d:H l=U u):eQ B (g.own l p) H m:=by
 refine x.mv x.sub (λb q e=>?_) (aT.refl _) J λb q a h=>?_
 .have e:(if b=l then U p else g.o b)=U q:=e
  by_cases a:b=l
  .subst a;exact⟨f,u,d⟩
  .rw[bt a]at e;exact x.live b q e
 .have:b≠l:=λe=>by rw[e,c]at a;cases a
  exact⟨by show(if b=l then U p else g.o b)=_;rw[bt this];exact a,J⟩
theorem SR.own(x:SR B g H R s)(a:g.o l=Y)(d:g.HF l=Y)(b:H l=U (.lst vs))(r:aF B g.al g.HF ts vs):SR B (g.own l<|.loc i) H (R.set i<|U<|.ref l)<|iT s i<|.ol ts:=
 ⟨B3 x.st a d b,x.lc.set ⟨l,vs,J,by show(if l=l then U _ else g.o l)=_;rw[b0 J],b,r⟩ λj c v e q=>xX a q⟩
def SR.Ž(x:SR B g H R s)(a:g.o l=Y)(d:g.HF l=Y)(b:H l=U (.dK<|(ks.map lA).zip vs))(hk:Hq ks=Hq vs)(r:aF B g.al g.HF ts vs):SR B (g.own l<|.loc i) H (R.set i<|U<|.ref l)<|iT s i<|.od ks ts:=
 ⟨B3 x.st a d b,x.lc.set ⟨l,vs,J,by show(if l=l then U _ else g.o l)=_;rw[b0 J],b,hk,r⟩ λj c v e q=>xX a q⟩
def B4(x:eQ B g H m)(c:g.o l=U (.loc i)):eQ B g (upd H l u) m:=by
 have h:=(x.live l _ c).1;refine x.mv (λb w e=>?_) (λb q e=>?_) (aT.refl _) J λb q a f=>?_
 .have:b≠l:=λz=>by lia
  rw[aq this];exact x.sub _ _ e
 .obtain⟨d,w,j⟩:=x.live b q e
  by_cases a:b=l
  .exact⟨d,u,by rw[a,ak]⟩
  .exact⟨d,w,by rw[aq a];lia⟩
 .have:b≠l:=λe=>f i (by lia)
  exact⟨a,by rw[aq this]⟩
def oX{p:kN}(a:g.o l=U p):dE g H g<|upd H l u:=
 ⟨aT.refl _,fH,λb w h n z=>by
  have:b≠l:=λe=>by rw[e,a]at z;cases z
  exact⟨by rw[aq this];exact h,n,z⟩,λb h=>by
  by_cases hb:b=l
  .subst hb;rw[ak]at h;cases h
  .rw[aq hb]at h;exact h⟩
def SR.chg(x:SR B g H R s){ts m:FR}{d:List V}(h:s.r[i]?=U (U<|.ol ts))(a:R[i]?=U (U<|.ref l))(r:aF B g.al g.HF m d):SR B g (upd H l<|.lst d) R (iT s i<|.ol m)/\dE g H g (upd H l<|.lst d):=by
 obtain⟨v,o,w,t,rfl,f,y,u⟩:=x.lc.at_ i _ h;rw[a]at o;cases o;refine⟨⟨B4 x.st f,?_⟩,oX f⟩
 have:=x.lc.set (c:=.ol m) ⟨l,d,J,f,ak,r⟩ λj c v k q=>q.mv (aT.refl _) fH λb n=>by
  have:b≠l:=λe=>k (by rw[e,f]at n;cases n;rfl)
  exact⟨n,aq this⟩
 have p:R.set i (U<|.ref l)=R:=by
  apply Bt;intro j;by_cases k:i=j
  .subst k
   rw[f9 (dw.mp a).1,a]
  .rw[e9 k]
 rw[p]at this;exact this
def SR.ž(x:SR B g H R s){ks d:List Ky}(h:s.r[i]?=U (U<|.od ks ts))(a:R[i]?=U (U<|.ref l))(hk:Hq d=Hq f)(r:aF B g.al g.HF n f):SR B g (upd H l<|.dK<|(d.map lA).zip f) R (iT s i<|.od d n)/\dE g H g (upd H l<|.dK<|(d.map lA).zip f):=by
 obtain⟨v,p,y,u,rfl,k,z,A,w⟩:=x.lc.at_ i _ h;rw[a]at p;cases p;refine⟨⟨B4 x.st k,?_⟩,oX k⟩
 have:=x.lc.set (c:=.od d n) ⟨l,f,J,k,ak,hk,r⟩ λj c v m q=>q.mv (aT.refl _) fH λb o=>by
  have:b≠l:=λe=>m (by rw[e,k]at o;cases o;rfl)
  exact⟨o,aq this⟩
 have t:R.set i (U<|.ref l)=R:=by
  apply Bt;intro j;by_cases m:i=j
  .subst m
   rw[f9 (dw.mp a).1,a]
  .rw[e9 m]
 rw[t]at this;exact this
def Yt:Option kN->Option kN
 |U<|.loc _=>Y
 |x=>x
def G.aj(g:G):G:={g with o:=λb=>Yt<|g.o b}
def EN{p:kN}:Yt q=U p ↔ q=U p/\∀i,p≠.loc i:=by
 cases q with
 |none=>exact⟨λh=>(by cases h),λh=>(by cases h.1)⟩
 |some q=>
  cases q with
  |loc i=>exact⟨λh=>(by cases h),λh=>(by obtain⟨h,n⟩:=h;cases h;exact dy J<|n i)⟩
  |ob k=>exact⟨λh=>(by cases h;exact⟨J,λi z=>(by cases z)⟩),λh=>h.1⟩
  |fld k j=>exact⟨λh=>(by cases h;exact⟨J,λi z=>(by cases z)⟩),λh=>h.1⟩
def lK{b:ax}{p:kN}:g.aj.o b=U p ↔ g.o b=U p/\∀i,p≠.loc i:=EN
theorem eQ.aj(x:eQ B g H m):eQ B g.aj H m:=
 x.mv x.sub (λb p e=>x.live b p (lK.mp e).1) (aT.refl _) J λl p h n=>⟨lK.mpr ⟨h,n⟩,J⟩
def ER:Option kN->Option kN->Option kN
 |U<|.loc i,_=>U<|.loc i
 |_,y=>y
def G.back(g g':G):G:={g' with o:=λb=>ER (g.o b)<|g'.o b}
def Hz{b:ax}(h:g.o b=U (.loc i)):(G.back g g').o b=U (.loc i):=by
 show ER ..=_;rw[h];rfl
def qi{b:ax}(h:∀i,g.o b≠U (.loc i)):(G.back g g').o b=g'.o b:=by
 show ER ..=_;cases q:g.o b with
 |none=>rfl
 |some p=>cases p with
  |loc i=>exact dy q<|h i
  |ob k=>rfl
  |fld k j=>rfl
theorem SR.back(x:SR B g H R s)(p:dE g.aj H g' H')(y:eQ B g' H' m'):dE g H (G.back g g') H'/\SR B (G.back g g') H' R {s with m:=m'}:=by
 have keep:∀l i,g.o l=U _->H' l=H l/\g'.HF l=Y/\g'.o l=Y:=λl i e=>by
  obtain⟨r,u,d⟩:=x.st.live l _ e;have A:g.aj.o l=Y:=by
   cases q:g.aj.o l with
   |none=>rfl
   |some p=>obtain⟨a,b⟩:=lK.mp q;rw[e]at a;cases a;exact dy J<|b i
  obtain⟨j,f,t⟩:=p.rest l u d r A;exact⟨j.trans d.symm,f,t⟩
 have C:∀l q,g'.o l=U q->∀i,g.o l≠U _:=λl q e i z=>by rw[(keep l i z).2.2]at e;cases e
 refine⟨⟨p.fr,p.pre,λb u h n z=>?_,p.there⟩,⟨⟨y.sub,λb q e=>?_,y.len,λk ob e=>?_⟩,x.lc.len,λi c e=>?_⟩⟩
 .have A:g.aj.o b=Y:=by
   cases q:g.aj.o b with
   |none=>rfl
   |some p=>rw[(lK.mp q).1]at z;cases z
  obtain⟨j,f,t⟩:=p.rest b u h n A;exact⟨j,f,(qi λi w=>by rw[z]at w;cases w).trans t⟩
 .by_cases hl:∃i,g.o b=U (.loc i)
  .obtain⟨i,hl⟩:=hl
   obtain⟨r,u,d⟩:=x.st.live b _ hl;obtain⟨j,f,_⟩:=keep b i hl;exact⟨f,u,j.trans d⟩
  .rw[qi λi w=>hl ⟨i,w⟩]at e
   exact y.live b q e
 .exact(y.at_ k ob e).mv (aT.refl _) fH λl q h _=>⟨(qi<|C l q h).trans h,J⟩
 .obtain⟨v,r,d⟩:=x.lc.at_ i c e
  exact⟨v,r,bK.mv (g:=g) (g':=G.back g g') p.fr p.pre (λl o=>⟨Hz o,(keep l i o).1⟩) d⟩
abbrev KTb:=Bi×List Bi
def _root_.L2.Cx.kt(X:Cx)(t:KTb):KT:=⟨X.K,X.prog,X.w,t.1,t.2⟩
inductive tE(B:KT)(f:FE)(R:St)(H:Hp)(Q:VK):Prop where
 |mk g s t s' (x:SR B g H R s) (h:f s=.ok (t,s')) (k:∀v g' H',dE g H g' H'->SR B g' H' R s'->Rep B g'.al g'.HF t v->Q v H')
inductive tA(B:KT)(f:FL)(R:St)(H:Hp)(Q:List V->Hp->Prop):Prop where
 |mk g s ts s' (x:SR B g H R s) (h:f s=.ok (ts,s')) (k:∀vs g' H',dE g H g' H'->SR B g' H' R s'->aF B g'.al g'.HF ts vs->Q vs H')
inductive tT(B:KT)(f:FT)(R:St)(H:Hp)(Q:Bool->Hp->Prop):Prop where
 |mk g s k s' (x:SR B g H R s) (h:f s=.ok (k,s')) (q:∀g' H',dE g H g' H'->SR B g' H' R s'->Q k H')
inductive tP(B:KT)(f:FO)(R:St)(H:Hp)(Q:Dx->Hp->Prop):Prop where
 |mk g s k s' (x:SR B g H R s) (h:f s=.ok (k,s')) (q:∀g' H',dE g H g' H'->SR B g' H' R s'->Q k H')
inductive tO(B:KT)(f:FL)(R:St)(H:Hp)(Q:VK):Prop where
 |mk g s ts s' (x:SR B g H R s) (h:f s=.ok (ts,s')) (k:∀l vs g' H',dE g H g' H'->SR B g' H' R s'->H l=Y->g'.HF l=Y->g'.o l=Y->H' l=U (.lst vs)->aF B g'.al g'.HF ts vs->Q (.ref l) H')
def aX{t t':TE}(h:PE X e t)(i:∀R H Q,t' R H Q->t R H Q):PE X e t':=λa s R H Q I q=>h a s R H Q I<|i R H Q q
def B5{t t':TT}(h:PT X e t)(i:∀R H Q,t' R H Q->t R H Q):PT X e t':=λa s R H Q I q=>h a s R H Q I<|i R H Q q
def Qw{t t':TT}(h:PW X e t)(i:∀R H Q,t' R H Q->t R H Q):PW X e t':=λwh a s R H Q I q=>h wh a s R H Q I<|i R H Q q
def tQ{t t':TA}(h:PA X es t)(i:∀R H Q,t' R H Q->t R H Q):PA X es t':=λpo a s R H Q I q=>h po a s R H Q I<|i R H Q q
def cz{t t':TS}(h:PS X st t)(i:∀D R H,t' D R H->t D R H):PS X st t':=λa s R H D I q=>h a s R H D I<|i D R H q
def qj{t t':TS}(h:iz X st t)(i:∀D R H,t' D R H->t D R H):iz X st t':=λa s R H D I q=>h a s R H D I<|i D R H q
def Qx{e:Option cx}{t t':TO}(h:PO X e t)(i:∀R H Q,t' R H Q->t R H Q):PO X e t':=λa s R H Q I q=>h a s R H Q I<|i R H Q q
def nM{t t':TI}(h:PI X tg e t)(i:∀R H a,t' R H a->t R H a):PI X tg e t':=λb s R H a I q=>h b s R H a I<|i R H a q
def bL:PE X e<|tE B cR:=λ_ _ _ _ _ _ a=>by obtain⟨_,_,_,_,_,h,_⟩:=a;cases h
def kO:PT X e<|tT B rZ:=λ_ _ _ _ _ _ a=>by obtain⟨_,_,_,_,_,h,_⟩:=a;cases h
def fk:PE X e<|tO B gD:=λ_ _ _ _ _ _ a=>by obtain⟨_,_,_,_,_,h,_⟩:=a;cases h
def lL(h:PE X e<|tC v)(r:∀al H,Rep B al H t v):PE X e<|tE B<|cF t:=aX h λR H Q z=>by
 obtain⟨g,s,a,s',x,h,k⟩:=z;cases h;exact k v g H .refl x<|r ..
def Yu(e:X.N[i]?=U x)(d:nA X.env.scope x)(hd:bB x)(c:gk x):PE X (.Name x pos)<|tE B<|vF i:=by
 refine aX (Qv<|cu e d hd c) λR H Q b=>?_;obtain⟨g,s,t,s',x,h,k⟩:=b;unfold vF at h;split at h
 .rename_i j hr
  cases h;obtain⟨v,a,f⟩:=x.lc.at_ i _ hr;exact⟨v,a,.inl<|k v g H .refl x f⟩
 .rename_i ts hr
  cases h;obtain⟨g',v,p,y,a,r⟩:=x.iD hr;exact⟨v,a,.inl<|k v g' H p y r⟩
 .rename_i ks ts hr
  cases h;obtain⟨v,a,r⟩:=x.ż hr;exact⟨v,a,r.imp λH' ⟨g',p,y,r⟩=>k v g' H' p y r⟩
 .cases h
def L1(X:Cx)(f:T->FV)(r:V->Hp->VK->Prop):Prop:=∀(B:KT)(_:B.K=X.K)(al:BM)(HF H:Hp)(x:V)(t tx:T)(Q:VK),aT HF H->Rep B al HF tx x->f tx=U t->(∀v S H',Gr HF H S H'->Rep B al S t v->Q v H')->r x H Q
def tR(X:Cx)(f:T->T->FV)(r:R2):Prop:=∀(B:KT)(_:B.K=X.K)(al:BM)(HF H:Hp)(x y:V)(t tx ty:T)(Q:VK),aT HF H->Rep B al HF tx x->Rep B al HF ty y->f tx ty=U t->(∀v S H',Gr HF H S H'->Rep B al S t v->Q v H')->r x y H Q
def LN(X:Cx)(f:FR->FV)(r:List V->Hp->VK->Prop):Prop:=∀(B:KT)(_:B.K=X.K)(al:BM)(HF H:Hp)(xs:List V)(t:T)(ts:FR)(Q:VK),aT HF H->aF B al HF ts xs->f ts=U t->(∀v S H',Gr HF H S H'->Rep B al S t v->Q v H')->r xs H Q
def Qy(hB:B.K=X.K)(hr:L1 X f r):∀R H Q,tE B (dz f F) R H Q->tUn r (tE B F) R H Q:=by
 rintro R H Q ⟨g,s,t,s',x,h,k⟩
 revert h;refine abK λtx c l=>abJ λm j=>λh=>?_;cases h;exact⟨g,s,tx,c,x,l,λv g1 H1 i a e=>hr B hB g1.al g1.HF H1 v _ tx Q a.sub e (au j) λu S H' b d=>k u _ H' (i.trans<|a.j_ b) (a.grow b) d⟩
def nN(hB:B.K=X.K)(hr:tR X f r):∀R H Q,tE B (bo f F W) R H Q->Qg r (tE B F) (tE B W) R H Q:=by
 rintro R H Q ⟨g,s,t,s',x,h,k⟩
 revert h;refine abK λtx c p=>abK λty s2 o=>abJ λq n=>λh=>?_;cases h;exact⟨g,s,tx,c,x,p,λv g1 H1 m e l=>⟨g1,c,ty,s2,e,o,λw g2 y b a j=>
  hr B hB g2.al g2.HF y v w _ tx ty Q a.sub (l.mv b.pre b.fr) j (au n) λu S H' d i=>k u _ H' ((m.trans b).trans<|a.j_ d) (a.grow d) i⟩⟩
def Qz(hB:B.K=X.K)(hr:LN X f r):∀R H Q,tE B (aV f fl) R H Q->Ŝ r (tA B fl) R H Q:=by
 rintro R H Q ⟨g,s,t,s',x,h,k⟩
 revert h;refine abK λts d m=>abJ λn l=>λh=>?_;cases h;exact⟨g,s,ts,d,x,m,λc g1 H1 j a i=>hr B hB g1.al g1.HF H1 c _ ts Q a.sub i (au l) λu S H' b e=>k u _ H' (j.trans<|a.j_ b) (a.grow b) e⟩
def z7:PA X []<|tA B a_:=tQ cy λR H Q z=>by
 obtain⟨g,s,t,s',x,h,k⟩:=z;cases h;exact k [] g H .refl x J
def u7(l:PE X e<|tE B F)(hr:PA X es<|tA B fl)(hs:c3 (e::es) X.env=(Zb,eE e X.env)::c3 es X.env):PA X (e::es)<|tA B<|ba F fl:=tQ (aU l hr hs) λR H Q z=>by
 obtain⟨g,s,t,s',x,h,k⟩:=z;revert h;refine abK λtx b n=>abK λty s2 m=>λh=>?_;cases h;exact⟨g,s,tx,b,x,n,λv g1 H1 j d i=>⟨g1,b,ty,s2,d,m,λw g2 y a c f=>k _ g2 y (j.trans a) c ⟨v,w,J,i.mv a.pre a.fr,f⟩⟩⟩
def z_(h:n<=1000):n<=cC:=by exact cJ h (by decide)
def Yv{a}(h:PA X es<|tA B fl):PE X (.Tuple es a pos)<|tE B<|aV df fl:=aX (Hc h) λR H Q z=>by
 obtain⟨g,s,t,s',x,h,k⟩:=z;revert h;refine abK λts e l=>abJ λm j=>λh=>?_;cases h;obtain⟨z,rfl⟩:=bz<|au j;refine⟨g,s,ts,e,x,l,λc g1 H1 f a d=>⟨z_<|by rw[<- d.len];exact z,λq i=>?_⟩⟩
 have b:=Gr.new (o:=.tup c) a.sub i;exact k _ _ _ (f.trans<|a.j_ b) (a.grow b) ⟨q,c,J,.inl<|.inl ak,d.same b.fr⟩
def Yw(h:PA X es<|tA B fl):PE X (.List es pos)<|tE B<|aV dm fl:=aX (pX h) λR H Q z=>by
 obtain⟨g,s,t,s',x,h,k⟩:=z;revert h;refine abK λts e l=>abJ λm j=>λh=>?_;cases h;obtain⟨z,rfl⟩:=bz<|au j;refine⟨g,s,ts,e,x,l,λc g1 H1 f a d=>⟨z_<|by rw[<- d.len];exact z,λq i=>?_⟩⟩
 have b:=Gr.new (o:=.lst c) a.sub i;exact k _ _ _ (f.trans<|a.j_ b) (a.grow b) ⟨q,c,J,ak,d.same b.fr⟩
def kc(fl:FL):FL:=λs=>(fl s).bind λp=>if Hq p.1<=1000 then .ok p else .bad
theorem jm{u:HO}(x:SR B g H R s)(h:H l=Y):Gr g.HF H g.HF (upd H l u)/\g.HF l=Y/\g.o l=Y:=by
 refine⟨.jm x.sub h,x.sub.free h,?_⟩;cases q:g.o l with
 |none=>rfl
 |some p=>obtain⟨_,u,z⟩:=x.st.live l p q;rw[h]at z;cases z
def Te(h:PA X es<|tA B fl):PE X (.List es pos)<|tO B<|kc fl:=aX (pX h) λR H Q z=>by
 obtain⟨g,s,t,s',x,h,k⟩:=z;revert h;refine abK λts j i=>λh=>?_;split at h
 .rename_i z
  cases h;refine⟨g,s,_,_,x,i,λb g1 H1 d a c=>⟨z_<|by rw[<- c.len];exact z,λq e=>?_⟩⟩
  obtain⟨f,n1,n2⟩:=jm a e;exact k q b _ _ (d.trans<|a.j_ f) (a.grow f) (d.there q e) n1 n2 ak c
 .cases h
def SR.Aa{u:HO}(x:SR B g H R s)(j:g.HF l=Y)(f:g.o l=Y)(k:H l=U u):SR B (g.grow<|upd g.HF l u) H R s:=by
 have sl:∀p c v,bK B g H p c v->bK B _ H p c v:=λp c v h=>bK.mv (g':=g.grow<|upd g.HF l u) (aW j) fH (λ_ q=>⟨q,J⟩) h;refine⟨x.st.mv (λb w e=>?_) (λb p e=>?_) (aW j) J λ_ _ q _=>⟨q,J⟩,x.lc.len,λi c e=>let⟨v,d,a⟩:=x.lc.at_ i c e;⟨v,d,sl _ _ _ a⟩⟩
 .have e:upd g.HF l u b=U w:=e
  by_cases hb:b=l
  .subst hb;rw[ak]at e;lia
  .rw[aq hb]at e;exact x.sub _ _ e
 .obtain⟨d,a⟩:=x.st.live b p e
  have:b≠l:=λz=>by lia
  exact⟨by show upd g.HF l u b=Y;rw[aq this];lia,a⟩
def dE.Aa{u:HO}(p:dE g H g1 H1)(e:H l=Y)(d:g1.HF l=Y):dE g H (g1.grow<|upd g1.HF l u) H1:=
 ⟨p.fr.trans<|aW d,p.pre,λb w h n z=>by
  obtain⟨a,f,c⟩:=p.rest b w h n z
  have:=aS h e
  exact⟨a,by show upd g1.HF l u b=Y;rw[aq this];exact f,c⟩,p.there⟩
def Ab(h:PE X e<|tO B fl):PE X e<|tE B<|eO fl:=aX h λR H Q z=>by
 obtain⟨g,s,t,s',x,h,k⟩:=z;revert h;refine abK λts j f=>λh=>?_;cases h;refine⟨g,s,_,_,x,f,λl b g1 H1 d a i n1 n2 hl c=>?_⟩;exact k _ _ H1 (d.Aa i n1) (a.Aa n1 n2 hl) ⟨l,b,J,ak,c.same<|aW n1⟩
def Tf(b:PT X a<|tT B ft):PW X (.BoolOp .And [a] pos)<|tT B ft:=LG b
def Yx(b:PT X a<|tT B ft):PW X (.BoolOp .Or [a] pos)<|tT B ft:=Sb b
def Yy{rest:Bz}(m:PT X a<|tT B ft)(l:PW X (.BoolOp .And (b::rest) pos)<|tT B u):PW X (.BoolOp .And (a::b::rest) pos)<|tT B<|gM ft u:=Qw (Sd m l) λR H Q z=>by
 obtain⟨g,s,t,s',x,h,k⟩:=z;revert h;refine abK λd e n=>λh=>?_;refine⟨g,s,d,e,x,n,λg1 H1 f c=>?_⟩;cases d with
 |true=>exact oq ⟨g1,e,_,_,c,h,λg2 y j i=>k g2 y (f.trans j) i⟩
 |false=>cases h;exact om<|k g1 H1 f c
def aab{rest:Bz}(m:PT X a<|tT B ft)(l:PW X (.BoolOp .Or (b::rest) pos)<|tT B u):PW X (.BoolOp .Or (a::b::rest) pos)<|tT B<|j9 ft u:=Qw (WR m l) λR H Q z=>by
 obtain⟨g,s,t,s',x,h,k⟩:=z;revert h;refine abK λd e n=>λh=>?_;refine⟨g,s,d,e,x,n,λg1 H1 f c=>?_⟩;cases d with
 |true=>cases h;exact oq<|k g1 H1 f c
 |false=>exact om ⟨g1,e,_,_,c,h,λg2 y j i=>k g2 y (f.trans j) i⟩
def Yz(f:PT X a<|tT B ft):PT X (.UnaryOp .Not a pos)<|tT B<|eM ft:=B5 (Se f) λR H Q z=>by
 obtain⟨g,s,t,s',x,h,k⟩:=z;revert h;refine abK λd c i=>λh=>?_;cases h;exact⟨g,s,d,c,x,i,λg1 H1 e b=>k g1 H1 e b⟩
def oY(h:Yp t=U k):t=.bl k:=by
 cases t<;>first|(cases h;done)|(cases h;rfl)
def HA{op}(b:PE X a<|tE B F):PE X (.BoolOp op [a] pos)<|tE B F:=Sf b
def Tg{rest:Bz}(p:PE X a<|tE B F)(o:PE X (.BoolOp .And (b::rest) pos)<|tE B W):PE X (.BoolOp .And (a::b::rest) pos)<|tE B<|ow F W:=aX (Sg p o) λR H Q z=>by
 obtain⟨g,s,t,s',x,h,k⟩:=z;revert h;refine abK λd e r=>abJ λi q=>λh=>?_;cases oY (au q);refine⟨g,s,_,e,x,r,λv g1 H1 f c m=>⟨i,m,?_⟩⟩;cases i with
 |true=>exact oq ⟨g1,e,_,_,c,h,λw g2 y n j l=>k w g2 y (f.trans n) j l⟩
 |false=>cases h;exact om<|k _ g1 H1 f c J
def YA{rest:Bz}(p:PE X a<|tE B F)(o:PE X (.BoolOp .Or (b::rest) pos)<|tE B W):PE X (.BoolOp .Or (a::b::rest) pos)<|tE B<|ź F W:=aX (WU p o) λR H Q z=>by
 obtain⟨g,s,t,s',x,h,k⟩:=z;revert h;refine abK λd e r=>abJ λi q=>λh=>?_;cases oY (au q);refine⟨g,s,_,e,x,r,λv g1 H1 f c m=>⟨i,m,?_⟩⟩;cases i with
 |true=>cases h;exact oq<|k _ g1 H1 f c J
 |false=>exact om ⟨g1,e,_,_,c,h,λw g2 y n j l=>k w g2 y (f.trans n) j l⟩
def Ti(i:PE X a<|tE B F):PE X (.UnaryOp .Not a pos)<|tE B<|oz F:=aX (Sh i) λR H Q z=>by
 obtain⟨g,s,t,s',x,h,k⟩:=z;revert h;refine abK λd c l=>abJ λm j=>λh=>?_;cases oY (au j);cases h;exact⟨g,s,_,c,x,l,λv g1 H1 f b e=>⟨m,e,k _ g1 H1 f b J⟩⟩
def YB(n:PT X c<|tT B ft)(p:PE X a<|tE B F)(o:PE X b<|tE B W):PE X (.IfExp c a b pos)<|tE B<|rG ft F W:=aX (xq n p o) λR H Q z=>by
 obtain⟨g,s,t,s',x,h,k⟩:=z;revert h;refine abK λd f q=>λh=>?_;refine⟨g,s,d,f,x,q,λg1 H1 m l=>?_⟩;cases d with
 |true=>exact oq ⟨g1,f,_,_,l,h,λw g2 y j e i=>k w g2 y (m.trans j) e i⟩
 |false=>exact om ⟨g1,f,_,_,l,h,λw g2 y j e i=>k w g2 y (m.trans j) e i⟩
def HB(h:Yn t=U k)(c:aT HF H)(r:Rep B al HF t v):Sz B.K v H k:=by
 cases t<;>try(cases h;done)
 .cases h;cases r;rfl
 .cases h
  obtain⟨a,b,rfl,q,d⟩:=r;refine .inl ⟨b,dY.of<|c _ _ q,?_⟩
  have:=d.len
  grind
def QA(j:PE X a<|tE B F)(hB:B.K=X.K)(he:∀c,Er a X.env c=(do let v <- c;ri a.pos;ry [v] (truthy v))):PT X a<|tT B<|tB F:=B5 (G7 j he) λR H Q z=>by
 obtain⟨g,s,t,s',x,h,k⟩:=z;revert h;refine abK λd e m=>abJ λn l=>λh=>?_;cases h;exact⟨g,s,_,e,x,m,λv g1 H1 i b f=>⟨_,hB▸HB (au l) b.sub f,k g1 H1 i b⟩⟩
def gQ(l:B1):(⟨l.toArray⟩:Str).length=l.length:=by rfl
def szS{l:B1}(h:l.length<=1000000):(⟨l.toArray⟩:Str).length<=cC:=by rw[dZ];exact cJ h (by decide)
def Tj(a b:B1):(⟨a.toArray⟩:Str)++⟨b.toArray⟩=⟨(a++b).toArray⟩:=by
 show(⟨a.toArray++b.toArray⟩:Str)=_;simp
def QC:R2:=λx y H Q=>FN (λi j=>.int<|i+j) x y H Q\/(∃i j,x=.str i/\y=.str j/\i.length+j.length<=cC/\Q (.str<|i++j) H)\/XE x y H Q
def Mz:ic X (ll .Add) QC:=Su.or<|zL.or zW
def YC:tR X Yi QC:=λB hB al HF H x y t tx ty Q a d b h k=>by
 cases tx<;>first|(cases h;done)|(cases ty<;>try(cases h;done))
 .cases h;exact .inl ⟨_,_,d,b,k _ HF H (.refl a) J⟩
 .obtain⟨c,rfl⟩:=bz h
  obtain⟨rfl,_⟩:=d;obtain⟨rfl,_⟩:=b;refine .inr<|.inl ⟨_,_,J,J,?_,?_⟩
  .rw[gQ,gQ,dZ];exact cJ c (by decide)
  .rw[Tj]
   exact k _ HF H (.refl a) ⟨J,by rw[bU];exact c⟩
 .obtain⟨c,rfl⟩:=bz h
  obtain⟨l,xs,rfl,q,r⟩:=d;obtain⟨m,ys,rfl,g,e⟩:=b;refine .inr<|.inr ⟨l,m,xs,ys,J,J,a _ _ q,a _ _ g,by rw[<- r.len,<- e.len,dZ];exact cJ c<|by decide,λp i=>?_⟩
  have f:=Gr.new (o:=.lst<|xs++ys) a i;exact k _ _ _ f ⟨p,_,J,ak,(r.app e).same f.fr⟩
def YD{f:T->T->FV}{a:Int->Int->V}{G:Int->Int->T}(g:∀tx ty t,f tx ty=U t->∃i j,tx=.int i/\ty=.int j/\t=G i j)(e:∀B al i j H,Rep B al H (G i j)<|a i j):tR X f<|FN a:=λB hB al HF H x y t tx ty Q b d c h k=>by
 obtain⟨i,j,rfl,rfl,rfl⟩:=g _ _ _ h;exact⟨i,j,d,c,k _ HF H (.refl b)<|e B al i j HF⟩
def QD{f:T->T->FV}{a:Int->Int->V}{G:Int->Int->T}{C:Int->Int->Prop}(l:∀tx ty t,f tx ty=U t->∃i j,tx=.int i/\ty=.int j/\t=G i j/\C i j)(g:∀B al i j H,Rep B al H (G i j)<|a i j):tR X f<|rI C a:=λB hB al HF H x y t tx ty Q b e d h k=>by
 obtain⟨i,j,rfl,rfl,rfl,c⟩:=l _ _ _ h;exact⟨i,j,e,d,c,k _ HF H (.refl b)<|g B al i j HF⟩
def YE:tR X Yj<|FN λi j=>.int<|i-j:=YD (G:=λi j=>.int<|i-j) (λtx ty t h=>by
 cases tx<;>first | (cases h;done) | (cases ty<;>first | (cases h;done) | (cases h;exact⟨_,_,J,J,J⟩))) λ_ _ _ _ _=>J
def YF:tR X Yk<|rI Xb λi j=>.int<|i/j:=QD (G:=λi j=>.int<|i/j) (λtx ty t h=>by
 cases tx<;>first | (cases h;done) | (cases ty<;>first | (cases h;done) | (obtain⟨c,rfl⟩:=bz h;exact⟨_,_,J,J,J,c⟩))) λ_ _ _ _ _=>J
def YG:tR X Yl<|rI (λ_ j=>0<j) λi j=>.int<|i % j:=QD (G:=λi j=>.int<|i % j) (λtx ty t h=>by
 cases tx<;>first | (cases h;done) | (cases ty<;>first | (cases h;done) | (obtain⟨c,rfl⟩:=bz h;exact⟨_,_,J,J,J,c⟩))) λ_ _ _ _ _=>J
def B6(i j:Int):Prop:=Ss i j\/(i.natAbs.log2<2000000/\j.natAbs.log2<2000000)
def tU(h:i.natAbs.log2<2000000):hZ i<=2000000:=by
 unfold hZ;split
 .exact sD ..
 .exact cJ h (by decide)
theorem B6.ok{i j:Int}(h:B6 i j):IntMulOk i j:=by
 rcases h with h|⟨f,e⟩
 .exact h.ok
 .have a:=tU f
  have b:=tU e;intro q;rw[cL]at q;have c:=bh<|q.2;have d:bitsLine=134217728:=J
  lia
def MA:ic X (ll .Mult)<|rI B6 λi j=>.int<|i*j:=Ŗ λ_ _ _ _ _ _ _ a q=>PyProof.Rows.mul_int q a.ok
def Ğ(l:B1)(k:Nat):(cK k l).flatten.length=k*Hq l:=by
 simp
def QF:R2:=λx y H Q=>rI B6 (λi j=>.int<|i*j) x y H Q\/XG x y H Q
def MB:ic X (ll .Mult) QF:=MA.or Hm
def QG:T->T->FV
 |.int i,.int j=>Mw (.int i)<|.int j
 |.lst a,.int k=>Mw (.lst a)<|.int k
 |_,_=>Y
def YH:tR X QG QF:=λB hB al HF H x y t tx ty Q a d b h k=>by
 cases tx<;>first|(cases h;done)|(cases ty<;>try(cases h;done))
 .obtain⟨c,rfl⟩:=bz h
  exact .inl ⟨_,_,d,b,c,k _ HF H (.refl a) J⟩
 .obtain⟨c,rfl⟩:=bz h
  obtain⟨l,xs,rfl,q,r⟩:=d;refine .inr ⟨l,_,xs,J,b,a _ _ q,by lia,by lia,by rw[<- r.len,dZ];lia,λp e=>?_⟩
  exact k _ _ _ (Gr.new a e) ⟨p,_,J,ak,(r.flat _).same<|aW<|a.free e⟩
def jo:og->T->T->FV
 |.Add=>Yi
 |.Sub=>Yj
 |.Mult=>QG
 |.FloorDiv=>Yk
 |.Mod=>Yl
 |_=>λ_ _=>Y
def YI(hB:B.K=X.K)(op:og)(d:PE X a<|tE B F)(c:PE X b<|tE B W):PE X (.BinOp a op b pos)<|tE B<|bo (jo op) F W:=by
 have no:∀f:T->T->FV,(∀x y,f x y=Y)->PE X (.BinOp a op b pos) (tE B<|bo f F W):=λf g _ _ _ _ _ _ z=>by
  obtain⟨_,_,_,_,_,h,_⟩:=z;revert h;refine abK λtx j l=>abK λty s2 k=>abJ λi e=>λh=>?_;rw[g]at e;cases e
 cases op
 case Add=>exact aX (nC Mz d c)<|nN hB YC
 case Sub=>exact aX (nC Sv d c)<|nN hB YE
 case Mult=>exact aX (nC MB d c)<|nN hB YH
 case FloorDiv=>exact aX (nC LR d c)<|nN hB YF
 case Mod=>exact aX (nC Sw d c)<|nN hB YG
 all_goals exact no _ λ_ _=>J
def YJ(hB:B.K=X.K)(d:PE X a<|tE B F):PE X (.UnaryOp .USub a pos)<|tE B<|dz fh F:=
 aX (W_ Sx d)<|Qy hB λB hB al HF H x t tx Q b c h k=>by
  cases tx<;>try(cases h;done)
  cases h;exact⟨_,c,k _ HF H (.refl b) J⟩
def Ac(h:Rep B al H t v)(f:dq t=O):(t=.non/\v=.non)\/(∃b,t=.bl b/\v=.bl b)\/(∃i,t=.int i/\v=.int i)\/∃l,t=.str l/\v=.str ⟨l.toArray⟩:=by
 cases t with
 |non=>exact .inl ⟨J,h⟩
 |bl b=>exact .inr<|.inl ⟨b,J,h⟩
 |int i=>exact .inr<|.inr<|.inl ⟨i,J,h⟩
 |str l=>exact .inr<|.inr<|.inr ⟨l,J,h.1⟩
 |_=>cases f
def fm{B:KT}{al:BM}{H:Hp}{t:T}{v:V}(h:Rep B al H t v)(f:dq t=O):fP v=O:=by
 rcases Ac h f with⟨_,rfl⟩|⟨_,_,rfl⟩|⟨_,_,rfl⟩|⟨_,_,rfl⟩<;>rfl
def str_beq(l m:B1):((⟨l.toArray⟩:Str) == ⟨m.toArray⟩)=decide (l=m):=by
 lia
def lM{t u:T}(h:Rep B al H t v)(h':Rep B al H u w)(f:dq t=O)(f':dq u=O):Hj v w=eqT t u:=by
 rcases Ac h f with⟨rfl,rfl⟩|⟨b,rfl,rfl⟩|⟨i,rfl,rfl⟩|⟨l,rfl,rfl⟩<;>rcases Ac h' f' with⟨rfl,rfl⟩|⟨c,rfl,rfl⟩|⟨j,rfl,rfl⟩|⟨m,rfl,rfl⟩<;>first|rfl|exact str_beq ..
def lN{d:dJ}{s:ag}{a:ax}(I:Inv X d R H s)(c:aT HF H)(h:nB X.K HF a vs):∃b:B2,Vals vs b/\s.heap.IsTuple a b.toArray:=by
 obtain⟨b,r,ht,hz⟩:=I.tuple<|cZ c h;exact⟨b,r,ht⟩
def lO{d:dJ}{s:ag}{a:ax}(I:Inv X d R H s)(c:aT HF H)(h:HF a=U (.lst vs)):∃b:B2,Vals vs b/\s.heap.IsList a b.toArray:=by
 obtain⟨b,r,p,hz⟩:=I.list<|dY.of<|c _ _ h;exact⟨b,r,p.isList⟩
def HC{v:V}(f:fP v=O):Hj v v=O:=by
 cases v<;>first|(cases f;done)|rfl|(show(_ == _)=O;exact kl _)
def HD(t u:T):shape 0 t u=(dq t&&dq u):=J
def B7(hB:B.K=X.K){C:dJ}{s:ag}(I:Inv X C R H s)(m:aT HF H)(n:Nat):∀{t u:T}{v:V},Rep B al HF t v->Rep B al HF u v->shape n t u=O->eqT t u=O:=by
 have flat:∀{t u:T}{v:V},Rep B al HF t v->Rep B al HF u v->(dq t&&dq u)=O->eqT t u=O:=λh b f=>by
  obtain⟨o,z⟩:=kF.mp f;rw[<- lM h b o z];exact HC<|fm h o
 induction n with
 |zero=>exact λ{t u v} h b sh=>flat h b<|(HD t u).symm.trans sh
 |succ n p=>
  intro t u v h b sh;have d:∀{ts c:FR}{g:List V},aF B al HF ts g->aF B al HF c g->all2 (shape n) ts c=O->iH ts c=O:=by
   intro ts
   induction ts with
   |nil=>intro c g h b _;cases(h);cases c with
    |nil=>rfl
    |cons u c=>obtain⟨_,_,e,_⟩:=b;cases e
   |cons t ts l=>intro c g h b sh;cases c with
    |nil=>obtain⟨_,_,e,_⟩:=h;cases(b);cases e
    |cons u c=>
     obtain⟨v,r,rfl,x,w⟩:=h;obtain⟨G,i,e,E,F⟩:=b;cases e;obtain⟨ES,k⟩:=kF.mp<|sh;show(eqT t u&&iH ts c)=O;rw[p x E ES,l w F k];rfl
  cases t with
  |tup ts=>
   cases u with
   |tup c=>
    obtain⟨a,g,rfl,q,r⟩:=h;obtain⟨D,y,e,j,i⟩:=b;cases e;have A:=I.sV (cZ m<|hB▸q)<|cZ m<|hB▸j;subst A;exact d r i sh
   |_=>exact flat h b sh
  |lst ts=>
   cases u with
   |lst c=>
    obtain⟨a,g,rfl,q,r⟩:=h;obtain⟨D,y,e,j,i⟩:=b;cases e;rw[q]at j;cases j;exact d r i sh
   |_=>exact flat h b sh
  |_=>exact flat h b (by cases u<;>exact sh)
theorem xZ{p:T->T->Bool}:∀{as bs:FR},all2 p as bs=O->∀{j:Nat}{a b:T},as[j]?=U a->bs[j]?=U b->p a b=O
 |a::as,b::bs,h,0,_,_,d,c=>by
  simp at d c;subst d c;exact(kF.mp h).1
 |a::as,b::bs,h,j+1,_,_,d,c=>xZ (kF.mp h).2 (by simpa using d) (by simpa using c)
 |[],_,_,_,_,_,d,_=>by simp at d
 |_::_,[],_,_,_,_,_,c=>by simp at c
theorem gF:∀(xs ys:FR),((cU<|min xs.length ys.length).all (λj=>eqT (xs.getD j .non)<|ys.getD j .non)&&xs.length == Hq ys)=iH xs ys
 |[],[]=>J
 |[],_::_=>by simp[iH]
 |_::_,[]=>by simp[iH]
 |x::xs,y::ys=>by
  have a:=gF xs ys;rw[dU,dU,Nat.succ_min_succ,Gu,dW,Gv];have e:(Hq xs+1 == Hq ys+1)=(Hq xs == Hq ys):=by
   by_cases h:Hq xs=Hq ys<;>simp[h]
  rw[e];show((eqT x y&&(cU _).all λj=>eqT (xs.getD j .non)<|ys.getD j .non)&&_)=(eqT x y&&iH xs ys);rw[<- a,Bool.and_assoc]
theorem qk:∀{xs ys:FR},Hq xs≠Hq ys->iH xs ys=Zb
 |[],[],h=>dy J h
 |[],_::_,_=>J
 |_::_,[],_=>J
 |x::xs,y::ys,h=>by
  show(eqT x y&&iH xs ys)=Zb;rw[qk λe=>h<|by simp[e],P0]
def in1_units(A:ef):A.in1.units=A.units+1:=J
def lP{A:ef}{s:ag}{vs d:List V}{a its':B2}(r:aF B al HF ts vs)(f:aF B al HF us d)(e:Vals vs a)(i:Vals d its')(sh:all2 (shape n) ts us=O)
  (l:∀{t u:T}{v w:V}{x y:ao},Rep B al HF t v->Rep B al HF u w->RelV v x->RelV w y->shape n t u=O->nL A s x y (eqT t u)) :
  ∀j(h:j<a.toArray.size)(g:j<its'.toArray.size),nL A s a.toArray[j] its'.toArray[j]<|(λj=>eqT (ts.getD j .non)<|us.getD j .non) j:=by
 intro j h g;have l1:=e.length;have l2:=i.length;have l3:=r.len;have l4:=f.len;have b:j<ts.length:=by rw[l3,l1];simpa using h
 have c:j<us.length:=by rw[l4,l2];simpa using g
 obtain⟨v,q,q1⟩:=r.get<|dP b;obtain⟨w,p,q2⟩:=f.get<|dP c;obtain⟨x,o,k⟩:=e.get q;obtain⟨y,m,q4⟩:=i.get p;have q5:a.toArray[j]=x:=by
  obtain⟨_,z⟩:=dw.mp o;simpa using z
 have q6:its'.toArray[j]=y:=by
  obtain⟨_,z⟩:=dw.mp m;simpa using z
 rw[q5,q6];have g1:ts.getD j .non=ts[j]:=by rw[uK,dP b];rfl
 have g2:us.getD j .non=us[j]:=by rw[uK,dP c];rfl
 show nL A s x y<|eqT _ _;rw[g1,g2];exact l q1 q2 k q4<|xZ sh (dP b)<|dP c
def MC(hB:B.K=X.K){s:ag}(I:Inv X N R H s)(g:aT HF H)(n:Nat):∀(A:ef){t u:T}{v w:V}{x y:ao},A.units+n<kf->Rep B al HF t v->Rep B al HF u w->RelV v x->RelV w y->shape n t u=O->nL A s x y (eqT t u):=by
 induction n with
 |zero=>
  intro A t u v w x y C rt f i h sh;obtain⟨o,m⟩:=kF.mp sh;rw[<- lM rt f o m];exact zT i h (fm rt o)<|fm f m
 |succ n G=>
  intro A t u v w x y C rt f i h sh;have flat:(dq t&&dq u)=O->nL A s x y (eqT t u):=λsh=>by
   obtain⟨o,m⟩:=kF.mp sh;rw[<- lM rt f o m];exact zT i h (fm rt o)<|fm f m
  cases t with
  |tup ts=>
   cases u with
   |tup E=>
    obtain⟨a,M,rfl,q,r⟩:=id rt;obtain⟨b,L,rfl,F,k⟩:=id f;cases i;cases h;by_cases hab:a=b
    .subst hab
     rw[B7 hB I g _ rt f sh];exact SeqAt.EqAt.same _
    obtain⟨P,j,ht⟩:=lN I g<|hB▸q;obtain⟨l,p,D⟩:=lN I g<|hB▸F;have z:=vu ht D (rL (bH _ _) C)<|lP r k j p sh λa b c d e=>G A.in1 (by lia) a b c d e
    rw[cD,cD,<- j.length,<- p.length,<- r.len,<- k.len,gF]at z;exact .of_refs hab z
   |_=>exact flat sh
  |lst ts=>
   cases u with
   |lst E=>
    obtain⟨a,M,rfl,q,r⟩:=id rt;obtain⟨b,L,rfl,F,k⟩:=id f;cases i;cases h;by_cases hab:a=b
    .subst hab
     rw[B7 hB I g _ rt f sh];exact SeqAt.EqAt.same _
    obtain⟨P,j,ht⟩:=lO I g q;obtain⟨l,p,D⟩:=lO I g F;have l1:=j.length;have l2:=p.length;have l3:=r.len;have l4:=k.len;by_cases hsz:ts.length=E.length
    .have z:=xa ht D (by rw[cD,cD];lia) (rL (bH _ _) C)<|lP r k j p sh λa b c d e=>G A.in1 (by lia) a b c d e
     have e:=gF ts E;rw[<- hsz,Bl,kl,sO]at e;rw[cD,<- l1,<- l3,e]at z;exact .of_refs hab z
    .have z:=sm ht D (by rw[cD,cD];lia)<|rL (bH _ _) C
     rw[<- qk hsz]at z;exact .of_refs hab z
   |_=>exact flat sh
  |_=>exact flat (by cases u<;>exact sh)
def MD{A:ef}{s:ag}{t u:T}{x y:ao}(rt:Rep B al HF t v)(f:Rep B al HF u w)(e:RelV v x)(d:RelV w y)(h:dq t=O)(g:dq u=O):zV A s x y (eqT t u)/\vr A s x y (!eqT t u):=by
 rw[<- lM rt f h g];have g1:=fm rt h;have g2:=fm f g;cases v with
 |non=>
  cases e;cases w with
  |non=>cases d;exact⟨SeqAt.RcAt.none_none,SeqAt.RcNeAt.none_none⟩
  |bl b=>cases d;exact⟨SeqAt.RcAt.none_bool b,SeqAt.RcNeAt.none_bool b⟩
  |int b=>obtain⟨t,rfl⟩:=d;exact⟨SeqAt.RcAt.none_int b t,SeqAt.RcNeAt.none_int b t⟩
  |str b=>obtain⟨t,rfl⟩:=d;exact⟨SeqAt.RcAt.none_str b t,SeqAt.RcNeAt.none_str b t⟩
  |_=>exact dy (g2) e_
 |bl a=>
  cases e;cases w with
  |non=>cases d;exact⟨SeqAt.RcAt.bool_none a,SeqAt.RcNeAt.bool_none a⟩
  |bl b=>cases d;exact⟨SeqAt.RcAt.bool_bool a b,SeqAt.RcNeAt.bool_bool a b⟩
  |int b=>obtain⟨t,rfl⟩:=d;exact⟨SeqAt.RcAt.bool_int a b t,SeqAt.RcNeAt.bool_int a b t⟩
  |str b=>obtain⟨t,rfl⟩:=d;exact⟨SeqAt.RcAt.bool_str a b t,SeqAt.RcNeAt.bool_str a b t⟩
  |_=>exact dy (g2) e_
 |int a=>
  obtain⟨c,rfl⟩:=e;cases w with
  |non=>cases d;exact⟨SeqAt.RcAt.int_none a c,SeqAt.RcNeAt.int_none a c⟩
  |bl b=>cases d;exact⟨SeqAt.RcAt.int_bool a c b,SeqAt.RcNeAt.int_bool a c b⟩
  |int b=>obtain⟨t,rfl⟩:=d;exact⟨SeqAt.RcAt.int_int a c b t,SeqAt.RcNeAt.int_int a c b t⟩
  |str b=>obtain⟨t,rfl⟩:=d;exact⟨SeqAt.RcAt.int_str a c b t,SeqAt.RcNeAt.int_str a c b t⟩
  |_=>exact dy (g2) e_
 |str a=>
  obtain⟨c,rfl⟩:=e;cases w with
  |non=>cases d;exact⟨SeqAt.RcAt.str_none a c,SeqAt.RcNeAt.str_none a c⟩
  |bl b=>cases d;exact⟨SeqAt.RcAt.str_bool a c b,SeqAt.RcNeAt.str_bool a c b⟩
  |int b=>obtain⟨t,rfl⟩:=d;exact⟨SeqAt.RcAt.str_int a c b t,SeqAt.RcNeAt.str_int a c b t⟩
  |str b=>obtain⟨t,rfl⟩:=d;exact⟨SeqAt.RcAt.str_str a c b t,SeqAt.RcNeAt.str_str a c b t⟩
  |_=>exact dy (g2) e_
 |_=>exact dy (g1) e_
def HE(hB:B.K=X.K){s:ag}(I:Inv X N R H s)(j:aT HF H)(A:ef){t u:T}{x y:ao}(P:A.units+6<kf)(rt:Rep B al HF t v)(C:Rep B al HF u w)(p:RelV v x)(o:RelV w y)(sh:shape 5 t u=O) :
  zV A s x y (eqT t u)/\vr A s x y (!eqT t u):=by
 have flat:(dq t&&dq u)=O->zV A s x y _/\vr A s x y _:=λsh=>by
  obtain⟨M,L⟩:=kF.mp sh;exact MD rt C p o M L
 have i:A.units<kf:=by lia
 have dp:=λ{t u:T} {v w:V} {x y:ao} a (b:Rep B al HF u w) (c:RelV v x) (d:RelV w y) (e:shape 4 t u=O)=>MC hB I j 4 A.in1 (by lia) a b c d e
 cases t with
 |tup ts=>
  cases u with
  |tup n=>
   obtain⟨a,G,rfl,q,r⟩:=id rt;obtain⟨b,F,rfl,D,l⟩:=id C;cases p;cases o;obtain⟨E,k,ht⟩:=lN I j<|hB▸q;obtain⟨f,m,h⟩:=lN I j<|hB▸D;have it:=lP r l k m sh dp;have z:=vu ht h i it;have g:=SeqAt.RcNeAt.tuples ht h i it;rw[cD,cD,<- k.length,<- m.length,<- r.len,<- l.len,gF]at z g;exact⟨z,g⟩
  |_=>exact flat sh
 |lst ts=>
  cases u with
  |lst n=>
   obtain⟨a,G,rfl,q,r⟩:=id rt;obtain⟨b,F,rfl,D,l⟩:=id C;cases p;cases o;obtain⟨E,k,ht⟩:=lO I j q;obtain⟨f,m,h⟩:=lO I j D;have l1:=k.length;have l2:=m.length;have l3:=r.len;have l4:=l.len;by_cases hsz:ts.length=n.length
   .have it:=lP r l k m sh dp
    have hs:E.toArray.size=f.toArray.size:=by rw[cD,cD];lia
    have z:=xa ht h hs i it;have g:=SeqAt.RcNeAt.lists ht h hs i it;have e:=gF ts n;rw[<- hsz,Bl,kl,sO]at e;rw[cD,<- l1,<- l3,e]at z g;exact⟨z,g⟩
   .have hs:(E.toArray.size != f.toArray.size)=O:=by rw[cD,cD];lia
    have z:=sm ht h hs i;have g:=SeqAt.RcNeAt.lists_lengths ht h hs i;have e:eqT (.lst ts) (.lst n)=Zb:=qk hsz;rw[e];exact⟨z,g⟩
  |_=>exact flat sh
 |_=>exact flat (by cases u<;>exact sh)
def Tn(e:X.A.units+6<kf):ic X (et .Eq) λx y H Q=>∃B al HF t u,B.K=X.K/\aT HF H/\Rep B al HF t x/\Rep B al HF u y/\shape 5 t u=O/\Q (.bl<|eqT t u) H:=by
 intro g s R H x y v u Q I c b h;obtain⟨B,al,HF,t,f,hB,a,rt,d,sh,q⟩:=h;exact(HE hB I a X.A e rt d c b sh).1 _ _ _ _<|jx I q J
def To(e:X.A.units+6<kf):ic X (et .NotEq) λx y H Q=>∃B al HF t u,B.K=X.K/\aT HF H/\Rep B al HF t x/\Rep B al HF u y/\shape 5 t u=O/\Q (.bl<|!eqT t u) H:=by
 intro g s R H x y v u Q I c b h;obtain⟨B,al,HF,t,f,hB,a,rt,d,sh,q⟩:=h;exact(HE hB I a X.A e rt d c b sh).2 _ _ _ _<|jx I q J
def HG:ic X (et .Is) λx y H Q=>∃a b,x=.bl a/\y=.bl b/\Q (.bl<|a == b) H:=by
 intro e s R H x y v u Q I d c h;obtain⟨a,b,rfl,rfl,q⟩:=h;cases d;cases c;exact PyProof.Rows.is_bool<|jx I q J
theorem x8{B:KT}{al:BM}{H:Hp}:∀{ts:FR}{vs:List V},aF B al H ts vs->ts.all dq=O->vs.all fP=O
 |[],_,h,_=>by cases(show _=[]from h);rfl
 |t::ts,_,h,f=>by
  obtain⟨v,r,rfl,b,a⟩:=h;rw[dW,cL]at f;rw[dW,fm b f.1,x8 a f.2];rfl
theorem any_eq{a:V}(b:Rep B al H x a)(fx:dq x=O):∀{ts:FR}{vs:List V},aF B al H ts vs->ts.all dq=O->(vs.any λy=>Hj y a)=ts.any λy=>eqT y x
 |[],_,h,_=>by cases(h);rfl
 |t::ts,_,h,f=>by
  obtain⟨v,r,rfl,d,c⟩:=h;rw[dW,cL]at f;rw[rN,rN,lM d b f.1 fx,any_eq b fx c f.2]
def Ae{a:Type}(xs:List a)(i:Int):atT xs i=Hi xs i:=by
 unfold atT Hi Mc;by_cases h0:0<=i
 .rw[b0 h0,b0 h0]
  by_cases h1:i<Hq xs
  .rw[b0 h1,b0 h1];rfl
  .rw[bt h1,bt h1];rfl
 .rw[bt h0,bt h0]
  by_cases h1:-Hq xs<=i
  .rw[b0 h1,b0 h1];rfl
  .rw[bt h1,bt h1];rfl
def u9(r:aF B al H ts vs)(h:atT ts i=U t):∃v,Hi vs i=U v/\Rep B al H t v:=by
 rw[Ae]at h;unfold Hi at h ⊢;rw[<- r.len];cases e:Mc ts.length i with
 |none=>rw[e]at h;cases h
 |some j=>
  rw[e]at h;exact r.get h
def HH{t:T}{v:V}(h:Rep B al H t v):decide (v=.non)=mQ t:=by
 cases t with
 |non=>cases(h);rfl
 |bl b=>cases(h);rfl
 |int i=>cases(h);rfl
 |str l=>obtain⟨rfl,_⟩:=h;rfl
 |tup ts=>obtain⟨a,c,rfl,_⟩:=h;rfl
 |lst ts=>obtain⟨a,c,rfl,_⟩:=h;rfl
 |scr ts=>obtain⟨a,rfl,_⟩:=h;rfl
 |obj _ _=>obtain⟨a,_,_,_,_,rfl,_⟩:=h;rfl
 |own _=>obtain⟨a,rfl,_⟩:=h;rfl
 |f_ _ _=>obtain⟨a,xs,rfl,_⟩:=h;rfl
def rIs:R2:=λx y H Q=>(y=.non/\Q (.bl<|decide<|x=.non) H)\/∃a b,x=.bl a/\y=.bl b/\Q (.bl<|a == b) H
def aac:R2:=λx y H Q=>(y=.non/\Q (.bl<|!decide (x=.non)) H)\/∃a b,x=.bl a/\y=.bl b/\Q (.bl<|a != b) H
def B9{p:Bool}{tx ty t:T}(h:Ym p tx ty=U t):(ty=.non/\t=.bl (p == mQ tx))\/∃a b,tx=.bl a/\ty=.bl b/\t=.bl (p == (a == b)):=by
 cases ty<;>try(cases h;done)
 .cases h;exact .inl ⟨J,J⟩
 .cases tx<;>try(cases h;done)
  cases h;exact .inr ⟨_,_,J,J,J⟩
def aad:tR X (Ym O) rIs:=λB hB al HF H x y t tx ty Q c e d h k=>by
 rcases B9 h with⟨rfl,rfl⟩|⟨a,b,rfl,rfl,rfl⟩
 .exact .inl ⟨d,(HH e)▸(k _ HF H (.refl c)<|by cases mQ tx<;>rfl)⟩
 .exact .inr ⟨a,b,e,d,k _ HF H (.refl c)<|by cases(a == b)<;>rfl⟩
def YL:tR X (Ym Zb) aac:=λB hB al HF H x y t tx ty Q c e d h k=>by
 rcases B9 h with⟨rfl,rfl⟩|⟨a,b,rfl,rfl,rfl⟩
 .exact .inl ⟨d,(HH e)▸(k _ HF H (.refl c)<|by cases mQ tx<;>rfl)⟩
 .exact .inr ⟨a,b,e,d,k _ HF H (.refl c)<|by show V.bl _=V.bl _;cases a<;>cases b<;>rfl⟩
def Af(K:bD)(neg:Bool):R2:=λx y H Q=>(∃i j,x=.str i/\y=.str j/\Q (.bl<|if neg then(!(!(eg j i 0 j.length 1).isEmpty))else(!(eg j i 0 j.length 1).isEmpty)) H)\/ĕ K neg x y H Q
def HJ:ic X (et .In)<|Af X.K Zb:=Em.or Ez
def B_:ic X (et .NotIn)<|Af X.K O:=uS.or uX
def ME(h:Mx tx ty=U k):(∃x l,tx=.str x/\ty=.str l/\k=Ŷ x l)\/((∃ys,(ty=.tup ys\/ty=.lst ys)/\(dq tx=O/\ys.all dq=O)/\k=ys.any λy=>eqT y tx)):=by
 cases ty<;>try(cases h)
 .cases tx<;>try(cases h;done)
  cases h;exact .inl ⟨_,_,J,J,J⟩
 .obtain⟨c,rfl⟩:=bz h
  exact .inr ⟨_,.inl J,c,J⟩
 .obtain⟨c,rfl⟩:=bz h
  exact .inr ⟨_,.inr J,c,J⟩
def Cb(x l:B1):(!(eg (⟨l.toArray⟩:Str) ⟨x.toArray⟩ 0 (⟨l.toArray⟩:Str).length 1).isEmpty)=(cU<|l.length+1).any λi=>decide (i+x.length<=l.length)&&((l.drop i).take x.length == x):=by
 rw[Bool.eq_iff_iff,StrLaws.found_iff,Po];constructor
 .rintro⟨i,b,a⟩
  rw[n9]at a;rw[gQ,gQ]at b;exact⟨i,wR.mpr<|by lia,by rw[b7 b];exact a⟩
 .rintro⟨i,_,h⟩
  rw[cL,decide_eq_true_iff]at h;exact⟨i,by rw[gQ];exact h.1,by rw[n9];exact h.2⟩
def MF(x l:B1):(!(eg (⟨l.toArray⟩:Str) ⟨x.toArray⟩ 0 (⟨l.toArray⟩:Str).length 1).isEmpty)=Ŷ x l:=by
 match x with
 |[]=>exact Cb ..
 |[c]=>exact StrLaws.found_one ..
 |_::_::_=>exact Cb ..
def HL(hB:B.K=X.K){x y:V}{Q:VK}(f:aT HF H)(e:Rep B al HF tx x)(d:Rep B al HF ty y)(h:Mx tx ty=U k)(q:Q (.bl<|if neg then !k else k) H):Af X.K neg x y H Q:=by
 rcases ME h with⟨x,l,rfl,rfl,rfl⟩|⟨ys,m,⟨i,g⟩,rfl⟩
 .obtain⟨rfl,_⟩:=e
  obtain⟨rfl,_⟩:=d;refine .inl ⟨_,_,J,J,?_⟩;rw[MF];exact q
 .right
  have c:∀a b,y=.ref a->(dY X.K H a b\/nB X.K H a b)->aF B al HF ys b->ĕ X.K neg x y H Q:=λa b n j r=>by
   refine⟨a,b,n,j,fm e i,x8 r g,?_⟩;unfold ŝ;rw[any_eq e i r g];exact q
  rcases m with rfl|rfl
  .obtain⟨a,b,rfl,q1,r⟩:=d
   exact c a b J (.inr<|hB▸cZ f q1) r
  .obtain⟨a,b,rfl,q1,r⟩:=d
   exact c a b J (.inl<|dY.of<|f _ _ q1) r
def aae:tR X inD<|Af X.K Zb:=λB hB al HF H x y t tx ty Q a c b h k=>by
 unfold inD at h;cases e:Mx tx ty with
 |none=>rw[e]at h;cases h
 |some d=>rw[e]at h;cases h;exact HL hB a c b e<|k _ HF H (.refl a) J
def YM:tR X S_<|Af X.K O:=λB hB al HF H x y t tx ty Q a c b h k=>by
 unfold S_ at h;cases e:Mx tx ty with
 |none=>rw[e]at h;cases h
 |some d=>rw[e]at h;cases h;exact HL hB a c b e<|k _ HF H (.refl a) J
def YN(X:Cx)(neg:Bool):R2:=λx y H Q=>∃B al HF t u,B.K=X.K/\aT HF H/\Rep B al HF t x/\Rep B al HF u y/\shape 5 t u=O/\Q (.bl<|if neg then !eqT t u else eqT t u) H
def aaf:tR X eqD<|YN X Zb:=λB hB al HF H x y t tx ty Q a d b h k=>by
 obtain⟨c,rfl⟩:=bz h;exact⟨B,al,HF,tx,ty,hB,a,d,b,c,k _ HF H (.refl a) J⟩
def aag:tR X neD<|YN X O:=λB hB al HF H x y t tx ty Q a d b h k=>by
 obtain⟨c,rfl⟩:=bz h;exact⟨B,al,HF,tx,ty,hB,a,d,b,c,k _ HF H (.refl a) J⟩
def Cd(f:Int->Int->Bool):tR X (Hx f)<|FN λi j=>.bl<|f i j:=YD (G:=λi j=>.bl<|f i j) (λtx ty t h=>by
 cases tx<;>first | (cases h;done) | (cases ty<;>first | (cases h;done) | (cases h;exact⟨_,_,J,J,J⟩))) λ_ _ _ _ _=>J
def MG:lp->T->T->FV
 |.Eq=>eqD
 |.NotEq=>neD
 |.Lt=>Hx λi j=>decide<|i<j
 |.LtE=>Hx λi j=>decide<|i<=j
 |.Gt=>Hx λi j=>decide<|j<i
 |.GtE=>Hx λi j=>decide<|j<=i
 |.Is=>Ym O
 |.IsNot=>Ym Zb
 |.In=>inD
 |.NotIn=>S_
def Tr(hr:bI k X.A):∃r,ic X (et op) r/\tR X (MG op) r:=by
 have a:X.A.units+6<kf:=by have:=hr.units;lia
 cases op
 case Eq=>exact⟨_,Tn a,aaf⟩
 case NotEq=>exact⟨_,To a,aag⟩
 case Lt=>exact⟨_,Xc,Cd _⟩
 case LtE=>exact⟨_,Xd,Cd _⟩
 case Gt=>exact⟨_,Xe,Cd _⟩
 case GtE=>exact⟨_,Xg,Cd _⟩
 case Is=>exact⟨_,Sy.or HG,aad⟩
 case IsNot=>exact⟨_,LS.or xN,YL⟩
 case In=>exact⟨_,HJ,aae⟩
 case NotIn=>exact⟨_,B_,YM⟩
def aZ(a:FE):FT:=λs=>(a s).bind λp=>(bu<|Yp p.1).bind λb=>.ok (b,p.2)
def Ce{Q:Bool->Hp->Prop}(h:tT B (aZ f) R H Q):tE B f R H λx H'=>∃k,x=.bl k/\Q k H':=by
 obtain⟨g,s,t,s',x,h,k⟩:=h;revert h;refine abK λd b j=>abJ λl i=>λh=>?_;cases oY (au i);cases h;exact⟨g,s,_,b,x,j,λv g1 H1 e a c=>⟨_,c,k g1 H1 e a⟩⟩
def fL:T->T->FV
 |.f_ _ _,_=>Y
 |x,y=>BX x y
def HM{tx ty t:T}(h:fL tx ty=U t):∃i,ty=.int i/\((∃xs,(tx=.lst xs\/tx=.tup xs)/\atT xs i=U t)\/(∃l c,tx=.str l/\atT l i=U c/\t=.str [c])\/∃ns n,tx=.scr ns/\atT ns i=U n/\t=.int n):=by
 cases tx<;>first|(cases h;done)|(cases ty<;>try(cases h;done))
 .rename_i l i
  have h:(atT l i).map (λc=>T.str [c])=U t:=h;cases e:atT l i with
  |none=>rw[e]at h;cases h
  |some c=>rw[e]at h;cases h;exact⟨i,J,.inr<|.inl ⟨l,c,J,e,J⟩⟩
 .exact⟨_,J,.inl ⟨_,.inr J,h⟩⟩
 .exact⟨_,J,.inl ⟨_,.inl J,h⟩⟩
 .rename_i l i
  have h:(atT l i).map T.int=U t:=h;cases e:atT l i with
  |none=>rw[e]at h;cases h
  |some c=>rw[e]at h;cases h;exact⟨i,J,.inr<|.inr ⟨l,c,J,e,J⟩⟩
def Tt{a b:Type}(f:a->b){l:List a}{c:a}(h:atT l i=U c):Hi (l.map f) i=U (f c):=by
 rw[Ae]at h;unfold Hi at h ⊢;rw[bQ];cases e:Mc l.length i with
 |none=>rw[e]at h;cases h
 |some j=>
  rw[e]at h;show(zr f _)[j]?=_;rw[eX,show _[j]?=U c from h];rfl
def aah:tR X fL<|rIx X.K:=λB hB al HF H x y t tx ty Q a d b h k=>by
 obtain⟨i,rfl,⟨xs,j|j,e⟩|⟨l,c,rfl,e,rfl⟩|⟨ns,n,rfl,e,rfl⟩⟩:=HM h
 .subst j
  obtain⟨p,f,rfl,q,r⟩:=d;obtain⟨v,e,g⟩:=u9 r e;exact .inl ⟨p,f,_,v,J,b,dY.of<|a _ _ q,e,k v HF H (.refl a) g⟩
 .subst j
  obtain⟨p,f,rfl,q,r⟩:=d;obtain⟨v,e,g⟩:=u9 r e;exact .inr<|.inl ⟨p,f,_,v,J,b,hB▸cZ a q,e,k v HF H (.refl a) g⟩
 .obtain⟨rfl,hz⟩:=d
  refine .inr<|.inr ⟨_,_,c,J,b,szS hz,?_,k _ HF H (.refl a) ⟨J,by simp⟩⟩
  rw[<- Ae];exact e
 .obtain⟨p,rfl,q⟩:=d
  exact .inl ⟨p,_,_,.int n,J,b,hB▸a.seq q,Tt V.int e,k _ HF H (.refl a) J⟩
def Tu(hB:B.K=X.K)(d:PE X a<|tE B F)(c:PE X b<|tE B W)(hs:jR b):PE X (.Subscript a b pos)<|tE B<|bo fL F W:=aX (Ql SH d c hs)<|nN hB aah
end D
namespace L2
open PySem PySem.Spec PyProof.Rows
theorem tW:∀(ls:Bi)(t:Nat),Vals (ls.map V.str)<|strsFrom t ls
 |[],_=>.nil
 |x::ls,t=>.cons ⟨_,J⟩<|tW ls _
def HN:Qk X "str.split" λx vs H Q=>∃a b,x=.str a/\vs=[.str b]/\(b.length == 0)=Zb/\a.length<=cC/\(Txt.split a b).length<=cC/\∀l,H l=Y->Q (.ref l) (upd H l<|.lst<|(Txt.split a b).map V.str):=by
 intro m s j H x vs v k Q I f g h;obtain⟨a,b,rfl,rfl,e,i,hz,q⟩:=h;obtain⟨t,rfl⟩:=f;obtain⟨u,rfl,⟨t',rfl⟩⟩:=g.one;unfold Txt.split at hz q;by_cases c1:(decide (a.length<b.length) ||decide (gg a<gg b))=O
 .rw[b0 c1]at hz q
  refine oa F.slot_str_split (pa s a t) F.entry_str_split (F.args_str_split_2 _ _) (meets_str_split_cannot_occur a b t t' c1) ?_;exact⟨.ref s.heap.objs.size,_,I.EA (ys:=[V.str a]) (.cons ⟨_,J⟩ .nil) hz,J,q _ I.fresh⟩
 .rw[bt c1]at hz q
  have c:(decide (a.length<b.length) ||decide (gg a<gg b))=Zb:=by
   rcases P1 _ with z|z
   .exact dy z c1
   .exact z
  by_cases c2:(eg a b 0 a.length<|a.length+1).isEmpty=O
  .rw[b0 c2]at hz q
   refine oa F.slot_str_split (pa s a t) F.entry_str_split (F.args_str_split_2 _ _) (meets_str_split_not_found a b t t' c e c2) ?_;exact⟨.ref s.heap.objs.size,_,I.EA (ys:=[V.str a]) (.cons ⟨_,J⟩ .nil) hz,J,q _ I.fresh⟩
  .rw[bt c2]at hz q
   have d:(eg a b 0 a.length<|a.length+1).isEmpty=Zb:=by
    rcases P1 _ with z|z
    .exact dy z c2
    .exact z
   refine oa F.slot_str_split (pa s a t) F.entry_str_split (F.args_str_split_2 _ _) (meets_str_split_sep a b t t' c e d i hz) ?_;exact⟨.ref s.heap.objs.size,_,I.EA (tW _ _)<|by rw[bQ];exact hz,J,q _ I.fresh⟩
def HP:Qk X "str.find" λx vs H Q=>∃a b,x=.str a/\vs=[.str b]/\Q (.int<|Txt.find a b) H:=by
 intro i s e H x vs v f Q I c d h;obtain⟨a,b,rfl,rfl,q⟩:=h;obtain⟨t,rfl⟩:=c;obtain⟨u,rfl,⟨g,rfl⟩⟩:=d.one;exact SC.find ⟨.int _,H,I.tok _,⟨_,J⟩,q⟩
end L2
namespace D
open PySem L2
variable{X:Cx}{a b c e o tg:cx}{fa fb v fo:FE}{g g':G}{H H':Hp}{B:KT}{bT bq p pos:Pos}{s s':S}{σ:St}{x y:Str}
section
variable{S Z:Option cx}
def HQ(lo a:Dx)(n:Nat):fw lo a 1 n=fw (U ((D.iW n 0 lo:Nat):Int)) (U ((D.iW n n a:Nat):Int)) 1 n:=by
 have c:∀v:Int,max 0 (min (if v<0 then v+(n:Int)else v) (n:Int))=((if v<0 then(v+(n:Int)).toNat else min v.toNat n:Nat):Int):=λv=>by
  by_cases hv:v<0
  .rw[b0 hv,b0 hv];lia
  .rw[bt hv,bt hv];lia
 have d:∀m:Nat,m<=n->max 0 (min (if((m:Nat):Int)<0 then((m:Nat):Int)+(n:Int)else((m:Nat):Int)) (n:Int))=((m:Nat):Int):=λm b=>by
  rw[bt<|by lia];lia
 have l1:D.iW n 0 lo<=n:=by
  cases lo with
  |none=>exact dO _
  |some v=>show(if v<0 then(v+(n:Int)).toNat else min v.toNat n)<=n;split<;>lia
 have l2:D.iW n n a<=n:=by
  cases a with
  |none=>exact bP _
  |some v=>show(if v<0 then(v+(n:Int)).toNat else min v.toNat n)<=n;split<;>lia
 unfold fw;simp only[show((1:Int) > 0)from by decide,Am]
 rw[d _ l1,d _ l2]
 congr 1
 .cases lo with
  |none=>rfl
  |some v=>exact c v
 .cases a with
  |none=>rfl
  |some v=>exact c v
def HR(n d:Nat)(hd:d<=n)(o:Dx):D.iW n d o<=n:=by
 cases o with
 |none=>exact hd
 |some v=>show(if v<0 then(v+n).toNat else min v.toNat n)<=n;lia
def cut_str(l:B1)(lo a:Dx):wy ⟨l.toArray⟩ lo a=⟨(bJ l lo a).toArray⟩:=by
 have h:wy ⟨l.toArray⟩ lo a=ka ⟨l.toArray⟩ lo a:=J;have g:ka ⟨l.toArray⟩ lo a=ka ⟨l.toArray⟩ (U ((D.iW l.length 0 lo:Nat):Int)) (U ((D.iW l.length l.length a:Nat):Int)):=by
  unfold ka;rw[gQ,HQ]
 rw[h,g];have b:=HR l.length l.length (bP _) a;by_cases hab:D.iW l.length 0 lo<=D.iW l.length l.length a
 .rw[StrLaws.sliceText_nat _ hab<|by rw[gQ];exact b]
  rfl
 .have c:=HR l.length 0 (dO _) lo
  have f:bJ l lo a=[]:=by
   unfold bJ;rw[show D.iW l.length l.length a-D.iW l.length 0 lo=0 by lia,Bu]
  rw[f];have e:fw (U ((D.iW l.length 0 lo:Nat):Int)) (U ((D.iW l.length l.length a:Nat):Int)) 1 l.length=[]:=by
   have d:∀m:Nat,m<=Hq l->max 0 (min (if((m:Nat):Int)<0 then((m:Nat):Int)+(Hq l:Int)else((m:Nat):Int)) (Hq l:Int))=((m:Nat):Int):=λm i=>by
    rw[bt<|by lia];lia
   unfold fw;simp only[show((1:Int) > 0)from by decide,Am]
   rw[d _ c,d _ b];simp only[xH];rw[b0<|by decide,bt<|by lia]
   rfl
  unfold ka;rw[gQ,e];rw[bt<|by simp;lia]
  rfl
def jH{a:Type}(l:List a)(lo b:Dx):(bJ l lo b).length<=Hq l:=by
 unfold bJ;rw[kB,hU]
 lia
def Cf(xs:List V)(lo a:Dx):Ey xs lo a=bJ xs lo a:=by
 rfl
def aF.cut(r:aF B al H ts vs)(lo a:Dx):aF B al H (bJ ts lo a)<|bJ vs lo a:=by
 unfold bJ;exact r.len▸(r.drop _).take _
def MH{a c:Type}(f:a->c)(l:List a)(lo b:Dx):(bJ l lo b).map f=bJ (l.map f) lo b:=by
 unfold bJ;simp
theorem x9:∀{ts:FR}{vs:List V}{ls:Ap},aF B al H ts vs->strsOf ts=U ls->vs=(ls.map λl=>(⟨l.toArray⟩:Str)).map V.str
 |[],_,_,h,e=>by cases(h);cases e;rfl
 |t::ts,_,ls,h,e=>by
  obtain⟨v,r,rfl,b,a⟩:=h;cases t<;>try(cases e)
  have e:(strsOf ts).map _=U ls:=e
  cases e':strsOf ts with
  |none=>rw[e']at e;cases e
  |some ms=>
   rw[e']at e;cases e;obtain⟨rfl,_⟩:=b;rw[x9 a e'];rfl
theorem join_eq(a:B1):∀ls:Ap,Str.join ⟨a.toArray⟩ (ls.map λl=>(⟨l.toArray⟩:Str))=⟨(fQ a ls).toArray⟩
 |[]=>J
 |[c]=>J
 |c::d::r=>by
  have b:=join_eq a<|d::r;show⟨c.toArray⟩++⟨a.toArray⟩++Str.join _ ((d::r).map λl=>⟨l.toArray⟩)=⟨(c++a++fQ a _).toArray⟩;rw[b,Tj,Tj]
theorem tY(a:B1):∀ls:Ap,(fQ a ls).length<=(ls.map (·.length)).sum+Hq ls*Hq a
 |[]=>by simp[fQ]
 |[c]=>by simp[fQ]
 |c::d::r=>by
  have b:=tY a<|d::r;show(c++a++fQ a (d::r)).length<=_;rw[bU,bU,gj,Pp,dU,rK]
  lia
def HU(ls:Ap):((ls.map λl=>(⟨l.toArray⟩:Str)).map (·.length))=ls.map (·.length):=by
 rw[j5];rfl
def Tv(l s:B1):pf ⟨l.toArray⟩ ⟨s.toArray⟩=pre s l:=by
 unfold pf pre;rw[n9];show(decide (0+(⟨s.toArray⟩:Str).length<=l.toArray.size)&&((l.drop 0).take _ == s))=_;rw[gQ,cD,zl,zu]
def Tw(l s:B1):rV ⟨l.toArray⟩ ⟨s.toArray⟩=Ź s l:=by
 unfold rV Ź;rw[n9,gQ,gQ];show(decide _&&((l.drop _).take s.length == s))=_;rw[zl];by_cases h:Hq s<=Hq l
 . rw[Bv<|by rw[hU];lia]
 .rw[cq h,GQ,GQ]
theorem mS:∀{ts:FR}{vs:List V}{ks:Fs},aF B al H ts vs->boolsOf ts=U ks->vs=ks.map V.bl
 |[],_,_,h,e=>by cases(h);cases e;rfl
 |t::ts,_,a,h,e=>by
  obtain⟨v,r,rfl,c,b⟩:=h;cases t<;>try(cases e)
  have e:(boolsOf ts).map _=U a:=e
  cases e':boolsOf ts with
  |none=>rw[e']at e;cases e
  |some ms=>
   rw[e']at e;cases e;cases(c);rw[mS b e'];rfl
def x_(a T:String):Option Bool:=if(ox a == ox T)=O then U O else if PySem.W.kitMeta T=O then(fastBuiltinMro a).map (·.contains<|ox T)else Y
def mT(K:bD){a T:String}{b:Bool}(h:x_ a T=U b):pK K (.type a) (.type T)=U b:=h
structure kP(T:String):Prop where
 non:x_ "NoneType" T=U Zb
 bl:x_ "bool" T=U (T == "bool" ||T == "int")
 int:x_ "int" T=U (T == "int")
 str:x_ "str" T=U (T == "str")
 tup:x_ "tuple" T=U (T == "tuple")
 lst:x_ "list" T=U (T == "list")
 dic:x_ "dict" T=U (T == "dict")
def Tz:kP "int" := by constructor<;>decide +kernel
def MI:kP "bool" := by constructor<;>decide +kernel
def TH:kP "str" := by constructor<;>decide +kernel
def HV:kP "tuple" := by constructor<;>decide +kernel
def MJ:kP "list" := by constructor<;>decide +kernel
def aP(c:Nat):B1->Ap
 |[]=>[[]]
 |d::l=>if d=c then[]::aP c l else match aP c l with
  |p::r=>(d::p)::r
  |[]=>[[d]]
theorem kQ{c:Nat}:∀{p:B1},c∉p->aP c p=[p]
 |[],_=>J
 |d::p,h=>by
  have hd:d≠c:=λe=>h (by rw[e];exact d_ ..)
  have a:=λe=>h<|eG _ e;unfold aP;rw[bt hd,kQ a]
theorem qm{c:Nat}(l:B1):∀{p:B1},c∉p->aP c (p++[c]++l)=p::aP c l
 |[],_=>by
  show aP c (c::l)=_;rw[aP,b0 J]
 |d::p,h=>by
  have hd:d≠c:=λe=>h (by rw[e];exact d_ ..)
  have a:=λe=>h<|eG _ e;show aP c (d::(p++[c]++l))=_;rw[aP,bt hd,qm l a]
theorem nO{c:Nat}:∀{ls:Ap},ls≠[]->(∀p∈ls,c∉p)->aP c (fQ [c] ls)=ls
 |[],h,_=>dy J h
 |[p],_,h=>kQ<|h p<|d_ ..
 |p::q::r,_,h=>by
  show aP c (p++[c]++fQ _ _)=_;rw[qm _<|h p<|d_ ..,nO (by simp) λx a=>h x<|eG _ a]
def split_len(x y:Str):(Txt.split x y).length<=x.length+2:=by
 unfold Txt.split;split
 .simp
 .split
  .simp
  .rw[length_partsBetween]
   have:=StrLaws.occ_length_le x y 0 x.length<|x.length+1
   exact g_ this _
def jI(x y:Str):Txt.split x y≠[]:=by
 unfold Txt.split;split
 .simp
 .split
  .simp
  .intro e
   have:=length_partsBetween x (eg x y 0 x.length<|x.length+1) y.length
   rw[e]at this;simp at this
def HW(a:B1)(c:Nat):Txt.split ⟨a.toArray⟩ ⟨#[c]⟩=(aP c a).map λl=>(⟨l.toArray⟩:Str):=by
 obtain⟨L,f⟩:∃L:Ap,L=(Txt.split ⟨a.toArray⟩ ⟨#[c]⟩).map λp=>p.cps.toList:=⟨_,J⟩;have g:Txt.split ⟨a.toArray⟩ ⟨#[c]⟩=L.map λl=>⟨l.toArray⟩:=by
  rw[f,j5]
  conv=>lhs;rw[<- Pq<|Txt.split ..]
  rfl
 have i:L≠[]:=by
  rw[f];intro e;exact jI _ _<|List.map_eq_nil_iff.mp e
 have h:∀p∈L,c∉p:=by
  rw[f];intro p k;obtain⟨q,j,rfl⟩:=iC.mp k;exact StrLaws.split_free _ c q j
 have b:=StrLaws.join_split ⟨a.toArray⟩ ⟨#[c]⟩;rw[g,show(⟨#[c]⟩:Str)=⟨[c].toArray⟩from J,join_eq]at b;have d:fQ [c] L=a:=by
  lia
 rw[g,<- d,nO i h]
theorem tZ:∀{ls:Ap},(∀l∈ls,l.length<=1000000)->aF B al H (ls.map T.str) (ls.map λl=>SV l)
 |[],_=>J
 |l::ls,h=>⟨_,_,J,⟨J,h l<|d_ ..⟩,tZ λx a=>h x<|eG _ a⟩
theorem lQ(c:Nat):∀(a:B1),∀l∈aP c a,Hq l<=Hq a
 |[],l,h=>by
  rw[dj.mp h];simp
 |d::a,l,h=>by
  have f:=lQ c a;rw[aP]at h;split at h
  .rcases bM.mp h with e|e
   .rw[e];simp
   .have:=f l e;exact cJ this<|bH ..
  .split at h
   .rename_i p r b
    rcases bM.mp h with e|e
    .have:=f p (by rw[b];exact d_ ..)
     rw[e];simp;exact this
    .have:=f l (by rw[b];exact eG _ e)
     exact cJ this<|bH ..
   .rw[dj.mp h];simp
def YO:PO X Y<|tP B je:=Qx Ma λσ H Q z=>by
 obtain⟨g,s,t,s',x,h,k⟩:=z;cases h;exact k g H .refl x
def Cg(h:Ż t=U i):t=.int i:=by
 cases t<;>first|(cases h;done)|(cases h;rfl)
def YQ(j:PE X a<|tE B fa):PO X (U a)<|tP B<|dD fa:=Qx (Mb j) λσ H Q z=>by
 obtain⟨g,s,t,s',x,h,k⟩:=z;revert h;refine abK λd c m=>abJ λi l=>λh=>?_;cases Cg (au l);cases h;exact⟨g,s,_,c,x,m,λv g1 H1 f b e=>⟨_,e,k g1 H1 f b⟩⟩
def aai(K:bD):V->Dx->Dx->Hp->VK->Prop:=λx lo a H Q=>(∃z,x=.str z/\z.length<=cC/\Q (.str<|wy z lo a) H)\/Xy K x lo a H Q
def aaj:Qj X<|aai X.K:=SW.or Mf
def aak(hB:B.K=X.K)(C:PE X a<|tE B fa)(hl:PO X S<|tP B P)(A:PO X Z<|tP B R):PE X (.Subscript a (.Slice S Z Y N) pos)<|tE B<|fK fa P R:=by
 refine aX (Hh aaj C hl A) λσ H Q p=>?_;obtain⟨g,s,t,s',x,h,k⟩:=p;revert h;refine abK λtx m F=>abK λlo s2 E=>abK λn L D=>abJ λI c=>λh=>?_;cases h;have c:Ÿ lo n tx=U _:=au c;refine⟨g,s,_,m,x,F,λv g1 H1 z w y=>⟨g1,m,_,s2,w,E,λg2 M N u=>⟨g2,s2,_,_,u,D,λg3 G f b=>?_⟩⟩⟩;have d:=(y.mv N.pre N.fr).mv f.pre f.fr;have e:=(z.trans N).trans f;cases tx<;>try(cases c;done)
 .cases c
  obtain⟨rfl,hz⟩:=d;refine .inl ⟨_,J,szS hz,?_⟩;rw[cut_str];exact k _ g3 G e b ⟨J,cJ (jH ..) hz⟩
 .cases c
  obtain⟨a,j,rfl,q,r⟩:=d;refine .inr ⟨a,j,J,dY.of<|b.sub _ _ q,λl hl=>?_⟩;rw[Cf];have i:=Gr.new (o:=.lst<|bJ j lo n) b.sub hl;exact k _ _ _ (e.trans<|b.j_ i) (b.grow i) ⟨l,_,J,ak,(r.cut ..).same i.fr⟩
 .cases c
  obtain⟨a,rfl,q⟩:=d;refine .inr ⟨a,_,J,hB▸b.sub.seq q,λl hl=>?_⟩;rw[Cf,<- MH];exact k _ _ _ (e.trans<|b.j_<|Gr.new b.sub hl) (b.grow<|Gr.new b.sub hl) ⟨l,_,J,ak,aF.ints _⟩
end
def noStar:cx->Bool
 |.Starred _ _=>Zb
 |_=>O
def aw(h:noStar e=O):c3 (e::es) env=(Zb,eE e env)::c3 es env:=by
 cases e<;>first|rfl|(cases h)
theorem dg:∀{es:Bz},es.all noStar=O->(hG pos<|c3 es env).any (·.1)=Zb
 |[],_=>J
 |e::es,h=>by
  rw[dW,cL]at h;rw[aw h.1];show(Zb ||(hG pos _).any _)=Zb
  rw[dg h.2];rfl
theorem qo:∀{es:Bz},es.all noStar=O->(hG pos<|c3 es env).all (λx=>!x.1)=O
 |[],_=>J
 |e::es,h=>by
  rw[dW,cL]at h;rw[aw h.1];show(O&&(hG pos _).all _)=O;rw[qo h.2];rfl
def EL(h:(e::es).all noStar=O)(hl:Hq es<29):((hG bq<|c3 (e::es) env).all (λx=>!x.1)&&(o4 bq<|kS [] env).all (λx=>x.1.isSome)
   && decide ((e::es).length+([]:List pk).length+(if([]:List pk).isEmpty then 0 else 1)<30))=O:=by
 rw[qo h,cL];exact⟨J,b7<|rL hl<|by decide⟩
def bX:cx->Bool
 |.Call (.Name _ _) [] [] _=>Zb
 |_=>O
def gu{a:Sem ao}(h:bX o=O):kn o f env a=a:=by
 unfold kn;split
 .cases h
 .rfl
def LM(X:Cx)(f:B1->FR->FV)(r:V->List V->Hp->VK->Prop):Prop:=∀(B:KT)(_:B.K=X.K)(al:BM)(HF H:Hp)(l:B1)(xs:List V)(t:T)(ts:FR)(Q:VK),aT HF H->Hq l<=1000000->aF B al HF ts xs->f l ts=U t->(∀v a H',Gr HF H a H'->Rep B al a t v->Q v H')->r (SV l) xs H Q
def YR:T->Option B1
 |.str l=>U l
 |_=>Y
def oG(f:B1->FR->FV)(o:FE)(fl:FL):FE:=λs=>(o s).bind λp=>(bu<|YR p.1).bind λl=>(fl p.2).bind λq=>(bu<|f l q.1).bind λt=>.ok (t,q.2)
def HX(h:YR t=U l):t=.str l:=by
 cases t<;>first|(cases h;done)|(cases h;rfl)
def aal(hB:B.K=X.K)(hr:LM X f r):∀σ H Q,tE B (oG f fo fl) σ H Q->tBM X.K "str" r (tE B fo) (tA B fl) σ H Q:=by
 rintro σ H Q ⟨g,s,t,s',x,h,k⟩
 revert h;refine abK λtx b y=>abJ λl w=>abK λts s2 q=>abJ λC p=>λh=>?_;cases h;cases HX (au w);refine⟨g,s,_,b,x,y,λv g1 H1 o d m=>?_⟩;obtain⟨rfl,hz⟩:=m;exact⟨J,g1,b,_,_,d,q,λe g2 A n a j=>hr B hB g2.al g2.HF A l e _ ts Q a.sub hz j (au p) λu z H' c i=>k u _ H' ((o.trans n).trans<|a.j_ c) (a.grow c) i⟩
def Lr(l:B1):FR->FV
 |[.str s]=>U<|.bl<|pre s l
 |_=>Y
def ewM(l:B1):FR->FV
 |[.str s]=>U<|.bl<|Ź s l
 |_=>Y
def joinM(l:B1):FR->FV
 |[t]=>Qt (.str l) t
 |_=>Y
def splitM(l:B1):FR->FV
 |[.str [c]]=>gd (l.length<=100000)<|.lst<|(aP c l).map .str
 |_=>Y
open PySem.Spec PyProof.Rows in
def Ci(l:B1):FR->FV
 |[.str s]=>U<|.int<|Txt.find ⟨l.toArray⟩ ⟨s.toArray⟩
 |_=>Y
def dH(r:aF B al H [t] xs):∃v,xs=[v]/\Rep B al H t v:=by
 obtain⟨v,w,rfl,h,e⟩:=r;cases(e);exact⟨v,J,h⟩
def ğ(r:aF B al H [t,u] xs):∃v w,xs=[v,w]/\Rep B al H t v/\Rep B al H u w:=by
 obtain⟨v,b,rfl,h,e⟩:=r;obtain⟨w,rfl,a⟩:=dH e;exact⟨v,w,J,h,a⟩
def aam:LM X Lr λx vs H Q=>∃a b,x=.str a/\vs=[.str b]/\Q (.bl<|pf a b) H:=λB hB al HF H l xs t ts Q c hz r h k=>by
 match ts,h with
 |[.str s],h=>
  cases h;obtain⟨v,rfl,rfl,_⟩:=dH r;refine⟨_,_,J,J,?_⟩;rw[Tv];exact k _ HF H (.refl c) J
def aan:LM X ewM λx vs H Q=>∃a b,x=.str a/\vs=[.str b]/\Q (.bl<|rV a b) H:=λB hB al HF H l xs t ts Q c hz r h k=>by
 match ts,h with
 |[.str s],h=>
  cases h;obtain⟨v,rfl,rfl,_⟩:=dH r;refine⟨_,_,J,J,?_⟩;rw[Tw];exact k _ HF H (.refl c) J
def TJ:LM X joinM λx vs H Q=>∃b l ys,x=.str b/\vs=[.ref l]/\dY X.K H l (ys.map V.str)/\(ys.map (·.length)).sum+ys.length*b.length<=16777216/\Q (.str<|Str.join b ys) H:=λB hB al HF H l xs t ts Q c hz r h k=>by
 match ts,h with
 |[u],h=>
  obtain⟨v,rfl,f⟩:=dH r;have h:=h;cases u with
  |lst d=>
   have h:=h
   revert h;refine abc λi g=>λh=>?_;obtain⟨z,rfl⟩:=bz h;obtain⟨a,vs,rfl,q,r⟩:=f;have e:=x9 r g;subst e;refine⟨_,a,_,J,J,dY.of<|c _ _ q,?_,?_⟩
   .rw[HU,bQ];exact cJ z (by decide)
   .rw[join_eq]
    exact k _ HF H (.refl c) ⟨J,cJ (tY _ _) z⟩
  |_=>cases h
def m_find:LM X Ci λx vs H Q=>∃a b,x=.str a/\vs=[.str b]/\Q (.int<|Txt.find a b) H:=λB hB al HF H l xs t ts Q c hz r h k=>by
 match ts,h with
 |[.str s],h=>
  cases h;obtain⟨v,rfl,rfl,_⟩:=dH r;exact⟨_,_,J,J,k _ HF H (.refl c) J⟩
def m_split:LM X splitM λx vs H Q=>∃a b,x=.str a/\vs=[.str b]/\(b.length == 0)=Zb/\a.length<=cC/\(Txt.split a b).length<=cC/\∀l,H l=Y->Q (.ref l) (upd H l<|.lst<|(Txt.split a b).map V.str):=λB hB al HF H l xs t ts Q d hz r h k=>by
 match ts,h with
 |[.str [c]],h=>
  obtain⟨z,rfl⟩:=bz h;obtain⟨v,rfl,rfl,_⟩:=dH r;have i:=split_len ⟨l.toArray⟩ ⟨[c].toArray⟩;rw[gQ]at i;refine⟨_,_,J,J,J,by rw[dZ];exact cJ z<|by decide,by rw[dZ];lia,λq f=>?_⟩
  have e:(Txt.split ⟨l.toArray⟩ ⟨[c].toArray⟩).map V.str=(aP c l).map λl=>SV l:=by
   rw[show(⟨[c].toArray⟩:Str)=⟨#[c]⟩from J,HW,j5];rfl
  rw[e];refine k _ _ _ (Gr.new d f) ⟨q,_,J,ak,tZ λm g=>?_⟩
  have:=lQ c l m g
  exact cJ this hz
 |[.str []],h=>cases h
 |[.str<|_::_::_],h=>cases h
structure SMt(X:Cx)(n:Str)(f:B1->FR->FV):Prop where
 ex:∃id r,Slot "str" n id/\xB (.builtin id)=pure (.type "method_descriptor")/\Qk X id r/\LM X f r
def YT(M:SMt X n f)(hB:B.K=X.K)(c:PE X o<|tE B fo)(g:PA X (e::es)<|tA B fl)(d:bX o=O)(hs:(e::es).all noStar=O)(hl:es.length<29)(b:(bT.endLine == bq.line)=O) :
  PE X (.Call (.Attribute o n bT) (e::es) [] bq)<|tE B<|oG f fo fl:=by
 obtain⟨id,r,k,j,i,h⟩:=M.ex;have a:=hs;rw[dW,cL]at a;exact aX (xJ PySem.F.plainAttrs_str k j i c g (gu d) (EL hs hl) b (aw a.1)<|dg a.2)<|aal hB h
def Ag:List<|Str×(B1->FR->FV):=[("startswith",Lr),("endswith",ewM),("join",joinM),("split",splitM),("find",Ci)]
def TL:∀p∈Ag,SMt X p.1 p.2:=by
 intro p h;simp[Ag,bM,kE,hQ]at h;rcases h with rfl|rfl|rfl|rfl|rfl
 .exact⟨_,_,PySem.F.slot_str_startswith,PySem.F.type_str_startswith,rT,aam⟩
 .exact⟨_,_,PySem.F.slot_str_endswith,PySem.F.type_str_endswith,xM,aan⟩
 .exact⟨_,_,PySem.F.slot_str_join,PySem.F.type_str_join,Mr,TJ⟩
 .exact⟨_,_,PySem.F.slot_str_split,PySem.F.type_str_split,HN,m_split⟩
 .exact⟨_,_,PySem.F.slot_str_find,PySem.F.type_str_find,HP,m_find⟩
def bG:FR->FV
 |[t]=>(match t with
  |.f_ _ _=>Y
  |t=>ŷ t)
 |_=>Y
def YU:LN X bG λxs H Q=>∃x n,xs=[x]/\Xi X.K x H n/\Q (.int n) H:=λB hB al HF H xs t ts Q b r h k=>by
 match ts,h with
 |[tx],h=>
  obtain⟨v,rfl,c⟩:=dH r;cases tx<;>try(cases h;done)
  .cases h
   obtain⟨rfl,hz⟩:=c;exact⟨_,_,J,⟨szS hz,(gQ _).symm⟩,k _ HF H (.refl b) J⟩
  .cases h
   obtain⟨a,d,rfl,q,r⟩:=c;exact⟨_,_,J,.inr ⟨d,hB▸cZ b q,r.len⟩,k _ HF H (.refl b) J⟩
  .cases h
   obtain⟨a,d,rfl,q,r⟩:=c;exact⟨_,_,J,.inl ⟨d,dY.of<|b _ _ q,r.len⟩,k _ HF H (.refl b) J⟩
  .cases h
   obtain⟨a,rfl,q⟩:=c;exact⟨_,_,J,.inl ⟨_,hB▸b.seq q,(bQ _).symm⟩,k _ HF H (.refl b) J⟩
def MK:FR->FV
 |[t]=>xT t
 |_=>Y
def ya:FR->FV
 |[t]=>Yo t
 |_=>Y
def YV:LN X MK λxs H Q=>∃(p:ax)(ks:Fs),xs=[.ref p]/\dY X.K H p (ks.map V.bl)/\Q (.bl<|ks.all id) H:=λB hB al HF H xs t ts Q b r h k=>by
 match ts,h with
 |[tx],h=>
  obtain⟨v,rfl,d⟩:=dH r;have h:=h;cases tx with
  |lst c=>
   obtain⟨ks,f,h⟩:=bZ.mp<|h;obtain⟨a,g,rfl,q,r⟩:=d;have e:=mS r f;subst e h;exact⟨a,ks,J,dY.of<|b _ _ q,k _ HF H (.refl b) J⟩
  |_=>cases h
def YW:LN X ya λxs H Q=>∃(p:ax)(ks:Fs),xs=[.ref p]/\dY X.K H p (ks.map V.bl)/\Q (.bl<|ks.any id) H:=λB hB al HF H xs t ts Q b r h k=>by
 match ts,h with
 |[tx],h=>
  obtain⟨v,rfl,d⟩:=dH r;have h:=h;cases tx with
  |lst c=>
   obtain⟨ks,f,h⟩:=bZ.mp<|h;obtain⟨a,g,rfl,q,r⟩:=d;have e:=mS r f;subst e h;exact⟨a,ks,J,dY.of<|b _ _ q,k _ HF H (.refl b) J⟩
  |_=>cases h
def kR(i:Int):B1:=(toString i).toList.map tJ
def strN:FR->FV
 |[.int i]=>gd (i.natAbs.log2<1920/\(kR i).length<=1000000)<|.str<|kR i
 |_=>Y
def YX:LN X strN λxs H Q=>∃i,xs=[.int i]/\i.natAbs.log2<1920/\Q (.str<|toString i) H:=λB hB al HF H xs t ts Q a r h k=>by
 match ts,h with
 |[.int i],h=>
  obtain⟨v,rfl,b⟩:=dH r;obtain⟨⟨d,c⟩,rfl⟩:=bz h;cases b;refine⟨i,J,d,k _ HF H (.refl a) ⟨?_,c⟩⟩;show V.str _=_;rw[Str.ofString_eq_toList];rfl
def ML:FR->FV
 |[.str l]=>(o5 ⟨l.toArray⟩).bind λn=>gd (l.length<=640)<|.int n
 |[.bl b]=>U<|.int<|if b then 1 else 0
 |_=>Y
abbrev YY:List V->Hp->VK->Prop:=λxs H Q=>(∃y n,xs=[.str y]/\o5 y=U n/\y.length<=640/\Q (.int n) H)\/∃b,xs=[.bl b]/\Q (.int<|if b then 1 else 0) H
def ET:fM X (.type "int") YY:=by
 intro d s σ H xs c Q I r h;rcases h with⟨y,n,rfl,a,hl,q⟩|⟨b,rfl,q⟩
 .obtain⟨u,rfl,t,rfl⟩:=vals1 r
  exact PySem.W.KIN.call_text a hl ⟨.int n,H,I.tok _,⟨_,J⟩,q⟩
 .obtain⟨u,rfl,e⟩:=vals1 r
  cases(e);exact PySem.call_int_bool ⟨.int _,H,I.tok _,⟨_,J⟩,q⟩
def YZ:LN X ML YY:=λB hB al HF H xs t ts Q c r h k=>by
 match ts,h with
 |[.str l],h=>
  obtain⟨v,rfl,a⟩:=dH r;revert h;refine abc λn d=>λh=>?_;obtain⟨z,rfl⟩:=bz h;obtain⟨rfl,_⟩:=a;exact .inl ⟨_,n,J,d,by exact z,k _ HF H (.refl c) J⟩
 |[.bl b],h=>
  obtain⟨v,rfl,a⟩:=dH r;cases h;cases a;exact .inr ⟨b,J,k _ HF H (.refl c) J⟩
def kj:FR->FV
 |[t]=>Qu t
 |_=>Y
def TM:LN X kj λxs H Q=>∃p ys,xs=[.ref p]/\(dY X.K H p ys\/nB X.K H p ys)/\∀l,H l=Y->Q (.ref l) (upd H l<|.lst ys):=λB hB al HF H xs t ts Q a r h k=>by
 match ts,h with
 |[tx],h=>
  obtain⟨v,rfl,c⟩:=dH r;have h:Qu tx=U t:=h;cases tx<;>try(cases h;done)
  .cases h
   obtain⟨l,xs,rfl,q,r⟩:=c;exact⟨l,xs,J,.inr<|hB▸cZ a q,λp b=>k _ _ _ (Gr.new a b) ⟨p,_,J,ak,r.same<|aW<|a.free b⟩⟩
  .cases h
   obtain⟨l,xs,rfl,q,r⟩:=c;exact⟨l,xs,J,.inl<|dY.of<|a _ _ q,λp b=>k _ _ _ (Gr.new a b) ⟨p,_,J,ak,r.same<|aW<|a.free b⟩⟩
structure Blt(X:Cx)(n:Str)(f:FR->FV):Prop where
 ex:∃r,LN X f r/\((∃id,hF n=U (.builtin id)/\fM X (.builtin id) r)\/∃ty,hF n=U (.type ty)/\fM X (.type ty) r)
 nn:n ≠ "__name__"
 nd:bB n
def Y0(M:Blt X x f)(hB:B.K=X.K)(d:Gl X x)(c:X.mg x=Y)(g:PA X (e::es)<|tA B fl)(hs:(e::es).all noStar=O):PE X (.Call (.Name x p) (e::es) [] pos)<|tE B<|aV f fl:=by
 obtain⟨⟨r,h,i⟩,nn,nd⟩:=M;rw[dW,cL]at hs;rcases i with⟨id,b,a⟩|⟨ty,b,a⟩
 .exact aX (gA a d c b g nn nd (aw hs.1)<|dg hs.2)<|Qz hB h
 .exact aX (iF a d c b g nn nd (aw hs.1)<|dg hs.2)<|Qz hB h
def Ah:List<|Str×(FR->FV):=[("str",strN),("len",bG),("all",MK),("any",ya),("int",ML),("list",kj)]
def TN(a:X.calm=O):∀p∈Ah,Blt X p.1 p.2:=by
 intro p h;simp[Ah,bM,kE,hQ]at h;rcases h with rfl|rfl|rfl|rfl|rfl|rfl
 .exact⟨⟨_,YX,.inr ⟨_,P9,uT⟩⟩,by decide,by rfl⟩
 .exact⟨⟨_,YU,.inl ⟨_,PySem.boot_len,G8⟩⟩,by decide,by rfl⟩
 .exact⟨⟨_,YV,.inl ⟨_,PyProof.Rows.boot_all,Hs a⟩⟩,by decide,by rfl⟩
 .exact⟨⟨_,YW,.inl ⟨_,PyProof.Rows.boot_any,Ht a⟩⟩,by decide,by rfl⟩
 .exact⟨⟨_,YZ,.inr ⟨_,P_,ET⟩⟩,by decide,by rfl⟩
 .exact⟨⟨_,TM,.inr ⟨_,xj,iX⟩⟩,by decide,by rfl⟩
structure Pg where
 cn:Bi
 an:Bi
 tab:Ap
 sub:Ap
def Pg.fn(P:Pg):List Bi:=P.tab.map λl=>l.map λi=>P.an.getD i w1
structure Wn(K:bD)(mg:Str->D2)(n:Str)(ns:Bi)(C:ax):Prop where
 at_:pM K eD n=U (U<|.ref C)
 gl:mg n=U (.ref C)
 nd:ns.Nodup
 EL:Hq ns<=100
 cl:rF K C
 na:∀f∈ns,cO K C f
 ca:f6 K (.ref C) "__class__" = U (U<|.builtin Hl)
 mo:D_ K C (.type "object")=U O
structure oH(K:bD)(mg:Str->D2)(P:Pg):Prop where
 cls:∀(c:Nat)(n:Str)(ns:Bi),P.cn[c]?=U n->P.fn[c]?=U ns->∃C,Wn K mg n ns C
 sub:∀(c d:Nat)(n n':Str)(C D:ax)(l:B1),P.cn[c]?=U n->P.cn[d]?=U n'->mg n=U (.ref C)->mg n'=U (.ref D)->P.sub[c]?=U l->pK K (.ref C) (.ref D)=U (decide<|d∈l)
 gt:Bf K (.builtin Hl) "__get__" = U (U<|.builtin "getset_descriptor.__get__")/\Bg K (.builtin Hl)=U O
abbrev Pg.kt(P:Pg)(X:Cx):KT:=⟨X.K,X.prog,X.w,P.cn,P.fn⟩
variable{P:Pg}
def oH.of(g:oH X.K X.mg P){c:Nat}{C:ax}(h:iK (P.kt X) c C ns):∃n,P.cn[c]?=U n/\P.fn[c]?=U ns/\Wn X.K X.mg n ns C:=by
 obtain⟨n,b,a,f,d⟩:=h;obtain⟨e,F⟩:=g.cls c n ns b a
 have:C=e:=by
  have:=(d).symm.trans F.at_
  injection this with this
  injection this with this
  injection this
 subst this;exact⟨n,b,a,F⟩
theorem iZ:∀{ns:Bi}{vs:List V}{j:Nat},ns.Nodup->ns[j]?=U f->(ns.zip vs).lookup f=vs[j]?
 |[],vs,j,_,h=>by simp at h
 |n::ns,[],j,_,_=>by simp
 |n::ns,v::vs,0,nd,h=>by
  simp at h;subst h;rw[rO,List.lookup_cons_self];rfl
 |n::ns,v::vs,j+1,nd,h=>by
  have e:(f == n)=Zb:=beq_eq_false_iff_ne.mpr λz=>by subst z;exact(pO.mp nd).1<|ji h
  rw[rO,kC,e];simpa using iZ (pO.mp nd).2 h
theorem jJ:∀{ns:Bi}{vs:List V},f∉ns->(ns.zip vs).lookup f=Y
 |[],vs,_=>by simp
 |n::ns,[],_=>by simp
 |n::ns,v::vs,h=>by
  have e:(f == n)=Zb:=beq_eq_false_iff_ne.mpr λz=>h (by rw[z];exact d_ ..)
  rw[rO,kC,e];exact jJ λz=>h<|eG _ z
theorem Cj{v:V}:∀{ns:Bi}{vs:List V}{j:Nat},ns.Nodup->ns[j]?=U f->vs.length<=ns.length->j<vs.length->L2.eL f v (ns.zip vs)=ns.zip (vs.set j v)
 |[],vs,j,_,h,_,_=>by simp at h
 |n::ns,[],j,_,_,_,h=>by simp at h
 |n::ns,w::vs,0,nd,h,_,_=>by
  simp at h;subst h;show(if n=n then(n,v)::ns.zip vs else(n,w)::L2.eL n v _)=_
  rw[b0 J];rfl
 |n::ns,w::vs,j+1,nd,h,hl,a=>by
  simp at h hl a;show(if n=f then(n,v)::ns.zip vs else(n,w)::L2.eL f v (ns.zip vs))=_
  rw[bt λz=>(pO.mp nd).1<|by rw[z];exact ji h,Cj (pO.mp nd).2 h hl a]
  rfl
theorem u_{v:V}:∀{ns:Bi}{vs:List V},ns.Nodup->ns[vs.length]?=U f->L2.eL f v (ns.zip vs)=ns.zip (vs++[v])
 |[],vs,_,h=>by simp at h
 |n::ns,[],nd,h=>by
  simp at h;subst h;simp[L2.eL]
 |n::ns,w::vs,nd,h=>by
  show(if n=f then(n,v)::ns.zip vs else(n,w)::L2.eL f v (ns.zip vs))=_
  rw[bt λz=>(pO.mp nd).1<|by rw[z];exact ji h,u_ (pO.mp nd).2 h]
  rfl
def MM{l:B1}(h:l.idxOf? f=U j):l[j]?=U f:=by
 rw[Pu,Pw]at h;obtain⟨a,b,_⟩:=h;rw[dP a,eq_of_beq b]
def oZ{c f j:Nat}(b:P.an[f]?=U n)(a:P.fn[c]?=U ns)(h:iY P.tab c f=U j):ns[j]?=U n:=by
 obtain⟨l,e,d⟩:=bV.mp h;unfold Pg.fn at a;rw[eX,e]at a;cases a;rw[eX,MM d];show U (P.an.getD f w1)=_;rw[uK,b];rfl
def QJ(qC:oH X.K X.mg P)(G:P.an[f]?=U n)(he:PE X e<|tE (P.kt X) fa)(W:bX e=O):PE X (.Attribute e n pos)<|tE (P.kt X)<|aA P.tab f fa:=by
 refine aX (Hb he<|gu W) λσ H Q L=>?_;obtain⟨g,s,t,s',x,h,k⟩:=L;revert h;refine abK λtx R h1=>λh=>?_;refine⟨g,s,_,R,x,h1,λv g1 H1 E d D=>?_⟩;cases tx<;>try(cases h)
 . revert h;refine abJ λu A=>λh=>?_;cases h;obtain⟨j,y,p⟩:=bV.mp<|au A;obtain⟨a,C,B,ns,N,rfl,hC,T,hl,hd,r⟩:=D;obtain⟨m,V,i,F⟩:=qC.of hC;have b:=oZ G i y;obtain⟨w,o,M⟩:=r.get p;exact⟨a,C,B,_,w,J,d.sub _ _ T,F.cl,F.na _<|ji b,by rw[iZ F.nd b,o],k _ g1 H1 E d M⟩
 .rename_i S
  revert h;refine abJ λc A=>λh=>?_;obtain⟨ob,y,p⟩:=bV.mp<|au A;obtain⟨j,I,h6⟩:=bV.mp p;obtain⟨a,rfl,ha⟩:=D;rcases d.st.at_ S ob y with⟨a',C,B,ns,N,Z⟩|⟨a',Z⟩
  case inr=>
   obtain⟨l,q,_⟩:=bV.mp I;have z:(P.tab.map _)[ob.c]?=Y:=Z.nf;rw[eX,q]at z;cases z
  have:=Z.al.symm.trans ha
  cases this;obtain⟨m,V,i,F⟩:=qC.of Z.cl;have b:=oZ G i I;obtain⟨w,o,sl⟩:=Z.f j c h6;cases c with
  |val t'=>
   cases h;exact⟨a,C,B,_,w,J,Z.h,F.cl,F.na _<|ji b,by rw[iZ F.nd b,o],k _ g1 H1 E d sl⟩
  |ol ts=>cases h
  |od ks ts=>cases h
  |yg t=>cases h
def tyB(ty:String):T->Option Bool
 |.non=>U Zb
 |.bl _=>U<|ty == "bool" ||ty == "int"
 |.int _=>U<|ty == "int"
 |.str _=>U<|ty == "str"
 |.tup _=>U<|ty == "tuple"
 |.lst _=>U<|ty == "list"
 |_=>Y
def Y3(ty:String):T->FV:=λt=>(tyB ty t).map .bl
def TQ{v:V}(c:kP Ty)(r:Rep B al H t v)(h:tyB Ty t=U u):∃d,j7 B.K H v d/\pK B.K d (.type Ty)=U u:=by
 cases t with
 |non=>cases(r);cases h;exact⟨_,.non,mT B.K c.non⟩
 |bl b=>cases(r);cases h;exact⟨_,.bl _,mT B.K c.bl⟩
 |int i=>cases(r);cases h;exact⟨_,.int _,mT B.K c.int⟩
 |str l=>obtain⟨rfl,_⟩:=r;cases h;exact⟨_,.str _,mT B.K c.str⟩
 |tup ts=>obtain⟨a,e,rfl,q,_⟩:=r;cases h;exact⟨_,.tup q,mT B.K c.tup⟩
 |lst ts=>obtain⟨a,e,rfl,q,_⟩:=r;cases h;exact⟨_,.lst q,mT B.K c.lst⟩
 |_=>cases h
def yb:List<|Str×String:=[("int","int"),("bool","bool"),("str","str"),("tuple","tuple"),("list","list")]
def Y4:∀q∈yb,kP q.2/\hF q.1=U (.type q.2)/\q.1 ≠ "__name__" /\ (q.1 == ("__debug__" : Str))=Zb:=by
 intro p h;simp[yb,bM,kE,hQ]at h;rcases h with rfl|rfl|rfl|rfl|rfl
 .exact⟨Tz,P_,by decide,by rfl⟩
 .exact⟨MI,PyProof.Rows.boot_bool,by decide,by rfl⟩
 .exact⟨TH,P9,by decide,by rfl⟩
 .exact⟨HV,PyProof.Rows.boot_tuple,by decide,by rfl⟩
 .exact⟨MJ,xj,by decide,by rfl⟩
def TR(hB:B.K=X.K)(m:(y,ty)∈yb)(o:X.mg "isinstance" = Y)(c:X.mg y=Y)(w:PE X a<|tE B fa)(q:Gl X "isinstance")(D:Gl X y)(hs:noStar a=O) :
  PE X (.Call (.Name "isinstance" p) [a,.Name y py] [] pos)<|tE B<|dz (Y3 ty) fa:=by
 obtain⟨l,s,n,hd⟩:=Y4 _ m;have i:c3 [Expr.Name y py] X.env=(Zb,eE _ X.env)::c3 [] X.env:=J;refine aX (gA xO q o xl (aU w (aU (BI D c s (v:=.ty ty) J n hd) cy i)<|aw hs) (he:=aw hs))
 <|Qy hB λB hB al HF H x t tx Q e j h k=>?_
 obtain⟨u,C,rfl⟩:=bZ.mp h;obtain⟨g,A,z⟩:=TQ l (j.same e) C;exact⟨x,ty,g,u,J,hB▸A,hB▸z,k _ HF H (.refl e) J⟩
def ir(sub:Ap)(ds:B1):T->FV
 |.obj c _=>(sub[c]?).map λl=>.bl<|ds.any λd=>decide<|d∈l
 |_=>Y
def HZ:fM X (.builtin "isinstance") λxs H Q=>∃x D t b,xs=[x,.ref D]/\j7 X.K H x t/\pK X.K t (.ref D)=U b/\Q (.bl b) H:=by
 intro g s σ H xs d Q I r h;obtain⟨x,D,t,b,rfl,ty,e,q⟩:=h;obtain⟨u,f,rfl,a,c⟩:=vals2 r;cases c;exact s_ I a ty e λtk=>⟨.bl b,H,I.tok _,J,q⟩
def Y5(qC:oH X.K X.mg P)(f:P.cn[d]?=U y)(z:X.mg "isinstance" = Y)(G:PE X a<|tE (P.kt X) fa)(B:Gl X "isinstance")(N:Gl X y)(hs:noStar a=O)(hd:bB y)(R:(P.fn[d]?).isSome=O) :
  PE X (.Call (.Name "isinstance" p) [a,.Name y py] [] pos)<|tE (P.kt X)<|dz (ir P.sub [d]) fa:=by
 obtain⟨ns,n⟩:=GO.mp R;obtain⟨D,i⟩:=qC.cls d y ns f n;have o:c3 [Expr.Name y py] X.env=(Zb,eE _ X.env)::c3 [] X.env:=J;refine aX (gA HZ B z xl (aU G (aU (oS (v:=.ref D) N i.gl J hd) cy o)<|aw hs) (he:=aw hs)) λσ H Q j=>?_;obtain⟨g,s,t,s',x,h,k⟩:=j;revert h;refine abK λtx W L=>abJ λT b=>λh=>?_;cases h;refine⟨g,s,_,_,x,L,λv g1 H1 u e q=>?_⟩;have b:=au b;cases tx<;>try(cases b)
 obtain⟨l,hl,rfl⟩:=bZ.mp b;obtain⟨a,C,Z,FW,S,rfl,I,w,A,E,r⟩:=q;obtain⟨m,c,M,F⟩:=qC.of I;refine⟨_,D,_,_,J,.ins (e.sub _ _ w) F.cl F.ca qC.gt.1 qC.gt.2 F.mo,qC.sub _ d m y C D l c f F.gl i.gl hl,?_⟩
 have:=k (V.bl<|decide<|d∈l) g1 H1 u e (by show _=V.bl ([d].any λd=>decide _);simp)
 exact this
abbrev iu(P:Pg)(K:bD)(Pr:da)(w:de):KT:=⟨K,Pr,w,P.cn,P.fn⟩
inductive rH(B:KT)(f:Fn)(vs:List V)(H:Hp)(Q:VK)(_:XK):Prop where
 |mk g ts m t m' (x:eQ B g H m) (r:aF B g.al g.HF ts vs) (h:f ts m=.ok (t,m')) (k:∀v g' H',dE g H g' H'->eQ B g' H' m'->Rep B g'.al g'.HF t v->Q v H')
structure DnF(P:Pg)(Pr:da)(w:de)(K:bD)(mg:Str->D2)(base:eh)(k:Nat)(x:Str)(ds:FR)(f:Fn):Prop where
 ex:∃(fa:ax)(fd:dA)(ps:Bi)(gK:B2)(dV:List V),cX Pr w K mg base lu k fa fd ps (rH (iu P K Pr w) f)/\mg x=U (.ref fa)/\lC K (.ref fa)=O/\Binds K fd ps gK/\Vals dV gK/\∀al H,aF (iu P K Pr w) al H ds dV
def gG(h:ai f ds fl s=.ok (t,s')):∃ts s1 m',fl s=.ok (ts,s1)/\f (ts++ds) s1.m=.ok (t,m')/\s'={s1 with m:=m'}:=by
 revert h;refine abK λts s1 a=>λh=>?_;cases q:f _ s1.m with
 |ok r=>rw[q]at h;cases h;exact⟨ts,s1,r.2,a,q,J⟩
 |bad=>rw[q]at h;cases h
 |exc c fs s2=>rw[q]at h;cases h
def yc{Q:VK}(x:SR B g H σ s)(r:aF B g.al g.HF ts vs)(h:f ts s.m=.ok (t,m'))(k:∀v g' H',dE g H g' H'->SR B g' H' σ {s with m:=m'}->Rep B g'.al g'.HF t v->Q v H'):rH B f vs H Q E:=
 ⟨g.aj,ts,s.m,t,m',x.st.aj,r,h,λv g' H' p y a=>let⟨p2,x2⟩:=x.back p y;k v _ H' p2 x2 a⟩
def s_call(D:DnF P X.prog X.w X.K X.mg X.base k x ds f)(hr:bI j X.A)(o:k<=j)(z:PA X (e::es)<|tA (P.kt X) fl)(u:Gl X x)(q:bB x)(hs:(e::es).all noStar=O) :
  PE X (.Call (.Name x p) (e::es) [] pos)<|tE (P.kt X)<|ai f ds fl:=by
 obtain⟨L,fd,ps,I,M,F,r,hk,y,hd,Ai⟩:=D.ex;rw[dW,cL]at hs;refine aX (BL F (hr.mono o) u r hk y hd nG z q (aw hs.1)<|dg hs.2) λσ H Q a=>?_;obtain⟨g,s,t,s',x,h,k⟩:=a;obtain⟨ts,d,G,C,B,rfl⟩:=gG h;exact⟨g,s,ts,d,x,C,λE g1 H1 n c l=>yc c (l.app<|Ai ..) B λv g' H' m b i=>k v g' H' (n.trans m) b i⟩
def MN(D:DnF P X.prog X.w X.K X.mg X.base k x ds f)(hr:bI j X.A)(e:k<=j)(m:Gl X x)(i:bB x) :
  PE X (.Call (.Name x p) [] [] pos)<|tE (P.kt X)<|ai f ds a_:=by
 obtain⟨C,fd,ps,B,r,F,l,hk,n,hd,u⟩:=D.ex;refine aX (Hd F (hr.mono e) m l hk n hd nG i) λσ H Q a=>?_;obtain⟨g,s,t,s',x,h,k⟩:=a;obtain⟨ts,y,z,q,o,rfl⟩:=gG h;cases q;exact yc x (u ..) o λv g' H' d b c=>k v g' H' d b c
structure Ġ(P:Pg)(Pr:da)(w:de)(K:bD)(mg:Str->D2)(base:eh)(k:Nat)(c:Nat)(m:Str)(f:Fn):Prop where
 ex:∃(C fa:ax)(fd:dA)(ps:Bi)(ns:Bi),iK (iu P K Pr w) c C ns/\rF K C/\Meth K C m fa/\cX Pr w K mg base lu k fa fd ps (rH (iu P K Pr w) f)/\Binds K fd ps []/\m∉ns
def QK{ι:Type}{t:ι->TE}{t':TE}{C:ι->Prop}(h:∀i,C i->PE X e (t i))(k:∀σ H Q,t' σ H Q->∃i,C i/\t i σ H Q):PE X e t':=λc s σ H Q I q=>by
 obtain⟨i,b,a⟩:=k σ H Q q;exact h i b c s σ H Q I a
def yd(X:Cx)(o:cx)(m:Str)(bT:Pos)(es:Bz)(pos:Pos):Prop:=∃a,eE (.Call (.Attribute o m bT) es [] pos) X.env=(do
   let ov <- eE o X.env
   ri bT.atName
   let(f,first) <- ry [ov] (uZ ov m a)
   callWith pos f first (hG pos<|c3 es X.env) (o4 pos<|kS [] X.env))
def ye(h:aJ gm fo fl s=.ok (t,s')):∃tx s1 c f ts s2 m',fo s=.ok (tx,s1)/\((∃k ob,tx=.own k/\s1.m[k]?=U ob/\ob.c=c)\/∃fs,tx=.obj c fs)/\gm c=U f/\fl s1=.ok (ts,s2)/\f (tx::ts) s2.m=.ok (t,m')/\s'={s2 with m:=m'}:=by
 revert h;refine abK λtx s1 i=>λh=>?_;cases tx<;>try(cases h)
 .rename_i c fs
  revert h;refine abJ λf g=>λh=>?_;obtain⟨j,s2,m',e,a,rfl⟩:=gG h;obtain⟨⟨ts,l⟩,d,b⟩:=aa e;cases b;rw[b9]at a;exact⟨_,s1,c,f,ts,_,m',i,.inr ⟨fs,J⟩,au g,d,a,J⟩
 .rename_i n
  revert h;refine abJ λf g=>λh=>?_;obtain⟨ob,p,o⟩:=bV.mp<|au g;obtain⟨j,s2,m',e,a,rfl⟩:=gG h;obtain⟨⟨ts,l⟩,d,b⟩:=aa e;cases b;rw[b9]at a;exact⟨_,s1,ob.c,f,ts,_,m',i,.inl ⟨n,ob,J,p,J⟩,o,d,a,J⟩
def vc{C:ax}{c:Nat}{v:V}(x:SR B g H σ s)(d:iK B c C ns)(r:Rep B g.al g.HF tx v)(h:(∃k ob,tx=.own k/\s.m[k]?=U ob/\ob.c=c)\/∃fs,tx=.obj c fs):∃a dx vs,v=.ref a/\H a=U (.ins C dx<|ns.zip vs):=by
 rcases h with⟨k,ob,rfl,i,rfl⟩|⟨fs,rfl⟩
 .obtain⟨a,rfl,f⟩:=r
  rcases x.st.at_ k ob i with⟨j,o,dx,l,vs,Z⟩|⟨j,Z⟩
  case inr=>
   obtain⟨n,q,_⟩:=d;rw[Z.nc]at q;cases q
  have:=Z.al.symm.trans f
  cases this;obtain⟨rfl,rfl⟩:=Z.cl.eq d;exact⟨a,dx,vs,J,Z.h⟩
 .obtain⟨a,o,dx,l,vs,rfl,b,e,_⟩:=r
  obtain⟨rfl,rfl⟩:=b.eq d;exact⟨a,dx,vs,J,x.sub _ _ e⟩
def TU{gm:Nat->Option Fn}(D:∀c f,gm c=U f->Ġ P X.prog X.w X.K X.mg X.base k c m f)(hr:bI j X.A)(R:k<=j)(S:PE X o<|tE (P.kt X) fo)(Z:PA X (e::es)<|tA (P.kt X) fl)(hs:(e::es).all noStar=O)(d:yd X o m bT (e::es) pos) :
  PE X (.Call (.Attribute o m bT) (e::es) [] pos)<|tE (P.kt X)<|aJ gm fo fl:=by
 obtain⟨pl,d⟩:=d;rw[dW,cL]at hs;refine QK (ι:=ax×Fn) (C:=λi=>∃c fa fd ps ns,iK (P.kt X) c i.1 ns/\gm c=U i.2/\rF X.K i.1/\Meth X.K _ m fa/\cX X.prog X.w X.K X.mg X.base lu k fa fd ps (rH (P.kt X) i.2)/\Binds X.K fd ps []/\m∉ns)
  (by rintro i ⟨c,fa,fd,ps,ns,n,_,cl,M,F,l,_⟩;exact BN S cl M F (hr.mono R) l .nil nG Z (aw hs.1) (dg hs.2) d) ?_
 rintro σ H Q ⟨g,s,t,s',x,h,k⟩
 obtain⟨tx,r,c,f,ts,s2,m',h1,W,z,h3,h4,rfl⟩:=ye h;obtain⟨C,fa,fd,ps,ns,n,cl,M,F,l,y⟩:=(D c f z).ex;refine⟨(C,f),⟨c,fa,fd,ps,ns,n,z,cl,M,F,l,y⟩,g,s,_,r,x,h1,λv g1 H1 N p u=>?_⟩;obtain⟨a,dx,vs,rfl,T⟩:=vc p n u W;refine⟨a,dx,_,J,T,jJ y,g1,r,ts,s2,p,h3,λq g2 H2 b E I=>?_⟩;show rH _ _ _ H2 Q E0;rw[b9];exact yc (ts:=tx::ts) E ⟨_,q,J,u.mv b.pre b.fr,I⟩ h4 λv g' H' L B G=>k v g' H' ((N.trans b).trans L) B G
def MO{gm:Nat->Option Fn}(D:∀c f,gm c=U f->Ġ P X.prog X.w X.K X.mg X.base k c m f)(hr:bI j X.A)(G:k<=j)(I:PE X o<|tE (P.kt X) fo)(b:yd X o m bT [] pos) :
  PE X (.Call (.Attribute o m bT) [] [] pos)<|tE (P.kt X)<|aJ gm fo a_:=by
 obtain⟨pl,b⟩:=b;refine QK (ι:=ax×Fn) (C:=λi=>∃c fa fd ps ns,iK (P.kt X) c i.1 ns/\gm c=U i.2/\rF X.K i.1/\Meth X.K _ m fa/\cX X.prog X.w X.K X.mg X.base lu k fa fd ps (rH (P.kt X) i.2)/\Binds X.K fd ps []/\m∉ns)
  (by rintro i ⟨c,fa,fd,ps,ns,e,_,cl,M,F,d,_⟩;exact xC I cl M F (hr.mono G) d .nil nG b) ?_
 rintro σ H Q ⟨g,s,t,s',x,h,k⟩
 obtain⟨tx,u,c,f,ts,s2,W,T,N,q,S,R,rfl⟩:=ye h;cases S;obtain⟨C,fa,fd,ps,ns,e,cl,M,F,d,p⟩:=(D c f q).ex;refine⟨(C,f),⟨c,fa,fd,ps,ns,e,q,cl,M,F,d,p⟩,g,s,_,u,x,T,λv g1 H1 B l n=>?_⟩;obtain⟨a,V,vs,rfl,L⟩:=vc l e n N;exact⟨a,V,_,J,L,jJ p,yc l (.one n) R λv g' H' z r y=>k v g' H' (B.trans z) r y⟩
def spI(C:ax)(ns:Bi):Sp:=λc H Q _=>∃x b a,c=.ref x::a/\a.length=Hq ns/\H x=U (.ins C b [])/\Q .non (upd H x<|.ins C b<|ns.zip a)
structure DnC(P:Pg)(Pr:da)(w:de)(K:bD)(mg:Str->D2)(base:eh)(k:Nat)(c n:Nat)(x:Str):Prop where
 ex:∃(C fi:ax)(fd:dA)(ps:Bi)(ns:Bi),iK (iu P K Pr w) c C ns/\ns.length=n/\mg x=U (.ref C)/\Mk K C fi/\cX Pr w K mg base lu k fi fd ps (spI C ns)/\Binds K fd ps []
def vd{c:Nat}{C x dx:ax}(e:SR B g H σ s)(d:iK B c C ns)(hl:Hq vs<=Hq ns)(r:aF B g.al g.HF ts vs)(nx:H x=Y)(nd:H dx=Y)(b:dx≠x) :
  ∃f:Gr g.HF H (upd (upd g.HF dx<|.own x) x<|.ins C dx<|ns.zip vs) (upd (upd H dx<|.own x) x<|.ins C dx<|ns.zip vs),Rep B g.al (upd (upd g.HF dx<|.own x) x<|.ins C dx<|ns.zip vs) (.obj c ts)<|.ref x:=by
 have g2:=Gr.new (o:=.own x) e.sub nd;have a:upd H dx (.own x) x=Y:=by rw[aq<|e7 b];exact nx
 have g3:=Gr.new (o:=.ins C dx<|ns.zip vs) g2.sub a;exact⟨g2.trans g3,x,C,dx,ns,vs,J,d,ak,hl,by rw[aq b,ak],r.same<|g2.fr.trans g3.fr⟩
def Y6{k j c n:Nat}(D:DnC P X.prog X.w X.K X.mg X.base k c n x)(hr:bI j X.A)(r:k+1<=j)(E:PA X (e::es)<|tA (P.kt X) fl)(z:Gl X x)(u:bB x)(hs:(e::es).all noStar=O) :
  PE X (.Call (.Name x p) (e::es) [] pos)<|tE (P.kt X)<|dR c n fl:=by
 obtain⟨C,f,fd,ps,ns,G,v,y,M,F,B⟩:=D.ex;rw[dW,cL]at hs;refine aX (oV M F (hr.mono r) z y B .nil nG E u (aw hs.1)<|dg hs.2) λσ H Q m=>?_;obtain⟨g,s,t,s',x,h,k⟩:=m;revert h;refine abK λts N I=>λh=>?_;split at h
 .rename_i hl
  cases h;refine⟨g,s,ts,_,x,I,λb g1 H1 q a d x L nx nd o=>?_⟩;have l:Hq b=Hq ns:=by rw[<- d.len,hl,v]
  refine⟨x,L,b++[],J,by rw[b9,l],ak,J,?_⟩
  rw[b9,uM];obtain⟨i,rp⟩:=vd a G (uG l) d nx nd o;exact k _ _ _ (q.trans<|a.j_ i) (a.grow i) rp
 .cases h
structure Mk0(K:bD)(C:ax):Prop where
 makes:wL K C=O
 init:f6 K (.ref C) "__init__" = U (U<|.builtin "object.__init__")
 kp:lC K (.ref C)=O
def aap(C:ax):TE:=λ_ H Q=>∀x a,H x=Y->H a=Y->a≠x->Q (.ref x) (upd (upd H a<|.own x) x<|.ins C a [])
open PySem.W in
def TV{C:ax}(M:Mk0 X.K C)(hg:Gl X x)(hm:X.mg x=U (.ref C))(ie:bB x:=by decide):PE X (.Call (.Name x p) [] [] pos)<|aap C:=by
 intro ae s σ H Q I h;refine ff<|gp I hg hm ?_ ie;refine Gd I.jk M.kp ?_;have hq:=h (s.heap.objs.size+1) s.heap.objs.size (I.bF.fresh<|wN _) (I.bF.fresh<|bP _)<|eV<|pN _;have I2:=Inv.made (C:=C) I;have KX:=I.jk;obtain⟨hh,g,d,t,os⟩:=s;apply iv;have a:=makes_of (M:=cv X.prog X.w) KX M.makes;refine make_core a (pd KX M.init) (λself=>Looks.of_pure<|oi_bind self) (.inr ⟨J,J⟩) ?_;have hz:(hh.push Bp).objs.size=hh.objs.size+1:=kv ..;have gt:((hh.push Bp).push<|instObj C hh.objs.size).get? (hh.objs.size+1)=U (instObj C hh.objs.size):=by
  rw[<- hz];exact c5 _ J
 have t1:tf (cv X.prog X.w) ((hh.push Bp).push<|instObj C hh.objs.size) (xB<|.ref<|hh.objs.size+1)<|.ref C:=(rb gt).andThen .now;have t2:tf (cv X.prog X.w) ((hh.push Bp).push<|instObj C hh.objs.size) (sq (.ref<|hh.objs.size+1)<|.type "object") O:=t1.andThen<|a.top.keeps λb o e=>ar _<|ar _ e;refine hA oi_plain entry_oi<|@check_slot (cv X.prog X.w) _ _ _ "object.__init__" "object" "__init__" (.ref<|hh.objs.size+1) [] [] _ oi_kind oi_split t2 (oi_args<|.ref<|hh.objs.size+1) ?_;show c4 _ _ (Builtin.«object.__init__» ⟨[Value.ref<|hh.objs.size+1],[]⟩) _ _ _;rw[oi_run];exact dn<|And.intro J ⟨V.ref<|hh.objs.size+1,_,I2,J,hq⟩
structure Y8(P:Pg)(Pr:da)(w:de)(K:bD)(mg:Str->D2)(c:Nat)(x:Str):Prop where
 ex:∃(C:ax)(ns:Bi),iK (iu P K Pr w) c C ns/\mg x=U (.ref C)/\Mk0 K C
def TY{c:Nat}(D:Y8 P X.prog X.w X.K X.mg c x)(j:Gl X x)(f:bB x):PE X (.Call (.Name x p) [] [] pos)<|tE (P.kt X)<|dR c 0 a_:=by
 obtain⟨C,ns,l,i,M⟩:=D.ex;refine aX (TV M j i f) λσ H Q b=>?_;obtain⟨g,s,t,s',z,h,k⟩:=b;cases h;intro x m nx nd d;obtain⟨a,rp⟩:=vd (ts:=[]) z l (dO _) J nx nd d;have e:ns.zip ([]:List V)=[]:=Px
 have:=k _ _ _ (z.j_ a) (z.grow a) rp
 rw[e]at this;exact this
structure Walk(B:KT)(al:BM)(a:It)(HF:Hp)(ts:FR):Prop where
 go:∀i H,aT HF H->i<Hq ts->a.go i H
 yld:∀i H x H',aT HF H->i<Hq ts->a.yld i H x H'->∃t,ts[i]?=U t/\∀yf,aT HF yf->aT yf H->∃Ls,Gr yf H Ls H'/\Rep B al Ls t x
 stop:∀i H,aT HF H->i=Hq ts->a.stop i H
def EU(h:HF l=U (.lst vs))(r:aF B al HF ts vs):Walk B al (đ B.K l) HF ts:=by
 refine⟨λi H a b=>?_,λi H x H' a b y=>?_,λi H a b=>⟨vs,dY.of<|a _ _ h,by rw[b,r.len];exact bP _⟩⟩
 .obtain⟨v,e,_⟩:=r.get<|dP b
  exact⟨vs,v,dY.of<|a _ _ h,e⟩
 .obtain⟨rfl,y⟩:=y
  have e:=y vs<|dY.of<|a _ _ h;obtain⟨t,g,f⟩:=r.zZ e;exact⟨t,g,λc d s2=>⟨c,.refl s2,f.same d⟩⟩
def H0(h:nB B.K HF l vs)(r:aF B al HF ts vs):Walk B al (Œ B.K l) HF ts:=by
 refine⟨λi H a b=>?_,λi H x H' a b y=>?_,λi H a b=>⟨vs,cZ a h,by rw[b,r.len];exact bP _⟩⟩
 .obtain⟨v,e,_⟩:=r.get<|dP b
  exact⟨vs,v,cZ a h,e⟩
 .obtain⟨rfl,y⟩:=y
  have e:=y vs<|cZ a h;obtain⟨t,g,f⟩:=r.zZ e;exact⟨t,g,λc d s2=>⟨c,.refl s2,f.same d⟩⟩
def lR(d:Ę j src λ_=>True)(r:aF B al HF ts src):Walk B al j HF ts:=by
 refine⟨λi H b a=>d.go i H trivial<|by rw[<- r.len];exact a,λi H x H' b a y=>?_,λi H b a=>d.stop i H trivial<|by rw[<- r.len];exact a⟩
 obtain⟨rfl,e⟩:=d.yld i H x H' trivial (by rw[<- r.len];exact a) y
 obtain⟨t,h,g⟩:=r.zZ e;exact⟨t,h,λc f s2=>⟨c,.refl s2,g.same f⟩⟩
theorem aF.mF(lo:Int)(n:Nat):aF B al H (D.mF lo n)<|(cU n).map λk=>V.int<|lo+(k:Nat):=by
 have b:D.mF lo n=((cU n).map λk=>lo+((k:Nat))).map T.int:=by rw[j5];rfl
 have a:((cU n).map λk=>V.int<|lo+(k:Nat))=((cU n).map λk=>lo+((k:Nat))).map V.int:=by rw[j5];rfl
 rw[b,a];exact aF.ints _
def H_(a:Int)(n:Nat):Ę (ū a n) ((cU n).map λk=>V.int<|a-(k:Nat)) λ_=>True:=
 ⟨λi H _ h=>by rw[bQ,kD]at h;exact h,
  λi H x H' _ a y=>by
  obtain⟨e,ex⟩:=y;refine⟨e,?_⟩;have a:=by rw[bQ,kD]at a;exact a
  rw[eX,Gs a,ex];rfl,
  λi H _ h=>by rw[bQ,kD]at h;exact uG h.symm⟩
def aF.dwn(a:Int)(n:Nat):aF B al H ((cU n).map λk=>T.int<|a-(k:Nat))<|(cU n).map λk=>V.int<|a-(k:Nat):=by
 have c:((cU n).map λk=>T.int<|a-(k:Nat))=((cU n).map λk=>a-((k:Nat))).map T.int:=by rw[j5];rfl
 have b:((cU n).map λk=>V.int<|a-(k:Nat))=((cU n).map λk=>a-((k:Nat))).map V.int:=by rw[j5];rfl
 rw[c,b];exact aF.ints _
structure Sets(B:KT)(al:BM)(HF:Hp)(S:B1)(σ σ':St)(ρ ρ':FC):Prop where
 len:σ'.length=σ.length
 lenR:ρ'.length=ρ.length
 off:∀(i:Nat),i∉S->σ'[i]?=σ[i]?/\ρ'[i]?=ρ[i]?
 on:∀(i:Nat),i∈S->i<ρ.length->∃(t:T)(v:V),ρ'[i]?=U (U<|.val t)/\σ'[i]?=U (U v)/\Rep B al HF t v
structure r6(B:KT)(g:TG)(fg:FG)(S:B1):Prop where
 ok:∀(al:BM)(HF H:Hp)(σ:St)(ρ:FC)(t:T)(v:V)(ρ':FC)(Q:St->Hp->Prop),aT HF H->Rep B al HF t v->fg t ρ=U ρ'->ρ.length=σ.length->(∀σ',Sets B al HF S σ σ' ρ ρ'->Q σ' H)->g v σ H Q
def Sets.one{a:FC}{v:V}(hl:Hq a=σ.length)(r:Rep B al HF t v):Sets B al HF [i] σ (σ.set i<|U v) a<|a.set i<|U<|.val t:=by
 refine⟨fF,fF,λj b=>?_,λj b c=>?_⟩
 .have:i≠j:=λe=>b (by simp[e])
  rw[e9 this,e9 this];exact⟨J,J⟩
 .have:=by simpa using b
  subst this;exact⟨t,v,by rw[f9 c],by rw[f9<|by lia],r⟩
def Cm(i:Nat):r6 B (xu i) (setG i) [i]:=⟨λal HF H σ b t v a Q c r h hl q=>by
 cases h;exact q _<|.one hl r⟩
def Sets.cons{B:KT}{al:BM}{HF:Hp}{i:Nat}{S:B1}{σ d:St}{g e:FC}{t:T}{v:V}(hl:Hq g=σ.length)(r:Rep B al HF t v)(h:Sets B al HF S (σ.set i<|U v) d (g.set i<|U<|.val t) e):Sets B al HF (i::S) σ d g e:=by
 have o:=Sets.one (i:=i) hl r;refine⟨h.len.trans o.len,h.lenR.trans o.lenR,λj f=>?_,λj f m=>?_⟩
 .obtain⟨l,k⟩:=h.off j λz=>f<|by simp[z]
  obtain⟨s,q⟩:=o.off j λz=>f<|by simp at z;simp[z]
  exact⟨l.trans s,k.trans q⟩
 .by_cases hs:j∈S
  .exact h.on j hs (by rw[fF];exact m)
  .obtain⟨l,k⟩:=h.off j hs
   obtain⟨p,n,a,b,c⟩:=o.on j (by rcases bM.mp f with z|z;exact(by simp[z]);exact dy z hs) m
   exact⟨p,n,k.trans a,l.trans b,c⟩
def qp:B1->Qe
 |[]=>W2
 |i::is=>Qf (xu i)<|qp is
theorem t_:∀(is:B1)(HF H:Hp)(σ:St)(c:FC)(ts:FR)(vs:List V)(a:FC)(Q:St->Hp->Prop),aT HF H->aF B al HF ts vs->BY is ts c=U a->Hq c=σ.length->(∀b,Sets B al HF is σ b c a->Q b H)->qp is vs σ H Q
 |[],HF,H,σ,c,ts,vs,a,Q,d,r,h,hl,q=>by
  cases ts with
  |cons t ts=>cases h
  |nil=>
   cases h;cases(r);exact⟨J,q _ ⟨J,J,λ_ _=>⟨J,J⟩,λi j=>by cases j⟩⟩
 |i::is,HF,H,σ,c,ts,vs,a,Q,d,r,h,hl,q=>by
  cases ts with
  |nil=>cases h
  |cons t ts=>
   obtain⟨v,e,rfl,g,f⟩:=r;refine⟨v,e,J,?_⟩;exact t_ is HF H _ _ ts e a Q d f h (by rw[fF,fF];exact hl) λb s=>q b<|.cons hl g s
def Ib(is:B1)(g:Hq is=n:=by rfl):r6 B (Sj B.K n<|qp is) (bw is) is:=⟨λal HF H σ c t v b Q e r h hl q=>by
 cases t<;>try(cases h;done)
 .rename_i ts
  obtain⟨a,d,rfl,q1,r⟩:=r;have j:∀(is:B1)(ts:FR)(c:FC),BY is ts c=U b->Hq is=Hq ts:=by
   intro is
   induction is with
   |nil=>intro ts c h;cases ts with
    |nil=>rfl
    |cons=>cases h
   |cons i is f=>intro ts c h;cases ts with
    |nil=>cases h
    |cons t ts=>simp[f ts _ h]
  exact⟨a,d,J,cZ e q1,by rw[<- r.len,<- j _ _ _ h,g],t_ is HF H σ c ts d b Q e r h hl q⟩
⟩
theorem Walk.mv{al b:BM}{HF a:Hp}(w:Walk B al f HF ts)(p:al <+: b)(s:aT HF a):Walk B b f a ts:=
 ⟨λi H h=>w.go i H<|s.trans h,λi H x H' h e y=>let⟨t,h1,h2⟩:=w.yld i H x H' (s.trans h) e y;⟨t,h1,λc d s2=>let⟨Ls,gr,r⟩:=h2 c (s.trans d) s2;⟨Ls,gr,r.mv p<|aT.refl _⟩⟩,λi H h=>w.stop i H<|s.trans h⟩
inductive tI(B:KT)(f:FL)(σ:St)(H:Hp)(R:It->Hp->Prop):Prop where
 |mk g s ts s' (x:SR B g H σ s) (h:f s=.ok (ts,s')) (k:∀a g' H',dE g H g' H'->SR B g' H' σ s'->Walk B g'.al a g'.HF ts->R a H')
def yh:PI X tg e<|tI B gD:=λ_ _ _ _ _ _ a=>by obtain⟨_,_,_,_,_,h,_⟩:=a;cases h
def QM(h:PI X tg e t)(h':PI X tg e t'):PI X tg e λσ H R=>t σ H R\/t' σ H R:=λa s σ H R I q=>by
 rcases q with q|q
 .exact h a s σ H R I q
 .exact h' a s σ H R I q
def TZ:T->Bool
 |.str _=>Zb
 |_=>O
def MP:T->FK
 |.str _=>Y
 |t=>Yq t
def oJ(a:FE):FL:=λs=>(a s).bind λp=>(bu<|MP p.1).bind λts=>.ok (ts,p.2)
def EY{a:ax}{ns:Ee}(h:dY B.K HF a<|ns.map V.int):Walk B al (đ B.K a) HF<|ns.map T.int:=by
 refine⟨λi H c b=>?_,λi H x H' c b y=>?_,λi H c b=>⟨_,c.seq h,by rw[b,bQ,bQ];exact bP _⟩⟩
 .rw[bQ]at b
  exact⟨_,.int ns[i],c.seq h,by rw[eX,dP b];rfl⟩
 . obtain⟨rfl,y⟩:=y;have e:=y _<|c.seq h;obtain⟨t,j,g⟩:=(aF.ints ns).zZ e;exact⟨t,j,λd f s2=>⟨d,.refl s2,g.same f⟩⟩
def QN(hB:B.K=X.K)(m:PE X e<|tE B fa):PI X tg e<|tI B<|oJ fa:=by
 refine nM (QM (LL m)<|So m) λσ H R n=>?_;obtain⟨g,s,t,s',x,h,k⟩:=n;revert h;refine abK λtx o j=>abJ λts c=>λh=>?_;cases h;have b:=hB.symm;cases tx<;>try(cases c;done)
 .cases c
  refine .inr ⟨g,s,_,_,x,j,λv g1 H1 f a d=>?_⟩;obtain⟨l,i,rfl,q,r⟩:=d;refine⟨l,J,⟨i,hB▸cZ a.sub q⟩,?_⟩;rw[b];exact k _ g1 H1 f a<|H0 q r
 .cases c
  refine .inl ⟨g,s,_,_,x,j,λv g1 H1 f a d=>?_⟩;obtain⟨l,i,rfl,q,r⟩:=d;refine⟨l,J,⟨i,dY.of<|a.sub _ _ q⟩,?_⟩;rw[b];exact k _ g1 H1 f a<|EU q r
 .cases c
  refine .inl ⟨g,s,_,_,x,j,λv g1 H1 f a d=>?_⟩;obtain⟨l,rfl,q⟩:=d;refine⟨l,J,⟨_,hB▸a.sub.seq q⟩,?_⟩;rw[b];exact k _ g1 H1 f a<|EY q
def Y9(hB:B.K=X.K)(b:PE X e<|tE B fa):PI X (.Name x j) e<|tI B<|nK fa:=by
 refine nM (QM (QN hB b)<|SQ b) λσ H R d=>?_;obtain⟨g,s,t,s',z,h,k⟩:=d;revert h;refine abK λtx m c=>abJ λts a=>λh=>?_;cases h;by_cases hs:TZ tx=O
 .refine .inl ⟨g,s,t,_,z,?_,k⟩
  unfold oJ;rw[c];show(bu _).bind _=_;have e:MP tx=Yq tx:=by cases tx<;>first|rfl|(cases hs)
  rw[e,a];rfl
 .cases tx<;>first|(exact dy J hs)|skip
  cases a;refine .inr ⟨g,s,_,_,z,c,λv g1 H1 l f i=>?_⟩;obtain⟨rfl,hz⟩:=i;exact⟨_,J,k _ g1 H1 l f<|lR (Mq _)<|aF.signs _⟩
def Ic(m:Gl X "range")(l:X.mg "range" = Y)(n:PE X a<|tE B fa)(hs:noStar a=O):PI X tg (.Call (.Name "range" p) [a] [] pos)<|tI B<|EM xV<|ba fa a_:=by
 have d:c3 [a] X.env=[(Zb,eE a X.env)]:=aw hs;refine nM (Ej m l (aU n cy d) d) λσ H R e=>?_;obtain⟨g,s,t,s',x,h,k⟩:=e;revert h;refine abK λts r c=>abJ λq b=>λh=>?_;cases h;revert c;refine abK λtx s2 o=>λc=>?_;cases c;have b:=au b;cases tx<;>try(cases b)
 obtain⟨z,rfl⟩:=bz b;refine⟨g,s,_,_,x,o,λv g1 H1 j f i=>?_⟩;cases i;exact⟨_,J,by lia,by lia,k _ g1 H1 j f<|lR (tK 0 _)<|aF.mF 0 _⟩
def Ie{a b:T}(h:xV [a,b]=U us):∃i j,a=.int i/\b=.int j/\(i<1000000/\-1000000<i/\j<1000000/\-1000000<j)/\mF i (j-i).toNat=us:=by
 cases a<;>try(cases h)
 cases b<;>try(cases h)
 obtain⟨z,e⟩:=bz h;exact⟨_,_,J,J,z,e⟩
def Ig(z:Gl X "range")(y:X.mg "range" = Y)(C:PE X a<|tE B fa)(A:PE X b<|tE B fb)(hs:noStar a=O)(hs':noStar b=O):PI X tg (.Call (.Name "range" p) [a,b] [] pos)<|tI B<|EM xV<|ba fa<|ba fb a_:=by
 have d:c3 [b] X.env=[(Zb,eE b X.env)]:=aw hs';have c:c3 [a,b] X.env=[(Zb,eE a X.env),(Zb,eE b X.env)]:=by rw[aw hs,d]
 refine nM (Ek z y (aU C (aU A cy d)<|by rw[c,d]) c d) λσ H R l=>?_
 obtain⟨g,s,t,s',x,h,k⟩:=l;revert h;refine abK λts T f=>abJ λN F=>λh=>?_;cases h;revert f;refine abK λtx s2 E=>abK λty S e=>λf=>?_;cases f;revert e;refine abK λP Q D=>λe=>?_;cases e;obtain⟨i,j,rfl,rfl,⟨M,L,K,I⟩,rfl⟩:=Ie<|au F;refine⟨g,s,_,_,x,E,λv g1 H1 u n q=>⟨g1,_,_,_,n,D,λw g2 G r m o=>?_⟩⟩;cases q;cases o;exact⟨_,_,J,⟨by lia,by lia,by lia,by lia⟩,k _ g2 G (u.trans r) m<|lR (tK _ _)<|aF.mF _ _⟩
def qg.sets{a:St}(x:qg B g H σ r)(d:al=g.al)(t:Sets B al g.HF k σ a r j):qg B g H a j:=by
 subst d;refine⟨by rw[t.lenR,t.len];exact x.len,λi c h=>?_⟩
 by_cases hi:i∈k
 .have m:i<Hq r:=t.lenR▸(dw.mp h).1
  obtain⟨u,v,b,f,e⟩:=t.on i hi m;rw[h]at b;cases b;exact⟨v,f,e⟩
 .obtain⟨b,f⟩:=t.off i hi
  rw[f]at h;obtain⟨v,e,l⟩:=x.at_ i c h;exact⟨v,b.trans e,l⟩
def Aj{S:B1}{c:St}(j:∀i∈S,i<k)(s:Sets B al HF S (dG k js σ) c f d):dQ (dG k js σ) c:=by
 have gen:∀(a b:St),Hq a=Hq b->(∀(i:Nat)(v:V),a[i]?=U (U v)->b[i]?=U (U v))->dQ a b:=by
  intro a
  induction a with
  |nil=>intro b hl _;cases b with
   |nil=>trivial
   |cons=>cases hl
  |cons x a g=>intro b hl h;cases b with
   |nil=>cases hl
   |cons y b=>
    have hr:=g b (by simpa using hl) λi v e=>by simpa using h (i+1) v (by simpa using e)
    cases x with
    |none=>exact hr
    |some v=>
     have:=h 0 v J
     simp at this;subst this;exact⟨J,hr⟩
 refine gen _ _ s.len.symm λi v e=>?_;by_cases hi:i∈S
 .have hk:=j i hi
  unfold dG at e;rw[j4<|by rw[wU];exact hk,zo,b0 hk]at e
  cases e
 .rw[(s.off i hi).1];exact e
section
variable{js S':B1}{j elt:cx}
theorem SR.kM:∀(js:B1){g:G}{s:S},SR B g H σ s->∃g',dE g H g' H/\SR B g' H σ {s with r:=kM js s.r}
 |[],g,s,x=>⟨g,.refl,x⟩
 |j::js,g,s,x=>by
  show ∃g',dE g H g' H/\SR B g' H σ {s with r:=D.kM js (My s.r j)}
  have one:∃g1,dE g H g1 H/\SR B g1 H σ {s with r:=My s.r j}:=by
   unfold My;split
   .rename_i ts h
    obtain⟨g1,v,p,y,_⟩:=x.iD h;exact⟨g1,p,y⟩
   .exact⟨g,.refl,x⟩
  obtain⟨g1,d,b⟩:=one;obtain⟨g2,c,a⟩:=SR.kM js b;exact⟨g2,d.trans c,a⟩
def qg.block(x:qg B g H σ r)(k:Nat)(js:B1):qg B g.aj H (dG k js σ)<|jG k js r:=by
 refine⟨by unfold jG dG;simp,λi c h=>?_⟩
 unfold jG at h;unfold dG;by_cases hi:i<k
 .rw[j4<|by simpa using hi,zo,b0 hi]at h
  cases h
 .rw[iB<|by simpa using hi,wU,eX]at h
  rw[iB<|by simpa using hi,wU,eX]
  cases a:js[i-k]? with
  |none=>rw[a]at h;cases h
  |some j=>
   rw[a]at h;have h:(match r[j]? with|U<|U<|.val t=>U<|C.val t|_=>Y)=U c:=by injection h
   split at h
   .rename_i t hr
    cases h;obtain⟨v,d,b⟩:=x.at_ j _ hr;exact⟨v,by show U ((σ[j]?).join)=_;rw[d];rfl,b⟩
   .cases h
def SR.T_(x:SR B g H σ s)(j:g.HF D=Y)(f:g.o D=Y)(hl:∃w,H D=U w):SR B g (upd H D u) σ s:=by
 have ne:∀b p,g.o b=U p->b≠D:=λb p e z=>by lia
 refine⟨x.st.mv (λb w e=>?_) (λb p e=>?_) (aT.refl _) J λl p h _=>⟨h,aq<|ne l p h⟩,x.lc.len,λi c e=>?_⟩
 .have:b≠D:=λz=>by lia
  rw[aq this];exact x.sub _ _ e
 .obtain⟨d,w,a⟩:=x.st.live b p e
  exact⟨d,w,by rw[aq<|ne b p e];lia⟩
 .obtain⟨v,d,a⟩:=x.lc.at_ i c e
  exact⟨v,d,bK.mv (aT.refl _) fH (λl h=>⟨h,aq<|ne l _ h⟩) a⟩
def dE.T_(p:dE g H g1 H1)(a:H D=Y):dE g H g1<|upd H1 D u:=
 ⟨p.fr,p.pre,λb w h n z=>by
  have:=aS h a
  rw[aq this];exact p.rest b w h n z,λb h=>by
  by_cases hb:b=D
  .subst hb;exact a
  .rw[aq hb]at h;exact p.there b h⟩
def Y_:Lo X []<|tT B eZ:=λa s σ H Q I z=>by
 obtain⟨g,st,t,s',x,h,k⟩:=z;cases h;exact Ml a s σ H Q I<|k g H .refl x
def Za(h:PT X c<|tT B ft):Lo X [c]<|tT B ft:=Mm h
def Ak(FZ:r6 B gt fg S')(hS:∀i∈S',i<k):∀σ H Q,tO B (cY sQ k js fg ft fe) σ H Q->tComp (tI B sQ) k js gt (tT B ft) (tE B fe) σ H Q:=by
 rintro σ H Q ⟨g,s,ys,s',x,h,kk⟩
 revert h;refine abK λxs M h1=>λh=>?_;split at h
 case isFalse=>cases h
 revert h;refine abK λrs mm h2=>λh=>?_;cases h;unfold tComp;refine⟨g,s,xs,M,x,h1,λqC g1 H1 p1 x1 wk D E=>?_⟩;obtain⟨g2,Z,L⟩:=x1.kM js;have wk:=wk.mv Z.pre Z.fr;obtain⟨b,hb⟩:∃b,b=jG k js (_root_.D.kM js M.r):=⟨_,J⟩;rw[<- hb]at h2;have A:=p1.trans Z;have hD0:=A.there D E;have nD:∀{I:G}{ss:S},SR B I H1 σ ss->I.HF D=Y/\I.o D=Y:=λ{I ss} x=>⟨x.sub.free E,by
  cases q:I.o D with
  |none=>rfl
  |some p=>obtain⟨_,u,z⟩:=x.st.live D p q;rw[E]at z;cases z⟩
 obtain⟨f2,o2⟩:=nD L;obtain⟨F,_,_⟩:=jm L E;refine⟨λi m zs d=>m=Hq xs-i/\i<=Hq xs/\∃g3 m3 done rest,dE g2 H1 g3 d/\SR B g3 d σ ⟨_root_.D.kM js M.r,m3⟩/\g3.HF D=Y/\g3.o D=Y/\d D=U (.lst zs)/\aF B g3.al g3.HF done zs/\done.length<=i/\bA fg ft fe b (xs.drop i) m3=.ok (rest,mm)/\rs=done++rest,
  ⟨Hq xs,by simp,dO _,g2.grow g2.HF,M.m,[],rs,L.j_ F,L.grow F,f2,o2,ak,J,bP _,by exact h2,J⟩,?_⟩
 rintro i m zs d ⟨rfl,hi,g3,m3,done,rest,l,a,R,o3,hl,rd,C,hr,rfl⟩
 by_cases gb:i<Hq xs
 .have w:=l.fr.trans a.sub
  refine .inr ⟨wk.go i d w gb,λv H3 y=>?_⟩;obtain⟨t,ht,y2⟩:=wk.yld i d v H3 w gb y;obtain⟨K,j,rx⟩:=y2 g3.HF l.fr a.sub;have Zc:xs.drop i=t::xs.drop (i+1):=by
   obtain⟨hh,e⟩:=dw.mp ht;rw[Gy hh,e]
  rw[Zc]at hr;revert hr;refine abJ λb1 q1=>abK λc X q2=>λhr=>?_;have n:=a.grow j;have p4:=l.trans<|a.j_ j;have eb:=n.lc.block k js;rw[<- hb]at eb;refine FZ.ok g3.al K H3 _ _ t v b1 _ n.sub (rx.mv l.pre<|aT.refl _) (au q1) eb.len λT LP=>⟨Aj hS LP,?_⟩;have xb:SR B _ H3 T ⟨b1,m3⟩:=⟨n.st.aj,eb.sets J LP⟩;refine⟨(g3.grow K).aj,⟨b1,m3⟩,c,X,xb,q2,λg6 H6 p6 x6=>?_⟩;cases c with
  |true=>
   revert hr;refine abK λy' s7 q3=>abK λV m8 q4=>λhr=>?_;cases hr;refine oq ⟨g6,X,y',s7,x6,q3,λv7 g7 H7 p7 x7 r7=>?_⟩;obtain⟨f,W⟩:=n.back (p6.trans p7) x7.st;have p8:=p4.trans f;obtain⟨ġ,P,N⟩:=(a.j_ j |>.trans f).rest D _ hl R o3;have hzl:Hq zs<cC:=by rw[<- rd.len,dZ];lia
   refine⟨ġ,hzl,Hq xs-(i+1),Bm gb<|pN i,J,gb,G.back _ g7,s7.m,done++[y'],V,p8.T_ E,W.T_ P N ⟨_,ġ⟩,P,N,ak,?_,by simp;exact C,q4,by simp⟩
   have st:=(a.j_ j).trans f;exact(rd.mv st.pre st.fr).app<|.one r7
  |false=>
   obtain⟨f,W⟩:=n.back p6 x6.st;obtain⟨ġ,P,N⟩:=(a.j_ j |>.trans f).rest D _ hl R o3;have st:=(a.j_ j).trans f;exact om ⟨Hq xs-(i+1),Bm gb<|pN i,J,gb,G.back _ g6,X.m,done,rest,p4.trans f,W,P,N,ġ,rd.mv st.pre st.fr,cJ C<|bH ..,hr,J⟩
 .have e:=Gn hi<|Bk gb
  subst e;rw[Bw]at hr;cases hr;rw[b9]at kk;exact .inl ⟨wk.stop _ d (l.fr.trans a.sub) J,kk D zs g3 d (A.trans l) a hD0 R o3 hl rd⟩
def Ub(ls:Bi)(d:X.calm=O)(f:gT X scope)(F:gB X scope js fs)(b:PI X tg j<|tI B sQ)(c:∀cl C a s H,PG (X.block (ls++fs) scope cl C a s H) tg gt)(g:r6 B gt fg S')
  (ht:∀cl C a s H,Lo (X.block (ls++fs) scope cl C a s H) t<|tT B ft) (he:∀cl C a s H,PE (X.block (ls++fs) scope cl C a s H) elt<|tE B fe)
  (e:∀i∈S',i<Hq ls) (hs:∀x,eI j X.env x=pure x):PE X (.ListComp elt [⟨tg,j,t,0⟩] scope pos)<|tO B<|cY sQ ls.length js fg ft fe:=
 aX (Mn ls d f F b c ht he hs)<|Ak g e
end
def Al(B:KT)(g:G)(H:Hp)(D:Ends):Out->S->Prop
 |.nx,s'=>∀a g' H',dE g H g' H'->SR B g' H' a s'->D.nx a H'
 |.rt t,s'=>∀v g' H',dE g H g' H'->eQ B g' H' s'.m->Rep B g'.al g'.HF t v->D.rt v H'
 |.bk,s'=>∀a g' H',dE g H g' H'->SR B g' H' a s'->D.bk a H'
 |.ct,s'=>∀a g' H',dE g H g' H'->SR B g' H' a s'->D.ct a H'
inductive tS(B:KT)(f:FS)(D:Ends)(σ:St)(H:Hp):Prop where
 |mk g s o s' (x:SR B g H σ s) (h:f s=.ok (o,s')) (k:Al B g H D o s')
section
variable{cV j:Pos}{H1:Hp}{g1:G}{F u:FS}{st:gL}{rest d:Fh}{i:Nat}
def Al.mv{o:Out}(k:Al B g H D o s')(p:dE g H g1 H1):Al B g1 H1 D o s':=by
 cases o with
 |nx=>exact λa g' H' q x=>k a g' H' (p.trans q) x
 |rt t=>exact λv g' H' q x r=>k v g' H' (p.trans q) x r
 |bk=>exact λa g' H' q x=>k a g' H' (p.trans q) x
 |ct=>exact λa g' H' q x=>k a g' H' (p.trans q) x
def Zd:iz X d<|tS B cj:=λ_ _ _ _ _ _ a=>by obtain⟨_,_,_,_,_,h,_⟩:=a;cases h
def dh:PS X st<|tS B cj:=λ_ _ _ _ _ _ a=>by obtain⟨_,_,_,_,_,h,_⟩:=a;cases h
def Ze:iz X []<|tS B aM:=qj uO λD σ H z=>by
 obtain⟨g,s,o,s',x,h,k⟩:=z;cases h;exact k σ g H .refl x
def Uc(f:PS X st<|tS B F)(e:iz X rest<|tS B u):iz X (st::rest)<|tS B<|ah F u:=qj (jv f e) λD σ H z=>by
 obtain⟨g,s,o,s',x,h,k⟩:=z;revert h;refine abK λo1 a i=>λh=>?_;refine⟨g,s,o1,a,x,i,?_⟩;cases o1 with
 |nx=>exact λb g1 H1 d c=>⟨g1,a,o,s',c,h,k.mv d⟩
 |rt t=>cases h;exact k
 |bk=>cases h;exact k
 |ct=>cases h;exact k
def Zf(h:PS X st<|tS B F):iz X [st]<|tS B F:=lF h
def Ud:PS X (.Pass pos)<|tS B aM:=cz LH λD σ H z=>by
 obtain⟨g,s,o,s',x,h,k⟩:=z;cases h;exact k σ g H .refl x
def QO(m:X.N.Nodup)(j:X.N[i]?=U x)(f:Loc X.env.scope x)(he:PE X e<|tE B fa)(hs:eP e (U<|.Name x cV) pos.line X.env=pure Zb)(l:F6 X x) :
  PS X (.Assign [.Name x cV] e pos)<|tS B<|aG i fa:=cz (jw m j f he hs l) λD σ H z=>by
 obtain⟨g,s,o,s',x,h,k⟩:=z;revert h;refine abK λt b n=>λh=>?_;cases h;exact⟨g,s,t,b,x,n,λv g1 H1 d a c=>k _ g1 H1 d<|a.set c⟩
def Cn(k:Al B g H D .nx<|iT s1 i<|.ol ts)(d:dE g H g1 H1)(e:SR B g1 H1 σ s1)(f:H l=Y)(n1:g1.HF l=Y)(n2:g1.o l=Y)(hl:H1 l=U (.lst vs))(r:aF B g1.al g1.HF ts vs):D.nx (σ.set i<|U<|.ref l) H1:=by
 refine k _ (g1.own l _) H1 ⟨d.fr,d.pre,λb u h n z=>?_,d.there⟩<|e.own n2 n1 hl r;obtain⟨a,j,c⟩:=d.rest b u h n z
 have:=aS h f
 exact⟨a,j,by show(if b=l then U _ else g1.o b)=Y;rw[bt this];exact c⟩
def QP(m:X.N.Nodup)(f:X.N[i]?=U x)(d:Loc X.env.scope x)(he:PE X e<|tO B fl)(hs:eP e (U<|.Name x cV) pos.line X.env=pure Zb)(j:F6 X x) :
  PS X (.Assign [.Name x cV] e pos)<|tS B<|iJ i fl:=cz (jw m f d he hs j) λD σ H z=>by
 obtain⟨g,s,o,s',x,h,k⟩:=z;revert h;refine abK λts b p=>λh=>?_;cases h;exact⟨g,s,ts,b,x,p,λl q g1 H1 c a n n1 n2 hl r=>Cn k c a n n1 n2 hl r⟩
def Ue(ls:Bi)(y:X.calm=O)(A:X.N.Nodup)(u:X.N[i]?=U x)(q:Loc X.env.scope x)(F:gT X scope)(Fr:gB X scope js fs)(a:PI X tg Q<|tI B K)(v:∀cl C b s H,PG (X.block (ls++fs) scope cl C b s H) tg gt)(G:r6 B gt L M)
  (ht:∀cl C b s H,Lo (X.block (ls++fs) scope cl C b s H) I<|tT B ft) (he:∀cl C b s H,PE (X.block (ls++fs) scope cl C b s H) elt<|tE B fe)
  (z:∀i∈M,i<Hq ls) (hs:∀x,eI Q X.env x=pure x) (w:F6 X x)
  (E:eP (.ListComp elt [⟨tg,Q,I,0⟩] scope bq) (U<|.Name x cV) pos.line X.env=pure O) :
  PS X (.Assign [.Name x cV] (.ListComp elt [⟨tg,Q,I,0⟩] scope bq) pos) (tS B<|iJ i<|cY K ls.length js L ft fe) /\
  PS X (.Assign [.Name x cV] (.ListComp elt [⟨tg,Q,I,0⟩] scope bq) pos) (tS B<|aG i<|eO<|cY K ls.length js L ft fe):=by
 constructor
 .refine cz (BS ls y A u q F Fr a v ht he hs w E) λD σ H c=>?_
  obtain⟨g,s,o,s',x,h,k⟩:=c;revert h;refine abK λts f n=>λh=>?_;cases h;exact Ak G z σ H _ ⟨g,s,ts,f,x,n,λl e g1 H1 j d m n1 n2 hl r=>Cn k j d m n1 n2 hl r⟩
 .refine cz (BS ls y A u q F Fr a v ht he hs w E) λD σ H c=>?_
  obtain⟨g,s,o,s',x,h,k⟩:=c;revert h;refine abK λt s2 p=>λh=>?_;revert p;refine abK λts f n=>λp=>?_;cases p;cases h;exact Ak G z σ H _ ⟨g,s,ts,f,x,n,λl e g1 H1 j d m n1 n2 hl r=>k _ _ H1 (j.Aa m n1)<|(d.Aa n1 n2 hl).set ⟨l,e,J,ak,r.same<|aW n1⟩⟩
def Zg{gt:TG}{d:FG}{u:B1}(he:PE X e<|tE B fa)(m:PG X tg gt)(w:r6 B gt d u)(hs:swapsWithSole [tg] e pos.line X.env=pure Zb)(l:sg [tg] e X.env=pure Y)
  (n:(hW [tg] X.env).map (·.2)=[sx tg X.env]):PS X (.Assign [tg] e pos)<|tS B<|oF d fa:=cz (G5 he m hs l n) λD σ H z=>by
 obtain⟨g,s,o,s',x,h,k⟩:=z;revert h;refine abK λt c q=>abJ λi p=>λh=>?_;cases h;exact⟨g,s,t,c,x,q,λv g1 H1 j a f=>w.ok g1.al g1.HF H1 σ c.r t v i _ a.sub f (au p) a.lc.len λb st=>k b g1 H1 j ⟨a.st,a.lc.sets J st⟩⟩
def Zh(he:PE X e<|tE B fa):PS X (.Return (U e) pos)<|tS B<|aC fa:=cz (G2 he) λD σ H z=>by
 obtain⟨g,s,o,s',x,h,k⟩:=z;revert h;refine abK λt b f=>λh=>?_;cases h;exact⟨g,s,t,b,x,f,λv g1 H1 d a c=>k v g1 H1 d a.st c⟩
def Ug:PS X (.Return Y pos)<|tS B<|aC<|cF .non:=cz LJ λD σ H z=>by
 obtain⟨g,s,o,s',x,h,k⟩:=z;cases h;exact k _ g H .refl x.st J
def Uh(he:PE X e<|tE B fa)(hs:eP e Y pos.line X.env=pure Zb):PS X (.Expr e pos)<|tS B<|aR fa:=cz (jQ he hs) λD σ H z=>by
 obtain⟨g,s,o,s',x,h,k⟩:=z;revert h;refine abK λt b d=>λh=>?_;cases h;exact⟨g,s,t,b,x,d,λv g1 H1 c a f=>k σ g1 H1 c a⟩
def aaq{A f:Fh}(i:PT X c<|tT B ft)(l:iz X A<|tS B F)(j:iz X f<|tS B u):PS X (.If c A f pos)<|tS B<|bj ft F u:=cz (Qd i l j) λD σ H z=>by
 obtain⟨g,s,o,s',x,h,k⟩:=z;revert h;refine abK λd a m=>λh=>?_;refine⟨g,s,d,a,x,m,λg1 H1 e b=>?_⟩;cases d with
 |true=>exact oq ⟨g1,a,o,s',b,h,k.mv e⟩
 |false=>exact om ⟨g1,a,o,s',b,h,k.mv e⟩
def eB{r:FC}(h:mR r[i]?=U ts):r[i]?=U (U<|.ol ts):=by
 unfold mR at h;lia
def SR.oK(x:SR B g H σ s)(h:s.r[i]?=U (U<|.ol ts)):∃l vs,σ[i]?=U (U<|.ref l)/\g.o l=U (.loc i)/\H l=U (.lst vs)/\aF B g.al g.HF ts vs:=by
 obtain⟨v,d,l,vs,rfl,c,b,a⟩:=x.lc.at_ i _ h;exact⟨l,vs,d,c,b,a⟩
def Zi(he:PE X e<|tE B fa)(I:X.N[i]?=U y)(G:nA X.env.scope y)(hd:bB y)(E:gk y)(hs:noStar e=O)(C:(bT.endLine == bq.line)=O) :
  PS X (.Expr (.Call (.Attribute (.Name y py) "append" bT) [e] [] bq) pos)<|tS B<|gO i fa:=by
 refine cz (jQ (xJ i4 n7 n6 jS (cu I G hd E) (aU he cy<|aw hs) (gu J) (EL (by rw[dW,hs];rfl)<|by decide) C (aw hs) J) J) λD σ H f=>?_
 obtain⟨g,s,o,s',x,h,k⟩:=f;revert h;refine abJ λS P=>abK λt q M=>abJ λts L=>abJ λQ K=>λh=>?_;obtain⟨z,rfl⟩:=bz<|au K;cases h;obtain⟨l0,n,q1,q2,u,q4⟩:=x.oK<|eB<|au P;refine⟨_,q1,.inl ⟨J,_,dY.of u⟩,g,s,t,q,x,M,λv g1 H1 A a r=>?_⟩;have d:=eB<|au L;obtain⟨l,p,c,R,m,b⟩:=a.oK d;rw[q1]at c;cases c;obtain⟨j,w⟩:=a.chg d q1<|b.app<|.one r;exact⟨l0,p,v,J,J,m,b.len▸fU z<|by decide,k σ g1 _ (A.trans w) j⟩
def Zj{d:cx}(hc:X.calm=O)(hi:PI X tg d<|tI B fl)(hg:PG X tg gt)(FZ:r6 B gt M S')(hb:iz X l<|tS B F)(hp:mB (cv X.prog X.w) X.A X.env X.xe)
  (hs:∀x,eI d X.env x=pure x):PS X (.For tg d l [] pos)<|tS B<|dM fl M F:=by
 refine cz (G6 hp hc hi hg hb hs) λD σ H zz=>?_;obtain⟨g,s,o,s',x,h,k⟩:=zz;revert h;refine abK λxs R e1=>λh=>?_;refine⟨g,s,xs,R,x,e1,λqC g1 H1 P x1 wk=>?_⟩;refine⟨λi m f u=>m=Hq xs-i/\i<=Hq xs/\∃g2 s2,dE g1 H1 g2 u/\SR B g2 u f s2/\bg M F (xs.drop i) s2=.ok _,
  ⟨Hq xs,by simp,dO _,g1,R,.refl,x1,by exact h⟩,?_⟩
 rintro i m f u ⟨rfl,Ĝ,g2,s2,E,C,j⟩
 have Q:=E.fr.trans C.sub;by_cases gb:i<Hq xs
 .have hx:=dP gb
  rw[Gy gb]at j;revert j;refine abJ λS q1=>abK λT N q2=>λj=>?_;refine .inr ⟨wk.go i u Q gb,λz H'=>∃g' K,dE g1 H1 g' H'/\SR B g' H' z K/\bg M F _ K=.ok _,
   by rintro z H' ⟨g',K,a,b,c⟩;exact⟨Hq xs-(i+1),Bm gb<|pN i,J,gb,g',K,a,b,c⟩,λv Z y=>?_⟩
  obtain⟨t,ht,y2⟩:=wk.yld i u v Z Q gb y;rw[hx]at ht;cases ht;obtain⟨W,V,rx⟩:=y2 g2.HF E.fr C.sub;have I:=C.grow V;have L:=E.trans<|C.j_ V;refine FZ.ok g2.al W Z f s2.r _ v S _ I.sub (rx.mv E.pre<|aT.refl _) (au q1) I.lc.len λσ4 st=>⟨g2.grow W,⟨S,s2.m⟩,T,N,⟨I.st,I.lc.sets J st⟩,q2,?_⟩;cases T with
  |nx=>exact λn g5 G q p=>⟨g5,N,L.trans q,p,j⟩
  |ct=>exact λn g5 G q p=>⟨g5,N,L.trans q,p,j⟩
  |bk=>
   cases j;exact λn g5 G q p=>k n g5 G ((P.trans L).trans q) p
  |rt t=>
   cases j;exact λv g5 G q p r=>k v g5 G ((P.trans L).trans q) p r
 .have e:=Gn Ĝ<|Bk gb
  subst e;rw[Bw]at j;cases j;exact .inl ⟨wk.stop _ u Q J,k f g2 u (P.trans E) C⟩
def MQ(n:Nat)(R:PT X c<|tT B ft)(S:iz X f<|tS B F)(Q:mB (cv X.prog X.w) X.A X.env X.xe):PS X (.While c f [] pos)<|tS B<|il n ft F:=by
 refine cz (xw Q R S) λD σ H N=>?_;obtain⟨g,s,o,s',x,h,k⟩:=N;refine⟨λm j E=>∃g2 s2,dE g H g2 E/\SR B g2 E j s2/\bW ft F m s2=.ok _,⟨n,g,s,.refl,x,h⟩,?_⟩
 rintro m j E ⟨g2,s2,L,P,e⟩
 cases m with
 |zero=>cases e
 |succ m=>
  revert e;refine abK λd I q1=>λe=>?_;refine⟨g2,s2,d,I,P,q1,λg3 T K G=>?_⟩;cases d with
  |false=>
   cases e;exact om<|k j g3 T (L.trans K) G
  |true=>
   revert e;refine abK λM C q2=>λe=>?_;refine oq ⟨λq H'=>∃g' y,dE g H g' H'/\SR B g' H' q y/\bW ft F m y=.ok _,by rintro q H' ⟨g',y,a,b,c⟩;exact⟨m,pN m,g',y,a,b,c⟩,?_⟩
   refine⟨g3,I,M,C,G,q2,?_⟩;have z:=L.trans K;cases M with
   |nx=>exact λi g5 u p l=>⟨g5,C,z.trans p,l,e⟩
   |ct=>exact λi g5 u p l=>⟨g5,C,z.trans p,l,e⟩
   |bk=>
    cases e;exact λi g5 u p l=>k i g5 u (z.trans p) l
   |rt t=>
    cases e;exact λv g5 u p l r=>k v g5 u (z.trans p) l r
end
section
def mV(r:aF B g.al g.HF ts vs):qg B g H (L2.start N vs)<|ts.map (λt=>U<|C.val t)++cK (Hq N-Hq ts) Y:=by
 refine⟨by unfold L2.start;simp[r.len],λi c h=>?_⟩
 by_cases hi:i<Hq ts
 .rw[j4<|by simpa using hi,eX,dP hi]at h
  cases h;obtain⟨v,b,a⟩:=r.get<|dP hi;refine⟨v,?_,a⟩;unfold L2.start;rw[j4<|by rw[bQ,<- r.len];exact hi,eX,b];rfl
 .rw[iB<|by simpa using hi,zo]at h
  split at h<;>cases h
def o9{a n:Nat}(h:aE a n F ts m=.ok (t,m')):Hq ts=a/\∃o s',F ⟨ts.map (λt=>U<|.val t)++cK (n-Hq ts) Y,m⟩=.ok (o,s')/\s'.m=m'/\(o=.rt t\/(o=.nx/\t=.non)):=by
 unfold aE at h;split at h
 .rename_i hl
  revert h;refine abK λo s' b=>λh=>?_;refine⟨hl,o,s',b,?_⟩;cases o with
  |rt u=>cases h;exact⟨J,.inl J⟩
  |nx=>cases h;exact⟨J,.inr ⟨J,J⟩⟩
  |bk=>cases h
  |ct=>cases h
 .cases h
variable{P:da}{K:bD}
structure yi(K:bD)(x qual:Str)(st:gL)(f:ax)(fd:dA):Prop where
 ex:∃(oc:ao)(od:Option ax)(dV kV doc pm:ao)(an:Option ax)(iE ct:ao)(wA:Array D2),
  fd=zk x qual (jT st) (cP st) (aK st) dV kV doc pm an iE ct/\K.lookup f=U ⟨oc,od,.func fd,wA⟩/\Ge K iE qual=O
 kp:lC K (.ref f)=O
def yi.ok{sp:Sp}(F:yi K x qual st f fd)(d:gS N ps<|aK st)(len:∀vs H Q E,sp vs H Q E->vs.length=ps.length)
  (g:∀(a:ao)(A:ef)(outer:List Env)(s:ag)(H:Hp)(vs:List V)(Q:VK)(E:XK),bI k (A.deeper<|GU qual (aK st) s.heap.objs.size f a)->sp vs H Q E ->
   ∃t,iz (mL lu P w K mg base N qual (aK st) f a A outer s H E).sX (cP st) t/\t {nx:=λ_ H'=>Q .non H',rt:=Q} (L2.start N vs) H):cX P w K mg base lu (k+1) f fd ps sp:=by
 obtain⟨l,od,m,kV,c,j,an,a,ct,i,rfl,lk,b⟩:=F.ex;refine Qi lk b d len λA outer s H vs Q E hr e=>?_;obtain⟨t,h,q⟩:=g a A outer s H vs Q E hr e;exact⟨t,h.sX,q⟩
def Uj(Fn:yi K x qual st f fd)(n:gS N ps<|aK st)
  (a:∀(b:ao)(A:ef)(outer:List Env)(s:ag)(H:Hp)(E:XK),bI k (A.deeper<|GU qual (aK st) s.heap.objs.size f b)->iz (mL lu P w K mg base N qual (aK st) f b A outer s H E).sX (cP st) (tS B F)) :
  cX P w K mg base lu (k+1) f fd ps<|rH B<|aE ps.length N.length F:=by
 refine Fn.ok n (λd H Q E h=>?_) λb A outer s H d Q E hr h=>?_
 .obtain⟨g,ts,m,t,i,x,r,h,_⟩:=h
  rw[<- r.len,(o9 h).1]
 .obtain⟨g,ts,m,t,i,x,r,h,q⟩:=h
  obtain⟨_,o,s',l,rfl,j⟩:=o9 h;refine⟨_,a b A outer s H E hr,g,_,o,s',⟨x,mV r⟩,l,?_⟩;rcases j with rfl|⟨rfl,rfl⟩
  .exact λv g' H' p y e=>q v g' H' p y e
  .exact λc g' H' p y=>q _ g' H' p y.st J
def MR(F:cX P w K mg base lu k f fd ps<|rH B fn):cX P w K mg base lu k f fd ps<|rH B<|aL fn:=F.imp λI H Q E h=>by
 obtain⟨g,ts,m,t,L,x,r,h,q⟩:=h;unfold aL at h;split at h
 case isFalse=>cases h
 rename_i C;cases e:fn ts []with
 |bad=>rw[e]at h;cases h
 |exc c fs s=>rw[e]at h;dsimp only at h;split at h<;>cases h
 |ok z=>
  rw[e]at h;dsimp only at h;split at h
  case isFalse=>cases h
  rename_i G;cases h;refine⟨⟨g.HF,λ_=>Y,[]⟩,ts,[],z.1,z.2,⟨x.sub,λb p e=>(by cases e),J,λk ob e=>(by simp at e)⟩,aF.no C r,e,λv g0 H' p y A=>?_⟩
  have keep:∀b p,g.o b=U p->H' b=H b/\g0.HF b=Y:=λb q D=>by
   obtain⟨j,u,i⟩:=x.live b q D;obtain⟨d,a,_⟩:=p.rest b u i j J;exact⟨d.trans i.symm,a⟩
  refine q v ⟨g0.HF,g.o,g.al⟩ H' ⟨p.fr,fH,λb u h n z=>?_,p.there⟩ (x.mv y.sub (λb p e=>?_) p.fr J λl p h _=>⟨h,(keep l p h).1⟩)<|Rep.no G A
  .obtain⟨d,a,_⟩:=p.rest b u h n J
   exact⟨d,a,z⟩
  .obtain⟨j,u,i⟩:=x.live b p e
   obtain⟨d,a⟩:=keep b p e;exact⟨a,u,d.trans i⟩
end
def SR.QQ{ob nP:Ob}{a C dx:ax}(x:SR B g H σ s)(Z:FY B g H k ob a C dx ns vs)(hk:s.m[k]?=U ob)(A:nP.c=ob.c)(t:Hq d<=Hq ns)(Ģ:Hq d=Hq nP.fs)
  (y:∀j c,nP.fs[j]?=U c->∃v,d[j]?=U v/\bK B g H (.fld k j) c v) :
  dE g H g (upd H a<|.ins C dx<|ns.zip d)/\SR B g (upd H a<|.ins C dx<|ns.zip d) σ {s with m:=s.m.set k nP}:=by
 have ne:∀l q,g.o l=U q->q≠.ob k->upd H a (.ins C dx<|ns.zip d) l=H l:=λl q hl n=>aq λz=>n (by rw[z,Z.o]at hl;lia)
 have sl:∀{q:kN}{c:_root_.D.C}{v:V},q≠.ob k->bK B g H q c v->bK B g _ q c v:=λn h=>bK.mv (aT.refl _) fH (λl hl=>⟨hl,ne l _ hl n⟩) h;refine⟨oX Z.o,⟨⟨λb w e=>?_,λb q e=>?_,by rw[fF];exact x.st.len,λr u e=>?_⟩,x.lc.len,λi c e=>?_⟩⟩
 .have:b≠a:=λz=>by rw[z,(x.st.live a _ Z.o).1]at e;lia
  rw[aq this];exact x.sub _ _ e
 .obtain⟨f,w,p⟩:=x.st.live b q e
  by_cases hb:b=a
  .exact⟨f,_,by rw[hb,ak]⟩
  .exact⟨f,w,by rw[aq hb];lia⟩
 .by_cases r8:k=r
  .subst r8
   have E:=(dw.mp hk).1;have e:=e;rw[f9 E]at e;cases e;exact .inl ⟨a,C,dx,ns,d,Z.al,Z.o,A▸Z.cl,ak,t,Ģ,λj c h=>let⟨v,f,p⟩:=y j c h;⟨v,f,sl (λz=>by lia) p⟩⟩
  .have e:=e
   rw[e9 r8]at e;refine(x.st.at_ r u e).mv (aT.refl _) fH λl q h n=>⟨h,ne l q h ?_⟩;lia
 .obtain⟨v,f,p⟩:=x.lc.at_ i c e
  exact⟨v,f,sl (λz=>by lia) p⟩
def E1{fs a:List C}{c:C}(h:setAt fs j c=U a):(j<Hq fs/\a=fs.set j c)\/(j=Hq fs/\a=fs++[c]):=by
 unfold setAt at h;lia
def Co(G:oH X.K X.mg P){a C dx:ax}{v:V}(t:P.an[f]?=U n)(x:SR (P.kt X) g H σ s)(Z:FY (P.kt X) g H k ob a C dx ns vs)(hk:s.m[k]?=U ob)(h:gE P.tab f c' ob=U nP)
  (q:∀j,bK (P.kt X) g H (.fld k j) c' v):rF X.K C/\cO X.K C n/\(ns.zip vs).length<1000 /\
  ∃o,L2.eL n v (ns.zip vs)=ns.zip o/\dE g H g (upd H a<|.ins C dx<|ns.zip o)/\SR (P.kt X) g (upd H a<|.ins C dx<|ns.zip o) σ {s with m:=s.m.set k nP}:=by
 obtain⟨j,z,y⟩:=bV.mp h;obtain⟨B,u,rfl⟩:=bZ.mp y;obtain⟨m,E,r,F⟩:=G.of Z.cl;have b:=oZ t r z;have A:=(dw.mp b).1;refine⟨F.cl,F.na _<|ji b,by rw[wW];have:=F.EL;lia,?_⟩
 rcases E1 u with⟨p,rfl⟩|⟨rfl,rfl⟩
 .refine⟨vs.set j v,Cj F.nd b Z.le<|by rw[Z.ln];exact p,?_⟩
  refine x.QQ Z hk J (by rw[fF];exact Z.le) (by rw[fF,fF];exact Z.ln) λi c e=>?_
  by_cases hi:j=i
  .subst hi
   rw[f9 p]at e;cases e;exact⟨v,by rw[f9<|by rw[Z.ln];exact p],q j⟩
  .rw[e9 hi]at e
   obtain⟨w,l,d⟩:=Z.f i c e;exact⟨w,by rw[e9 hi];exact l,d⟩
 .refine⟨vs++[v],u_ F.nd<|by rw[Z.ln];exact b,?_⟩
  refine x.QQ Z hk J (by rw[bU,Z.ln];exact A) (by rw[bU,bU,Z.ln];rfl) λi c e=>?_
  by_cases hi:i<Hq ob.fs
  .rw[j4 hi]at e
   obtain⟨w,l,d⟩:=Z.f i c e;exact⟨w,by rw[j4<|by rw[Z.ln];exact hi];exact l,d⟩
  .rw[iB<|by lia]at e
   have hz:=by
    have:=(dw.mp e).1
    simp at this;exact this
   rw[hz]at e;cases e;exact⟨v,by rw[iB<|by rw[Z.ln];lia,Z.ln,hz];rfl,q i⟩
def Zl(qC:oH X.K X.mg P)(I:P.an[f]?=U n)(G:PE X o<|tE (P.kt X) fo)(he:PE X e<|tE (P.kt X) fa)(hs:eP e (U<|.Attribute o n cV) pos.line X.env=pure Zb) :
  PS X (.Assign [.Attribute o n cV] e pos)<|tS (P.kt X)<|aQ P.tab f fo fa:=cz (zN G he hs) λD σ H z=>by
 obtain⟨g,s,W,s',x,h,k⟩:=z;revert h;refine abK λt i Q=>abK λtx s2 N=>λh=>?_;cases tx<;>try(cases h)
 rename_i F;revert h;refine abJ λnP M=>λh=>?_;cases h;obtain⟨ob,p,m⟩:=bV.mp<|au M;refine⟨g,s,t,i,x,Q,λv g1 H1 E u A=>⟨g1,i,_,s2,u,N,λw g2 H2 b d y=>?_⟩⟩;obtain⟨a,rfl,L⟩:=y;rcases d.st.at_ F ob p with⟨T,C,S,ns,V,Z⟩|⟨T,Z⟩
 case inr=>
  obtain⟨j,q,_⟩:=bV.mp m;obtain⟨l,q,_⟩:=bV.mp q;have z:(P.tab.map _)[ob.c]?=Y:=Z.nf;rw[eX,q]at z;cases z
 have:=Z.al.symm.trans L
 cases this;obtain⟨cl,na,hl,gq,R,B,r⟩:=Co qC I d Z p m λj=>A.mv b.pre b.fr;refine⟨a,C,S,_,J,Z.h,cl,na,hl,?_⟩;rw[R];exact k σ g2 _ ((E.trans b).trans B) r
end D
namespace L2
open PySem PySem.Spec PyProof.Rows
end L2
namespace D
open PySem L2
variable{X:Cx}{a b c e o tg:cx}{g g':G}{i k n:Nat}{P:Pg}{x y:Str}
theorem Cp:∀{Ds:BM}{a:B2},Vals (Ds.map V.ref) a->a=Ds.map Value.ref
 |[],_,h=>by cases h;rfl
 |D::Ds,_,h=>by
  cases h with
  |cons p q=>
   cases p;rw[Cp q];rfl
def Ii:fM X (.builtin "isinstance") λxs H Q=>∃(a C dx tp:ax)(fs:List (Str×V))(Ds:BM)(b:Bool),xs=[.ref a,.ref tp]/\H a=U (.ins C dx fs)/\rF X.K C/\f6 X.K (.ref C) "__class__" = U (U<|.builtin Hl) /\
  Bf X.K (.builtin Hl) "__get__" = U (U<|.builtin "getset_descriptor.__get__")/\Bg X.K (.builtin Hl)=U O/\D_ X.K C (.type "object")=U O /\
  H tp=U (.tup<|Ds.map V.ref)/\Gg X.K (.ref C) (Ds.map Value.ref)=U b/\Q (.bl b) H:=by
 intro F s σ H xs A Q I r h;obtain⟨a,C,dx,tp,fs,Ds,b,rfl,p,cl,k,i,x,j,l,e,q⟩:=h;obtain⟨u,B,rfl,d,v⟩:=vals2 r;cases d;cases v;obtain⟨E,G,_⟩:=lI I.bF p;obtain⟨od,L,_⟩:=G.look;obtain⟨_,t,c,o,g1,g2,n,g3⟩:=(I.bF tp _ l);have m:=Cp c;obtain⟨D,g,f,y⟩:=o;cases g2;cases g3;rw[m]at g1;exact PySem.W.kia_tup (O7 (cl.get _) cl.hd k i x j) I.jk L g1 e (λz=>nomatch z) λtk=>⟨.bl b,H,I.tok _,J,q⟩
def G.fq(g:G)(a:ax):G:={g with o:=λb=>if b=a then U (.ob g.al.length)else g.o b,al:=g.al++[a]}
theorem SR.fq{c:Nat}{C q dx:ax}(x:SR B g H σ s)(E:iK B c C ns)(nx:H q=Y)(nd:H dx=Y)(G:dx≠q) :
  dE g H (g.fq q) (upd (upd H dx<|.own q) q<|.ins C dx [])/\SR B (g.fq q) (upd (upd H dx<|.own q) q<|.ins C dx []) σ {s with m:=s.m++[⟨c,[]⟩]}:=by
 have nf:=x.sub.free nx;have w:=x.sub.free nd;have no:∀l a,g.o l=U a->l≠q/\l≠dx:=λl a h=>by
  obtain⟨_,u,z⟩:=x.st.live l a h;exact⟨aS z nx,aS z nd⟩
 have p:∀l,l≠q->l≠dx->upd (upd H dx<|.own q) q (.ins C dx []) l=H l:=λl d f=>by rw[aq d,aq f]
 have A:∀l a,g.o l=U a->(g.fq q).o l=U a:=λl a h=>by
  show(if l=q then U _ else g.o l)=_
  rw[bt (no l a h).1];exact h
 have pre:g.al <+: (g.fq q).al:=Bx _ _;refine⟨⟨aT.refl _,pre,λb u h n z=>?_,λb h=>?_⟩,⟨⟨λb u e=>?_,λb a e=>?_,?_,λk ob e=>?_⟩,x.lc.len,λi F e=>?_⟩⟩
 .have d:=aS h nx
  have f:=aS h nd;refine⟨(p b d f).trans h,n,?_⟩;show(if b=q then U _ else g.o b)=Y
  rw[bt d];exact z
 .by_cases d:b=q
  .subst d;exact nx
  .by_cases f:b=dx
   .subst f;exact nd
   .rw[p b d f]at h;exact h
 .have d:b≠q:=λz=>by rw[z]at e;have e:g.HF q=U u:=e;rw[nf]at e;cases e
  have f:b≠dx:=λz=>by rw[z]at e;have e:g.HF dx=U u:=e;rw[w]at e;cases e
  rw[p b d f];exact x.sub _ _ e
 .have e:(if b=q then U _ else g.o b)=U a:=e
  by_cases hb:b=q
  .subst hb;exact⟨nf,_,ak⟩
  .rw[bt hb]at e
   obtain⟨d,u,f⟩:=x.st.live b a e;obtain⟨t,r⟩:=no b a e;exact⟨d,u,(p b t r).trans f⟩
 .show(s.m++[_]).length=(g.al++[q]).length
  rw[bU,bU,x.st.len];rfl
 .have e:=e
  by_cases hk:k<Hq s.m
  .rw[j4 hk]at e
   refine(x.st.at_ k ob e).mv (aT.refl _) pre λl a h _=>⟨A l a h,?_⟩;obtain⟨t,r⟩:=no l a h;exact p l t r
  .rw[iB<|by lia]at e
   have y:=by
    have:=(dw.mp e).1
    simp at this;exact this
   rw[y]at e;cases e;have D:k=Hq g.al:=by have:=x.st.len;lia
   subst D;refine .inl ⟨q,C,dx,ns,[],?_,?_,E,?_,dO _,J,λj c h=>by simp at h⟩
   .show(g.al++[q])[Hq g.al]?=U q
    rw[iB<|bP _,nY];rfl
   .show(if q=q then U _ else g.o q)=_
    rw[b0 J]
   .rw[ak,Px]
 .obtain⟨v,d,f⟩:=x.lc.at_ i F e
  refine⟨v,d,bK.mv (g:=g) (g':=g.fq q) (aT.refl _) pre (λl h=>⟨A l _ h,?_⟩) f⟩;obtain⟨t,r⟩:=no l _ h;exact p l t r
structure DnN(P:Pg)(Pr:da)(w:de)(K:bD)(mg:Str->D2)(base:eh)(k:Nat)(c:Nat)(x:Str)(f:Fn):Prop where
 ex:∃(C fi:ax)(fd:dA)(ps:Bi)(ns:Bi),iK (iu P K Pr w) c C ns/\mg x=U (.ref C)/\Mk K C fi/\cX Pr w K mg base lu k fi fd ps (rH (iu P K Pr w) f)/\Binds K fd ps []
def MS{c:Nat}(h:kL c f fl s=.ok (t,s')):∃ts s1 m',fl s=.ok (ts,s1)/\f (.own s1.m.length::ts) (s1.m++[⟨c,[]⟩])=.ok (.non,m')/\t=.own s1.m.length/\s'={s1 with m:=m'}:=by
 revert h;refine abK λts s1 a=>λh=>?_;cases q:f _ _ with
 |ok r=>
  rw[q]at h;obtain⟨u,m'⟩:=r;cases u<;>try(cases h;done)
  cases h;exact⟨ts,s1,m',a,q,J,J⟩
 |bad=>rw[q]at h;cases h
 |exc c fs s2=>rw[q]at h;cases h
def MT{c:Nat}{C:ax}{Q:VK}(p:iK B c C ns)(d:SR B g H σ s)(o:aF B g.al g.HF ts vs)(r:f (.own s.m.length::ts) (s.m++[⟨c,[]⟩])=.ok (.non,m'))
  (k:∀v g' H',dE g H g' H'->SR B g' H' σ {s with m:=m'}->Rep B g'.al g'.HF (.own s.m.length) v->Q v H'):∀q a,H q=Y->H a=Y->a≠q->rH B f (.ref q::(vs++[])) (upd (upd H a<|.own q) q<|.ins C a []) (λv t=>v=.non/\Q (.ref q) t) E0:=λq a nx nd n=>by
 obtain⟨b,j⟩:=d.fq p nx nd n;rw[b9];have h:=by
  show(g.al++[q])[Hq s.m]?=U q;rw[d.st.len,iB<|bP _,nY];rfl
 refine yc (ts:=.own s.m.length::ts) j ⟨_,vs,J,⟨q,J,h⟩,o.mv b.pre b.fr⟩ r λv g' H' e i l=>⟨l,k _ g' H' (b.trans e) i ⟨q,J,fj e.pre h⟩⟩
def Uk{k j c:Nat}(D:DnN P X.prog X.w X.K X.mg X.base k c x f)(hr:bI j X.A)(q:k+1<=j)(B:PA X (e::es)<|tA (P.kt X) fl)(y:Gl X x)(r:bB x)(hs:(e::es).all noStar=O) :
  PE X (.Call (.Name x p) (e::es) [] pos)<|tE (P.kt X)<|kL c f fl:=by
 obtain⟨C,R,fd,ps,ns,E,u,M,F,z⟩:=D.ex;rw[dW,cL]at hs;refine aX (oV M F (hr.mono q) y u z .nil nG B r (aw hs.1)<|dg hs.2) λσ H Q a=>?_;obtain⟨g,s,t,s',x,h,k⟩:=a;obtain⟨ts,i,N,I,G,rfl,rfl⟩:=MS h;exact⟨g,s,ts,i,x,I,λL g1 H1 o d m=>MT E d m G λv g' H' n b l=>k v g' H' (o.trans n) b l⟩
def ve:cx->Option (cx×Bz×List pk×Pos)
 |.Call f a k p=>U (f,a,k,p)
 |_=>Y
def asName:cx->Option Str
 |.Name x _=>U x
 |_=>Y
def kT:cx->Option (cx×Str×Pos)
 |.Attribute o f p=>U (o,f,p)
 |_=>Y
def kU(e:cx):Option<|Str×Bz×List pk:=(ve e).bind λq=>(asName q.1).map λf=>(f,q.2.1,q.2.2.1)
def mW{q}(h:ve e=U q):e=.Call q.1 q.2.1 q.2.2.1 q.2.2.2:=by
 cases e<;>first|(cases h;done)|(cases h;rfl)
def c6(h:asName e=U x):∃p,e=.Name x p:=by
 cases e<;>first|(cases h;done)|(cases h;exact⟨_,J⟩)
def lS{q}(h:kT e=U q):e=.Attribute q.1 q.2.1 q.2.2:=by
 cases e<;>first|(cases h;done)|(cases h;rfl)
def fW{q}(h:kU e=U q):∃p pos,e=.Call (.Name q.1 p) q.2.1 q.2.2 pos:=by
 obtain⟨w,d,c⟩:=bV.mp h;obtain⟨f,b,rfl⟩:=bZ.mp c;obtain⟨p,a⟩:=c6 b;rw[mW d,a];exact⟨_,_,J⟩
def An{b c:Type}:List b->List c->Option b
 |[a],[]=>U a
 |_,_=>Y
def jK{c d:Type}{a:c}{as:List c}{ks:List d}(h:An as ks=U a):as=[a]/\ks=[]:=by
 match as,ks,h with
 |[b],[],h=>cases h;exact⟨J,J⟩
def nm1(e:cx):Option<|Str×cx:=(kU e).bind λq=>(An q.2.1 q.2.2).map λa=>(q.1,a)
def Cq{q}(h:nm1 e=U q):∃p pos,e=.Call (.Name q.1 p) [q.2] [] pos:=by
 revert h;refine abc λu c=>λh=>?_;obtain⟨a,b,rfl⟩:=bZ.mp h;obtain⟨p,r,g⟩:=fW c;obtain⟨f,d⟩:=jK b;exact⟨p,r,by rw[g,f,d]⟩
def at1(e:cx):Option<|cx×Str×cx:=(ve e).bind λq=>(kT q.1).bind λw=>(An q.2.1 q.2.2.1).bind λa=>if noStar a=O/\(w.2.2.endLine == q.2.2.2.line)=O then U (w.1,w.2.1,a)else Y
def Cr(h:at1 e=U (o,m,a)):noStar a=O/\∃c cp,e=.Call (.Attribute o m c) [a] [] cp/\(c.endLine == cp.line)=O:=by
 revert h;refine abc λu g=>abc λw f=>abc λb d=>λh=>?_;obtain⟨⟨q1,q2⟩,h⟩:=j6.mp h;cases h;obtain⟨j,i⟩:=jK d;exact⟨q1,_,_,by rw[mW g,lS f,j,i],q2⟩
def Cs:gL->Option (Str×Str×cx)
 |.Assign ts e _=>(match ts with
  |[t]=>(kT t).bind λq=>(asName q.1).map λs=>(s,q.2.1,e)
  |_=>Y)
 |_=>Y
def vf{q}(h:Cs st=U q):∃b a pos,st=.Assign [.Attribute (.Name q.1 b) q.2.1 a] q.2.2 pos:=by
 cases st<;>try(cases h)
 rename_i ts e pos
 match ts,h with
 |[t],h=>
  obtain⟨w,g,f⟩:=bV.mp<|h;obtain⟨s,d,rfl⟩:=bZ.mp f;obtain⟨p,c⟩:=c6 d;rw[lS g,c];exact⟨_,_,_,J⟩
def vg(st:gL):Option<|Str×Str×Str:=(Cs st).bind λw=>(asName w.2.2).map λq=>(w.1,w.2.1,q)
def Ao(h:vg st=U z):∃b a c pos,st=.Assign [.Attribute (.Name z.1 b) z.2.1 a] (.Name z.2.2 c) pos:=by
 obtain⟨w,g,f⟩:=bV.mp h;obtain⟨q,e,rfl⟩:=bZ.mp f;obtain⟨b,a,pos,rfl⟩:=vf g;obtain⟨p,d⟩:=c6 e;rw[d];exact⟨_,_,_,_,J⟩
def qq(N:Bi):Nat->Fh->Bi->Bool
 |_,[],[]=>O
 |i,st::rest,n::ns=>(match vg st with
  |some z=>decide (N[0]?=U z.1)&&decide (N[i]?=U z.2.2)&&decide (z.2.1=n)
  |none=>Zb)&&qq N (i+1) rest ns
 |_,_,_=>Zb
def ģ(K:bD):Nat->Bi->TS
 |_,[]=>G1
 |i,n::ns=>WV (Xm K (GX 0) (GX i) n)<|ģ K (i+1) ns
theorem Cu(c:∀(i:Nat)(x:Str),X.N[i]?=U x->nA X.env.scope x/\bB x/\gk x):∀(a:Fh)(ns:Bi)(i:Nat),qq X.N i a ns=O->iz X a (ģ X.K i ns)
 |[],[],_,_=>uO
 |[],_::_,_,h=>by cases h
 |st::rest,[],_,h=>by cases h
 |st::rest,n::ns,i,h=>by
  have h:((match vg st with
   |some z=>decide _&&decide _&&decide _
   |none=>Zb)&&qq X.N _ rest ns)=O:=h
  rw[cL]at h;obtain⟨b,p⟩:=h;cases e:vg st with
  |none=>rw[e]at b;cases b
  |some z=>
   rw[e]at b;simp only[cL,du]at b;obtain⟨⟨f,d⟩,rfl⟩:=b;obtain⟨s,r,q,pos,rfl⟩:=Ao e;obtain⟨o,m,l⟩:=c 0 _ f;obtain⟨k,j,g⟩:=c i _ d;exact jv (zN (cu f o m l) (cu d k j g) J)<|Cu c rest ns _ p
theorem Cw{C q dx:ax}(cl:rF K C):∀(ns d:Bi)(as c:List V)(H:Hp),(∀f∈ns,cO K C f)->(d++ns).Nodup->(d++ns).length<=100->Hq c=Hq d->Hq as=Hq ns->all=.ref q::(c++as)->H q=U (.ins C dx<|d.zip c) ->
  D.nx (L2.start N all) (upd H q<|.ins C dx<|(d++ns).zip<|c++as)->ģ K (Hq c+1) ns D (L2.start N all) H
 |[],d,as,c,H,_,_,_,l,hl,g,m,k=>by
  have:=List.length_eq_zero_iff.mp hl
  subst this;rw[b9,b9]at k;have e:upd H q (.ins C dx<|d.zip c)=H:=by
   funext b
   by_cases hb:b=q
   .subst hb;rw[ak,m]
   .rw[aq hb]
  rw[e]at k;exact k
 |n::ns,d,[],c,H,_,_,_,l,hl,g,m,k=>by cases hl
 |n::ns,d,v::as,c,H,j,nd,i,l,hl,g,m,k=>by
  have s:(L2.start N all)[Hq c+1]?=U (U v):=by
   unfold L2.start;rw[j4<|by rw[g];simp,eX,g,List.getElem?_cons_succ,iB<|bP _,nY];rfl
  have u:(L2.start N all)[0]?=U (U<|.ref q):=by
   rw[g];rfl
  have A:=λz=>by
   rw[By]at nd;exact nd.2.2 n z n (d_ ..) J
  refine⟨v,s,.ref q,u,q,C,dx,d.zip c,J,m,cl,j n<|d_ ..,?_,?_⟩
  .rw[wW];rw[bU]at i;lia
  .have w:L2.eL n v (d.zip c)=(d++[n]).zip (c++[v]):=by
    have:=u_ (v:=v) (by
     rw[show d++n::ns=(d++[n])++ns by simp]at nd
     exact(By.mp nd).1) (by rw[l,iB<|bP _,nY];rfl)
    rw[<- this]
    congr 1
    have:∀(a:Bi)(b:List V)(r:Bi),Hq b=Hq a->a.zip b=(a++r).zip b:=by
     intro a
     induction a with
     |nil=>intro b r h;cases b with
      |nil=>simp
      |cons=>cases h
     |cons x a p=>intro b r h;cases b with
      |nil=>cases h
      |cons y b=>rw[rO,List.cons_append,rO,p b r<|by simpa using h]
    exact this d c _ l
   rw[w];have o:=Cw (all:=all) cl ns _ as _ (upd H q<|.ins C dx<|(d++[n]).zip<|c++[v]) (λf t=>j f<|eG _ t) (by simpa using nd) (by simpa using i) (by simp[l]) (by simpa using hl) (by rw[g];simp) ak (by
    rw[uM];simpa using k)
   rw[show(c++[v]).length+1=Hq c+1+1 by simp]at o
   exact o
theorem qt:∀(k:Int)(ts:FR),(eU k ts).length=Hq ts
 |_,[]=>J
 |k,_::ts=>dv (· + 1)<|qt _ ts
theorem Cy:∀(k:Nat)(ts:FR)(i:Nat)(t:T),ts[i]?=U t->(eU (k:Int) ts)[i]?=U (.tup [.int ((k+i:Nat):Int),t])
 |_,[],_,_,h=>by simp at h
 |k,_::ts,0,_,h=>by simp at h;subst h;rfl
 |k,_::ts,i+1,t,h=>by
  have:=Cy (k+1) ts i t (by simpa using h)
  rw[show k+(i+1)=k+1+i by lia]
  exact this
def Zm(hB:B.K=X.K)(m:Nat):∀σ H R,tI B (jf (m:Int) fa) σ H R->S8 X.K m (tA B<|ba fa a_) σ H R:=by
 rintro σ H R ⟨g,s,t,s',x,h,k⟩
 revert h;refine abK λtx D G=>abJ λts f=>λh=>?_;cases h;obtain⟨c,rfl,rfl⟩:∃c,tx=.lst c/\t=eU m c:=by
  cases tx<;>first|(cases f;done)|(cases f;exact⟨_,J,J⟩)
 have F:ba fa a_ s=.ok ([.lst c],D):=by
  show(fa s).bind _=_;rw[G];rfl
 refine⟨g,s,_,_,x,F,λM g1 H1 E n b=>?_⟩;obtain⟨v,rfl,l,z,rfl,q1,b⟩:=dH b;refine⟨l,z,J,dY.of<|n.sub _ _ q1,k _ g1 H1 E n ⟨λi u e a=>?_,λi u x N e a y=>?_,λi u e a=>?_⟩⟩
 .rw[qt,b.len]at a
  exact⟨a,dY.of<|e _ _ q1⟩
 .obtain⟨p,d,r,L,rfl,rfl⟩:=y
  obtain⟨t1,I,j⟩:=b.zZ L;refine⟨_,Cy m c i t1 I,λw C q=>⟨upd w p<|.tup [.int ((m+i)),d],.new q r,p,[.int ((m+i)),d],J,nB.of ak,?_⟩⟩;have A:=C.trans<|aW (o:=.tup [.int ((m+i)),d])<|q.free r;exact⟨.int ((m+i)),[d],J,J,.one<|j.same A⟩
 .rw[qt,b.len]at a
  exact⟨a,dY.of<|e _ _ q1⟩
def Zo(hB:B.K=X.K){b:Bz}{c:Nat}(f:Gl X "enumerate")(e:X.mg "enumerate" = Y)(g:PE X a<|tE B fa)(hs:noStar a=O):PI X (.Tuple b c d) (.Call (.Name "enumerate" p) [a] [] pos)<|tI B<|jf 0 fa:=
 nM (Yh f e (u7 g z7<|aw hs)<|aw hs)<|Zm hB 0
def Zp(hB:B.K=X.K){b:Bz}{c k1:Nat}{e d kp:Pos}(g:Gl X "enumerate")(f:X.mg "enumerate" = Y)(h:PE X a<|tE B fa)(hs:noStar a=O):PI X (.Tuple b c e) (.Call (.Name "enumerate" p) [a] [⟨U<|gs "start",.Constant (.int 1) k1 d,kp⟩] pos)<|tI B<|jf 1 fa:=
 nM (S9 g f (u7 h z7<|aw hs)<|aw hs)<|Zm hB 1
def Cz(c:bX o=O)(hs:es.all noStar=O)(hl:es.length<30)(a:(bT.endLine == pos.line)=O):yd X o m bT es pos:=by
 have b:methodCallForm (Hq es+0) (hG pos<|c3 es X.env) (o4 pos<|kS [] X.env)=O:=by
  unfold methodCallForm;rw[qo hs];show(O&&O&&decide (Hq es+0+0<30))=O;rw[b7<|show Hq es+0+0<30 from fU hl<|by decide];rfl
 refine⟨(do return(<- importBound o X.env).getD O),?_⟩
 show(do
  let ov <- kn o m X.env _
  ri bT.atName
  methodCall o m bT pos X.env ov (Hq es+0) _ _)=_
 rw[gu c];unfold methodCall;rw[b];unfold calleeOf methodCallPos;rw[a];rfl
def MU{n qual:Str}{f C:ax}(Fn:yi K n qual st f fd)(m:gS N ps<|aK st)
  (g:∀(i:Nat)(x:Str),N[i]?=U x->nA (aK st) x/\bB x/\gk x) (j:qq N 1 (cP st) ns=O) (hl:ps.length=ns.length+1) (cl:rF K C) (na:∀f∈ns,cO K C f) (nd:ns.Nodup) (EL:ns.length<=100) :
  cX Pr w K mg base lu (k+1) f fd ps<|spI C ns:=by
 refine Fn.ok m (λc H Q E h=>?_) λd A outer s H c Q E hr h=>?_
 .obtain⟨x,l,a,rfl,b,_⟩:=h
  rw[dU,b,hl]
 .obtain⟨x,l,a,rfl,b,e,q⟩:=h
  refine⟨ģ K 1 ns,Cu g _ ns 1 j,?_⟩;exact Cw cl ns [] a [] H na (by simpa using nd) (by simpa using EL) J b J (by simpa using e) (by simpa using q)
def spP(K:bD)(C:ax)(n:Str):Sp:=λb H Q _=>∃x a p ys,b=[.ref x,.ref p]/\H x=U (.ins C a [])/\dY K H p ys/\∀l,H l=Y->Q .non (upd (upd H l<|.lst ys) x<|.ins C a [(n,.ref l)])
def vm(st:gL):Option<|Str×Str×Str:=(Cs st).bind λw=>(kU w.2.2).bind λc=>(match c.2.1,c.2.2 with
 |[a],[]=>if c.1=("list" : Str)then(asName a).map λq=>(w.1,w.2.1,q)else Y
 |_,_=>Y)
def yj(h:vm st=U z):∃i g d pl pc pos,st=.Assign [.Attribute (.Name z.1 i) z.2.1 g] (.Call (.Name "list" pl) [.Name z.2.2 d] [] pc) pos:=by
 obtain⟨w,n,m⟩:=bV.mp h;obtain⟨⟨f,as,ks⟩,c,b⟩:=bV.mp m
 match as,ks,c,b with
 |[a],[],c,b=>
  dsimp only at b;split at b
  .rename_i e
   obtain⟨q,l,rfl⟩:=bZ.mp b;obtain⟨i,g,pos,rfl⟩:=vf n;obtain⟨pl,pc,k⟩:=fW c;obtain⟨d,j⟩:=c6 l;grind
  lia
def Ij{nm qual s0 q n:Str}{f C:ax}(Fn:yi K nm qual st f fd)(L:gS N ps<|aK st)
  (G:cP st=[j]) (I:vm j=U (s0,n,q)) (d:N[0]?=U s0) (c:N[1]?=U q) (b:∀(i:Nat)(x:Str),N[i]?=U x->nA (aK st) x/\bB x/\gk x) (D:mg "list" = Y) (F:(aK st).names.lookup ("list" : Str)=U .globalImplicit) (hl:ps.length=2) (cl:rF K C) (na:cO K C n) :
  cX Pr w K mg base lu (k+1) f fd ps<|spP K C n:=by
 obtain⟨S,R,M,P,pc,pos,rfl⟩:=yj I;refine Fn.ok L (λt H Q E h=>?_) λz A outer s H t Q E hr h=>?_
 .obtain⟨x,g,p,ys,rfl,_⟩:=h
  exact hl.symm
 .obtain⟨x,g,p,ys,rfl,a,B,k⟩:=h
  obtain⟨y,v,u⟩:=b 0 _ d;obtain⟨r,o,m⟩:=b 1 _ c;rw[G];refine⟨_,lF<|zN (cu d y v u) (iF iX F D xj<|aU (cu c r o m) cy) J,?_⟩;refine⟨.ref p,J,p,ys,J,.inl B,λl hl=>⟨.ref x,J,x,C,g,[],J,?_,cl,na,by decide,k l hl⟩⟩
  rw[aq (λe=>by subst e;rw[hl]at a;cases a)]
  exact a
structure DnP(P:Pg)(Pr:da)(w:de)(K:bD)(mg:Str->D2)(base:eh)(k:Nat)(c:Nat)(x:Str):Prop where
 ex:∃(C fi:ax)(fd:dA)(ps:Bi)(n:Str),iK (iu P K Pr w) c C [n]/\mg x=U (.ref C)/\Mk K C fi/\cX Pr w K mg base lu k fi fd ps (spP K C n)/\Binds K fd ps []
def Ul{k j c:Nat}(D:DnP P X.prog X.w X.K X.mg X.base k c x)(hr:bI j X.A)(W:k+1<=j)(ha:PE X e<|tE (P.kt X) fa)(hg:Gl X x)(Z:bB x)(hs:noStar e=O) :
  PE X (.Call (.Name x p) [e] [] pos)<|tE (P.kt X)<|dz (Tc c) fa:=by
 obtain⟨C,fi,fd,ps,n,hC,hm,M,F,f⟩:=D.ex;refine aX (oV M F (hr.mono W) hg hm f .nil nG (aU ha cy<|aw hs) Z (aw hs) J) λσ H Q L=>?_;obtain⟨g,s,t,s',z,h,k⟩:=L;revert h;refine abK λtx s1 h1=>abJ λt' r=>λh=>?_;cases h;cases tx<;>try(cases r;done)
 cases r;refine⟨g,s,_,_,z,h1,λv g1 H1 V m R x a nx nd I=>?_⟩;obtain⟨q,d,rfl,hq,N⟩:=R;have g2:=Gr.new (o:=.own x) m.sub nd;have y:upd H1 a (.own x) x=Y:=by rw[aq<|e7 I];exact nx
 have i:=m.sub _ _ hq;have T:q≠a:=λe=>by subst e;rw[nd]at i;cases i
 have S:q≠x:=λe=>by subst e;rw[nx]at i;cases i
 refine⟨x,a,q,d,J,ak,dY.of<|by rw[aq S,aq T];exact i,λl hl=>⟨J,?_⟩⟩
 have B:l≠x:=λe=>by subst e;rw[ak]at hl;cases hl
 have G:=by rw[aq B]at hl;exact hl
 have ld:l≠a:=λe=>by subst e;rw[ak]at G;cases G
 have g3:=Gr.new (o:=.lst d) g2.sub G;have u:upd (upd H1 a<|.own x) l (.lst d) x=Y:=by rw[aq<|e7 B];exact y
 have g4:=Gr.new (o:=.ins C a [(n,.ref l)]) g3.sub u;have e:upd (upd (upd (upd H1 a<|.own x) x<|.ins C a []) l<|.lst d) x (.ins C a [(n,.ref l)])=upd (upd (upd H1 a<|.own x) l<|.lst d) x (.ins C a [(n,.ref l)]):=by
  funext b
  by_cases f:b=x
  .subst f;rw[ak,ak]
  .rw[aq f,aq f]
   by_cases Ws:b=l
   .subst Ws;rw[ak,ak]
   .rw[aq Ws,aq Ws,aq f]
 rw[e];have E:=(g2.trans g3).trans g4;refine k _ _ _ (V.trans<|m.j_ E) (m.grow E) ⟨x,C,a,[n],[.ref l],J,hC,ak,bP _,?_,.one ⟨l,d,J,?_,N.same E.fr⟩⟩
 .show upd _ x _ a=_
  rw[aq I,aq<|e7 ld,ak]
 .show upd _ x _ l=_
  rw[aq B,ak]
theorem CA:∀{cs:B2}{bs:Fs},Hq cs=Hq bs->(∀(i:Nat)(c:ao)(b:Bool),cs[i]?=U c->bs[i]?=U b->pK K t c=U b)->Gg K t cs=U (bs.any id)
 |[],[],_,_=>J
 |[],_::_,h,_=>by cases h
 |_::_,[],h,_=>by cases h
 |c::cs,b::bs,hl,h=>by
  have d:=h 0 c b J J;have a:=CA (by simpa using hl) λi c b f e=>h (i+1) c b (by simpa using f) (by simpa using e)
  unfold Gg;rw[d];cases b with
  |true=>rfl
  |false=>exact a
def namesOf:Bz->Option Bi
 |[]=>U []
 |.Name x _::es=>(namesOf es).map (x::·)
 |_=>Y
theorem yk{Ds:BM}:∀{es:Bz}{ys:Bi}{Ds:BM},namesOf es=U ys->ys.length=Ds.length->(∀(i:Nat)(y:Str)(D:ax),ys[i]?=U y->Ds[i]?=U D->Gl X y/\X.mg y=U (.ref D)/\bB y)->PA X es (λ_ H Q=>Q (Ds.map V.ref) H)
 |[],_,Ds,h,hl,_=>by
  cases h;cases Ds with
  |nil=>exact cy
  |cons=>cases hl
 |e::es,ys,Ds,h,hl,k=>by
  cases e<;>try(cases h)
  rename_i x d;obtain⟨zs,a,rfl⟩:=bZ.mp<|h
  cases Ds with
  |nil=>cases hl
  |cons D Ds=>
   obtain⟨k1,k2,k3⟩:=k 0 x D J J;exact aU (oS (v:=.ref D) k1 k2 J k3) (yk (Ds:=Ds) a (by simpa using hl) λi y D c b=>k (i+1) y D (by simpa using c)<|by simpa using b) J
def Zr(qC:oH X.K X.mg P)(w:namesOf es=U ys)(hd:ys.length=ds.length)(G:∀(i d:Nat)(y:Str),ds[i]?=U d->ys[i]?=U y->P.cn[d]?=U y/\(P.fn[d]?).isSome=O/\Gl X y/\bB y)
  (hl:es.length<=100) (hm:X.mg "isinstance" = Y) (ha:PE X a<|tE (P.kt X) fa) (hg:Gl X "isinstance") (hs:noStar a=O) :
  PE X (.Call (.Name "isinstance" p) [a,.Tuple es u jy] [] pos)<|tE (P.kt X)<|dz (ir P.sub ds) fa:=by
 have cls:∀(ds:B1)(ys:Bi),ys.length=ds.length->(∀(i d:Nat)(y:Str),ds[i]?=U d->ys[i]?=U y->P.cn[d]?=U y/\(P.fn[d]?).isSome=O/\Gl X y/\bB y)->∃Ds:BM,Ds.length=ds.length/\∀(i:Nat)(y:Str)(D:ax),ys[i]?=U y->Ds[i]?=U D->X.mg y=U (.ref D):=by
  intro ds
  induction ds with
  |nil=>intro ys hl _;exact⟨[],J,λi y D _ h=>by simp at h⟩
  |cons d ds E=>
   intro ys hl h;cases ys with
   |nil=>cases hl
   |cons y ys=>
    obtain⟨A,q,_⟩:=h 0 d y J J;obtain⟨ns,W⟩:=GO.mp q;obtain⟨D,F⟩:=qC.cls d y ns A W;obtain⟨Ds,hD,k⟩:=E ys (by simpa using hl) λi d y f j=>h (i+1) d y (by simpa using f) (by simpa using j)
    refine⟨D::Ds,by simp[hD],λi T D' f j=>?_⟩
    cases i with
    |zero=>simp at f j;subst f j;exact F.gl
    |succ i=>exact k i T D' (by simpa using f) (by simpa using j)
 obtain⟨Ds,n,z⟩:=cls ds ys hd G;have get:∀(i:Nat)(y:Str),ys[i]?=U y->∃d,ds[i]?=U d:=λi y h=>by
  have:=(dw.mp h).1
  exact⟨_,dP<|by lia⟩
 have names:=yk (Ds:=Ds) w (by rw[hd,n]) λi y D f j=>by
  obtain⟨d,M⟩:=get i y f;obtain⟨_,_,h3,h4⟩:=G i d y M f;exact⟨h3,z i y D f j,h4⟩
 refine aX (gA Ii hg hm xl (aU ha (aU (Hc names) cy J)<|aw hs) (he:=aw hs)) λσ H Q S=>?_;obtain⟨g,s,t,s',x,h,k⟩:=S;revert h;refine abK λtx s1 A=>abJ λt' q=>λh=>?_;cases h;refine⟨g,s,_,_,x,A,λv g1 H1 p1 u r1=>?_⟩;have q:=au q;cases tx<;>try(cases q)
 obtain⟨l,LF,rfl⟩:=bZ.mp q;obtain⟨b,C,dx,FW,vs,rfl,hC,hq,hle,hdx,r⟩:=r1;obtain⟨m,L,aao,F⟩:=qC.of hC;have dX:=by
  have:∀(es:Bz)(ys:Bi),namesOf es=U ys->Hq ys=Hq es:=by
   intro es
   induction es with
   |nil=>intro ys h;cases h;rfl
   |cons e es E=>
    intro ys h;cases e<;>try(cases h)
    obtain⟨zs,A,rfl⟩:=bZ.mp<|h
    rw[dU,dU,E zs A]
  exact this es ys w
 refine⟨by rw[bQ,n,<- hd,dX];exact cJ hl<|by decide,λZ I=>?_⟩
 have g2:=Gr.new (o:=.tup<|Ds.map V.ref) u.sub I;have B:=CA (cs:=Ds.map Value.ref) (bs:=ds.map λd=>decide _) (by rw[bQ,bQ,n]) λi c bb f j=>by
  rw[eX]at f j;obtain⟨D,M,rfl⟩:=bZ.mp f;obtain⟨d,R,rfl⟩:=bZ.mp j;have hi:i<Hq ys:=by rw[hd];exact(dw.mp R).1
  have N:=dP hi;obtain⟨f1,_⟩:=G i d _ R N;exact qC.sub _ d m _ C D l L f1 F.gl (z i _ D N M) LF
 refine⟨b,C,dx,Z,_,Ds,_,J,g2.sub _ _<|g2.fr _ _ hq,F.cl,F.ca,qC.gt.1,qC.gt.2,F.mo,ak,B,?_⟩
 have:=k _ _ _ (p1.trans<|u.j_ g2) (u.grow g2) J
 rw[Gw];exact this
def Uo{o:Pos}(z:X.N[i]?=U y)(r:nA X.env.scope y)(hd:bB y)(q:gk y)(u:PE X b<|tE B fb)(hs:jR b) :
  PE X (.Subscript (.Name y o) b pos)<|tE B<|xU i fb:=by
 refine aX (Ql BQ (cu z r hd q) u hs) λσ H Q f=>?_;obtain⟨g,s,t,s',x,h,k⟩:=f;revert h;refine abJ λL D=>abK λty P C=>abJ λts A=>abJ λM a=>λh=>?_;cases h;obtain⟨l,K,d,I,G,F⟩:=x.oK<|eB<|au D;refine⟨_,d,g,s,ty,_,x,C,λv g1 H1 p c m=>?_⟩;obtain⟨R,E,q1,q2,n,q4⟩:=c.oK<|eB<|au A;rw[d]at q1;cases q1;have a:=au a;cases ty<;>try(cases a)
 obtain⟨w,e,j⟩:=u9 q4<|a;exact⟨l,E,_,w,J,m,dY.of n,e,k w g1 H1 p c j⟩
def jg:T->T->FV
 |.int i,.int j=>U<|.int<|i+j
 |_,_=>Y
def Zs(r:X.N.Nodup)(p:X.N[i]?=U x)(m:Loc X.env.scope x)(he:PE X e<|tE B fa)(q:F6 X x) :
  PS X (.AugAssign (.Name x cV) .Add e pos)<|tS B<|zY jg i fa:=cz (Sl r p m he Sm q) λD σ H b=>by
 obtain⟨g,s,o,s',z,h,k⟩:=b;unfold zY at h;split at h
 .rename_i tx hr
  revert h;refine abK λty d u=>abJ λt a=>λh=>?_;cases h;obtain⟨v,n,f⟩:=z.lc.at_ i _ hr;have a:=au a;cases tx<;>first|(cases a;done)|(cases ty<;>try(cases a;done))
  cases a;cases(show v=V.int _ from f);refine⟨_,n,g,s,_,d,z,u,λw g1 H1 l c j=>?_⟩;cases(show w=V.int _ from j);exact⟨_,_,J,J,k _ g1 H1 l<|c.set (t:=.int _) J⟩
 .cases h
def CF(K:bD)(mg:Str->D2)(x:Str)(t:T):Prop:=∃u v,mg x=U u/\RelV v u/\∀(B:KT)(al:BM)(H:Hp),B.K=K->Rep B al H t v
def Zt(h:CF X.K X.mg x t)(hB:B.K=X.K)(a:Gl X x)(hd:bB x):PE X (.Name x pos)<|tE B<|cF t:=by
 obtain⟨u,v,d,c,b⟩:=h;exact lL (oS a d c hd) λal H=>b B al H hB
def Zu{a:Fh}{c:oP}(g:X.xe=λ_ _=>False)(h:iz X a t):PS X (.Try a (c::hs) [] [] pos) t:=λd s σ H D I q=>by
 refine ui<|ey (h d s σ H D I q) (λf b z=>?_) λe b z=>?_
 .cases f with
  |next=>exact fv z
  |brk=>exact z
  |cont=>exact z
  |ret u=>exact z
 .rw[g]at z;exact z.elim
def MV(neg:Bool):T->T->FV
 |x,.f_ ks _=>(jF x).map λk=>.bl<|if neg then !decide (k∈ks)else decide (k∈ks)
 |_,_=>Y
def aI(op:lp)(x y:T):FV:=match op,y with
 |.In,.f_ ks a=>MV Zb x<|.f_ ks a
 |.NotIn,.f_ ks a=>MV O x<|.f_ ks a
 |op,y=>MG op x y
def Wt:Option (Option C)->Option (List Ky×FR)
 |U<|U<|.od ks ts=>U (ks,ts)
 |_=>Y
def nQ:lp->Option Bool
 |.In=>U Zb
 |.NotIn=>U O
 |_=>Y
def MW(neg:Bool)(i:Nat)(a:FE):FE:=λs=>(a s).bind λp=>(bu<|Wt p.2.r[i]?).bind λd=>(bu<|jF p.1).bind λk=>.ok (.bl<|if neg then !decide (k∈d.1)else decide (k∈d.1),p.2)
def Zv(i:Nat)(s:S):Bool:=(mR s.r[i]?).isSome
def CG(i:Nat):FS:=λs=>.ok (.nx,iT s i<|.od [] [])
def bx(ks:List Ky)(ts:FR)(k:Ky)(t:T):List Ky×FR:=if k∈ks then(ks,(ks.zip ts).map λp=>if p.1=k then t else p.2)else(ks++[k],ts++[t])
def QR(i:Nat)(b a:FE):FS:=λs=>(a s).bind λp=>(b p.2).bind λq=>(bu<|Wt p.2.r[i]?).bind λ_=>(bu<|Wt q.2.r[i]?).bind λd=>(bu<|jF q.1).bind λk=>(bu<|gd (Hq d.1<1000000) ()).bind λ_=>.ok (.nx,iT q.2 i<|let z:=bx d.1 d.2 k p.1;.od z.1 z.2)
def vn{a b:Ky}(h:lA a=lA b):a=b:=by
 cases a<;>cases b
 .injection h with h;rw[h]
 .cases h
 .cases h
 .injection h with h
  lia
def gU{k:Ky}(h:jF t=U k)(r:Rep B al H t v):v=kV (lA k):=by
 cases t<;>try(cases h;done)
 .cases h;exact r
 .cases h;exact r.1
theorem qu:∀{ks:List Ky}{vs:List V},Hq ks=Hq vs->∀k,(kJ ((ks.map lA).zip vs)<|lA k).isSome=decide (k∈ks)
 |[],_,_,k=>by rfl
 |q::ks,[],h,_=>by cases h
 |q::ks,v::vs,h,k=>by
  rw[gj,rO];by_cases e:q=k
  .rw[jB<|by rw[e]]
   simp[e]
  .rw[jC λz=>e<|vn z,qu (uH.inj h) k]
   grind
theorem CH{k:Ky}(rt:Rep B al H t v):∀{ks:List Ky}{vs:List V}{ts:FR},Hq ks=Hq vs->aF B al H ts vs ->
  ((ks.map lA).zip vs).map (λa=>if a.1=lA k then(a.1,v)else a)=(ks.map lA).zip ((ks.zip vs).map λp=>if p.1=k then v else p.2)/\ks.length=((ks.zip vs).map λp=>if p.1=k then v else p.2).length/\aF B al H ((ks.zip ts).map λp=>if p.1=k then t else p.2) ((ks.zip vs).map λp=>if p.1=k then v else p.2)
 |[],[],_,_,r=>⟨J,J,by cases ‹FR›<;>exact J⟩
 |q::ks,[],_,h,_=>by cases h
 |[],_::_,_,h,_=>by cases h
 |q::ks,u::vs,ts,h,r=>by
  cases ts with
  |nil=>cases(r)
  |cons i ts=>
   obtain⟨g,j,e,c,rs⟩:=r;cases e;obtain⟨b,f,d⟩:=CH rt (uH.inj h) rs;refine⟨?_,?_,?_⟩
   .simp only[gj,rO]at b ⊢
    rw[b];by_cases e:q=k
    .rw[b0<|by rw[e],b0 e]
    .rw[bt λz=>e<|vn z,bt e]
   .simp only[rO,gj,dU]
    rw[<- f]
   .simp only[rO,gj]
    refine⟨_,_,J,?_,d⟩;by_cases e:q=k
    .rw[b0 e,b0 e];exact rt
    .rw[bt e,bt e];exact c
def kW{k:Ky}(hl:Hq ks=Hq vs)(r:aF B al H ts vs)(rt:Rep B al H t v) :
  ∃a,L2.putK ((ks.map lA).zip vs) (lA k) v=((bx ks ts k t).1.map lA).zip a/\(bx ks ts k t).1.length=Hq a/\aF B al H (bx ks ts k t).2 a:=by
 unfold L2.putK bx;rw[p9,qu hl];by_cases e:k∈ks
 .rw[b0<|b7 e,b0 e]
  obtain⟨d,c,b⟩:=CH rt hl r;exact⟨_,d,c,b⟩
 .rw[bt<|by simpa using e,bt e]
  refine⟨vs++[v],?_,by simp[hl],r.app<|.one rt⟩
  rw[gf,List.zip_append<|by rw[bQ];exact hl]
  rfl
def Wu(neg:Bool):R2:=λx y H Q=>∃a o,y=.ref a/\rY H a x o/\Q (.bl<|if neg then !o.isSome else o.isSome) H
def Ik(d:X.A.units+1<kf):ic X (et .In)<|Wu Zb:=λi s σ H x y v u Q I c b z=>by
 obtain⟨a,o,e,g,q⟩:=z;subst e
 obtain rfl:u=Value.ref a:=b
 exact Ų d I g c λh f=>⟨.bl o.isSome,H,f,J,q⟩
def CI(d:X.A.units+1<kf):ic X (et .NotIn)<|Wu O:=λi s σ H x y v u Q I c b z=>by
 obtain⟨a,o,e,g,q⟩:=z;subst e
 obtain rfl:u=Value.ref a:=b
 exact Mu d I g c λh f=>⟨.bl _,H,f,J,q⟩
def QT(neg:Bool):tR X (MV neg)<|Wu neg:=λB hB al HF H x y t tx ty Q b d c h k=>by
 unfold MV at h;split at h
 case h_2=>cases h
 obtain⟨j,g,rfl⟩:=bZ.mp h;obtain⟨a,i,rfl,f,e,l⟩:=c;rw[gU g d];refine⟨a,_,J,.inl ⟨_,_,(f.same b).rd,J,J⟩,?_⟩;rw[qu e];exact k _ HF H (.refl b) J
def CJ(hr:bI k X.A):∃r,ic X (et op) r/\tR X (aI op) r:=by
 have g:X.A.units+1<kf:=by have:=hr.units;lia
 obtain⟨r,e,d⟩:=Tr hr;have f:(∀x y,aI op x y=MG op x y)->∃r,ic X _ r/\tR X (aI op) r:=λz=>⟨r,e,by
  have:=xY λx=>xY λy=>z x y
  exact this▸d⟩
 cases op
 case In=>exact⟨_,e.or<|Ik g,λB hB al HF H x y t tx ty Q a c b h k=>by
  unfold aI at h;split at h
  .exact .inr<|QT Zb B hB al HF H x y t tx _ Q a c b h k
  . lia
  .exact .inl<|d B hB al HF H x y t tx _ Q a c b h k⟩
 case NotIn=>exact⟨_,e.or<|CI g,λB hB al HF H x y t tx ty Q a c b h k=>by
  unfold aI at h;split at h
  . lia
  .exact .inr<|QT O B hB al HF H x y t tx _ Q a c b h k
  .exact .inl<|d B hB al HF H x y t tx _ Q a c b h k⟩
 all_goals exact f λx y=>by rfl
def Uq(hB:B.K=X.K)(hr:bI k X.A)(f:PE X a<|tE B fa)(e:PE X b<|tE B fb)(d:eR op b=Zb):PE X (.Compare a [op] [b] pos)<|tE B<|bo (aI op) fa fb:=by
 obtain⟨r,c,hl⟩:=CJ hr;exact aX (oU c f e d)<|nN hB hl
def MX(hB:B.K=X.K)(hr:bI k X.A)(f:PE X a<|tE B fa)(e:PE X b<|tE B fb)(d:eR op b=Zb):PT X (.Compare a [op] [b] pos)<|tT B<|aZ<|bo (aI op) fa fb:=by
 obtain⟨r,c,hl⟩:=CJ hr;exact B5 (lH c f e d) λσ H Q q=>nN hB hl σ H _<|Ce q
def vo{d:List Ky×FR}(h:Wt q=U d):q=U (U<|.od d.1 d.2):=by
 unfold Wt at h;split at h
 .cases h;rfl
 .cases h
def SR.Ur(x:SR B g H σ s)(h:s.r[i]?=U (U<|.od ks ts)):∃l vs,σ[i]?=U (U<|.ref l)/\g.o l=U (.loc i)/\H l=U (.dK<|(ks.map lA).zip vs)/\ks.length=Hq vs/\aF B g.al g.HF ts vs:=by
 obtain⟨v,e,l,vs,rfl,d,c,b,a⟩:=x.lc.at_ i _ h;exact⟨l,vs,e,d,c,b,a⟩
def Aq:∀σ H Q,tE B (MW neg i fa) σ H Q->Qg (Wu neg) (tE B fa) (GX i) σ H Q:=by
 rintro σ H Q ⟨g,s,t,s',x,h,k⟩
 revert h;refine abK λtx r n=>abJ λd m=>abJ λu j=>λh=>?_;cases h;refine⟨g,s,tx,_,x,n,λv g1 H1 p1 a f=>?_⟩;obtain⟨l,q,e,p,c,b,o⟩:=a.Ur<|vo<|au m;refine⟨_,e,?_⟩;rw[gU (au j) f];refine⟨l,_,J,.k c,?_⟩;rw[qu b];exact k _ g1 H1 p1 a J
def jL(a:X.A.units+1<kf)(h:nQ op=U neg):ic X (et op)<|Wu neg:=by
 cases op<;>try(cases h;done)
 .cases h;exact Ik a
 .cases h;exact CI a
def Us(hr:bI k X.A)(e:nQ op=U neg)(j:PE X a<|tE B fa)(l:X.N[i]?=U y)(c:nA X.env.scope y)(hd:bB y)(b:gk y) :
  PE X (.Compare a [op] [.Name y py] pos) (tE B<|MW neg i fa)/\PT X (.Compare a [op] [.Name y py] pos) (tT B<|aZ<|MW neg i fa):=by
 have d:X.A.units+1<kf:=by have:=hr.units;lia
 have f:eR op (.Name y py)=Zb:=by rfl
 have o:=lH (pos:=pos) (jL d e) j (cu l c hd b) f;refine⟨aX (oU (jL d e) j (cu l c hd b) f) Aq,λp m σ H Q I q=>?_⟩;obtain⟨g,s,t,s',x,h,n⟩:=Ce q;exact o p m σ H Q I<|Aq σ H _ ⟨g,s,t,s',x,h,n⟩
def Ut(p:X.N.Nodup)(l:X.N[i]?=U x)(j:Loc X.env.scope x)(m:F6 X x) :
  PS X (.Assign [.Name x cV] (.Dict [] [] dp) pos)<|tS B<|CG i:=cz (jw p l j xR J m) λD σ H z=>by
 obtain⟨g,s,o,s',x,h,k⟩:=z;cases h;intro q d;obtain⟨e,n1,n2⟩:=jm x d;have f:=x.grow e;have p1:=x.j_ e;refine k _ ((g.grow g.HF).own q _) _ ⟨p1.fr,p1.pre,λb u h n z=>?_,p1.there⟩<|f.Ž n2 n1 ak J J;obtain⟨a,r,c⟩:=p1.rest b u h n z
 have:=aS h d
 exact⟨a,r,by show(if b=q then U _ else g.o b)=Y;rw[bt this];exact c⟩
def Uu(hr:bI k X.A)(he:PE X e<|tE B fa)(L:PE X b<|tE B fb)(M:X.N[i]?=U y)(I:nA X.env.scope y)(hd:bB y)(G:gk y)
  (hs:eP e (U<|.Subscript (.Name y py) b cV) pos.line X.env=pure Zb) :
  PS X (.Assign [.Subscript (.Name y py) b cV] e pos)<|tS B<|QR i fb fa:=by
 have K:X.A.units+1<kf:=by have:=hr.units;lia
 refine cz (BW K (cu M I hd G) L he hs) λD σ H p=>?_;obtain⟨g,s,o,s',x,h,k⟩:=p;revert h;refine abK λt m V=>abK λtk s2 T=>abJ λd0 S=>abJ λd R=>abJ λF Q=>abJ λ_ P=>λh=>?_;obtain⟨z,_⟩:=bz<|au P;cases h;refine⟨g,s,t,m,x,V,λv g1 H1 p1 j w=>?_⟩;obtain⟨l,vs,a,w2,w3,w4,w5⟩:=j.Ur<|vo<|au S;refine⟨_,a,g1,m,tk,s2,j,T,λu g2 H2 c f r=>?_⟩;have n:=vo<|au R;obtain⟨l',gq,q1,q2,C,q4,q5⟩:=f.Ur n;rw[a]at q1;cases q1;obtain⟨Il,e1,Z,W⟩:=kW q4 q5<|w.mv c.pre c.fr;obtain⟨q,E⟩:=f.ž n a Z W;rw[gU (au Q) r];refine⟨l,_,J,.k C ?_,?_⟩
 .rw[wW,dZ]
  lia
 . exact e1▸k σ g2 _ ((p1.trans c).trans E) q
def vq(n:Nat)(m:FX):T->Option (Nat×C)
 |.own k=>(m[k]?).bind λob=>(match ob.fs with
  |[c]=>if ob.c=n then U (k,c)else Y
  |_=>Y)
 |_=>Y
def aas:C->FK
 |.ol ts=>U ts
 |_=>Y
def aat:C->Option (List Ky×FR)
 |.od ks ts=>U (ks,ts)
 |_=>Y
def Ar(n:Nat)(m:FX)(t:T):Option<|Nat×FR:=(vq n m t).bind λz=>(aas z.2).map λts=>(z.1,ts)
def kX(n:Nat)(m:FX)(t:T):Option<|Nat×List Ky×FR:=(vq n m t).bind λz=>(aat z.2).map λd=>(z.1,d.1,d.2)
def setB(n:Nat)(s:S)(k:Nat)(c:C):S:={s with m:=s.m.set k ⟨n,[c]⟩}
def mX(n:Nat):FE:=λs=>.ok (.own s.m.length,{s with m:=s.m++[⟨n,[.od [] []]⟩]})
def gW(n:Nat)(o a:FE):FS:=λs=>(o s).bind λp=>(bu<|Ar n p.2.m p.1).bind λ_=>(a p.2).bind λq=>(bu<|Ar n q.2.m p.1).bind λz=>(bu<|gd (Hq z.2<1000000) ()).bind λ_=>.ok (.nx,setB n q.2 z.1<|.ol<|z.2++[q.1])
def oN(n:Nat)(o b a:FE):FS:=λs=>(a s).bind λv=>(o v.2).bind λp=>(b p.2).bind λq=>(bu<|kX n q.2.m p.1).bind λz=>(bu<|jF q.1).bind λk=>(bu<|gd (Hq z.2.1<1000000) ()).bind λ_=>.ok (.nx,setB n q.2 z.1<|let y:=bx z.2.1 z.2.2 k v.1;.od y.1 y.2)
def yl(n:Nat)(neg:Bool)(a o:FE):FE:=λs=>(a s).bind λp=>(o p.2).bind λq=>(bu<|kX n q.2.m q.1).bind λz=>(bu<|jF p.1).bind λk=>.ok (.bl<|if neg then !decide (k∈z.2.1)else decide (k∈z.2.1),q.2)
def As(n:Nat)(o b:FE):FE:=λs=>(o s).bind λp=>(b p.2).bind λq=>(bu<|kX n q.2.m p.1).bind λz=>(bu<|jF q.1).bind λk=>(bu<|fV z.2.1 z.2.2 k).bind λt=>.ok (t,q.2)
def r9(n:Nat)(o b d:FE):FE:=λs=>(o s).bind λp=>(bu<|kX n p.2.m p.1).bind λ_=>(b p.2).bind λq=>(d q.2).bind λw=>(bu<|kX n w.2.m p.1).bind λz=>(bu<|jF q.1).bind λk=>.ok ((fV z.2.1 z.2.2 k).getD w.1,w.2)
def qv(h:vq n m t=U z):t=.own z.1/\m[z.1]?=U ⟨n,[z.2]⟩:=by
 cases t<;>try(cases h)
 obtain⟨ob,a,h⟩:=bV.mp<|h;obtain⟨d,fs⟩:=ob
 lia
def ym(h:Ar n m t=U z):t=.own z.1/\m[z.1]?=U ⟨n,[.ol z.2]⟩:=by
 obtain⟨w,d,b⟩:=bV.mp h;obtain⟨ts,a,rfl⟩:=bZ.mp b;obtain⟨f,e⟩:=qv d;obtain⟨k,c⟩:=w;cases c<;>try(cases a;done)
 cases a;exact⟨f,e⟩
def iL(h:kX n m t=U z):t=.own z.1/\m[z.1]?=U ⟨n,[.od z.2.1 z.2.2]⟩:=by
 obtain⟨w,e,b⟩:=bV.mp h;obtain⟨d,a,rfl⟩:=bZ.mp b;obtain⟨g,f⟩:=qv e;obtain⟨k,c⟩:=w;cases c<;>try(cases a;done)
 cases a;exact⟨g,f⟩
def SR.vt(x:SR B g H σ s)(b:B.cn[n]?=Y){c:C}(a:s.m[k]?=U ⟨n,[c]⟩)(d:g.al[k]?=U l):ĝ B g H k ⟨n,[c]⟩ l/\bK B g H (.ob k) c (.ref l):=by
 rcases x.st.at_ k _ a with⟨e,C,i,ns,h,Z⟩|⟨e,Z⟩
 .obtain⟨m,q,_⟩:=Z.cl
  rw[b]at q;cases q
 .have:=Z.al.symm.trans d
  cases this;exact⟨Z,Z.f c J⟩
def SR.yn{c:C}(x:SR B g H σ s)(t:B.cn[n]?=Y)(q:B.fn[n]?=Y)(n1:g.HF l=Y)(n2:g.o l=Y)(hl:H l=U u)(r:bK B (g.fq l) H (.ob g.al.length) c<|.ref l):SR B (g.fq l) H σ {s with m:=s.m++[⟨n,[c]⟩]}:=by
 have j:∀b a,g.o b=U a->(g.fq l).o b=U a:=λb a h=>by
  show(if b=l then U _ else g.o b)=_
  rw[bt λz=>by rw[z,n2]at h;cases h];exact h
 have pre:g.al <+: (g.fq l).al:=Bx _ _;refine⟨⟨x.sub,λb a e=>?_,?_,λk ob e=>?_⟩,x.lc.len,λi A e=>?_⟩
 .have e:(if b=l then U _ else g.o b)=U a:=e
  by_cases hb:b=l
  .subst hb;exact⟨n1,_,hl⟩
  .rw[bt hb]at e;exact x.st.live b a e
 .show(s.m++[_]).length=(g.al++[l]).length
  rw[bU,bU,x.st.len];rfl
 .have e:=e
  by_cases hk:k<Hq s.m
  .rw[j4 hk]at e
   exact(x.st.at_ k ob e).mv (aT.refl _) pre λb a h _=>⟨j b a h,J⟩
  .rw[iB<|by lia]at e
   have f:=by
    have:=(dw.mp e).1
    simp at this;exact this
   rw[f]at e;cases e;have p:k=Hq g.al:=by have:=x.st.len;lia
   subst p;refine .inr ⟨l,?_,t,q,λd z=>by cases z;exact r⟩
   show(g.al++[l])[Hq g.al]?=U l;rw[iB<|bP _,nY];rfl
 .obtain⟨v,y,w⟩:=x.lc.at_ i A e
  exact⟨v,y,bK.mv (g:=g) (g':=g.fq l) (aT.refl _) pre (λb h=>⟨j b _ h,J⟩) w⟩
def CK:(g.fq l).o l=U (.ob g.al.length):=by
 show(if l=l then U _ else g.o l)=_
 rw[b0 J]
def dE.yn(q:dE g H g1 H1)(e:H l=Y):dE g H (g1.fq l) H1:=⟨q.fr,q.pre.trans<|Bx _ _,λb u h n z=>by
 obtain⟨d,c,a⟩:=q.rest b u h n z;refine⟨d,c,?_⟩;show(if b=l then U _ else g1.o b)=Y
 rw[bt<|aS h e];exact a,q.there⟩
def yo(x:SR B g H σ s):Rep B (g.fq l).al (g.fq l).HF (.own s.m.length)<|.ref l:=⟨l,J,by
 show(g.al++[l])[Hq s.m]?=U l;rw[x.st.len,iB<|bP _,nY];rfl⟩
def Uv(j:B.cn[n]?=Y)(i:B.fn[n]?=Y)(he:PE X e<|tO B fl):PE X e<|tE B<|xW n fl:=aX he λσ H Q z=>by
 obtain⟨g,s,t,s',x,h,k⟩:=z;revert h;refine abK λts d m=>λh=>?_;cases h;exact⟨g,s,ts,d,x,m,λl b g1 H1 f a o n1 n2 hl r=>k _ _ H1 (f.yn o) (a.yn j i n1 n2 hl ⟨l,b,J,CK,hl,r.mv (Bx ..)<|aT.refl _⟩)<|yo a⟩
def Uw(f:B.cn[n]?=Y)(e:B.fn[n]?=Y):PE X (.Dict [] [] dp)<|tE B<|mX n:=aX xR λσ H Q z=>by
 obtain⟨g,s,t,s',x,h,k⟩:=z;cases h;intro q b;obtain⟨d,n1,n2⟩:=jm x b;have a:=x.grow d;exact k _ _ _ ((x.j_ d).yn b) (a.yn f e n1 n2 ak ⟨q,[],J,CK,ak,J,J⟩)<|yo a
def SR.QU{c c':C}(x:SR B g H σ s)(Z:ĝ B g H k ⟨n,[c]⟩ l)(hk:s.m[k]?=U ⟨n,[c]⟩)(y:g.o l=U (.ob k))(r:bK B g (upd H l u) (.ob k) c'<|.ref l) :
  dE g H g (upd H l u)/\SR B g (upd H l u) σ (setB n s k c'):=by
 have ne:∀b q,g.o b=U q->q≠.ob k->upd H l u b=H b:=λb q a t=>aq λz=>t (by lia)
 refine⟨oX y,⟨⟨λb w e=>?_,λb q e=>?_,by show(s.m.set k _).length=_;rw[fF];exact x.st.len,λp D e=>?_⟩,x.lc.len,λi c e=>?_⟩⟩
 .have:b≠l:=λz=>by rw[z,(x.st.live l _ y).1]at e;lia
  rw[aq this];exact x.sub _ _ e
 .obtain⟨f,w,A⟩:=x.st.live b q e
  by_cases a:b=l
  .exact⟨f,_,by rw[a,ak]⟩
  .exact⟨f,w,by rw[aq a];lia⟩
 .have e:(s.m.set k _)[p]?=U D:=e
  by_cases r8:k=p
  .subst r8
   rw[f9 (dw.mp hk).1]at e;cases e;exact .inr ⟨l,Z.al,Z.nc,Z.nf,λd z=>by lia⟩
  .rw[e9 r8]at e
   refine(x.st.at_ p D e).mv (aT.refl _) fH λb q h t=>⟨h,ne b q h ?_⟩;lia
 .obtain⟨v,f,A⟩:=x.lc.at_ i c e
  exact⟨v,f,bK.mv (aT.refl _) fH (λb a=>⟨a,ne b _ a λz=>by lia⟩) A⟩
def Ux(q:B.cn[n]?=Y)(I:PE X o<|tE B fo)(K:bX o=O)(he:PE X e<|tE B fa)(hs:noStar e=O)(G:(bT.endLine == bq.line)=O) :
  PS X (.Expr (.Call (.Attribute o "append" bT) [e] [] bq) pos)<|tS B<|gW n fo fa:=by
 refine cz (jQ (xJ i4 n7 n6 jS I (aU he cy<|aw hs) (gu K) (EL (by rw[dW,hs];rfl)<|by decide) G (aw hs) J) J) λD σ H z=>?_
 obtain⟨g,s,V,s',x,h,k⟩:=z;revert h;refine abK λtx j Q=>abJ λz0 P=>abK λt s2 N=>abJ λz M=>abJ λ_ L=>λh=>?_;obtain⟨hz,_⟩:=bz<|au L;cases h;obtain⟨r,m1⟩:=ym<|au P;obtain⟨a,m2⟩:=ym<|au M;subst r;refine⟨g,s,_,j,x,Q,λv g1 H1 E i A=>?_⟩;obtain⟨l,rfl,d⟩:=A;obtain⟨W,l1,w,q1,o1,c,_⟩:=i.vt q m1 d;cases q1;refine⟨.inl ⟨J,_,dY.of c⟩,g1,j,t,s2,i,N,λv g2 Z p f y=>?_⟩;have R:z.1=z0.1:=by injection a with a;exact a.symm
 rw[<- R]at d;obtain⟨S,l2,T,q2,o2,b,m⟩:=f.vt q m2<|fj p.pre d;cases q2;obtain⟨C,u⟩:=f.QU (c':=.ol _) S m2 o2 ⟨l,_,J,o2,ak,m.app<|.one y⟩;exact⟨l,T,v,J,J,b,by rw[<- m.len];exact fU hz<|by decide,k σ g2 _ ((E.trans p).trans C) u⟩
def Zw(P:B.cn[n]?=Y)(hr:bI K X.A)(he:PE X e<|tE B fa)(M:PE X o<|tE B fo)(Q:PE X b<|tE B fb)(hs:eP e (U<|.Subscript o b cV) pos.line X.env=pure Zb) :
  PS X (.Assign [.Subscript o b cV] e pos)<|tS B<|oN n fo fb fa:=by
 have L:X.A.units+1<kf:=by have:=hr.units;lia
 refine cz (BW L M Q he hs) λD σ H z=>?_;obtain⟨g,s,oo,s',x,h,k⟩:=z;revert h;refine abK λt j h1=>abK λtx s2 h2=>abK λtk r W=>abJ λz V=>abJ λf T=>abJ λ_ S=>λh=>?_;obtain⟨hz,_⟩:=bz<|au S;cases h;obtain⟨c,m1⟩:=iL<|au V;subst c;refine⟨g,s,t,j,x,h1,λv g1 H1 I q F=>⟨g1,j,_,s2,q,h2,λw g2 H2 d p E=>⟨g2,s2,tk,r,p,W,λu g3 H3 a i C=>?_⟩⟩⟩;obtain⟨l,rfl,R⟩:=E;obtain⟨Z,l1,vs,q1,o1,N,hl,y⟩:=i.vt P m1<|fj a.pre R;cases q1;obtain⟨Il,c,e2,e3⟩:=kW hl y<|(F.mv d.pre d.fr).mv a.pre a.fr;obtain⟨G,m⟩:=i.QU (c':=.od ..) Z m1 o1 ⟨l,Il,J,o1,ak,e2,e3⟩;rw[gU (au T) C];refine⟨l,_,J,.k N ?_,?_⟩
 .rw[wW,dZ]
  lia
 . exact c▸k σ g3 _ (((I.trans d).trans a).trans G) m
def QV(o:B.cn[n]?=Y):∀σ H Q,tE B (yl n neg fa fo) σ H Q->Qg (Wu neg) (tE B fa) (tE B fo) σ H Q:=by
 rintro σ H Q ⟨g,s,t,s',x,h,k⟩
 revert h;refine abK λtx b y=>abK λty s2 u=>abJ λz r=>abJ λE q=>λh=>?_;cases h;obtain⟨c,m1⟩:=iL<|au r;subst c;refine⟨g,s,tx,b,x,y,λv g1 H1 j d f=>⟨g1,b,_,s2,d,u,λw g2 A i a e=>?_⟩⟩;obtain⟨l,rfl,p⟩:=e;obtain⟨Z,l1,C,q1,o1,m,hl,D⟩:=a.vt o m1 p;cases q1;rw[gU (au q) f];refine⟨l,_,J,.k m,?_⟩;rw[qu hl];exact k _ g2 A (j.trans i) a J
def Uy{b:Nat}(f:B.cn[n]?=Y)(hr:bI b X.A)(d:nQ op=U neg)(g:PE X a<|tE B fa)(c:PE X o<|tE B fo)(e:eR op o=Zb):PE X (.Compare a [op] [o] pos)<|tE B<|yl n neg fa fo:=
 aX (oU (jL (by have:=hr.units;lia) d) g c e)<|QV f
def Uz{b:Nat}(f:B.cn[n]?=Y)(hr:bI b X.A)(d:nQ op=U neg)(g:PE X a<|tE B fa)(c:PE X o<|tE B fo)(e:eR op o=Zb):PT X (.Compare a [op] [o] pos)<|tT B<|aZ<|yl n neg fa fo:=
 B5 (lH (jL (by have:=hr.units;lia) d) g c e) λσ H Q q=>QV f σ H _<|Ce q
theorem o_{k:Ky}:∀{ks:List Ky}{ts:FR}{vs:List V},Hq ks=Hq vs->aF B al HF ts vs->(∀t,fV ks ts k=U t->∃v,kJ ((ks.map lA).zip vs) (lA k)=U v/\Rep B al HF t v)/\(fV ks ts k=Y->kJ ((ks.map lA).zip vs) (lA k)=Y)
 |[],ts,[],_,r=>by
  refine⟨λt h=>?_,λ_=>J⟩;cases ts<;>cases h
 |[],_,_::_,h,_=>by cases h
 |q::ks,_,[],h,_=>by cases h
 |q::ks,[],u::vs,h,r=>by cases(r)
 |q::ks,t::ts,u::vs,h,r=>by
  obtain⟨c,f,e,b,rs⟩:=r;cases e;rw[gj,rO];by_cases e:q=k
  .rw[jB<|by rw[e]]
   refine⟨λd a=>?_,λa=>?_⟩
   .rw[fV,b0 e]at a
    cases a;exact⟨u,J,b⟩
   .rw[fV,b0 e]at a;cases a
  .rw[jC λz=>e<|vn z,fV,bt e]
   exact o_ (uH.inj h) rs
def Zx(E:B.cn[n]?=Y)(hr:bI u X.A)(C:PE X o<|tE B fo)(F:PE X b<|tE B fb)(hs:S3 b):PE X (.Subscript o b pos)<|tE B<|As n fo fb:=by
 refine aX (BV (by have:=hr.units;lia) C F hs) λσ H Q z=>?_
 obtain⟨g,s,t,s',x,h,k⟩:=z;revert h;refine abK λtx c N=>abK λty s2 M=>abJ λz L=>abJ λr K=>abJ λS I=>λh=>?_;cases h;obtain⟨e,m1⟩:=iL<|au L;subst e;refine⟨g,s,_,c,x,N,λv g1 H1 q f p=>⟨g1,c,ty,s2,f,M,λw g2 P d a m=>?_⟩⟩;obtain⟨l,rfl,G⟩:=p;obtain⟨Z,l1,R,q1,o1,D,hl,j⟩:=a.vt E m1<|fj d.pre G;cases q1;obtain⟨v,y,i⟩:=(o_ hl j).1 _<|au I;rw[gU (au K) m];exact⟨l,v,J,y▸.k D,k v g2 P (q.trans d) a i⟩
def Zy{V:Nat}(D:B.cn[n]?=Y)(hr:bI V X.A)(ho:PE X o<|tE B fo)(hb:PE X b<|tE B fb)(hd:PE X f<|tE B fc)(m:M2 X o "get" bT b f bq):PE X (.Call (.Attribute o "get" bT) [b,f] [] bq)<|tE B<|r9 n fo fb fc:=by
 refine aX (Hv (by have:=hr.units;lia) ho hb hd m) λσ H Q z=>?_
 obtain⟨g,s,t,s',x,h,k⟩:=z;revert h;refine abK λtx r h1=>abJ λz0 h2=>abK λty s2 h3=>abK λK M h4=>abJ λz h5=>abJ λC h6=>λh=>?_;cases h;obtain⟨E,m1⟩:=iL<|au h2;obtain⟨a,m2⟩:=iL<|au h5;subst E;refine⟨g,s,_,r,x,h1,λv g1 H1 u q T=>?_⟩;obtain⟨l,rfl,p⟩:=T;obtain⟨Z1,l1,I,q1,o1,j,_⟩:=q.vt D m1 p;cases q1;refine⟨l,J,.inl ⟨_,.inl j⟩,g1,r,ty,s2,q,h3,λw g2 H2 i G S=>⟨g2,s2,K,M,G,h4,λy g3 F d c R=>?_⟩⟩;have ek:z.1=z0.1:=by injection a with a;exact a.symm
 rw[<- ek]at p;obtain⟨Z,l2,vs,q2,o2,hh,hl,P⟩:=c.vt D m2<|fj d.pre<|fj i.pre p;cases q2;rw[gU (au h6) S];obtain⟨g4,g5⟩:=o_ hl P;refine⟨_,.k hh,?_⟩;cases e:fV _ _ C with
 |none=>rw[e]at k;rw[g5 e];exact k _ g3 F ((u.trans i).trans d) c R
 |some L=>
  rw[e]at k;obtain⟨v,W,N⟩:=g4 L e;rw[W];exact k _ g3 F ((u.trans i).trans d) c N
section
variable{c c':C}{a Q dx:ax}
def eQ.one(x:eQ B g H m)(hk:m[k]?=U ob)(Z:FY B g H k ob a Q dx ns vs)(t:vs[j]?=U w)(sub:aT g'.HF H')(live:∀b p,g'.o b=U p->g'.HF b=Y/\∃u,H' b=U u)(fr:aT g.HF g'.HF)(A:g'.al=g.al)
  (r:∀l p,g.o l=U p->p≠.fld k j->(∀i,p≠.loc i)->g'.o l=U p/\H' l=H l) (q:bK B g' H' (.fld k j) c' w):eQ B g' H'<|m.set k ⟨ob.c,ob.fs.set j c'⟩:=by
 have pre:g.al <+: g'.al:=by rw[A];exact fH
 refine⟨sub,live,by rw[fF,A];exact x.len,λs D e=>?_⟩
 by_cases r8:k=s
 .subst r8
  rw[f9 (dw.mp hk).1]at e;cases e;obtain⟨C,G⟩:=r a _ Z.o (λz=>by cases z) (λi z=>by cases z)
  refine .inl ⟨a,Q,dx,ns,vs,fj pre Z.al,C,Z.cl,G.trans Z.h,Z.le,by rw[fF];exact Z.ln,λn d e=>?_⟩
  by_cases hj:j=n
  .subst hj
   have I:j<Hq ob.fs:=by rw[<- Z.ln];exact(dw.mp t).1
   have e:=e;rw[f9 I]at e;cases e;exact⟨w,t,q⟩
  .have e:=e
   rw[e9 hj]at e;obtain⟨v,F,E⟩:=Z.f n d e;exact⟨v,F,E.mv fr pre λl z=>r l _ z (λz=>hj<|by cases z;rfl) (λi z=>by cases z)⟩
 .rw[e9 r8]at e
  refine(x.at_ s D e).mv fr pre λl p h y=>r l p h ?_ ?_
  .rcases y with rfl|⟨n,rfl⟩
   .exact λz=>by cases z
   .exact λz=>r8 (by cases z;rfl)
  .rcases y with rfl|⟨n,rfl⟩
   .exact λi z=>by cases z
   .exact λi z=>by cases z
end
def jh(tab:Ap)(f:Nat)(m:FX):T->Option (Nat×Ob×Nat×C)
 |.own k=>(m[k]?).bind λob=>(iY tab ob.c f).bind λj=>(ob.fs[j]?).map λc=>(k,ob,j,c)
 |_=>Y
def Im(m:FX)(z:Nat×Ob×Nat×C)(c:C):FX:=m.set z.1 ⟨z.2.1.c,z.2.1.fs.set z.2.2.1 c⟩
def UA:C->FV
 |.ol ts=>U<|.lst ts
 |.od ks ts=>U<|.f_ ks ts
 |_=>Y
def i7(n:Nat)(tab:Ap)(f:Nat)(a:FE):FE:=λs=>(a s).bind λp=>(bu<|jh tab f p.2.m p.1).bind λz=>match z.2.2.2 with
 |.val t=>(match vq n p.2.m t with
  |some y=>(bu<|UA y.2).bind λu=>.ok (u,{p.2 with m:=Im (p.2.m.set y.1 ⟨n,[]⟩) z (.val u)})
  |none=>.ok (t,p.2))
 |_=>.bad
def Au(tab:Ap)(f:Nat)(b:T->T->FV)(o a:FE):FS:=λs=>(o s).bind λp=>(bu<|jh tab f p.2.m p.1).bind λz=>match z.2.2.2 with
 |.val t=>(a p.2).bind λq=>(bu<|jh tab f q.2.m p.1).bind λy=>(bu<|gd (y.2.1.c=z.2.1.c) ()).bind λ_=>(bu<|b t q.1).bind λu=>.ok (.nx,{q.2 with m:=Im q.2.m y (.val u)})
 |_=>.bad
def SR.MY(G:oH X.K X.mg P){n:Str}(u:P.an[f]?=U n)(x:SR (P.kt X) g H σ s)(h:jh P.tab f s.m t=U z)(r:Rep (P.kt X) g.al g.HF t v) :
  ∃a b dx ns vs w,v=.ref a/\FY (P.kt X) g H z.1 z.2.1 a b dx ns vs/\s.m[z.1]?=U z.2.1/\vs[z.2.2.1]?=U w/\bK (P.kt X) g H (.fld z.1 z.2.2.1) z.2.2.2 w/\rF X.K b/\cO X.K b n/\(ns.zip vs).lookup n=U w:=by
 cases t<;>try(cases h)
 rename_i k;obtain⟨ob,o,h⟩:=bV.mp<|h;revert h;refine abc λj i=>λh=>?_;obtain⟨c,A,rfl⟩:=bZ.mp h;obtain⟨a,rfl,y⟩:=r;rcases x.st.at_ k ob o with⟨B,b,dx,ns,vs,Z⟩|⟨B,Z⟩
 case inr=>
  obtain⟨l,q,_⟩:=bV.mp i;have z:(P.tab.map _)[ob.c]?=Y:=Z.nf;rw[eX,q]at z;cases z
 have:=Z.al.symm.trans y
 cases this;obtain⟨D,E,p,F⟩:=G.of Z.cl;have e:=oZ u p i;obtain⟨w,d,sl⟩:=Z.f j c A;exact⟨a,b,dx,ns,vs,w,J,Z,o,d,sl,F.cl,F.na _<|ji e,by rw[iZ F.nd e,d]⟩
def SR.aau{c:C}(x:SR B g H σ s)(Z:ĝ B g H k ⟨n,[c]⟩ l)(hk:s.m[k]?=U ⟨n,[c]⟩)(f:g.o l=U (.ob k)) :
  dE g H (g.iD l u) (upd H l u)/\SR B (g.iD l u) (upd H l u) σ {s with m:=s.m.set k ⟨n,[]⟩}:=by
 have y:=(x.st.live l _ f).1;have ne:∀b p,g.o b=U p->p≠.ob k->(g.iD l u).o b=U p:=λb p a r=>by
  have:b≠l:=λe=>r (by lia)
  show(if b=l then Y else g.o b)=_
  lia
 refine⟨u6 f y,⟨⟨λb w e=>?_,λb q e=>?_,by rw[fF];exact x.st.len,λt E e=>?_⟩,x.lc.len,λi d e=>?_⟩⟩
 .have e:upd g.HF l u b=U w:=e
  by_cases a:b=l
  .subst a;rw[ak]at e ⊢;lia
  .rw[aq a]at e ⊢;exact x.sub _ _ e
 .have e:(if b=l then Y else g.o b)=U q:=e
  by_cases a:b=l
  . lia
  .rw[bt a]at e
   obtain⟨D,A⟩:=x.st.live b q e;exact⟨by show upd g.HF l u b=Y;rw[aq a];lia,(aq a)▸A⟩
 .have e:=e
  by_cases r8:k=t
  .subst r8
   rw[f9 (dw.mp hk).1]at e;cases e;exact .inr ⟨l,Z.al,Z.nc,Z.nf,λd z=>by lia⟩
  .rw[e9 r8]at e
   refine(x.st.at_ t E e).mv (aW y) fH λb q h F=>?_;have r:q≠.ob k:=by
    lia
   exact⟨ne b q h r,aq λz=>r<|by lia⟩
 .obtain⟨v,D,A⟩:=x.lc.at_ i d e
  exact⟨v,D,qh f y (λz=>by lia) A⟩
def SR.aav{a c dx:ax}(x:SR B g H σ s)(hk:s.m[z.1]?=U z.2.1)(Z:FY B g H z.1 z.2.1 a c dx ns vs)(b:vs[z.2.2.1]?=U w)(q:bK B g H (.fld z.1 z.2.2.1) c' w):SR B g H σ {s with m:=Im s.m z c'}:=
 ⟨x.st.one hk Z b x.st.sub x.st.live (aT.refl _) J (λ_ _ h _ _=>⟨h,J⟩) q,x.lc⟩
def ua(h:jh tab f m t=U z):t=.own z.1/\m[z.1]?=U z.2.1/\iY tab z.2.1.c f=U z.2.2.1/\z.2.1.fs[z.2.2.1]?=U z.2.2.2:=by
 cases t<;>try(cases h)
 obtain⟨ob,d,h⟩:=bV.mp<|h;revert h;refine abc λj b=>λh=>?_;obtain⟨c,a,rfl⟩:=bZ.mp h;exact⟨J,d,b,a⟩
def MZ{c:C}(h:UA c=U u)(q:bK B g H (.ob k) c<|.ref l)(lv:g.HF l=Y):g.o l=U (.ob k)/\Rl H λH'=>∃b,H'=upd H l b/\Rep B (g.iD l b).al (g.iD l b).HF u (.ref l):=by
 cases c<;>try(cases h;done)
 .cases h
  obtain⟨i,a,e,d,f,r⟩:=q;cases e;exact⟨d,.inl ⟨_,(Hy f).symm,l,a,J,ak,r.mv fH<|aW lv⟩⟩
 .cases h
  obtain⟨i,a,e,d,f,hl,r⟩:=q;cases e;exact⟨d,.inr ⟨l,_,f,λob=>⟨_,J,l,a,J,⟨ob,ak⟩,hl,r.mv fH<|aW lv⟩⟩⟩
def UB(qC:oH X.K X.mg P)(V:P.cn[n]?=Y)(T:P.an[f]?=U nm)(he:PE X e<|tE (P.kt X) fa)(o:bX e=O):PE X (.Attribute e nm pos)<|tE (P.kt X)<|i7 n P.tab f fa:=by
 refine aX (Qv<|Hb he<|gu o) λσ H Q z=>?_;obtain⟨g,s,t,s',x,h,k⟩:=z;revert h;refine abK λtx d h1=>abJ λz h2=>λh=>?_;have hz:=au h2;refine⟨g,s,_,d,x,h1,λv g1 H1 S b R=>?_⟩;obtain⟨a,Ca,dx,ns,vs,w,rfl,Z,hk,hw,sl,cl,na,lk⟩:=b.MY qC T hz R;refine⟨a,Ca,dx,_,w,J,Z.h,cl,na,lk,?_⟩;obtain⟨A,ob,j,c⟩:=z;cases c<;>try(cases h)
 rename_i tv;dsimp only at h;cases o:vq n d.m tv with
 |none=>
  rw[o]at h;cases h;exact .inl<|k w g1 H1 S b sl
 |some y=>
  rw[o]at h;revert h;refine abJ λu B=>λh=>?_;cases h;obtain⟨p,m1⟩:=qv o;subst p;obtain⟨l,rfl,W⟩:=sl;obtain⟨ZB,C⟩:=b.vt V m1 W;have F:g1.HF l=Y:=by
   obtain⟨kb,cb⟩:=y;cases cb<;>try(cases B)
   .obtain⟨D,_,e,i,_⟩:=C
    cases e;exact(b.st.live l _ i).1
   .obtain⟨D,_,e,i,_⟩:=C
    cases e;exact(b.st.live l _ i).1
  obtain⟨i,rl⟩:=MZ (au B) C F;refine rl.imp λH2 zz=>?_;obtain⟨hu,rfl,N⟩:=zz;obtain⟨r,M⟩:=b.aau (u:=hu) ZB m1 i;obtain⟨e0,p,L,e3⟩:=ua hz;dsimp only at e0 p L e3;have r8:y.1≠A:=λz=>by
   rw[z,p]at m1;cases m1;obtain⟨mm,q2,_⟩:=Z.cl;rw[V]at q2;cases q2
  have G:(d.m.set y.1 ⟨n,[]⟩)[A]?=U ob:=by rw[e9 r8];exact p
  have E:jh P.tab f (d.m.set y.1 ⟨n,[]⟩) tx=U (A,ob,j,.val<|.own y.1):=by
   rw[e0];show((d.m.set _ _)[A]?).bind _=_;rw[G];show(iY P.tab ob.c f).bind _=_;rw[L];show(ob.fs[j]?).map _=_;rw[e3];rfl
  obtain⟨a',Ca',Ĕ,FW,gq,w',e4,Z',I,Ĥ,Qa,_⟩:=M.MY qC T E<|R.mv r.pre r.fr;obtain⟨D,e5,ė⟩:=Qa
  have:=by
   have q:=fj r.pre W;rw[q]at ė;exact lD.inj ė
  subst this;subst e5;exact k _ _ _ (S.trans r) (M.aav I Z' Ĥ N) N
def E2(h:jg t u=U w):∃i j,t=.int i/\u=.int j/\w=.int (i+j):=by
 cases t<;>first|(cases h;done)|(cases u<;>first|(cases h;done)|(cases h;exact⟨_,_,J,J,J⟩))
def Zz(qC:oH X.K X.mg P)(m:P.an[f]?=U nm)(W:PE X o<|tE (P.kt X) fo)(he:PE X e<|tE (P.kt X) fa):PS X (.AugAssign (.Attribute o nm cV) .Add e pos)<|tS (P.kt X)<|Au P.tab f jg fo fa:=by
 refine cz (Et W he SD) λD σ H z=>?_;obtain⟨g,s,oo,s',x,h,k⟩:=z;revert h;refine abK λtx B h1=>abJ λz h2=>λh=>?_;have hz:=au h2;refine⟨g,s,_,B,x,h1,λv g1 H1 Q A C=>?_⟩;obtain⟨a,Ca,dx,ns,vs,w,rfl,Z,hk,hw,sl,cl,na,lk⟩:=A.MY qC m hz C;refine⟨a,Ca,dx,_,w,J,Z.h,cl,na,lk,?_⟩;obtain⟨k0,ob,j,c⟩:=z;cases c<;>try(cases h)
 revert h;refine abK λty s2 h3=>abJ λy h4=>abJ λ_ h5=>λh=>?_;obtain⟨r,_⟩:=bz<|au h5;revert h;refine abJ λu n=>λh=>?_;cases h;have n:=au n;obtain⟨i,d,rfl,rfl,rfl⟩:=E2 n;cases(sl);refine⟨g1,B,_,s2,A,h3,λL g2 H2 l t M=>?_⟩;cases(M);refine⟨_,_,J,J,?_⟩;have F:=au h4;obtain⟨a2,Ca2,p,R,Il,w3,e4,q,hk2,S,_,_⟩:=t.MY qC m F<|C.mv l.pre l.fr;cases e4;obtain⟨k2,b,E,c2⟩:=y;have r:=r;have G:=q.cl;rw[r]at G;obtain⟨rfl,rfl⟩:=G.eq Z.cl;obtain⟨e0,e1,e2,e3⟩:=ua F;have T:gE P.tab f (.val<|.int<|i+d) b=U ⟨b.c,b.fs.set E<|.val<|.int<|i+d⟩:=by
  unfold gE;rw[e2];show(setAt b.fs E _).map _=_;unfold setAt;rw[b0 (dw.mp e3).1];rfl
 obtain⟨_,_,hl,gq,e5,N,I⟩:=Co qC m t q e1 T λj=>J;refine⟨p,_,q.h,hl,?_⟩;rw[e5];exact k σ g2 _ ((Q.trans l).trans N) I
def ZA(c:FT)(a b:FL):FL:=λs=>(c s).bind λp=>if p.1 then a p.2 else b p.2
def cpO:T->FK
 |.tup ts=>U ts
 |.lst ts=>U ts
 |_=>Y
def o1(g:T->FK)(a:FE):FL:=λs=>(a s).bind λp=>(bu<|g p.1).bind λts=>.ok (ts,p.2)
def Io:T->T->FK
 |.lst a,.int k=>gd (k<1000000/\-1000000<k/\a.length*k.toNat<=1000000) (cK k.toNat a).flatten
 |_,_=>Y
def o2(g:T->T->FK)(a b:FE):FL:=λs=>(a s).bind λp=>(b p.2).bind λq=>(bu<|g p.1 q.1).bind λts=>.ok (ts,q.2)
def E3:T->FK
 |.int j=>gd (0<=j/\j<1000000)<|mF 0 j.toNat
 |_=>Y
def E4:FR->FK
 |[.int i,.int j,.int k]=>gd (j=-1/\k=-1/\-1<=i/\i<1000000)<|(cU (i+1).toNat).map λk=>.int<|i-(k:Nat)
 |_=>Y
def Ip:T->FK
 |.lst ts=>U ts.reverse
 |_=>Y
def isSlice:cx->Bool
 |.Slice _ _ _ _=>O
 |_=>Zb
def Lu(i:Nat)(b a:FE):FS:=λs=>match Zv i s with
 |true=>eL i b a s
 |false=>QR i b a s
def ZC(q:PT X c<|tT B ft)(u:PE X a<|tO B fl)(r:PE X b<|tO B gl):PE X (.IfExp c a b pos)<|tO B<|ZA ft fl gl:=aX (xq q u r) λσ H Q z=>by
 obtain⟨g,s,t,s',x,h,k⟩:=z;revert h;refine abK λd j v=>λh=>?_;refine⟨g,s,d,j,x,v,λg1 H1 e p=>?_⟩;cases d with
 |true=>exact oq ⟨g1,j,_,_,p,h,λl i g2 o m f n=>k l i g2 o (e.trans m) f<|e.there l n⟩
 |false=>exact om ⟨g1,j,_,_,p,h,λl i g2 o m f n=>k l i g2 o (e.trans m) f<|e.there l n⟩
def ZD(hB:B.K=X.K)(m:X.mg "list" = Y)(n:Gl X "list")(o:PE X a<|tE B fa)(hs:noStar a=O):PE X (.Call (.Name "list" p) [a] [] pos)<|tO B<|o1 cpO fa:=by
 refine aX (iF iX n m xj (aU o cy<|aw hs) (by decide) (by rfl) (aw hs) J) λσ H Q z=>?_
 obtain⟨g,s,t,s',x,h,k⟩:=z;revert h;refine abK λtx j w=>abJ λts d=>λh=>?_;cases h;refine⟨g,s,tx,j,x,w,λv g1 H1 f c e=>?_⟩;have b:=λ{xs} r l hl=>by
  obtain⟨i,n1,n2⟩:=jm c hl;exact k l xs _ _ (f.trans<|c.j_ i) (c.grow i) (f.there l hl) n1 n2 ak r
 cases tx<;>try(cases d;done)
 .cases d
  obtain⟨l,xs,rfl,q,r⟩:=e;exact⟨l,xs,J,.inr<|hB▸cZ c.sub q,b r⟩
 .cases d
  obtain⟨l,xs,rfl,q,r⟩:=e;exact⟨l,xs,J,.inl<|dY.of<|c.sub _ _ q,b r⟩
def UC(D:PE X a<|tE B fa)(C:PE X b<|tE B fb):PE X (.BinOp a .Mult b pos)<|tO B<|o2 Io fa fb:=by
 refine aX (nC Hm D C) λσ H Q z=>?_;obtain⟨g,s,t,s',x,h,k⟩:=z;revert h;refine abK λtx i F=>abK λty s2 E=>abJ λts d=>λh=>?_;cases h;have d:=au d;refine⟨g,s,tx,i,x,F,λv g1 H1 j o A=>⟨g1,i,ty,s2,o,E,λw g2 G f e y=>?_⟩⟩;cases tx<;>first|(cases d;done)|(cases ty<;>try(cases d;done))
 obtain⟨c,rfl⟩:=bz d;obtain⟨l,xs,rfl,q,r⟩:=A.mv f.pre f.fr;refine⟨l,_,xs,J,y,e.sub _ _ q,by lia,by lia,by rw[<- r.len,dZ];lia,λp m=>?_⟩
 obtain⟨n,n1,n2⟩:=jm (u:=.lst (cK _ xs).flatten) e m;exact k p _ _ _ ((j.trans f).trans<|e.j_ n) (e.grow n) (j.there p<|f.there p m) n1 n2 ak<|r.flat _
def M0(h:E3 t=U ts):∃j,t=.int j/\(0<=j/\j<1000000)/\ts=mF 0 j.toNat:=by
 cases t<;>try(cases h)
 obtain⟨c,rfl⟩:=bz h;exact⟨_,J,c,J⟩
def QW(I:X.calm=O)(n:X.mg "list" = Y)(m:X.mg "range" = Y)(ĥ:Gl X "list")(r:Gl X "range")(K:PE X a<|tE B fa){d A:Pos}(hs:noStar a=O) :
  PE X (.Call (.Name "list" p) [.Call (.Name "range" d) [a] [] A] [] pos)<|tO B<|o1 E3 fa:=by
 refine aX (iF (rW I) ĥ n xj (aU (iF EH r m PyProof.Rows.boot_range (aU K cy<|aw hs) (by decide) (by decide) (aw hs) J) cy<|aw J) (by decide) (by decide) (aw J) J) λσ H Q z=>?_
 obtain⟨g,s,t,s',x,h,k⟩:=z;revert h;refine abK λtx C L=>abJ λts w=>λh=>?_;cases h;have w:=au w;obtain⟨j,rfl,c,rfl⟩:=M0 w;refine⟨g,s,_,C,x,L,λv g1 H1 d i D=>?_⟩;cases D;refine⟨j,J,λq G=>⟨q,j,J,ak,c.1,by lia,λl hl=>?_⟩⟩
 obtain⟨y,n1,n2⟩:=jm i G;have f:=i.grow y;obtain⟨b,F,E⟩:=jm f hl;have M:=(aS ak hl).symm;have o:H1 l=Y:=by rw[aq M]at hl;exact hl
 have e:((cU j.toNat).map λk=>V.int (k:Nat))=(cU j.toNat).map λk=>V.int<|0+((k:Nat)):=by
  apply wV;intro k _;rw[P5]
 refine k l _ _ _ ((d.trans<|i.j_ y).trans<|f.j_ b) (f.grow b) (d.there l o) F E ak ?_;rw[e];exact aF.mF 0 _
theorem aF.rev:∀{ts:FR}{vs:List V},aF B al H ts vs->aF B al H ts.reverse vs.reverse
 |[],_,h=>by have h:=h;subst h;rfl
 |t::ts,_,h=>by
  obtain⟨v,r,rfl,b,a⟩:=h;rw[Gz,Gz];exact a.rev.app<|.one b
def M1{a b c:T}(h:E4 [a,b,c]=U ts):∃i,a=.int i/\b=.int (-1)/\c=.int (-1)/\-1<=i/\i<1000000/\ts=(cU (i+1).toNat).map λk=>.int<|i-(k:Nat):=by
 cases a<;>first|(cases h;done)|(cases b<;>first|(cases h;done)|(cases c<;>try(cases h;done)))
 obtain⟨⟨rfl,rfl,e,d⟩,rfl⟩:=bz h;exact⟨_,J,J,J,e,d,J⟩
def UD(E:Gl X "range")(D:X.mg "range" = Y)(I:PE X a<|tE B fa)(G:PE X b<|tE B fb)(F:PE X c<|tE B fc)(hs:[a,b,c].all noStar=O):PI X tg (.Call (.Name "range" p) [a,b,c] [] pos)<|tI B<|EM E4<|ba fa<|ba fb<|ba fc a_:=by
 simp[dW,Py,sO,cL]at hs;obtain⟨k1,k2,k3⟩:=hs;have P:c3 [c] X.env=[(Zb,eE c X.env)]:=aw k3;have j:c3 [b,c] X.env=[(Zb,eE b X.env),(Zb,eE c X.env)]:=by rw[aw k2,P]
 have Q:c3 [a,b,c] X.env=[(Zb,eE a X.env),(Zb,eE b X.env),(Zb,eE c X.env)]:=by rw[aw k1,j]
 refine nM (Mp E D (aU I (aU G (aU F cy<|aw k3)<|aw k2)<|aw k1) Q j) λσ H R z=>?_;obtain⟨g,s,t,s',x,h,k⟩:=z;revert h;refine abK λts s1 f=>abJ λT N=>λh=>?_;cases h;revert f;refine abK λtx s2 M=>abK λty s3 e=>λf=>?_;cases f;revert e;refine abK λV s4 L=>abK λW s5 d=>λe=>?_;cases e;revert d;refine abK λZ s6 K=>λd=>?_;cases d;obtain⟨i,rfl,rfl,rfl,l1,l2,rfl⟩:=M1<|au N;refine⟨g,s,_,_,x,M,λv g1 H1 C n r=>⟨g1,_,_,_,n,L,λw g2 H2 A m q=>⟨g2,_,_,_,m,K,λu g3 S y l o=>?_⟩⟩⟩;cases r;cases q;cases o;exact⟨_,J,l1,by lia,k _ g3 S ((C.trans A).trans y) l<|lR (H_ ..)<|aF.dwn ..⟩
def ZE(C:Gl X "reversed")(A:X.mg "reversed" = Y)(D:PE X a<|tE B fa)(hs:noStar a=O):PI X tg (.Call (.Name "reversed" p) [a] [] pos)<|tI B<|o1 Ip fa:=by
 have m:c3 [a] X.env=[(Zb,eE a X.env)]:=aw hs;refine nM (SS C A (aU D cy m) m) λσ H R z=>?_;obtain⟨g,s,t,s',x,h,k⟩:=z;revert h;refine abK λtx c E=>abJ λts d=>λh=>?_;cases h;cases tx<;>try(cases d;done)
 cases d;refine⟨g,s,_,c,x,E,λv g1 H1 w f u=>?_⟩;obtain⟨l,j,rfl,q,r⟩:=u;refine⟨l,j,J,dY.of<|f.sub _ _ q,k _ g1 H1 w f ⟨λi H1 c b=>?_,λi H1 x I c b y=>?_,λi H1 c b=>?_⟩⟩
 .rw[GA,r.len]at b
  exact⟨b,dY.of<|c _ _ q⟩
 .rw[GA,r.len]at b
  obtain⟨rfl,e⟩:=y;have e':j.reverse[i]?=U x:=by rw[List.getElem?_reverse b];exact e
  obtain⟨t,G,F⟩:=r.rev.zZ e';exact⟨t,G,λn s2 o=>⟨n,.refl o,F.same s2⟩⟩
 .rw[GA,r.len]at b
  exact b
def ZF(K:PE X b<|tE B fb)(he:PE X e<|tE B fa)(L:X.N[i]?=U y)(I:nA X.env.scope y)(hd:bB y)(G:gk y)(hs:eP e (U<|.Subscript (.Name y py) b m) pos.line X.env=pure Zb)(W:isSlice b=Zb) :
  PS X (.Assign [.Subscript (.Name y py) b m] e pos)<|tS B<|eL i fb fa:=by
 refine cz (G5 he (Sk (cu L I hd G) K set_list λv=>?_) hs J J) λD σ H z=>?_
 .cases b<;>first|rfl|(cases W)
 obtain⟨g,s,oo,s',x,h,k⟩:=z;revert h;refine abK λt n T=>abJ λQX S=>abK λtk s2 R=>abJ λts Q=>abJ λj P=>abJ λus M=>λh=>?_;obtain⟨⟨q,Z⟩,rfl⟩:=bz<|au M;cases h;have V:=Cg<|au P;subst V;refine⟨g,s,t,n,x,T,λv g1 H1 F f A=>?_⟩;obtain⟨l,vs,a,w2,w3,w4⟩:=f.oK<|eB<|au S;refine⟨_,a,g1,n,_,s2,f,R,λu g2 H2 c d w=>?_⟩;have o:=eB<|au Q;obtain⟨l',p,q1,q2,C,q4⟩:=d.oK o;rw[a]at q1;cases q1;cases w;obtain⟨r,E⟩:=d.chg o a<|q4.set (A.mv c.pre c.fr) j.toNat;have hl:=q4.len;refine⟨l,p,j,j.toNat,J,J,C,?_,k σ g2 _ ((F.trans c).trans E) r⟩;unfold Mc;rw[b0 q,b0<|by lia]
def aaw{py a:Pos}(hr:bI k X.A)(l:PE X b<|tE B fb)(he:PE X e<|tE B fa)(m:X.N[i]?=U y)(f:nA X.env.scope y)(hd:bB y)(d:gk y)(hs:eP e (U<|.Subscript (.Name y py) b a) pos.line X.env=pure Zb)(o:isSlice b=Zb) :
  PS X (.Assign [.Subscript (.Name y py) b a] e pos)<|tS B<|Lu i fb fa:=λn sh σ H D I z=>by
 obtain⟨g,s,c,s',x,h,k⟩:=z;unfold Lu at h;cases j:Zv i s with
 |true=>
  rw[j]at h;exact ZF l he m f hd d hs o n sh σ H D I ⟨g,s,c,s',x,h,k⟩
 |false=>
  rw[j]at h;exact Uu hr he l m f hd d hs n sh σ H D I ⟨g,s,c,s',x,h,k⟩
def jV:cx->Option Const
 |.Constant c _ _=>U c
 |_=>Y
def aax:T->Bool
 |.f_ _ _=>O
 |_=>Zb
def ZG(hB:B.K=X.K)(hr:bI L X.A)(m:PE X a<|tE B fa)(j:PE X b<|tE B fb)(hs:jR b):PE X (.Subscript a b pos)<|tE B<|bo BX fa fb:=λr sh σ H Q I z=>by
 obtain⟨g,s,t,s',x,h,k⟩:=z;obtain⟨⟨tx,c⟩,p,f⟩:=aa h;revert f;refine abK λty s2 o=>abJ λT n=>λf=>?_;cases f;cases hd:aax tx with
 |false=>
  refine Tu hB m j hs r sh σ H Q I ⟨g,s,t,_,x,?_,k⟩;have e:fL tx ty=BX tx ty:=by cases tx<;>first|rfl|(cases hd)
  unfold bo;rw[p];show(fb c).bind _=_;rw[o];show(bu _).bind _=_;rw[e,n];rfl
 |true=>
  cases tx<;>try(cases hd)
  obtain⟨G,P,N⟩:=bV.mp<|au n;refine BV (by have:=hr.units;lia) m j hs r sh σ H Q I ⟨g,s,_,c,x,p,λv g1 H1 F u E=>⟨g1,c,ty,s2,u,o,λw g2 R d i D=>?_⟩⟩
  obtain⟨l,S,rfl,q,hl,C⟩:=E.mv d.pre d.fr;obtain⟨v,M,y⟩:=(o_ hl C).1 _ N;rw[gU P D];exact⟨l,v,J,M▸.inl ⟨_,_,(q.same i.sub).rd,J,J⟩,k v g2 R (F.trans d) i y⟩
def mY{q}(h:jV e=U q):∃k p,e=.Constant q k p:=by
 cases e<;>first|(cases h;done)|(cases h;exact⟨_,_,J⟩)
end D
namespace PySem
open Sem (wp)
end PySem
namespace L2
open PySem PySem.Spec PyProof.Rows
end L2
namespace D
open PySem L2
def UE:FR->FV
 |[.int i,.int j]=>U<|.int<|if j > i then j else i
 |_=>Y
def ZH:LN X UE λxs H Q=>∃i j,xs=[.int i,.int j]/\Q (.int<|if j > i then j else i) H:=λB hB al HF H xs t ts Q a r h k=>by
 match ts,h with
 |[.int i,.int j],h=>
  cases h;obtain⟨v,e,rfl,c,r⟩:=r;obtain⟨w,d,rfl,b,r⟩:=r;cases r;cases c;cases b;exact⟨i,j,J,k _ HF H (.refl a) J⟩
end D
namespace Ts
open PySem PyProof.Rows
variable{A:ef}
def qw(j:s.heap.get? a=U (seqObj "list" vs.toArray n))(c:wC vs g)(hl:vs.length<64)
  (h:∀(o:Array ao)(b:Bi),wC o.toList b->b.Perm g->sortedS b=O->P (.done<|.ret .none) {s with heap:=sortedHeap s.heap a vs o}) :
  c4 (cv prog w) A (Builtin.«list.sort» ⟨[.ref a],[]⟩) P E s:=by
 refine list_sort_treeK strKind_oneLt j c.keysOf (λf d rest e=>keyKind_strs<|e▸c) hl λp i hs=>?_
 obtain⟨b,m,l,k⟩:=sorted_out_str c i hs;exact h _ b m l k
end Ts
namespace L2
open PySem PySem.Spec PyProof.Rows PySem.W
def qz(l:Ap):Ap:=l.mergeSort λa b=>!decide (b<a)
def mZ(l:Ap):(qz l).Perm l:=List.mergeSort_perm ..
def uc{a b c:B1}(e:¬ b<a)(d:¬ c<b):¬ c<a:=λh=>by
 grind
def Iq(l:Ap):(qz l).Pairwise λa b=>¬ b<a:=by
 have:=List.pairwise_mergeSort (le:=λa b:B1=>!decide (b<a)) (λa b c e d=>by
  simp only[zE,lx]at e d ⊢;exact uc e d) (λa b=>by
  simp only[w_,zE,lx];exact List.le_total a b) l
 exact this.imp λh=>by simpa using h
theorem Ir:∀{l:Bi}{p:Str},risingS p l=O->((p::l).map λx=>x.cps.toList).Pairwise λa b=>¬ b<a
 |[],p,_=>List.pairwise_singleton ..
 |x::l,p,h=>by
  have h:(!ltCps x.cps.toList p.cps.toList&&risingS x l)=O:=h;rw[cL,ltCps_eq]at h;have d:=Ir h.2;refine Pz.mpr ⟨λy c=>?_,d⟩;have e:=by simpa using h.1
  rcases bM.mp c with rfl|c
  .exact e
  .exact uc e<|(Pz.mp d).1 y c
def Iu(p:c.Perm d)(h:sortedS c=O):(c.map λx=>x.cps.toList)=qz (d.map λx=>x.cps.toList):=by
 refine List.Perm.eq_of_pairwise (λa b _ _ f e=>List.le_antisymm f e) ?_ (Iq _)<|(p.map _).trans (mZ _).symm;cases c with
 |nil=>exact PB.nil
 |cons x l=>exact Ir h
theorem jW:∀{vs:B2}{a:Bi},wC vs a->Vals (a.map V.str) vs
 |_,_,.nil=>.nil
 |_,_,.cons x t h=>.cons ⟨t,J⟩<|jW h
variable{X:Cx}{A:ef}
def M3:∀{vs:B2},vs.length=a.length->(∀(j:Nat)(v:ao),vs[j]?=U v->∃x t,a[j]?=U x/\v=Value.str x t)->wC vs a:=by
 induction a with
 |nil=>intro vs hl _;cases vs with
  |nil=>exact .nil
  |cons _ _=>simp at hl
 |cons x a b=>
  intro vs hl h;cases vs with
  |nil=>simp at hl
  |cons v vs=>
   obtain⟨y,t,e,rfl⟩:=h 0 v J;cases e;exact .cons x t<|b (by simpa using hl) λj u c=>h (j+1) u c
def Av{g:Bi}(K:KdlSrc X.prog X.w T r d n P R)(C:A.handled=Y)(I:Inv X M N H s)(bF:R s.heap)(L:n<64)(hl:g.length=n)(G:∀(i:Nat)(v:ao),P i v->∃x t,g[i]?=U x/\v=Value.str x t)
  (q:∀(l:ax)(f:Bi),H l=Y->(f.map λx=>x.cps.toList)=qz (g.map λx=>x.cps.toList)->Q (.ref l) (upd H l<|.lst<|f.map V.str)):c4 (cv X.prog X.w) A (call (.builtin "sorted") [.ref r]) (EP X M N Q) E s:=by
 have p:n<=16777216:=by lia
 refine Calls.call_function_entry kind_sorted plain_sorted entry_sorted (args_sorted1 _) ?_;refine av<|dn ?_;refine av<|kdu_collect K C bF (by exact p) λa tk c hk ZI=>?_
 have h:c.toList.length=n:=by exact ZI.1
 have F:=M3 (h.trans hl.symm) λj v e=>G j v<|ZI.2 j v<|by rw[<- xk];exact e
 refine av<|wpAny_newList ?_<|by rw[h];exact p
 have k:(a.push _).get? a.objs.size=U (seqObj "list" c.toList.toArray 0):=c5 _ J;refine av<|ke<|wpAny_call_entry slot_list_sort ⟨_,k,J⟩ entry_list_sort (Ts.qw k F (by rw[h];exact L) λout f a1 a2 a3=>⟨_,J,?_⟩)<|args_list_sort _
 obtain⟨e,D⟩:=sortedHeap_at k;have B:=I.kept (t':=tk) hk
 have kp:∀b u,a.get? b=U u->(sortedHeap (a.push<|seqObj "list" c.toList.toArray 0) a.objs.size c.toList out).get? b=U u:=λb u y=>by
  have z:=cw y;rw[sortedHeap_old (eV z)<|by rw[size_push'];exact Gk z]
  exact ar _ y
 have lo:out.toList.length=n:=by
  rw[<- (jW a1).length,bQ,a2.length_eq];exact hl
 refine dn ⟨_,J,⟨.ref a.objs.size,_,B.laid kp (bP _) (o:=.lst _) ⟨?_,out.toList,e,jW a1,?_⟩,J,q _ f ?_<|Iu a2 a3⟩⟩
 .rw[(jW a1).length,lo];exact p
 . exact D
 .exact B.bF.fresh<|bP _
def ZJ(kvs:List<|Key×V)(a:Bi):Prop:=kvs.map (·.1)=a.map λx=>(.inr x:Key)
def ZJ.at_(h:ZJ kvs a)(r:KV kvs vs){i:Nat}(e:vs[i]?=U (k,x))(b:(ck X.prog X.w).is k u=O):∃y t,a[i]?=U y/\u=Value.str y t:=by
 have c:(vs.map (·.1))[i]?=U k:=by rw[eX,e];rfl
 rw[<- r.keys,h,eX]at c;obtain⟨y,d,rfl⟩:=bZ.mp c;obtain⟨t,rfl⟩:=y9<|b;exact⟨y,t,d,J⟩
def vv(m:X.calm=O):fM X (.builtin "sorted") λxs H Q=>∃d kvs a,xs=[.ref d]/\Rd H d (.dK kvs)/\ZJ kvs a/\a.length<64/\∀(l:ax)(e:Bi),H l=Y->(e.map λx=>x.cps.toList)=qz (a.map λx=>x.cps.toList)->Q (.ref l) (upd H l<|.lst<|e.map V.str):=by
 intro M s N H xs y Q I r h;obtain⟨d,kvs,a,rfl,hd,hk,n,q⟩:=h;obtain⟨u,rfl,g⟩:=vals1 r;cases g;obtain⟨z,lo,c,f,t⟩:=nJ I.bF hd;obtain⟨ep,b⟩:=t.dictAt;have hl:a.length=c.length:=by have:=dv Bs hk;simp only[bQ]at this;rw[<- this,f.length]
 refine Av (kdl_dict lo) (I.ok.hd m) I b (by rw[<- hl];exact n) hl (λi v j=>?_) q
 obtain⟨k,x,p,o⟩:=j;exact hk.at_ f p o
end L2
namespace D
open PySem L2
def yq:List Ky->Option Ap
 |[]=>U []
 |.s x::r=>(yq r).map (x::·)
 |_::_=>Y
theorem ud:∀{ks:List Ky}{xs:Ap},yq ks=U xs->ks=xs.map Ky.s
 |[],_,h=>by cases h;rfl
 |.s x::r,_,h=>by
  obtain⟨y,a,rfl⟩:=bZ.mp h;rw[gj,<- ud a]
 |.i _::_,_,h=>by cases h
def Iv(ks:List Ky):FV:=(yq ks).bind λxs=>gd (xs.length<64/\(xs.all λx=>decide<|x.length<=1000000)=O)<|.lst<|(qz xs).map T.str
def Iw(n:Nat)(o:FE):FE:=λs=>(o s).bind λp=>(bu<|kX n p.2.m p.1).bind λz=>(bu<|Iv z.2.1).bind λt=>.ok (t,p.2)
section
variable{a b o:cx}
def M4{xs:Ap}{a:Bi}(h:(a.map λx=>x.cps.toList)=xs):a.map V.str=xs.map SV:=by
 subst h;simp
theorem CL:∀{l:Ap},(∀x∈l,x.length<=1000000)->aF B al HF (l.map T.str) (l.map SV)
 |[],_=>J
 |x::l,h=>⟨SV x,_,J,⟨J,h x<|d_ ..⟩,CL λy a=>h y<|eG _ a⟩
def M5{t:T}(h:Iv ks=U t)(hl:Hq ks=Hq vs)(x:SR B g H M s){Q:VK}
  (k:∀v g' H',dE g H g' H'->SR B g' H' M s->Rep B g'.al g'.HF t v->Q v H') :
  ∃a:Bi,ZJ ((ks.map lA).zip vs) a/\a.length<64/\∀(l:ax)(b:Bi),H l=Y->(b.map λx=>x.cps.toList)=qz (a.map λx=>x.cps.toList)->Q (.ref l) (upd H l<|.lst<|b.map V.str):=by
 revert h;refine abc λxs j=>λh=>?_;obtain⟨⟨i,f⟩,rfl⟩:=bz h;have e:=ud j;refine⟨xs.map λx=>⟨x.toArray⟩,?_,by rw[bQ];exact i,λl b m hs=>?_⟩
 .unfold ZJ
  rw[List.map_fst_zip<|by rw[bQ,hl];exact bP _,e,j5,j5]
  rfl
 .rw[j5,show((λx:Str=>x.cps.toList)∘λx:B1=>⟨x.toArray⟩)=id from xY λx=>by simp,Pq]at hs
  rw[M4 hs];have c:=Gr.new (o:=.lst<|(qz xs).map SV) x.sub m;refine k _ _ _ (x.j_ c) (x.grow c) ⟨l,_,J,ak,CL λy d=>?_⟩;exact bh<|fJ.mp f y<|(mZ xs).mem_iff.mp d
def ZK(a:X.calm=O)(y:B.cn[n]?=Y)(m:PE X o<|tE B N)(hs:noStar o=O)(w:Gl X "sorted")(q:X.mg "sorted" = Y):PE X (.Call (.Name "sorted" p) [o] [] pos)<|tE B<|Iw n N:=by
 refine aX (gA (vv a) w q PyProof.Rows.boot_sorted (aU m cy<|aw hs) (he:=aw hs)) λM H Q z=>?_;obtain⟨g,s,t,K,x,h,k⟩:=z;revert h;refine abK λtx e E=>abJ λz D=>abJ λt C=>λh=>?_;cases h;obtain⟨c,m1⟩:=iL<|au D;subst c;refine⟨g,s,_,e,x,E,λv g1 H1 j b f=>?_⟩;obtain⟨l,rfl,A⟩:=f;obtain⟨Z,l1,I,q1,o1,u,hl,L⟩:=b.vt y m1 A;cases q1;obtain⟨d,q2,i⟩:=M5 (au C) hl b λv F G p x r=>k v F G (j.trans p) x r;exact⟨_,_,d,J,.inl u,q2,i⟩
def aH:FR->Option Ee
 |[]=>U []
 |.int i::r=>(aH r).map (i::·)
 |_::_=>Y
end
end D
namespace PySem
open Sem (wp)
end PySem
namespace L2
open PySem PySem.Spec PyProof.Rows
end L2
namespace D
open PySem L2
end D
namespace L2
open PySem PySem.Spec PyProof.Rows
end L2
namespace D
open PySem L2
end D
namespace L2
open PySem
def Iz(f:Array ao->Array ao)(o:Obj):(j2 f o).dict=o.dict:=by
 unfold j2;split<;>rfl
def Wv(h:eh)(e:ax)(d:Option ax×ao):Prop:=∃o a,h.get? e=U o/\o.dict=d.1/\o.data=.fields a/\a[2]?=U d.2
variable{A:ef}{s:ag}
def IA
  (v:A.frames=U (env::outer)) (hl:s.heap.FunFrames base<|env::outer) (x:env.frame=U L)
  (he:s.heap.get? e=U i) (QY:base.StaysIn s.heap) (D:base.get? e=Y) (hd:i.data=.fields vs) (hsz:1<vs.size) (C:vs[0]?=U a0) (B:vs[2]?=U c2)
  (h:∀h',Heap.NotedW base (env::outer) e i.cls a0 (pb L) s.heap h'->Wv h' e (i.dict,c2)->Q () {s with heap:=h'}) :
  c4 M A (do let a <- frameOf env;let k <- entryPlaceOf L w;let b <- u5 c a .none (pb L) .none k;setField (.ref e) 1 b) Q E s:=by
 have ne:e∉(env::outer).filterMap _:=λz=>by
  obtain⟨_,o,q,n⟩:=hl.mem z;grind
 refine av<|wpAny_frameOf_fun v hl x λg l=>av<|wpAny_entryPlaceOf λk j=>?_;refine av<|wpAny_newObj_type ?_<|j.sizeOk5 ..;have t:=(l.2.1 e ne).trans he;have b1:base.StaysIn g:=λb o q=>(l.2.1 b λz=>by rw[(hl.mem z).1]at q;lia).trans<|QY b o q
 obtain⟨f,d⟩:∃f:Obj,f={cls:=.type "traceback",dict:=Y,data:=.fields ([c,.ref L,.none,pb L,.none]++(if k.isEmpty then cK 6 ih else k)).toArray}:=⟨_,J⟩
 rw[<- d];have r:=ar f t;have u:=Ea<|cw t;have d3:=ra hd (·.setIfInBounds 1<|Value.ref g.objs.size)
 have p:=k4 _ r<|zi d3
 have t3:=(fy (g.push f) (j2 (·.setIfInBounds 1<|Value.ref g.objs.size))<|e7 u).trans<|c5 g<|by rw[d];rfl
 have keep:∀b o,b≠e->g.get? b=U o->((g.push f).update e<|j2 (·.setIfInBounds 1<|Value.ref g.objs.size)).get? b=U o:=λb o y q=>(fy _ _<|e7 y).trans<|ar _ q
 have m:∀b o,s.heap.get? b=U o->(∀vs,o.data≠.fields vs)->b≠e:=λb o q n z=>by
  grind
 refine xp r hd hsz<|h _ ⟨λb o q=>keep b o (λz=>by lia)<|b1 b o q,hl.of_keeps λb o q n=>?_,?_,λb o q n=>?_⟩ ⟨_,_,p,Iz ..,d3,by grind⟩
 .obtain⟨sl,z⟩:=l.2.2 b o q
  exact⟨_,keep b _ (m b o q n) z,J⟩
 .refine⟨_,_,g.objs.size,_,_,p,⟨Obj.cls_mapFields ..,by grind⟩,d3,by simp[hsz],b1.fresh,u,t3,by rw[d],?_⟩
  rfl
 .obtain⟨sl,z⟩:=l.2.2 b o q
  exact⟨sl,keep b _ (m b o q n) z⟩
def CM
  (QY:base.StaysIn s.heap) (hl:s.heap.FunFrames base l) (ht:s.heap.TracedAtW base e cls a0 fl) (i:Wv s.heap e d)
  (h:∀h',base.StaysIn h'->h'.FunFrames base l->h'.TracedW base e cls a0->Wv h' e d->(∀b o,s.heap.get? b=U o->(∀vs,o.data≠.fields vs)->h'.get? b=U o)->Q () {s with heap:=h'}) :
  c4 M A (uj (.ref e) Y) Q E s:=by
 obtain⟨t,vs,T,y,ts,m,v,hd,p,Ħ,j,g,c,w⟩:=ht;obtain⟨u,x,r,i⟩:=i;have sz:=(Array.getElem?_eq_some_iff.mp w).1;have a:∀b,b≠T->(s.heap.update T<|j2 (·.setIfInBounds 3<|(Y:Option ax).elim ih λf=>pb f)).get? b=s.heap.get? b:=λb z=>fy _ _<|e7 z
 have k:∀b o,s.heap.get? b=U o->(∀vs,o.data≠.fields vs)->b≠T:=λb o q n z=>by
  rw[z,g]at q;cases q;exact n ts c
 refine av<|va m hd p ?_;rw[b0<|by simp]
 exact xp g c sz<|h _ (λb o q=>(a b λz=>by rw[z,Ħ]at q;cases q).trans<|QY b o q) (hl.of_keeps λb o q n=>⟨o,(a b<|k b o q n).trans q,J⟩)
  ⟨t,vs,T,_,_,(a e<|e7 j).trans m,v,hd,p,Ħ,j,k4 _ g<|zi<|ra c _,ra c _,by simp[sz]⟩
  ⟨u,x,(a e<|e7 j).trans r,i⟩ λb o q n=>(a b<|k b o q n).trans q
def kY(base:eh)(l:List Env)(e:ax)(cls a0:ao)(d:Option ax×ao)(h:eh):Prop:=Heap.FlyingW base l e cls a0 h/\Wv h e d
section
variable{base:eh}{Q:F2}
def nOn(x:A.frames=U (env::outer))(m:env.frame=U L)(F:kY base (env::outer) e cls a0 d s.heap)
  (h:∀h',Heap.NotedW base (env::outer) e cls a0 (pb L) s.heap h'->Wv h' e d->Q () {s with heap:=h'}):c4 M A (rr (.ref e) env) Q E s:=by
 obtain⟨⟨QY,H,hl,K,i,T,N,ts,c,⟨y,G⟩,hd,r,Ħ,I,f,g,p⟩,P,R,j,B,l,C⟩:=F;obtain⟨d1,d2⟩:=d;rw[c]at j;cases j;rw[hd]at l;cases l;subst y B;unfold rr;simp only[m];refine av<|va c hd r ?_;rw[b0<|by simp]
 refine av<|va f g p ?_;rw[bt<|by simp[pb]]
 refine av<|xp f g (Array.getElem?_eq_some_iff.mp p).1 ?_;have a:∀b,b≠T->(s.heap.update T<|j2 (·.setIfInBounds 3 ih)).get? b=s.heap.get? b:=λb z=>fy _ _<|e7 z
 have k:∀b o,s.heap.get? b=U o->(∀i,o.data≠.fields i)->b≠T:=λb o q n z=>by
  rw[z,f]at q;cases q;exact n ts g
 exact IA x (hl.of_keeps λb o q n=>⟨o,(a b<|k b o q n).trans q,J⟩) m ((a e<|e7 I).trans c)
  (λb o q=>(a b λz=>by rw[z,Ħ]at q;cases q).trans<|QY b o q) H hd (Array.getElem?_eq_some_iff.mp r).1 G C
  λh' ⟨w,v,u,t⟩ D=>h h' ⟨w,v,u,λb o q n=>t b o ((a b<|k b o q n).trans q) n⟩ D
def ZL(base:eh)(l:List Env)(e:ax)(cls a0:ao)(d:Option ax×ao)(L:ax)(h:eh):Prop:=Heap.HeldW base l e cls a0 L h/\Wv h e d
def Q2(a:A.frames=U (env::outer))(c:env.frame=U L)(F:kY base (env::outer) e cls a0 d s.heap)
  (h:∀h',ZL base (env::outer) e cls a0 d L h'->s.heap.UpToSlots h'->Q () {s with heap:=h'}):c4 M A (rr (.ref e) env) Q E s:=
 nOn a c F λh' ⟨k1,k2,k3,b⟩ D=>h h' ⟨⟨k1,F.1.2.1,k2,k3⟩,D⟩ b
def IB(H:ZL base l e cls a0 d L s.heap)(h:∀h',kY base l e cls a0 d h'->s.heap.UpToSlots h'->Q () {s with heap:=h'}):c4 M A (uj (.ref e) Y) Q E s:=by
 obtain⟨⟨j,i,g,f⟩,D⟩:=H;exact CM j g f D λh' k1 k2 k3 c a=>h h' ⟨⟨k1,i,k2,k3⟩,c⟩ λb o q n=>⟨o.slots,a b o q n⟩
def upTo{h f e:eh}(a:h.UpToSlots f)(b:f.UpToSlots e):h.UpToSlots e:=λc o q n=>by
 obtain⟨sl,q1⟩:=a c o q n;obtain⟨d,q2⟩:=b c _ q1 n;exact⟨d,q2⟩
def UG(b:A.frames=U (env::outer))(g:env.frame=U L)(F:kY base (env::outer) e cls a0 d s.heap)
  (h:∀h',kY base outer e cls a0 d h'->s.heap.UpToSlots h'->Q () {s with heap:=h'}):c4 M A (v5 env<|.ref e) Q E s:=by
 refine av<|Q2 b g F λj H1 f=>IB H1 λi a c=>h i ⟨⟨a.1.1,a.1.2.1,?_,a.1.2.2.2⟩,a.2⟩<|upTo f c;obtain⟨_,_,k⟩:=a.1.2.2.1;exact k
def IC(p:A.frames=U (env::outer))(g:env.frame=U L)(QY:base.StaysIn h)(hl:h.FunFrames base<|env::outer)(kp:∀b o,h.get? b=U o->s.heap.get? b=U o)(new:h.get? e=Y)
  (he:s.heap.get? e=U c) (hd:c.data=.fields vs) (w:vs[0]?=U (.ref t)) (f:vs[1]?=U .none) (d:vs[2]?=U c2)
  (v:∀h',kY base outer e c.cls (.ref t) (c.dict,c2) h'->s.heap.UpToSlots h'->Q () {s with heap:=h'}):c4 M A (v5 env<|.ref e) Q E s:=by
 have fr:base.get? e=Y:=by
  cases q:base.get? e with
  |none=>rfl
  |some u=>have:=QY e u q;lia
 apply av;unfold rr;simp[g];refine av<|va he hd f ?_;refine IA p (hl.of_keeps λb o q _=>⟨o,kp b o q,J⟩) g he (λb o q=>kp b o<|QY b o q) fr hd (Array.getElem?_eq_some_iff.mp f).1 w d λf i D=>?_;obtain⟨n,m,l,j⟩:=i;refine IB ⟨⟨n,fr,m,l⟩,D⟩ λd a r=>v d ⟨⟨a.1.1,a.1.2.1,?_,a.1.2.2.2⟩,a.2⟩<|upTo j r;obtain⟨_,_,k⟩:=a.1.2.2.1;lia
end
section
variable{os:hX}
variable{bs bm D sub rest:B2}
def E5(F:ExcBaseFacts B newId G D)(T:OwnTail h D bm){Q:Fin->ag->Prop}
  (c:h.get? C=U (nr nm q C N bs bm hdct sn sub ab col dd k0 k1 k2 k3 k5 newId)) (p:h.Ns N mN) (s:mN "__init__" = U (.ref y)) (l:h.get? y=U oI) (k:oI.cls=.type "function")
  (n:∀h' e,tw h h' e (.ref C) rest->h.objs.size<=e->c4 (cv prog w) A (call (.ref y)<|.ref e::rest) (λr s'=>r=.none/\Q (.done<|.ret<|.ref e) s') E ⟨h',g,d,t,os⟩) (hr:rest.length<=cC) :
  c4 (cv prog w) A (Builtin.«type.__call__» ⟨.ref C::rest,[]⟩) Q E ⟨h,g,d,t,os⟩:=by
 repeat (first|with_reducible refine la c ?_|wp_step)
 refine codeAny_call_builtin_code (n0 _ F.quiet)<|wpAny_check_new_subT F T c<|codeAny_exc_new_subT F T c ?_ hr;obtain⟨f,j⟩:∃f:Obj,f={cls:=.ref C,data:=.fields #[.ref h.objs.size,.none,.none,.none,.bool Zb,.none]}:=⟨_,J⟩;obtain⟨a,i⟩:∃a,a=(h.push {cls:=.type "tuple",data:=.seq rest.toArray}).push f:=⟨_,J⟩;have kp:∀b o,h.get? b=U o->a.get? b=U o:=λb o z=>by rw[i];exact ar _<|ar _ z
 have m:a.get? (h.objs.size+1)=U f:=by rw[i];exact rz (by simp only[kv]) (by rw[j];rfl)
 have ht:a.get? h.objs.size=U {cls:=.type "tuple",data:=.seq rest.toArray}:=by rw[i];exact ar _<|rz J J
 rw[<- j,<- i];have n1:a.Ns N mN:=let⟨o,es,ep,z,r⟩:=p;⟨o,es,ep,kp _ _ z,r⟩;have v:(Value.ref C::bm).contains (.ref C)=O:=by simp
 have u:f.cls=.ref C:=by rw[j]
 repeat (first|(with_reducible refine la m ?_;rw[u])|(with_reducible refine wpAny_isSubtype_exc (kp _ _ c) ?_)|wp_step)
 show c4 _ _ _ _ _ _;refine wpAny_typeLookup_tail (kp _ _ c) n1 (T.keeps kp) F.mroIs F.init.lookup ?_;rw[s];refine ke<|av ?_;refine av<|wpAny_typeOf ⟨_,kp _ _ l,k⟩ ?_;refine dn<|av<|ey (n a _ ⟨kp,me<|wN _,h.objs.size,by rw[m,j],me<|bP _,ht⟩<|wN _) (λr s' z=>?_) λ_ _ x=>x
 obtain⟨rfl,z⟩:=z
 wp_walk
 exact z
def E7(F:ExcBaseFacts B newId G D)(T:OwnTail h D bm){Q:F1}
  (a:h.get? C=U (nr nm q C N bs bm hdct sn sub ab col dd k0 k1 k2 k3 k5 newId)) (i:h.Ns N mN) (j:mN "__init__" = U (.ref y)) (c:h.get? y=U oI) (b:oI.cls=.type "function")
  (f:∀h' e,tw h h' e (.ref C) rest->h.objs.size<=e->c4 (cv prog w) (A.under<|.builtin "type.__call__" ⟨.ref C::rest,[]⟩) (call (.ref y)<|.ref e::rest) (λr s'=>r=.none/\Q (.ref e) s') E ⟨h',g,d,t,os⟩) (hr:rest.length<=cC) :
  c4 (cv prog w) A (call (.ref C) rest) Q E ⟨h,g,d,t,os⟩:=by
 have m:=tc_lookup;have l:=tc_bind<|.ref C;refine iv<|codeAny_of_tree ?_;show c4 ..
 repeat (any_goals (first|wp_step))
 exact⟨J,codeAny_call_builtin_at (n0 _<|by decide +kernel) entry_typeCall<|wpAny_check_type_call_sub a<|E5 F T a i j c b f hr⟩
end
def UI(j:bm.contains (.type "BaseException")=O)(c:A.handled=Y)
  (h:c4 M A x (λv s1=>∃e a t,v=.ref e/\s1.heap.get? C=U (nr nm q C N bs bm hdct sn sub ab col dd k0 k1 k2 k3 k5 newId)/\s1.heap.get? e=U a/\a.cls=.ref C/\a.data=.fields #[.ref t,.none,.none,.none,.bool Zb,.none]/\E (.ref e) s1) E s) :
  c4 M A (raiseStmt env (U x) Y) Q E s:=by
 have cB:(Value.ref C::bm).contains (.type "BaseException")=O:=by rw[List.contains_cons,j,P4]
 refine av<|ey h (λv s1 z=>?_) λ_ _ x=>x;obtain⟨e,a,t,rfl,b,f,i,hd,k⟩:=z;repeat (first|(with_reducible first|rw[i])|(with_reducible refine wpAny_isSubtype_exc b ?_;rw[cB])|simp only[hd]|wp_step)
 exact wpAny_raiseNew_none c k
end L2
namespace L2
open PySem PySem.W PyProof.Rows
end L2
namespace L2
open PySem PySem.W PyProof.Rows Builtin Builtin.ObjectAttr
abbrev UJ:B2:=[.type "ValueError",.type "Exception",.type "BaseException",.type "object"]
def CO:B2->Bool
 |.ref _::.ref _::r=>r == UJ
 |_=>Zb
def IE(h:CO l=O):∃a b,l=.ref a::.ref b::UJ:=by
 unfold CO at h;grind
structure yr(K:y8)(C:ax):Prop where
 ga:qB K (.ref C) "__getattribute__" = U (U<|.builtin He)
 gn:qB K (.ref C) "__getattr__" = U Y
 sa:qB K (.ref C) "__setattr__" = U (U<|.builtin "object.__setattr__")
 hd:hasDictIn K C=O
 ov:(clsIn K C).any (λcd=>CO cd.mro)=O
section
variable{prog:da}{w:de}{A:ef}{E:F1}{s:ag}{K:y8}{x C d:ax}{P:Obj}{od:Option Obj}{name:Str}{v:ao}{F:Str->D2}{S:Array ao}
def Q3{tk:Tok}{R:Result->ag->Prop}(X:K.In s.heap)(I:InstAt s.heap x P C od)(Z:yr K C)(ht:qB K (.ref C) name=U Y)
  (h:c4 (cv prog w) A.in1 (storeInOwnDict (.ref x) (.ref C) (.str name tk) name v Zb)
   (λfin s'=>match fin with|.done f=>R (.ok f) s'|.again c'=>c'.quiet=O/\jA (cv prog w) A c' R s') (λe s'=>R (.error e) s') s) :
  jA (cv prog w) A (.call (.builtin "object.__setattr__") ⟨[.ref x,.str name tk,v],[]⟩) R s:=by
 have SF:=PySem.F.store_object;obtain⟨g,a,c⟩:=yA Z.ov;obtain⟨p,q,b⟩:=IE c;have sub:tf (cv prog w) s.heap (sq (.ref x)<|.type "object") O:=I.type.andThen<|vb X<|by unfold mroIn;rw[a,Option.bind_some,b];rfl
 refine hA SF.slot.plain SF.entry<|@check_slot (cv prog w) _ _ s "object.__setattr__" "object" "__setattr__" (.ref x) [.str name tk,v] [] _ SF.kind SF.split sub (SF.args (.ref x) (.str name tk) v) ?_;have d:tf (cv prog w) s.heap (mroOf<|.ref C) g.mro:=(looks_clsIn X a).andThen .now;have L3:tf (cv prog w) s.heap (storeTaker? Y) Y:=.now;rw[osa_eq,refuse_eq];refine av<|av<|I.type.here<|av<|d.here ?_;rw[b,refuseLoop_ref,refuseLoop_ref,PySem.F.store_ValueError.passes];exact dn<|av<|I.type.here<|av<|(pd X ht).here<|av<|L3.here h
def ZM{Q:F2}(X:K.In s.heap)(Z:yr K C)(ht:qB K (.ref C) name=U Y)(f:s.heap.get? x=U P)(i:P.cls=.ref C)(l:P.data=.fields S)(m:P.dict=Y)
  (h:∀h' t',h'.get? x=U {P with dict:=U s.heap.objs.size}->h'.Ns1 s.heap.objs.size (λy=>if y=name then U v else Y)->(∀b o,b≠x->s.heap.get? b=U o->h'.get? b=U o)->Q () {s with heap:=h',toks:=t'}) :
  c4 (cv prog w) A (v3 (.ref x) name v) Q E s:=by
 obtain⟨M,p,q,k⟩:=P;subst i l m;have R:InstAt s.heap x _ C Y:=⟨f,J,J,trivial⟩;refine set_plain X R Z.sa<|Q3 X R Z ht ?_
 obtain⟨N,i,H⟩:=yA Z.hd;obtain⟨c,g,D,t,os⟩:=s;refine av<|dn<|av<|av<|qs f<|av<|Gb.here (looks_clsIn X i) ?_;rw[H];have a:(c.push {cls:=.type "dict",data:=.dict #[]}).get? x=U _:=ar _ f;have d:=eV<|cw f;refine av<|wpAny_alloc' ?_;refine av<|wpAny_update' a ?_;apply dn;have j:((c.push _).update x λo=>{cls:=o.cls,dict:=U c.objs.size,data:=o.data,slots:=o.slots}).get? c.objs.size=U {cls:=.type "dict",data:=.dict #[]}:=
  (z1 _ _ _ _ d.symm).trans<|rz J J
 have F:((c.push _).update x λo=>{cls:=o.cls,dict:=U c.objs.size,data:=o.data,slots:=o.slots}).Ns c.objs.size λ_=>Y:=
  ⟨_,#[],_,j,J,λe r=>dy r<|by simp,λ_=>J⟩
 show c4 ..;refine av<|dn<|av<|C1 (y6 F) λh' n hs=>?_;obtain⟨oD,z,B,I,G,L⟩:=n.count<|Within.cons name v Within.nil;refine av<|ub I (G▸uY<|cJ L<|by simp) ?_
 refine dn<|h h' _ ((hs.2 x d).trans<|k4 _ a J) n λb o u e=>(hs.2 b<|eV<|cw e).trans<|(z1 _ _ _ _ u).trans<|ar _ e
def ZP{Q:F2}{ns:Bi}(X:K.In s.heap)(Z:yr K C)(ht:qB K (.ref C) name=U Y)(e:s.heap.get? x=U P)(b:P.cls=.ref C)(f:P.data=.fields S)(g:P.dict=U d)(c:s.heap.Ns1 d F)(j:mq F ns)(hz:ns.length<=cC)
  (h:∀h' t',h'.Ns1 d (λy=>if y=name then U v else F y)->oC d s.heap h'->Q () {s with heap:=h',toks:=t'}) :
  c4 (cv prog w) A (v3 (.ref x) name v) Q E s:=by
 obtain⟨B,m,n,k⟩:=P;subst b f g;obtain⟨od,o,_⟩:=sZ c;have G:InstAt s.heap x _ C<|U od:=⟨e,J,J,o⟩;refine set_plain X G Z.sa<|Q3 X G Z ht ?_
 obtain⟨D,b,t⟩:=yA Z.hd;refine av<|dn<|av<|av<|qs e<|av<|Gb.here (looks_clsIn X b) ?_
 rw[t];refine dn<|av<|dn<|av ?_;refine C1 c λh' i l=>?_
 obtain⟨oD,p,q,u,r,z⟩:=i.count<|PySem.Within.cons name v j;refine av<|ub u (r▸uY<|cJ z<|by exact g_ hz _) ?_
 exact dn<|h _ _ i l
end
end L2
namespace L2
open PySem PyProof.Rows
def EX(a:ax)(b:Obj):HO:=.ext λh=>h.get? a=U b
def XD(d:ax)(fs:List<|Str×V):HO:=.ext λh=>∃a,h.Ns1 d a/\mq a (fs.map (·.1))/\∀f,ia (fs.lookup f)<|a f
variable{f:Str}
section
variable{P:da}{w:de}{H:Hp}{h:eh}{a d:ax}{fs:List<|Str×V}
def EX.mk(e:h.get? a=U j):b_ P w H h a<|EX a j:=⟨e,⟨_,e⟩,λ_ _ p k=>k _ p⟩
def EX.at_(x:b_ P w H h a<|EX a j):h.get? a=U j:=x.1
def XD.mk{a:Str->D2}(n:h.Ns1 d a)(b:mq a<|fs.map (·.1))(r:∀f,ia (fs.lookup f)<|a f):b_ P w H h d<|XD d fs:=
 ⟨⟨a,n,b,r⟩,(let⟨o,_,_,e,_⟩:=n;⟨o,e⟩),by rintro _ _ ⟨a,n,b,r⟩ k;exact⟨a,n.at k,b,r⟩⟩
end
section
variable{A:ef}{u y:V}
def X7(x:Str):iA x [(f,u)]=if x=f then U u else Y:=by
 grind
def M6{Q:F2}(I:Inv X P R H s)(Z:yr X.K C)(nf:cO X.K C f)(i:H a=U (EX a M))(p:M.cls=.ref C)(l:M.data=.fields S)(n:M.dict=Y)(k:RelV u N)
  (h:∀d s',H d=Y->d≠a->Inv X P R (upd (upd H d<|XD d [(f,u)]) a<|EX a {M with dict:=U d}) s'->Q () s'):c4 (cv X.prog X.w) A (v3 (.ref a) f N) Q E s:=by
 have c:=EX.at_<|I.bF a _ i;refine ZM I.jk Z nf c p l n λh' t' j ns keep=>h s.heap.objs.size _ (I.bF.fresh<|bP _) (Ea<|cw c) ?_;obtain⟨oD,y,z,g,r⟩:=id ns;have m:(s.heap.push oD).get? s.heap.objs.size=U oD:=c5 _ (Heap.get?_some_iff.mp g).2;have v:=I.laid (o:=XD s.heap.objs.size [(f,u)]) (t':=s.toks) (λb u q=>ar _ q) (bP _)
 <|XD.mk (ns.at λo q=>by rw[g]at q;cases q;exact m) (λx c=>?_) λx=>?_
 .refine v.write (by rw[aq<|eV<|cw c,i];exact fA) (.inl J) (λb o t q=>?_) ⟨_,j⟩<|EX.mk j
  rcases Heap.get?_push_cases q with⟨rfl,rfl⟩|q
  . lia
  .exact keep b o t q
 . grind
 .rw[X7]
  by_cases q:x=f
  .rw[b0 q,b0 q];exact k
  .rw[bt q,bt q];trivial
def M7(I:Inv X P R H s)(Z:yr X.K C)(nf:cO X.K C f)(D:H a=U (EX a M))(B:M.cls=.ref C)(t:M.data=.fields S)(v:M.dict=U d)(m:H d=U (XD d [(g,y)]))(ne:d≠a)(F:f≠g)(p:RelV u N)
  (h:∀s',Inv X P R (upd H d<|XD d [(g,y),(f,u)]) s'->Q () s'):c4 (cv X.prog X.w) A (v3 (.ref a) f N) Q E s:=by
 have j:=EX.at_<|I.bF a _ D;obtain⟨⟨l,ns,k,r⟩,_⟩:=(I.bF d _ m);refine ZP I.jk Z nf j B t v ns k (by show 1<=cC;decide) λL G n2 n=>h _ ?_
 refine I.write (m▸fA) (.inl J) (λb o i q=>(n.2 b i).trans q) (let⟨o,_,_,e,_⟩:=n2;⟨o,e⟩)<|XD.mk n2 (λx j=>?_) λx=>?_
 .by_cases q:x=f
  .rw[q];simp
  .have:=k x λz=>j (by lia)
   grind
 .have c:=r x
  rw[X7]at c;show ia ..
  by_cases q:x=g
  . grind
  .have i:=beq_eq_false_iff_ne.mpr q
   rw[bt q]at c;have e:iA x [(g,y),(f,u)]=iA x [(f,u)]:=by simp[iA,i]
   rw[e,X7];by_cases q2:x=f
   .rw[b0 q2,b0 q2];exact p
   lia
def IF{x y z:HO}(ne:d≠a):upd (upd (upd H d x) a y) d z=upd (upd H d z) a y:=by
 funext b
 unfold upd;lia
end
def IG(C:ax)(f g:Str):Sp:=λe H Q _=>∃a u v b c,e=[.ref a,u,v]/\H a=U (EX a b)/\b.cls=.ref C/\b.data=.fields c/\b.dict=Y/\∀d,H d=Y->d≠a->Q .non (upd (upd H d<|XD d [(f,u),(g,v)]) a<|EX a {b with dict:=U d})
def M8(Z:yr X.K C)(nf:cO X.K C f)(S:cO X.K C g)(W:g≠f)(m:X.N=[sn,p,q])(r:nA X.env.scope sn)(L:nA X.env.scope p)(G:nA X.env.scope q)
  (d1:bB sn/\gk sn) (d2:bB p/\gk p) (d3:bB q/\gk q) :
  iz X [.Assign [.Attribute (.Name sn a1) f a2] (.Name p a3) a4,.Assign [.Attribute (.Name sn b1) g b2] (.Name q b3) b4] λD i H=>∃vs,i=vs.map U/\IG C f g vs H (λ_ H'=>D.nx i H') λ_ _ _=>False:=by
 intro e s i H D I h;obtain⟨vs,l,a,u,v,oe,ws,rfl,V,w,t,T,k⟩:=h;subst l;have A:X.N[0]?=U sn:=by rw[m];rfl
 have e1:X.N[1]?=U p:=by rw[m];rfl
 have e2:X.N[2]?=U q:=by rw[m];rfl
 refine i5<|mn (cH (cu e1 L d2.1 d2.2 e s _ H (λy H1=>y=u/\H1=H) I ⟨u,J,J,J⟩) λu' Q b=>?_) J;obtain⟨y,H1,I1,R,n,c⟩:=b;subst n c;refine cH (cu A r d1.1 d1.2 e Q _ _ (λx E=>x=.ref a/\E=H1) I1 ⟨.ref a,J,J,J⟩) λo s2 b=>?_;obtain⟨x,E,I2,j,ex,c⟩:=b;subst ex c
 obtain rfl:o=Value.ref a:=j
 refine M6 I2 Z nf V w t T R λd P n1 n2 I3=>?_;refine i5<|mn (cH (cu e2 G d3.1 d3.2 e P _ _ (λy H1=>y=v/\H1=_) I3 ⟨v,J,J,J⟩) λw' M b=>?_) J;obtain⟨z,H4,I4,F,n,c⟩:=b;subst n c;refine cH (cu A r d1.1 d1.2 e M _ _ (λx B=>x=.ref a/\B=_) I4 ⟨.ref a,J,J,J⟩) λo s5 b=>?_;obtain⟨x,B,I5,j,ex,c⟩:=b;subst ex c
 obtain rfl:o=Value.ref a:=j
 refine M7 I5 Z S ak w t J (by rw[aq n2,ak]) n2 W F λs6 I6=>fv ⟨_,_,I6,?_⟩
 rw[IF n2];exact k d n1 n2
end L2
namespace L2
open PySem PySem.W PyProof.Rows
structure Lies(P:da)(w:de)(stack:List Env)(H:Hp)(s:ag)(H':Hp)(B h:eh):Prop where
 un:Un (lE stack) [] H H' s.heap h
 bF:kH P w H' h
 Ll:∀c u,H' c=U u->∃o,B.get? c=U o
 old:∀b o,s.heap.get? b=U o->b∉lE stack->∃o',B.get? b=U o'
variable{C:ax}{X:Cx}{B:eh}{H H':Hp}{s:ag}{E:XK}
section
variable{stack outer:List Env}
def Lies.on(L:Lies P w stack H s H' B h)(st:B.StaysIn h)(r:B.StaysIn h')(up:h.UpToSlots h')(t:h.FunFrames B stack):Lies P w stack H s H' B h':=by
 have g:∀b o,b∈lE stack->h.get? b=U o->∃sl,h'.get? b=U _:=λb o i e=>by
  obtain⟨_,j,e',d⟩:=t.mem i;rw[e]at e';cases e';exact up b o e d
 have f:∀b o,(∃j,B.get? b=U j)->h.get? b=U o->h'.get? b=U o:=λb o ⟨j,q⟩ e=>by
  have:=st b j q
  rw[e]at this;cases this;exact r b _ q
 refine⟨⟨λb o e n i k=>f b o (L.old b o e i)<|L.un.keep b o e n i k,λb o e n i k=>?_,L.un.free,λb o e k=>?_,L.un.n_,L.un.mG,L.un.oh⟩,λa o e=>?_,L.Ll,L.old⟩
 .obtain⟨sl,l⟩:=L.un.slot b o e n i k
  grind
 .obtain⟨j,l⟩:=L.un.there b o e k
  by_cases i:b∈lE stack
  . grind
  .exact⟨j,f b j (L.old b o e i) l⟩
 .refine(L.bF a o e).nZ (λc u m q=>f c u ?_ q) (λ_ q=>q) λ_ _ q=>q
  rcases m with rfl|m
  .exact L.Ll _ _ e
  .exact L.Ll _ _ m
end
def ue(P:da)(w:de):FP:=λstack H s E e b=>∃a t C d c2 H' B,e=.ref a/\b.os=s.os/\kx b.gens/\Lies P w stack H s H' B b.heap/\kY B stack a (.ref C) (.ref t) (d,c2) b.heap/\(d=Y->c2=.none)/\E (.ref C) d H'
def nR(x:b_ P w H h a o):∃ob,h.get? a=U ob:=by
 induction o with
 |lst xs=>obtain⟨_,_,_,_,e⟩:=x;exact⟨_,e⟩
 |tup xs=>obtain⟨_,_,_,ob,e,_⟩:=x;exact⟨ob,e⟩
 |dK b=>obtain⟨_,_,_,_,ob,_,_,e,_⟩:=x;exact⟨ob,e⟩
 |dT b=>obtain⟨_,_,_,_,ob,_,_,e,_⟩:=x;exact⟨ob,e⟩
 |set S n=>obtain⟨ob,_,_,_,e,_⟩:=x;exact⟨ob,e⟩
 |ins C g fs=>obtain⟨_,_,_,e,_⟩:=x;exact⟨_,e⟩
 |own y=>exact x
 |xd fs=>obtain⟨_,⟨ob,_,_,e,_⟩,_⟩:=x;exact⟨ob,e⟩
 |mF lo d=>obtain⟨_,_,_,e⟩:=x;exact⟨_,e⟩
 |iD o u _=>exact⟨o,x.1⟩
 |tbl ps=>exact⟨_,x⟩
 |met f y=>exact⟨_,x⟩
 |ext c=>exact x.2.1
structure F0(X:Cx)(E:XK):Prop where
 lv:∀e s',Gf X (v5 X.env e) (λ_ L7=>ue X.prog X.w X.outer X.H₀ X.s₀ E e L7) (λe' L7=>ue X.prog X.w X.outer X.H₀ X.s₀ E e' L7) s'->X.xe e s'
 st:X.stack=X.env::X.outer
 ex:X.ex=[]
 fr:X.env.frame=U X.env.locals
 cm:X.calm=O
def CP(Z:F0 X E)(I:Inv X Q N H s)(old:∀b o,s.heap.get? b=U o->b∉lE X.stack->∃a,B.get? b=U a) :
  ∀b o,X.s₀.heap.get? b=U o->b∉lE X.outer->∃a,B.get? b=U a:=λb o e c=>by
 obtain⟨a,d⟩:=I.base.there b o e (by rw[Z.ex];simp)
 refine old b a d λz=>?_;rcases bM.mp (I.kI b z)with q|q
 .exact dy q<|eV<|fU (cw e) I.ok.above
 lia
def ZQ(Z:F0 X E):Passes (ue X.prog X.w) X E:=by
 rintro Q N H s e f I ⟨a,t,C,d,c2,H',B,rfl,i,g,L,F,j,q⟩
 apply Z.lv;have c:=I.GW i L.un L.bF g λb z=>dy z<|by simp
 rw[Z.st]at F;refine UG (by rw[I.ok.frames,Z.st]) Z.fr F λk h up=>?_
 refine⟨a,t,C,d,c2,H',B,J,c.os,g,?_,h,j,q⟩;have L2:Lies X.prog X.w X.outer X.H₀ X.s₀ H' B f.heap:=⟨by have:=c.base;rw[Z.ex]at this;lia,c.bF,L.Ll,CP Z I L.old⟩
 exact L2.on F.1.1 h.1.1 up F.1.2.2.1.2.2
def r_(H:Hp)(e:ax):Hp:=λb=>if b=e then Y else H b
def UK(Z:F0 X E)(I:Inv X Q N H s)(r:H e=U (EX e d))(G:d.cls=.ref C)(hd:d.data=.fields vs)(z0:vs[0]?=U (.ref t))(A:vs[1]?=U .none)(x:vs[2]?=U c2)(F:d.dict=Y->c2=.none)(K:X.s₀.heap.get? e=Y)
  (q:E (.ref C) d.dict<|r_ H e):X.xe (.ref e) s:=by
 apply Z.lv;have j:=EX.at_<|I.bF e _ r;have l:s.heap.FunFrames (ng s.heap<|e::lE X.stack) X.stack:=funFrames_hide I.stack λenv j b k=>eG _<|Eb.mpr ⟨env,j,k⟩;have ħ:(ng s.heap<|e::lE X.stack).StaysIn s.heap:=λb o q=>xI _ q;have i:(ng s.heap [e]).FunFrames _ X.stack:=l.of_keeps λb o q n=>⟨o,oB _ q λz=>by
  have z:=by simpa using z
  rw[z,j]at q;cases q;exact n _ hd,J⟩
 rw[Z.st]at i;refine IC (base:=ng s.heap<|e::lE X.stack) (by rw[I.ok.frames,Z.st]) Z.fr (λb o q=>?_) (by rw[Z.st];exact i) (λb o q=>xI _ q) (hideAll_none _<|by simp) j hd z0 A x λM p up=>?_
 .refine oB _ (xI _ q) λz=>?_
  have z:=by simpa using z
  rw[z,hideAll_none _<|d_]at q;cases q
 rw[G]at p;refine⟨e,t,C,d.dict,c2,r_ H e,_,J,I.os,I.bare,?_,p,F,q⟩;have off:∀{b u},H b=U u->(∀v,u≠.ext v)->r_ H e b=U u:=λ{b u} z n=>by
  unfold r_;rw[bt λy=>by rw[y,r]at z;exact n _ (lD.inj z).symm]
  exact z
 have g:∀{b u},r_ H e b=U u->b≠e/\H b=U u:=λ{b u} z=>by
  unfold r_ at z;split at z
  .cases z
  .rename_i n;exact⟨n,z⟩
 have a:=I.base;rw[Z.ex]at a;have L2:Lies X.prog X.w X.outer X.H₀ X.s₀ (r_ H e) (ng s.heap<|e::lE X.stack) s.heap:=by
  refine⟨⟨a.keep,a.slot,λb o z n D=>?_,a.there,λb xs z=>off (a.n_ b xs z) (λ_ y=>nomatch y),λb o u z=>off (a.mG b o u z) (λ_ y=>nomatch y),λb ps z=>?_⟩,λb u z=>?_,λc u z=>?_,λb o z k=>?_⟩
  .unfold r_
   split
   .rfl
   .exact a.free b o z n D
  .obtain⟨f,z⟩:=a.oh b ps z
   exact⟨f,off z λ_ y=>nomatch y⟩
  .obtain⟨n,z⟩:=g z
   exact(I.bF b u z).nZ (λ_ _ _ q=>q) (λc q=>off q λ_ y=>nomatch y) λc xs q=>off q λ_ y=>nomatch y
  .obtain⟨n,z⟩:=g z
   obtain⟨ob,m⟩:=nR<|I.bF c u z;refine⟨ob,oB _ m λy=>?_⟩;rcases bM.mp y with y|y
   .exact n y
   .rw[I.oR c y]at z;cases z
  .obtain⟨B,m⟩:=a.there b o z (by simp)
   refine⟨B,oB _ m λy=>?_⟩;rcases bM.mp y with y|y
   .rw[y,K]at z;cases z
   .rcases bM.mp (I.kI b y)with q|q
    .exact dy q<|eV<|fU (cw z) I.ok.above
    .exact k q
 rw[Z.st]at l;exact L2.on ħ p.1.1 up (by rw[Z.st];exact l.2.2)
def Q4:Data->Option ClassData
 |.cls c=>U c
 |_=>Y
def E8(h:Q4 d=U c):d=.cls c:=by
 cases d<;>cases h;rfl
def M9(K:y8)(C b:ax):Bool:=(K.lookup C).any λo=>(Q4 o.data).any λa=>o.cls == .type "type" && a.mro == .ref C::a.mro.tail&&o.slots == #[o.slots.getD 0 Y,o.slots.getD 1 Y,o.slots.getD 2 Y,o.slots.getD 3 Y,U (.builtin "ValueError.__new__"),o.slots.getD 5 Y]&&a.hasDel == Zb&&tailIn K UJ a.mro.tail&&nsOkIn K a.ns&&nsIn K a.ns "__init__" == U (U<|.ref b)
def Aw{K:y8}(X:K.In h)(G:h.Ns N mg)(e:nsIn K N n=U (U v)):mg n=U v:=by
 obtain⟨o,g,i,b,hd,_,c⟩:=G;unfold nsIn at e;split at e
 .rename_i c1 d1 f n1 a hk
  have:=X _ _ hk
  rw[b]at this;cases this;cases hd;split at e
  .rename_i en d
   cases e
   have:=c n
   unfold nsFind findBy at this;grind
  lia
 lia
def II{K:y8}(X:K.In h)(q:M9 K C c=O) :
  ∃bm N nm g bs hd sn sub ab col dd k0 k1 k2 k3 k5,h.get? C=U (nr nm g C N bs bm hd sn sub ab col dd k0 k1 k2 k3 k5 "ValueError.__new__")/\h.Ns N (h.nsMap N)/\h.nsMap N "__init__" = U (.ref c)/\OwnTail h UJ bm:=by
 obtain⟨o,lo,q⟩:=yA q;obtain⟨a,j,q⟩:=yA q;simp only[cL,beq_iff_eq]at q;obtain⟨⟨⟨⟨⟨⟨ct,i⟩,f⟩,k⟩,b⟩,d⟩,Ĩ⟩:=q;have e:o=nr a.name a.qualname C a.ns a.bases a.mro.tail a.hasDict a.slotNames a.subclasses a.abstract a.collection o.dict (o.slots.getD 0 Y) (o.slots.getD 1 Y) (o.slots.getD 2 Y) (o.slots.getD 3 Y) (o.slots.getD 5 Y) "ValueError.__new__" := by
  unfold nr;rw[<- ct,<- i,<- f,<- k,<- E8 j]
 exact⟨_,_,_,_,_,_,_,_,_,_,_,_,_,_,_,_,(X _ _ lo).trans<|dv U e,.of_isNs<|isNs_of_in X d,Aw X (.of_isNs<|isNs_of_in X d) Ĩ,tail_of_in X b⟩
def M_{e d:ax}(fr:H1 e=Y)(n2:d≠e)(c:H'=upd (upd (upd H1 e o1) d o2) e a):r_ H' e=upd H1 d o2:=by
 rw[c]
 funext b
 unfold r_ upd;lia
def Ax(Z:F0 X E)(q:M9 X.K C fI=O)(kp:keepIn X.K (.ref C)=O)(p:isFn X.K (.ref fI)=O)(F:cX X.prog X.w X.K X.mg X.base lu 1 fI fd ps<|IG C f g)(hb:Binds X.K fd ps [])(hr:bI 2 X.A)(hm:X.mg x=U (.ref C))(ha:PA X (e::es) t)(hg:Gl X x)(ie:bB x)
  (he:c3 (e::es) X.env=(Zb,eE e X.env)::c3 es X.env) (hpl:(hG bq<|c3 es X.env).any (·.1)=Zb) :
  PS X (.Raise (U<|.Call (.Name x np) (e::es) [] bq) Y pos) λ_ m H=>t m H λvs H1=>∃u v,vs=[u,v]/\∀d,H1 d=Y->E (.ref C) (U d) (upd H1 d<|XD d [(f,u),(g,v)]):=by
 intro ae s m H D I h;obtain⟨bm,N,nm,qn,bs,hd,sn,sub,ab,col,dd,k0,k1,k2,k3,k5,S,hN,B,T⟩:=II I.mod.kin q;have FB:=sT;have hf:∃oI,X.base.get? fI=U oI/\oI.cls=.type "function" := by
  have p:=beq_iff_eq.mp p;obtain⟨o,ho,e⟩:=bZ.mp<|p
  exact⟨o,I.mod.kin _ _ ho,e⟩
 obtain⟨oI,y,G⟩:=hf;refine av<|mM<|UI (C:=C) (nm:=nm) (q:=qn) (N:=N) (bs:=bs) (hdct:=hd) (sn:=sn) (sub:=sub) (ab:=ab) (col:=col) (dd:=dd) (k0:=k0) (k1:=k1) (k2:=k2) (k3:=k3) (k5:=k5) (newId := "ValueError.__new__")
  (T.hasType FB.hasBase) (I.ok.hd Z.cm)<|av<|ey (ff<|gp I hg hm ?_ ie) (λv Q k=>av<|mM<|dn k) λ_ _ x=>x
 refine callWith_K I.ok.mod.kin kp (cH (ha bq ae s m H _ I h) λb s1 zz=>?_) he hpl;obtain⟨vs,H1,i,r,u,v,M,q1⟩:=zz;refine⟨i.jk,?_⟩;subst M;obtain⟨hp,gn,dr,tk,os⟩:=s1;refine E7 (rest:=b) FB (T.keeps i.bk) (i.bk _ _ S) (hN.keeps i.bk) B (i.bk _ _ y) G (λh' e ĩ L=>?_) (by rw[<- r.length];show 2<=cC;decide)
 obtain⟨n,Ī,_,_⟩:=ĩ.there;obtain⟨c,j⟩:∃c:Obj,c={cls:=.ref C,data:=.fields #[.ref n,.none,.none,.none,.bool Zb,.none]}:=⟨_,J⟩;rw[<- j]at Ī;have P:=i.laid (t':=tk) ĩ.keeps L<|EX.mk Ī;have R:Vals (V.ref e::[u,v]) _:=.cons J r;have sp:IG C f g _ _ (λw H'=>w=.non/\∃d,H1 d=Y/\d≠e/\H'=upd (upd _ d<|XD d _) e (EX e {c with dict:=U d})) λ_ _ _=>False:=
  ⟨e,u,v,c,_,J,ak,by rw[j],by rw[j],by rw[j],λd n1 n2=>⟨J,d,by rw[aq n2]at n1;exact n1,n2,J⟩⟩
 have hl:(Value.ref e::b).length=ps.length:=R.length▸F.len _ _ _ _ sp
 have FQ:=hb _ _ P.jk (by rw[b9];exact hl)
 rw[b9]at FQ;refine iv<|gV (F.run _ X.stack _ _ _ _ _ _ _ (hr.make C b []) (P.LZ.make C b []) FQ R sp) λr s' l=>?_;cases r with
 |error e=>exact l.elim
 |ok fl=>
  cases fl with
  |next=>exact l.elim
  |brk=>exact l.elim
  |cont=>exact l.elim
  |ret u'=>
   obtain⟨v',H',I3,rv,M,d,n1,n2,eH⟩:=P.after l;subst M;have W:H' e=U (EX e {c with dict:=U d}):=eH▸ak
   refine⟨rv,e,_,n,J,I3.bk _ _ S,EX.at_<|I3.bF e _ W,by rw[j],by rw[j],UK Z I3 W (by rw[j]) (by rw[j]) J J J (λz=>nomatch z) (me<|cJ i.sz L) ?_⟩
   rw[M_ (i.bF.fresh L) n2 eH];exact q1 d n1
def Na{K:y8}(X:K.In h)(q:excIn K C l newId=O) :
  ∃bm N nm d bs hd sn sub ab col dd k0 k1 k2 k3 k5,h.get? C=U (nr nm d C N bs bm hd sn sub ab col dd k0 k1 k2 k3 k5 newId)/\h.Ns N (h.nsMap N)/\h.nsMap N "__init__" = Y/\OwnTail h l bm:=by
 unfold excIn at q;split at q
 .rename_i f g c lo
  split at q
  .rename_i x b s r p o u n k j
   simp[cL,beq_iff_eq,zE]at q;obtain⟨⟨⟨⟨⟨rfl,rfl⟩,m⟩,a⟩,i⟩,Ĩ⟩:=q;obtain⟨nm,bs,v,ns,d,e,sn,sub,ab,col,w⟩:=g;subst k m;obtain⟨t⟩:=c;subst j;refine⟨b,ns,nm,d,bs,e,sn,sub,ab,col,f,s,r,p,o,n,X _ _ lo,?_,?_,tail_of_in X a⟩
   .exact .of_isNs<|isNs_of_in X i
   .exact nsMap_none_of_in X i Ĩ
  lia
 lia
def UL(Z:F0 X E)(I:Inv X m j H s){e:ax}(d:tw s.heap h' e (.ref C) a)(q:E (.ref C) Y H):X.xe (.ref e) {s with heap:=h'}:=by
 apply Z.lv;have g:=funFrames_hide I.stack λenv k b f=>Eb.mpr ⟨env,k,f⟩;rw[Z.st]at g;have ħ:(ng s.heap<|lE X.stack).StaysIn s.heap:=λb o q=>xI _ q;obtain⟨t,Ī,_,_⟩:=d.there;refine IC (by rw[I.ok.frames,Z.st]) Z.fr ħ (by exact Z.st▸g) d.keeps d.new Ī J J J J λn i up=>?_
 refine⟨e,t,C,Y,.none,H,ng s.heap _,J,I.os,I.bare,?_,i,λ_=>J,q⟩;have L2:Lies X.prog X.w X.outer X.H₀ X.s₀ H _ s.heap:=⟨by have:=I.base;rw[Z.ex]at this;lia,I.bF,λc u e=>?_,CP Z I λb o e f=>⟨o,oB _ e f⟩⟩
 .exact L2.on ħ i.1.1 ((Heap.UpToSlots.of_keeps d.keeps).trans up) (Z.st▸g.2.2)
 .obtain⟨ob,l⟩:=nR<|I.bF c u e
  refine⟨ob,oB _ l λz=>?_⟩;rw[I.oR c z]at e;lia
def IJ{f:TE}(Z:F0 X E)(q:excIn X.K C UJ "ValueError.__new__" = O)(n:X.mg x=U (.ref C))(p:PE X e f)(o:Gl X x)(m:bB x)
  (he:c3 [e] X.env=(Zb,eE e X.env)::c3 [] X.env):PS X (.Raise (U<|.Call (.Name x np) [e] [] bq) Y pos) λ_ b H=>f b H λv H1=>[v].length=1/\E (.ref C) Y H1:=by
 intro w s b H D I h;obtain⟨bm,N,nm,l,bs,hd,sn,sub,ab,col,dd,k0,k1,k2,k3,k5,u,t,c,T⟩:=Na I.mod.kin q;have i:=sT;refine wpAny_Raise_call_subT (nm:=nm) (q:=l) (N:=N) (bs:=bs) (hdct:=hd) (sn:=sn) (sub:=sub) (ab:=ab) (col:=col) (dd:=dd) (k0:=k0) (k1:=k1) (k2:=k2) (k3:=k3) (k5:=k5)
  i (T.hasType i.hasBase) (I.ok.hd Z.cm) (by rw[he];rfl) c<|gp I o n ⟨J,?_⟩ m
 have g:=aU p (cy) he bq w s b H (λd H1=>d.length=1/\E (.ref C) Y H1) I ?_
 .rw[he]at g ⊢
  refine o7<|ey g (λk s2 j=>?_) λ_ _ y=>y;obtain⟨d,H1,a,r,l1,q1⟩:=j;refine⟨J,?_,a.bk _ _ u,t.keeps a.bk,T.keeps a.bk,λz e ĩ=>?_⟩
  . rw[<- r.length,l1];decide
  .exact UL Z a ĩ q1
 .exact h
abbrev IK(X:Cx)(a:ax)(E:F1):Cx:={X with A:=X.A.mark (U<|.ref a),calm:=Zb,xe:=E}
section
variable{ae:dJ}{σ:L2.St}{s':ag}{a t CB:ax}{d:Option ax}{c2:ao}{oe:Obj}{Eo:F1}
def Inv.UM(I:Inv X ae σ H s):Inv (IK X a Eo) ae σ H s:=
 ⟨⟨I.ok.mod,I.ok.kind,I.ok.glob,I.ok.blt,I.ok.above,I.ok.inj,I.ok.has,I.ok.cab,(λz=>nomatch z),I.ok.frames,I.ok.stk,I.ok.exf,I.ok.bs,I.ok.bsz,I.ok.noex,I.ok.exfs,I.ok.mH,I.ok.frf⟩,I.os,I.bare,I.base,I.loc,I.cell,I.free,I.freeC,I.pin,I.bF,I.len⟩
def Inv.ZR(ok:X.Ok)(I:Inv (IK X a Eo) ae σ H s):Inv X ae σ H s:=⟨ok,I.os,I.bare,I.base,I.loc,I.cell,I.free,I.freeC,I.pin,I.bF,I.len⟩
def name_goes{A:ef}{E:F1}{Q:F2}(I:Inv X ae σ H s)(S:X.N.Nodup)(P:X.N[i]?=U x)(hk:X.env.scope.names.lookup x=U .local)
  (h:∀s',Inv X ae (σ.set i Y) H s'->Q () s'):c4 M A (do bindName X.env x .none;qx X.env x pos) Q E s:=by
 obtain⟨m,w,hl⟩:=id I.loc;have R_:(X.env.scope.kind == .class ||(X.env.scope.kind == .module&&X.env.locals != X.env.globals))=Zb:=by rw[I.ok.kind];rfl
 refine wpAny_nameGoes_keeps hk w R_ λh' v Z hs=>h _ ?_;have a:∀b o,X.s₀.heap.get? b=U o->b≠X.env.locals:=λb o e=>eV<|fU (cw e) I.ok.above;refine⟨I.ok,I.os,I.bare,⟨λb o e n t l=>(hs.2 b<|a b o e).trans<|I.base.keep b o e n t l,λb o e n t l=>?_,I.base.free,λb o e l=>?_,I.base.n_,I.base.mG,I.base.oh⟩,⟨_,Z,λj y C g f W=>?_⟩,λy c e=>?_,I.free,I.freeC,λp K=>?_,λb ob e=>?_,by simpa using I.len⟩
 .obtain⟨sl,g⟩:=I.base.slot b o e n t l
  exact⟨sl,(hs.2 b<|a b o e).trans g⟩
 .obtain⟨G,g⟩:=I.base.there b o e l
  exact⟨G,(hs.2 b<|a b o e).trans g⟩
 .have B:j≠i:=by
   grind
  rw[e9<|e7 B]at f;obtain⟨D,F,q⟩:=hl j y C g f W;refine⟨D,F,?_⟩;rcases q with⟨k,e⟩|⟨k,c,e,z⟩
  .refine .inl ⟨k,?_⟩
   have:y≠x:=λe=>B<|pQ S g<|e▸P
   lia
  .exact .inr ⟨k,c,e,z.sameBut hs<|I.LD y c e⟩
 .obtain⟨u,z⟩:=I.cell y c e
  exact⟨u,z.sameBut hs<|I.LD y c e⟩
 .obtain⟨e,n,ne,nf,d⟩:=I.pin p K
  exact⟨(hs.2 _ ne).trans e,n,ne,nf,d⟩
 .refine(I.bF b ob e).nZ (λc u r q=>(hs.2 c ?_).trans q) (λ_ q=>q) λ_ _ q=>q
  rintro rfl
  rcases r with z|r
  .have:=I.free;lia
  .have:=I.free;lia
def vz(I:Inv X ae σ H s)(R:s'.os=s.os)(S:kx s'.gens)(L:Lies X.prog X.w X.stack H s H' B g)(F:kY B X.stack a (.ref C) (.ref t) (d,c2) g) :
  ∃oe j,oe.cls=.ref C/\oe.data=.fields j/\oe.dict=d/\j[2]?=U c2/\g.get? a=U oe/\H' a=Y/\Inv X ae σ (upd H' a<|EX a oe) {s' with heap:=g}:=by
 have f:=I.GW (s':={s' with heap:=g}) R L.un L.bF S λb z=>dy z<|by simp
 obtain⟨oe,j,i,E,l,_⟩:=F.1.first
 obtain⟨h,gq,G,T,M,V⟩:=F.2;rw[i]at G;cases G;rw[l]at M;cases M;have new:H' a=Y:=by
  cases e:H' a with
  |none=>rfl
  |some u=>
   obtain⟨o,q⟩:=L.Ll a u e;rw[F.1.2.1]at q;lia
 have D:a∉lE X.stack:=λz=>by
  obtain⟨_,h,e',d'⟩:=F.1.2.2.1.mem z;grind
 have ZT:∀b o,s.heap.get? b=U o->b∉lE X.stack->b≠a:=λb o e n z=>by
  obtain⟨h,q⟩:=L.old b o e n;rw[z,F.1.2.1]at q;lia
 have Q:X.env.locals≠a:=λz=>by
  obtain⟨m,⟨h,es,ep,r,P,_⟩,_⟩:=f.loc;lia
 refine⟨oe,j,E,l,T,V,i,new,⟨f.ok,f.os,f.bare,⟨f.base.keep,f.base.slot,λb o e n K=>?_,f.base.there,λb xs z=>?_,λb o u z=>?_,λb ps z=>?_⟩,f.loc,f.cell,?_,λx c e=>?_,λp N=>?_,λb u z=>?_,f.len⟩⟩
 .rw[aq λz=>?_]
  .exact f.base.free b o e n K
  .subst z
   obtain⟨h,W⟩:=I.base.there b o e K;exact ZT b h W D J
 .have q:=f.base.n_ b xs z
  rw[aq λy=>by lia];lia
 .have q:=f.base.mG b o u z
  rw[aq λy=>by lia];lia
 .obtain⟨k,q⟩:=f.base.oh b ps z
  exact⟨k,by rw[aq λy=>by lia];lia⟩
 .rw[aq Q];exact f.free
 .rw[aq λz=>?_]
  .exact f.freeC x c e
  .obtain⟨v,o,q,hd⟩:=f.cell x c e
   lia
 .obtain⟨e,n,ne,nf,dd⟩:=f.pin p N
  obtain⟨Z,_,_,_,_⟩:=I.pin p N;refine⟨e,?_,ne,nf,dd⟩;rw[aq<|ZT _ _ Z λz=>?_]
  . lia
  .rcases bM.mp (I.kI _ z)with q|q
   . lia
   lia
 .by_cases q:b=a
  .subst q
   rw[ak]at z;cases z;exact EX.mk i
  .rw[aq q]at z
   exact(f.bF b u z).nZ (λ_ _ _ y=>y) (λc y=>by rw[aq λA=>by lia];lia) λc xs y=>by rw[aq λA=>by lia];lia
def lT{A:ef}{E:F1}{d:Option ax×ao}{Q:F2}(F:kY base l e cls a0 d s.heap)
  (h:∀h',kY base l e cls a0 d h'->s.heap.UpToSlots h'->Q () {s with heap:=h'}):c4 M A (uj (.ref e) Y) Q E s:=by
 obtain⟨⟨m,k,j,i⟩,D⟩:=F;exact CM m j i.at D λh' k1 k2 k3 c a=>h h' ⟨⟨k1,k,k2,k3⟩,c⟩ λb o g f=>⟨o.slots,a b o g f⟩
def IL{Q:Flow->ag->Prop}{y:Str}{N pos:Pos}{i:Option Str}{v:Fh}{rest:List oP}(I:Inv X ae σ H s)(l:X.stack=X.env::X.outer)(G:X.env.frame=U X.env.locals)(S:s'.os=s.os)(W:kx s'.gens)
  (L:Lies X.prog X.w X.stack H s H' B s'.heap) (F:kY B X.stack a (.ref C) (.ref t) (d,c2) s'.heap) (T:X.mg y=U (.ref CB)) (R:exmOne X.K (.ref C) (.ref CB)=U O)
  (k:∀j,Lies X.prog X.w X.stack H s H' B j->kY B X.stack a (.ref C) (.ref t) (d,c2) j ->
   jA (cv X.prog X.w) (X.A.mark<|U<|.ref a) (.handlers (.ref a) [.ExceptHandler Y i v pos] X.env) (λr b=>match r with
     |.ok f=>(match i with
      |none=>Q f b
      |some n=>Gf X (do bindName X.env n .none;qx X.env n pos) (λ_ g=>Q f g) Eo b)
     |.error x=>cameBackBy (cv X.prog X.w) X.A X.env Eo x b) {s' with heap:=j})
  (V:Gl X y) (P:bB y) :
  Gf X (rr (.ref a) X.env) (λ_ b=>Gf X (uj (.ref a) Y) (λ_ g=>
   Gf X (handleBy (.ref a) X.env<|.ExceptHandler (U<|.Name y N) i v pos::rest) Q Eo g) Eo b) Eo s':=by
 have E:=F;rw[l]at E;refine Q2 (L:=X.env.locals) (by rw[I.ok.frames,l]) G E λh4 c p=>?_
 have L4:=L.on F.1.1 c.1.1 p F.1.2.2.1;refine IB c λj m o=>?_;have z:=L4.on c.1.1 m.1.1 o (by rw[l];exact c.1.2.2.1)
 rw[<- l]at m;obtain⟨oe,ws,u,_,_,_,Z,_,D⟩:=vz (s':=s') I S W z m;refine wpAny_handleBy_cons (codeAny_handlers_test ?_) (by intro q;cases q)
 refine gp (X:=IK X a λ_ _=>False) (Inv.UM D) V T ?_ P;have LT:tf (cv X.prog X.w) j (xB<|.ref a)<|.ref C:=u▸(rb Z).andThen .now;refine exm_one (M:=cv X.prog X.w) (h:=j) D.jk LT R _ _ _ _ (λ_ _ e=>e) ?_;exact k j z m
def UN{Q:Flow->ag->Prop}{pos:Pos}{st:gL}{g:eh}(I:Inv X ae σ H s)(m:s'.os=s.os)(o:kx s'.gens)(l:PassesOwnAt (cv X.prog X.w) (X.A.mark<|U<|.ref a) X.A X.env X.xe)
  (L:Lies X.prog X.w X.stack H s H' B g) (F:kY B X.stack a (.ref C) (.ref t) (d,c2) g)
  (k:∀oe c h,oe.cls=.ref C->oe.data=.fields c->c[2]?=U c2->H' a=Y->Inv (IK X a X.xe) ae σ (upd H' a<|EX a oe) h->c4 (cv X.prog X.w) (X.A.mark<|U<|.ref a) (execs [st] X.env) Q X.xe h) :
  jA (cv X.prog X.w) (X.A.mark<|U<|.ref a) (.handlers (.ref a) [.ExceptHandler Y Y [st] pos] X.env) (λr b=>match r with
     |.ok f=>Q f b
     |.error x=>cameBackBy (cv X.prog X.w) X.A X.env X.xe x b) {s' with heap:=g}:=by
 refine codeAny_handlers_suite<|lT F λy i e=>?_;have q:=L.on F.1.1 i.1.1 e F.1.2.2.1;obtain⟨oe,c,n,j,hd,p,v,new,u⟩:=vz (s':=s') I m o q i;exact wpAny_passesOwnAt l<|k oe c _ n j p new<|Inv.UM u
def Nb{Q:Flow->ag->Prop}{pos:Pos}{n:Str}{i:Nat}{st:gL}{u:Fh}{j:eh}(I:Inv X ae σ H s)(P:s'.os=s.os)(S:kx s'.gens)(D:X.N.Nodup)(y:X.N[i]?=U n)(hk:X.env.scope.names.lookup n=U .local)
  (L:Lies X.prog X.w X.stack H s H' B j) (F:kY B X.stack a (.ref C) (.ref t) (d,c2) j)
  (k:∀oe g p,oe.cls=.ref C->oe.data=.fields g->oe.dict=d->H' a=Y->Inv (IK X a λ_ _=>False) ae (σ.set i<|U<|.ref a) (upd H' a<|EX a oe) p->c4 (cv X.prog X.w) (X.A.mark<|U<|.ref a) (execs (st::u) X.env) (λf o=>∃c l,Inv (IK X a λ_ _=>False) ae c l o/\∀m,Inv X ae (c.set i Y) l m->Q f m) (λ_ _=>False) p) :
  jA (cv X.prog X.w) (X.A.mark<|U<|.ref a) (.handlers (.ref a) [.ExceptHandler Y (U n) (st::u) pos] X.env) (λr b=>match r with
     |.ok f=>Gf X (do bindName X.env n .none;qx X.env n pos) (λ_ e=>Q f e) (λ_ _=>False) b
     |.error x=>cameBackBy (cv X.prog X.w) X.A X.env (λ_ _=>False) x b) {s' with heap:=j}:=by
 refine codeAny_handlers_suite_as<|lT F λh6 E h=>?_;have T:=L.on F.1.1 E.1.1 h F.1.2.2.1;obtain⟨oe,g,R,M,hd,_,he,new,Z⟩:=vz (s':=s') I P S T E;refine ju Z D y (Or.inl hk) (v:=.ref a) J (λK W=>?_)<|Or.inr hk;refine ey (k oe g K R M hd new<|Inv.UM W) (λf o G=>?_) λ_ _ z=>z.elim;obtain⟨c,l,V,q⟩:=G;exact name_goes (Inv.ZR I.ok V) D y hk q
end
end L2
namespace D
open PySem L2 PyProof.Rows
def IM:Res b->Res b
 |.ok a=>.ok a
 |_=>.bad
def wD(f:FE):FE:=λs=>IM<|f s
def m_(F:FS):FS:=λs=>IM<|F s
def mC(c:FT):FT:=λs=>IM<|c s
def pe(f:FL):FL:=λs=>IM<|f s
def iw{a:b}(h:IM x=.ok a):x=.ok a:=by cases x<;>first|exact h|cases h
def i8{x:Res a}(h:IM x=.exc c fs s):False:=by cases x<;>cases h
def bC{x:Res b}{f:b->Res d}(h:x.bind f=.exc c fs s):x=.exc c fs s\/∃a,x=.ok a/\f a=.exc c fs s:=by
 cases x with
 |ok a=>exact .inr ⟨a,J,h⟩
 |bad=>cases h
 |exc _ _ _=>cases h;lia
def lU{o:Option a}(h:bu o=.exc c fs s):False:=by cases o<;>cases h
abbrev XN:=List<|ax×Option Str
def XF(f:Option Str)(fs:FR)(d:Option ax)(H:Hp):Prop:=match f with
 |none=>d=Y/\fs=[]
 |some f=>∃i a rest,d=U a/\fs=[.int i]/\H a=U (XD a<|(f,.int i)::rest)
def XQ(N:XN)(E:XK)(c:Nat)(fs:FR)(H:Hp):Prop:=∃k,N[c]?=U k/\∀d,XF k.2 fs d H->E (.ref k.1) d H
def XR(B:KT)(N:XN)(E:XK)(g:G)(H:Hp)(c:Nat)(fs:FR)(s':S):Prop:=∀b a,dE g H b a->eQ B b a s'.m->XQ N E c fs a
def XR.mv(k:XR B N E g H c fs s')(p:dE g H g1 H1):XR B N E g1 H1 c fs s':=λa b q=>k a b<|p.trans q
inductive Ay(B:KT)(N:XN)(E:XK)(f:FE)(σ:L2.St)(H:Hp)(Q:VK):Prop where
 |ok g s t s' (x:SR B g H σ s) (h:f s=.ok (t,s')) (k:∀v g' H',dE g H g' H'->SR B g' H' σ s'->Rep B g'.al g'.HF t v->Q v H')
 |ex g s c fs s' (x:SR B g H σ s) (h:f s=.exc c fs s') (k:XR B N E g H c fs s')
inductive Q6(B:KT)(N:XN)(E:XK)(f:FL)(σ:L2.St)(H:Hp)(Q:List V->Hp->Prop):Prop where
 |ok g s ts s' (x:SR B g H σ s) (h:f s=.ok (ts,s')) (k:∀vs g' H',dE g H g' H'->SR B g' H' σ s'->aF B g'.al g'.HF ts vs->Q vs H')
 |ex g s c fs s' (x:SR B g H σ s) (h:f s=.exc c fs s') (k:XR B N E g H c fs s')
inductive tX(B:KT)(N:XN)(E:XK)(f:FS)(D:Ends)(σ:L2.St)(H:Hp):Prop where
 |ok g s o s' (x:SR B g H σ s) (h:f s=.ok (o,s')) (k:Al B g H D o s')
 |ex g s c fs s' (x:SR B g H σ s) (h:f s=.exc c fs s') (k:XR B N E g H c fs s')
inductive wF(B:KT)(N:XN)(f:Fn)(vs:List V)(H:Hp)(Q:VK)(E:XK):Prop where
 |ok g ts m t m' (x:eQ B g H m) (r:aF B g.al g.HF ts vs) (h:f ts m=.ok (t,m')) (k:∀v g' H',dE g H g' H'->eQ B g' H' m'->Rep B g'.al g'.HF t v->Q v H')
 |ex g ts m c fs s' (x:eQ B g H m) (r:aF B g.al g.HF ts vs) (h:f ts m=.exc c fs s') (k:XR B N E g H c fs s')
section
variable{P:Pg}{e c o:cx}{fa fo:FE}{N:XN}{rest:Fh}{st:gL}{x y:Str}{f:Fn}
def ZV(h:PE X e<|tE B fa):PE X e<|Ay B N E<|wD fa:=aX h λσ H Q z=>by
 rcases z with⟨g,s,t,a,x,h,k⟩|⟨g,s,c,fs,a,x,h,k⟩
 .exact⟨g,s,t,a,x,iw h,k⟩
 .exact(i8 h).elim
def UO:PA X []<|Q6 B N E a_:=tQ cy λσ H Q z=>by
 rcases z with⟨g,s,t,a,x,h,k⟩|⟨g,s,c,fs,a,x,h,k⟩
 .cases h
  exact k [] g H .refl x J
 .cases h
def Nc(p:PE X e<|Ay B N E fa)(hr:PA X es<|Q6 B N E fl)(hs:c3 (e::es) X.env=(Zb,eE e X.env)::c3 es X.env):PA X (e::es)<|Q6 B N E<|ba fa fl:=tQ (aU p hr hs) λσ H Q z=>by
 rcases z with⟨g,s,t,d,x,h,k⟩|⟨g,s,c,fs,d,x,h,k⟩
 .revert h;refine abK λtx a j=>λh=>?_
  revert h;refine abK λty s2 m=>λh=>?_;cases h;exact .ok g s tx a x j λv g1 H1 i b l=>.ok g1 a ty s2 b m λw g2 q f n o=>k _ g2 q (i.trans f) n ⟨v,w,J,l.mv f.pre f.fr,o⟩
 .rcases bC h with h|⟨⟨tx,a⟩,j,h⟩
  .exact .ex g s c fs d x h k
  .rcases bC h with h|⟨⟨ty,s2⟩,m,h⟩
   .exact .ok g s tx a x j λv g1 H1 i b l=>.ex g1 a c fs d b h<|k.mv i
   lia
def Az{Q:VK}(x:SR B g H σ s)(r:aF B g.al g.HF ts vs)(h:f ts s.m=.ok (t,m'))(k:∀v g' H',dE g H g' H'->SR B g' H' σ {s with m:=m'}->Rep B g'.al g'.HF t v->Q v H'):wF B N f vs H Q E:=
 .ok g.aj ts s.m t m' x.st.aj r h λv g' H' p y a=>let⟨p2,x2⟩:=x.back p y;k v _ H' p2 x2 a
def IP{c:Nat}(x:SR B g H σ s)(r:aF B g.al g.HF ts vs)(h:f ts s.m=.exc c fs s')(hs:s2.m=s'.m)(k:XR B N E g H c fs s2):wF B N f vs H Q E:=
 .ex g.aj ts s.m c fs s' x.st.aj r h λa b p y=>let⟨p2,x2⟩:=x.back p y;k _ b p2 (hs▸x2.st)
def call_exc{c:Nat}(h:ai f ds fl s=.exc c fs s'):fl s=.exc c fs s'\/∃ts s1 s2,fl s=.ok (ts,s1)/\f (ts++ds) s1.m=.exc c fs s2/\s'={s1 with m:=s2.m}:=by
 rcases bC h with h|⟨⟨ts,s1⟩,a,h⟩
 . lia
 . cases q:f _ s1.m with
  |ok r=>rw[q]at h;lia
  |bad=>lia
  |exc c fs s2=>grind
structure ZW(P:Pg)(Pr:da)(w:de)(K:bD)(mg:Str->D2)(base:eh)(N:XN)(k:Nat)(x:Str)(f:Fn):Prop where
 ex:∃(fa:ax)(fd:dA)(ps:Bi),cX Pr w K mg base (ue Pr w) k fa fd ps (wF (iu P K Pr w) N f)/\mg x=U (.ref fa)/\lC K (.ref fa)=O/\Binds K fd ps []
def Nd(C:Passes (ue X.prog X.w) X E)(D:ZW P X.prog X.w X.K X.mg X.base N k x f)(hr:bI j X.A)(z:k<=j)(M:PA X (e::es)<|Q6 (P.kt X) N E fl)(I:Gl X x)(B:bB x)(hs:(e::es).all noStar=O) :
  PE X (.Call (.Name x p) (e::es) [] pos)<|Ay (P.kt X) N E<|ai f [] fl:=by
 obtain⟨V,fd,ps,F,G,hk,L⟩:=D.ex;rw[dW,cL]at hs;refine aX (BL F (hr.mono z) I G hk L .nil C M B (aw hs.1)<|dg hs.2) λσ H Q o=>?_;rcases o with⟨g,s,t,n,x,h,k⟩|⟨g,s,c,fs,n,x,h,k⟩
 .obtain⟨ts,d,T,m,a,rfl⟩:=gG h
  rw[b9]at a;exact .ok g s ts d x m λr g1 H1 l b i=>Az b (by rw[b9];lia) a λv R S y q u=>k v R S (l.trans y) q u
 .rcases call_exc h with h|⟨ts,d,s2,m,a,rfl⟩
  .exact .ex g s c fs n x h k
  .rw[b9]at a
   exact .ok g s ts d x m λr g1 H1 l b i=>IP b (by rw[b9];lia) a J<|k.mv l
structure MdX(P:Pg)(Pr:da)(w:de)(K:bD)(mg:Str->D2)(base:eh)(N:XN)(k:Nat)(c:Nat)(m:Str)(f:Fn):Prop where
 ex:∃(Ca fa:ax)(fd:dA)(ps:Bi)(ns:Bi),iK (iu P K Pr w) c Ca ns/\rF K Ca/\Meth K Ca m fa/\cX Pr w K mg base (ue Pr w) k fa fd ps (wF (iu P K Pr w) N f)/\Binds K fd ps []/\m∉ns
def rcv(c:Nat)(m:FX):T->Option Unit
 |.own k=>(m[k]?).bind λob=>if ob.c=c then U ()else Y
 |_=>Y
def CT{c:Nat}{u:Unit}(h:rcv c m t=U u):∃k ob,t=.own k/\m[k]?=U ob/\ob.c=c:=by
 cases t<;>try(cases h)
 obtain⟨ob,b,a⟩:=bV.mp<|h;grind
def F3(c:Nat)(g:Fn)(o:FE)(fl:FL):FE:=λs=>(IM<|o s).bind λp=>(bu<|rcv c p.2.m p.1).bind λ_=>ai g [] (ba (cF p.1) fl) p.2
def IQ(h:ba (cF t) fl s=.ok (ts,s')):∃us,fl s=.ok (us,s')/\ts=t::us:=by
 obtain⟨⟨us,b⟩,a,h⟩:=aa<|show(fl s).bind _=_ from h;grind
def Nf{c:Nat}(h:ba (cF t) fl s=.exc c fs s'):fl s=.exc c fs s':=by
 rcases bC (show(fl s).bind _=_ from h)with h|⟨_,_,h⟩
 . lia
 lia
def CU{c:Nat}{F:TA}(K:iK (P.kt X) c M ns)(I:m∉ns)(ht:∀σ H Q,Q6 (P.kt X) N E fl σ H Q->F σ H Q)(z:Ay (P.kt X) N E (F3 c f fo fl) σ H Q) :
  xA M m (wF (P.kt X) N f) [] E (tE (P.kt X) fo) F σ H Q:=by
 have L:∀{vs:List V}{a:V}{p:Hp},wF _ N f _ p Q E->wF (P.kt X) N f (a::(vs++[])) p Q E:=λ{vs a p} z=>by rw[b9];exact z
 rcases z with⟨g,s,t,G,x,h,k⟩|⟨g,s,d,fs,G,x,h,k⟩
 .revert h;refine abK λtx i C=>λh=>?_
  revert h;refine abJ λ_ B=>λh=>?_;obtain⟨ts,s2,m',A,n,rfl⟩:=gG h;obtain⟨j,y,rfl⟩:=IQ A;rw[b9]at n;refine⟨g,s,tx,i,x,iw C,λv g1 H1 q e l=>?_⟩;obtain⟨a,D,vs,rfl,w⟩:=vc e K l<|.inl<|CT<|au B;exact⟨a,D,_,J,w,jJ I,ht _ _ _<|.ok g1 i j s2 e y λo g2 p b r u=>L<|Az (ts:=tx::j) r ⟨_,o,J,l.mv b.pre b.fr,u⟩ n λv W Z T R S=>k v W Z ((q.trans b).trans T) R S⟩
 .rcases bC h with h|⟨⟨tx,i⟩,C,h⟩
  .exact(i8 h).elim
  rcases bC h with h|⟨_,B,h⟩
  .exact(lU h).elim
  refine⟨g,s,tx,i,x,iw C,λv g1 H1 q e l=>?_⟩;obtain⟨a,D,vs,rfl,w⟩:=vc e K l<|.inl<|CT<|au B;refine⟨a,D,_,J,w,jJ I,ht _ _ _ ?_⟩;rcases call_exc h with h|⟨ts,s2,s3,A,n,rfl⟩
  .exact .ex g1 i d fs G e (Nf h)<|k.mv q
  .obtain⟨j,y,rfl⟩:=IQ A
   rw[b9]at n;exact .ok g1 i j s2 e y λo g2 p b r u=>L<|IP (ts:=tx::j) r ⟨_,o,J,l.mv b.pre b.fr,u⟩ n J<|k.mv<|q.trans b
def Ng{c k j:Nat}(d:Passes (ue X.prog X.w) X E)(D:MdX P X.prog X.w X.K X.mg X.base N k c m f)(hr:bI j X.A)(b:k<=j)(g:PE X o<|tE (P.kt X) fo)(l:PA X (e::es)<|Q6 (P.kt X) N E fl)(hs:(e::es).all noStar=O)(a:yd X o m bT (e::es) bq) :
  PE X (.Call (.Attribute o m bT) (e::es) [] bq)<|Ay (P.kt X) N E<|F3 c f fo fl:=by
 obtain⟨pl,a⟩:=a;obtain⟨r,fa,fd,ps,ns,n,cl,M,p,i,h⟩:=D.ex;rw[dW,cL]at hs;exact aX (BN g cl M p (hr.mono b) i .nil d l (aw hs.1) (dg hs.2) a) λσ H Q z=>CU n h (λ_ _ _ q=>q) z
def IS{c k j:Nat}(d:Passes (ue X.prog X.w) X E)(D:MdX P X.prog X.w X.K X.mg X.base N k c m f)(hr:bI j X.A)(b:k<=j)(e:PE X o<|tE (P.kt X) fo)(a:yd X o m bT [] bq) :
  PE X (.Call (.Attribute o m bT) [] [] bq)<|Ay (P.kt X) N E<|F3 c f fo a_:=by
 obtain⟨pl,a⟩:=a;obtain⟨t,fa,fd,ps,ns,n,cl,M,p,l,i⟩:=D.ex;refine aX (xC e cl M p (hr.mono b) l .nil d a) λσ H Q z=>CU n i (λσ H Q q=>?_) z;rcases q with⟨g,s,ts,r,x,h,q⟩|⟨_,_,_,_,_,_,h,_⟩
 .cases h
  exact q [] g H .refl x J
 .cases h
def UP{k j c n:Nat}(D:DnC P X.prog X.w X.K X.mg X.base k c n x)(hr:bI j X.A)(z:k+1<=j)(S:PA X (e::es)<|Q6 (P.kt X) N E fl)(L:Gl X x)(B:bB x)(hs:(e::es).all noStar=O) :
  PE X (.Call (.Name x p) (e::es) [] pos)<|Ay (P.kt X) N E<|dR c n fl:=by
 obtain⟨C,f,fd,ps,ns,T,G,I,M,F,R⟩:=D.ex;rw[dW,cL]at hs;refine aX (oV M F (hr.mono z) L I R .nil nG S B (aw hs.1)<|dg hs.2) λσ H Q r=>?_;rcases r with⟨g,s,t,i,x,h,k⟩|⟨g,s,d,fs,i,x,h,k⟩
 .revert h;refine abK λts u m=>λh=>?_
  split at h
  .rename_i hl
   cases h;refine .ok g s ts _ x m λb g1 H1 y a l x V nx nd v=>?_;have q:Hq b=Hq ns:=by rw[<- l.len,hl,G]
   refine⟨x,V,b++[],J,by rw[b9,q],ak,J,?_⟩
   rw[b9,uM];obtain⟨o,rp⟩:=vd a T (uG q) l nx nd v;exact k _ _ _ (y.trans<|a.j_ o) (a.grow o) rp
  lia
 .rcases bC h with h|⟨⟨ts,u⟩,m,h⟩
  .exact .ex g s d fs i x h k
  lia
def aaz(h:PS X st<|tS B F):PS X st<|tX B N E<|m_ F:=cz h λD σ H z=>by
 rcases z with⟨g,s,o,a,x,h,k⟩|⟨g,s,c,fs,a,x,h,k⟩
 .exact⟨g,s,o,a,x,iw h,k⟩
 .exact(i8 h).elim
def ZX:iz X []<|tX B N E aM:=qj uO λD σ H z=>by
 rcases z with⟨g,s,o,a,x,h,k⟩|⟨g,s,c,fs,a,x,h,k⟩
 .cases h
  exact k σ g H .refl x
 .cases h
def UQ(l:PS X st<|tX B N E F)(j:iz X rest<|tX B N E u):iz X (st::rest)<|tX B N E<|ah F u:=qj (jv l j) λD σ H z=>by
 rcases z with⟨g,s,o,b,x,h,k⟩|⟨g,s,c,fs,b,x,h,k⟩
 .revert h;refine abK λo1 a i=>λh=>?_
  refine .ok g s o1 a x i ?_;cases o1 with
  |nx=>exact λd g1 H1 f e=>.ok g1 a o b e h<|k.mv f
  |rt t=>cases h;exact k
  |bk=>cases h;exact k
  |ct=>cases h;exact k
 .rcases bC h with h|⟨⟨o1,a⟩,i,h⟩
  .exact .ex g s c fs b x h k
  .cases o1 with
   |nx=>exact .ok g s .nx a x i λd g1 H1 f e=>.ex g1 a c fs b e h<|k.mv f
   |rt t=>lia
   |bk=>lia
   |ct=>lia
def aaA{a b:Fh}(m:PT X c<|tT B ft)(p:iz X a<|tX B N E F)(n:iz X b<|tX B N E u):PS X (.If c a b pos)<|tX B N E<|bj (mC ft) F u:=cz (Qd m p n) λD σ H z=>by
 rcases z with⟨g,s,o,i,x,h,k⟩|⟨g,s,c,fs,i,x,h,k⟩
 .revert h;refine abK λd e l=>λh=>?_
  refine⟨g,s,d,e,x,iw l,λg1 H1 j f=>?_⟩;cases d with
  |true=>exact oq<|.ok g1 e o i f h<|k.mv j
  |false=>exact om<|.ok g1 e o i f h<|k.mv j
 .rcases bC h with h|⟨⟨d,e⟩,l,h⟩
  .exact(i8 h).elim
  refine⟨g,s,d,e,x,iw l,λg1 H1 j f=>?_⟩;cases d with
  |true=>exact oq<|.ex g1 e c fs i f h<|k.mv j
  |false=>exact om<|.ex g1 e c fs i f h<|k.mv j
def ZY(q:X.N.Nodup)(n:X.N[i]?=U x)(m:Loc X.env.scope x)(he:PE X e<|Ay B N E fa)(hs:eP e (U<|.Name x b) pos.line X.env=pure Zb)(p:F6 X x) :
  PS X (.Assign [.Name x b] e pos)<|tX B N E<|aG i fa:=cz (jw q n m he hs p) λD σ H z=>by
 rcases z with⟨g,s,o,a,x,h,k⟩|⟨g,s,c,fs,a,x,h,k⟩
 .revert h;refine abK λt f r=>λh=>?_
  cases h;exact .ok g s t f x r λv g1 H1 l d j=>k _ g1 H1 l<|d.set j
 .rcases bC h with h|⟨_,_,h⟩
  .exact .ex g s c fs a x h k
  lia
def ZZ(he:PE X e<|Ay B N E fa):PS X (.Return (U e) pos)<|tX B N E<|aC fa:=cz (G2 he) λD σ H z=>by
 rcases z with⟨g,s,o,a,x,h,k⟩|⟨g,s,c,fs,a,x,h,k⟩
 .revert h;refine abK λt d j=>λh=>?_
  cases h;exact .ok g s t d x j λv g1 H1 i b f=>k v g1 H1 i b.st f
 .rcases bC h with h|⟨_,_,h⟩
  .exact .ex g s c fs a x h k
  lia
def UR(he:PE X e<|Ay B N E fa)(hs:eP e Y pos.line X.env=pure Zb):PS X (.Expr e pos)<|tX B N E<|aR fa:=cz (jQ he hs) λD σ H z=>by
 rcases z with⟨g,s,o,a,x,h,k⟩|⟨g,s,c,fs,a,x,h,k⟩
 .revert h;refine abK λt d i=>λh=>?_
  cases h;exact .ok g s t d x i λv g1 H1 f b j=>k σ g1 H1 f b
 .rcases bC h with h|⟨_,_,h⟩
  .exact .ex g s c fs a x h k
  lia
def Z3(he:PE X e<|Ay B N E fa)(Q:X.N[i]?=U y)(P:nA X.env.scope y)(hd:bB y)(M:gk y)(hs:noStar e=O)(L:(bT.endLine == bq.line)=O) :
  PS X (.Expr (.Call (.Attribute (.Name y py) "append" bT) [e] [] bq) pos)<|tX B N E<|gO i fa:=by
 refine cz (jQ (xJ i4 n7 n6 jS (cu Q P hd M) (aU he cy<|aw hs) (gu J) (EL (by rw[dW,hs];rfl)<|by decide) L (aw hs) J) J) λD σ H r=>?_
 rcases r with⟨g,s,o,p,x,h,k⟩|⟨g,s,c,fs,p,x,h,k⟩
 .revert h;refine abJ λC d=>λh=>?_
  revert h;refine abK λt n T=>abJ λts S=>abJ λV R=>λh=>?_;obtain⟨z,rfl⟩:=bz<|au R;cases h;obtain⟨l0,a,q1,q2,b,q4⟩:=x.oK<|eB<|au d;refine⟨_,q1,.inl ⟨J,_,dY.of b⟩,.ok g s t n x T λv g1 H1 K f G=>?_⟩;have q:=eB<|au S;obtain⟨l,A,m,W,w,j⟩:=f.oK q;rw[q1]at m;cases m;obtain⟨u,I⟩:=f.chg q q1<|j.app<|.one G;exact⟨l0,A,v,J,J,w,j.len▸fU z<|by decide,k σ g1 _ (K.trans I) u⟩
 .rcases bC h with h|⟨C,d,h⟩
  .exact(lU h).elim
  obtain⟨l0,a,q1,q2,b,q4⟩:=x.oK<|eB<|au d;refine⟨_,q1,.inl ⟨J,_,dY.of b⟩,?_⟩;rcases bC h with h|⟨⟨t,n⟩,_,h⟩
  .exact .ex g s c fs p x h k
  .rcases bC h with h|⟨_,_,h⟩
   .exact(lU h).elim
   .rcases bC h with h|⟨_,_,h⟩
    .exact(lU h).elim
    lia
end
def RX(B:KT)(N:XN)(E:XK)(g:G)(H:Hp)(D:Ends):Res (Out×S)->Prop
 |.ok p=>Al B g H D p.1 p.2
 |.exc c fs a=>XR B N E g H c fs a
 |.bad=>False
section
variable{P:Pg}{x:Str}{g:G}{f:Fn}
def tX.of(x:SR B g H σ s)(h:F s=R)(k:RX B N E g H D R):tX B N E F D σ H:=by
 cases R with
 |ok q=>exact .ok g s _ _ x h k
 |exc c fs a=>exact .ex g s c fs a x h k
 |bad=>exact k.elim
def tX.to(z:tX B N E F D σ H):∃g s,SR B g H σ s/\RX B N E g H D (F s):=by
 rcases z with⟨g,s,o,a,x,h,k⟩|⟨g,s,c,fs,a,x,h,k⟩
 .exact⟨g,s,x,h▸k⟩
 .exact⟨g,s,x,h▸k⟩
def Nh(n:Nat)(hc:PT X c<|tT B ft)(hb:iz X body<|tX B N E F)(Z:mB (cv X.prog X.w) X.A X.env X.xe):PS X (.While c body [] pos)<|tX B N E<|il n (mC ft) F:=by
 refine cz (xw Z hc hb) λD σ H z=>?_;obtain⟨g,s,x,z⟩:=z.to;obtain⟨R,Q⟩:∃R,bW (mC ft) F n s=R:=⟨_,J⟩;rw[show il n _ F s=R from Q]at z;refine⟨λm h L=>∃g2 s2,dE g H g2 L/\SR B g2 L h s2/\bW _ F m s2=R,⟨n,g,s,.refl,x,Q⟩,?_⟩
 rintro m h L ⟨g2,s2,V,S,e⟩
 cases m with
 |zero=>subst e;exact z.elim
 |succ m=>
  replace e:((mC ft s2).bind λp=>if p.1 then(F _).bind λq=>(match q.1 with
   |.nx=>bW _ F m _
   |.ct=>bW _ F m _
   |.bk=>.ok _
   |.rt t=>.ok _)else .ok _)=R:=e
  cases I:ft s2 with
  |bad=>rw[mC,I]at e;subst e;exact z.elim
  |exc _ _ _=>rw[mC,I]at e;subst e;exact z.elim
  |ok q=>
  obtain⟨d,C⟩:=q;rw[mC,I]at e;refine⟨g2,s2,d,C,S,I,λg3 H3 T P=>?_⟩;have k:=V.trans T;cases d with
  |false=>
   have e:=e;subst e;exact om<|z h g3 H3 k P
  |true=>
   replace e:((F C).bind λq=>(match q.1 with
   |.nx=>bW _ F m _
   |.ct=>bW _ F m _
   |.bk=>.ok _
   |.rt t=>.ok _))=R:=e
   refine oq ⟨λl M=>∃G y,dE g H G M/\SR B G M l y/\bW _ F m y=R,by rintro l M ⟨G,y,a,b,c⟩;exact⟨m,pN m,G,y,a,b,c⟩,?_⟩
   refine tX.of P J ?_;cases K:F C with
   |bad=>rw[K]at e;subst e;exact z.elim
   |exc c1 fs1 o=>rw[K]at e;subst e;exact XR.mv z k
   |ok q=>
    obtain⟨W,o⟩:=q;rw[K]at e;cases W with
    |nx=>exact λf g5 u j i=>⟨g5,o,k.trans j,i,e⟩
    |ct=>exact λf g5 u j i=>⟨g5,o,k.trans j,i,e⟩
    |bk=>
     have e:=e;subst e;exact λf g5 u j i=>z f g5 u (k.trans j) i
    |rt t=>
     have e:=e;subst e;exact λv g5 u j i r=>z v g5 u (k.trans j) i r
def Z4{f:FG}(hc:X.calm=O)(hi:PI X tg iter<|tI B fl)(hg:PG X tg gt)(FZ:r6 B gt f S')(hb:iz X body<|tX B N E F)(hp:mB (cv X.prog X.w) X.A X.env X.xe)
  (hs:∀x,eI iter X.env x=pure x):PS X (.For tg iter body [] pos)<|tX B N E<|dM (pe fl) f F:=by
 refine cz (G6 hp hc hi hg hb hs) λD σ H zz=>?_;obtain⟨g,s,x,z⟩:=zz.to;cases T:fl s with
 |bad=>unfold dM pe at z;rw[T]at z;exact z.elim
 |exc _ _ _=>unfold dM pe at z;rw[T]at z;exact z.elim
 |ok q=>
 obtain⟨xs,V⟩:=q;obtain⟨R,hR⟩:∃R,bg f F xs V=R:=⟨_,J⟩;rw[show dM _ f F s=R by unfold dM pe;exact T▸hR]at z
 refine⟨g,s,xs,V,x,T,λqC g1 H1 Q x1 wk=>?_⟩;refine⟨λi m h n=>m=Hq xs-i/\i<=Hq xs/\∃g2 s2,dE g1 H1 g2 n/\SR B g2 n h s2/\bg f F (xs.drop i) s2=R,
  ⟨Hq xs,by simp,dO _,g1,V,.refl,x1,by exact hR⟩,?_⟩
 rintro i m h n ⟨rfl,Ĝ,g2,s2,I,u,d⟩
 have Z:=I.fr.trans u.sub;by_cases gb:i<Hq xs
 .have hx:=dP gb
  rw[Gy gb]at d
  replace d:((bu _).bind λr=>(F _).bind λp=>match p.1 with
   |.nx=>bg f F ..
   |.ct=>bg f F ..
   |.bk=>.ok _
   |.rt t=>.ok _)=R:=d
  cases q1:f xs[i] s2.r with
  |none=>rw[q1]at d;subst d;exact z.elim
  |some P=>
  rw[q1]at d
  replace d:((F _).bind λp=>match p.1 with
   |.nx=>bg f F ..
   |.ct=>bg f F ..
   |.bk=>.ok _
   |.rt t=>.ok _)=R:=d
  refine .inr ⟨wk.go i n Z gb,λo H'=>∃S M,dE g1 H1 S H'/\SR B S H' o M/\bg f F _ M=R,
   by rintro o H' ⟨S,M,a,b,c⟩;exact⟨Hq xs-(i+1),Bm gb<|pN i,J,gb,S,M,a,b,c⟩,λv H3 y=>?_⟩
  obtain⟨t,ht,y2⟩:=wk.yld i n v H3 Z gb y;rw[hx]at ht;cases ht;obtain⟨Ls,Zk,rx⟩:=y2 g2.HF I.fr u.sub;have L:=u.grow Zk;have G:=I.trans<|u.j_ Zk;refine FZ.ok g2.al Ls H3 h s2.r _ v P _ L.sub (rx.mv I.pre<|aT.refl _) q1 L.lc.len λσ4 st=>tX.of (s:=⟨P,s2.m⟩) ⟨L.st,L.lc.sets J st⟩ J ?_;cases W:F _ with
  |bad=>rw[W]at d;subst d;exact z.elim
  |exc c1 fs1 C=>rw[W]at d;subst d;exact XR.mv z<|Q.trans G
  |ok q=>
   obtain⟨o3,C⟩:=q;rw[W]at d;cases o3 with
   |nx=>exact λj g5 K l k=>⟨g5,C,G.trans l,k,d⟩
   |ct=>exact λj g5 K l k=>⟨g5,C,G.trans l,k,d⟩
   |bk=>
    have d:=d;subst d;exact λj g5 K l k=>z j g5 K ((Q.trans G).trans l) k
   |rt t=>
    have d:=d;subst d;exact λv g5 K l k r=>z v g5 K ((Q.trans G).trans l) k r
 .have e:=Gn Ĝ<|Bk gb
  subst e;rw[Bw]at d;have d:=d;subst d;exact .inl ⟨wk.stop _ n Z J,z h g2 n (Q.trans I) u⟩
def xr0(d:Nat)(a:FE):FS:=λs=>(IM<|a s).bind λp=>.exc d [] p.2
structure XM0(K:bD)(mg:Str->D2)(C:ax)(x:Str):Prop where
 ex:O_ K C UJ "ValueError.__new__" = O
 at_:mg x=U (.ref C)
def US:FR->Option (Int×Int)
 |[.int i,.int j]=>U (i,j)
 |_=>Y
def IT{p:Int×Int}(h:US ts=U p):ts=[.int p.1,.int p.2]:=by
 unfold US at h;lia
def Z5(d:Nat)(fl:FL):FS:=λs=>(IM<|fl s).bind λp=>(bu<|US p.1).bind λi=>.exc d [.int i.1] p.2
structure XM2(K:bD)(P:da)(w:de)(mg:Str->D2)(base:eh)(C:ax)(f g x:Str):Prop where
 ex:∃fI fd ps,M9 K C fI=O/\D9 K (.ref fI)=O/\cX P w K mg base lu 1 fI fd ps (IG C f g)/\ps.length=3/\Binds K fd ps []
 kp:lC K (.ref C)=O
 at_:mg x=U (.ref C)
def IU{C:ax}(G:N[d]?=U (C,U fn))(Z:F0 X E)(M:XM2 X.K X.prog X.w X.mg X.base C fn gn x)(hr:bI 2 X.A)(F:PA X (e::es)<|tA B fl)(y:Gl X x)(v:bB x)(hs:(e::es).all noStar=O) :
  PS X (.Raise (U<|.Call (.Name x np) (e::es) [] bq) Y pos)<|tX B N E<|Z5 d fl:=by
 obtain⟨S,fd,ps,m1,m2,m3,_,m4⟩:=M.ex;rw[dW,cL]at hs;refine cz (Ax Z m1 M.kp m2 m3 m4 hr M.at_ F y v (aw hs.1)<|dg hs.2) λD σ H z=>?_;rcases z with⟨g,s,o,p,x,h,k⟩|⟨g,s,c,fs,p,x,h,z⟩
 .revert h;refine abJ λ_ _=>λh=>?_
  revert h;refine abJ λ_ _=>λh=>?_;cases h
 rcases bC h with h|⟨⟨ts,R⟩,L,h⟩
 .exact(i8 h).elim
 rcases bC h with h|⟨⟨i,j⟩,I,h⟩
 .exact(lU h).elim
 cases h
 obtain rfl:=IT<|au I
 refine⟨g,s,_,_,x,iw L,λQ g1 H1 u b f=>?_⟩;obtain⟨n,f,rfl,q1,m,r,P,q2,t⟩:=f;cases(q1);cases(q2);subst P;cases(t);refine⟨_,_,J,λa hd=>?_⟩;have l:=Gr.jm (o:=XD a [(fn,V.int i),(gn,V.int j)]) b.sub hd;obtain⟨k,hk,q⟩:=z _ _ (u.trans<|b.j_ l) (b.grow l).st;rw[G]at hk;cases hk;exact q _ ⟨i,a,[(gn,V.int j)],J,J,ak⟩
def IV{C:ax}{f:FE}(u:N[d]?=U (C,Y))(Z:F0 X E)(M:XM0 X.K X.mg C x)(r:PE X e b)(a:∀σ H(Q:Hp->Prop),tE B f σ H (λ_ H1=>Q H1)->b σ H λv H1=>[v].length=1/\Q H1)(p:Gl X x)(n:bB x)(hs:noStar e=O) :
  PS X (.Raise (U<|.Call (.Name x np) [e] [] bq) Y pos)<|tX B N E<|xr0 d f:=by
 refine cz (IJ Z M.ex M.at_ r p n<|aw hs) λD σ H z=>?_;rcases z with⟨g,s,o,l,x,h,k⟩|⟨g,s,c,fs,l,x,h,k⟩
 .revert h;refine abJ λ_ _=>λh=>?_
  lia
 .rcases bC h with h|⟨⟨t,j⟩,w,h⟩
  .exact(i8 h).elim
  cases h;refine a σ H _ ⟨g,s,t,j,x,iw w,λv g1 H1 m i _=>?_⟩;obtain⟨y,hk,q⟩:=k g1 H1 m i.st;rw[u]at hk;cases hk;exact q Y ⟨J,J⟩
end
section
variable{K:bD}
def CV(h:aE a n F ts m=.exc c fs s'):Hq ts=a/\F ⟨ts.map (λt=>U<|.val t)++cK (n-Hq ts) Y,m⟩=.exc c fs s':=by
 unfold aE at h;split at h
 .rename_i hl
  refine⟨hl,?_⟩;rcases bC h with h|⟨⟨o,b⟩,d,h⟩
  . lia
  lia
 lia
def Ni{st:gL}(Fn:yi K x qual st f fd)(L:gS e ps<|aK st)
  (b:∀(a:ao)(A:ef)(outer:List Env)(s:ag)(H:Hp)(E:XK),bI k (A.deeper<|GU qual (aK st) s.heap.objs.size f a)->F0 (mL (ue P w) P w K mg base e qual (aK st) f a A outer s H E) E ->
   iz (mL (ue P w) P w K mg base e qual (aK st) f a A outer s H E) (cP st) (tX B N E F)) :
  cX P w K mg base (ue P w) (k+1) f fd ps<|wF B N<|aE ps.length e.length F:=by
 obtain⟨S,od,T,kV,I,R,an,a,ct,M,rfl,lk,C⟩:=Fn.ex;refine Qi lk C L (λn H Q E h=>?_) λA outer s H n Q E hr h=>?_
 .rcases h with⟨g,ts,m,t,z,x,r,h,_⟩|⟨g,ts,m,c,fs,d,x,r,h,_⟩
  . exact r.len▸(o9 h).1
  . exact r.len▸(CV h).1
 .refine⟨_,b a A outer s H E hr ⟨λ_ _ h=>h,J,J,J,J⟩,?_⟩
  rcases h with⟨g,ts,m,t,z,x,r,h,q⟩|⟨g,ts,m,c,fs,d,x,r,h,q⟩
  .obtain⟨_,o,d,G,rfl,D⟩:=o9 h
   refine .ok g _ o d ⟨x,mV r⟩ G ?_;rcases D with rfl|⟨rfl,rfl⟩
   .exact λv i j p y u=>q v i j p y u
   .exact λl i j p y=>q _ i j p y.st J
  .exact .ex g _ c fs d ⟨x,mV r⟩ (CV h).2 q
def UT(F:cX P w K mg base (ue P w) k f fd ps<|wF B N fn):cX P w K mg base lu k f fd ps<|rH B fn:=by
 have a:∀{b H Q E},rH B fn b H Q E->wF B N fn b H Q λ_ _ _=>False:=by
  rintro _ _ _ _ ⟨g,ts,m,t,l,x,r,h,q⟩;exact .ok g ts m t l x r h q
 refine⟨λb H Q E h=>F.len b H Q _<|a h,λA outer s H c i b Q E hr p n j h=>gV (F.run A outer s H c i b Q _ hr p n j<|a h) λr u d=>?_⟩;cases r with
 |ok o=>cases o<;>exact d
 |error e=>
  obtain⟨_,_,_,_,_,_,_,_,_,_,_,_,_,z⟩:=d;lia
def IW(F:cX P w K mg base (ue P w) k f fd ps<|wF B N fn):cX P w K mg base (ue P w) k f fd ps<|wF B N<|aL fn:=F.imp λS H Q E h=>by
 have go:∀{g:G}{ts:FR}{m:FX},eQ B g H m->aF B g.al g.HF ts S->∀R,aL fn ts m=R->R≠.bad->(∀t L,R=.ok _->∀v D d,dE g H D d->eQ B D d L->Rep B D.al D.HF t v->Q v d)->(∀c fs I,R=.exc c fs I->XR B N E g H c fs I)->wF B N fn S H Q E:=λ{g ts m} x r R h A q1 q2=>by
  have M:eQ B ⟨g.HF,λ_=>Y,[]⟩ H []:=⟨x.sub,λb p e=>(by lia),J,λk ob e=>(by simp at e)⟩
  have back:∀{g0:G}{d:Hp},dE ⟨g.HF,λ_=>Y,[]⟩ H g0 d->aT g0.HF d->dE g H ⟨g0.HF,g.o,g.al⟩ d/\eQ B ⟨g0.HF,g.o,g.al⟩ d m:=λ{g0 d} p ys=>by
   have keep:∀b p,g.o b=U p->d b=H b/\g0.HF b=Y:=λb q X=>by
    obtain⟨T,u,C⟩:=x.live b q X;obtain⟨j,i,_⟩:=p.rest b u C T J;lia
   refine⟨⟨p.fr,fH,λb u h n z=>?_,p.there⟩,x.mv ys (λb p e=>?_) p.fr J λl p h _=>⟨h,(keep l p h).1⟩⟩
   .obtain⟨j,i,_⟩:=p.rest b u h n J
    lia
   .obtain⟨T,u,C⟩:=x.live b p e
    grind
  unfold aL at h;by_cases hn:aB ts=O
  .rw[b0 hn]at h
   cases e:fn ts []with
   |bad=>lia
   |ok z=>
    rw[e]at h;dsimp only at h;by_cases BJ:noOwn z.1=O
    .rw[b0 BJ]at h
     exact .ok _ ts [] _ _ M (aF.no hn r) e λv g0 d p y W=>let⟨a,b⟩:=back p y.sub;q1 _ _ h.symm v _ d a b<|Rep.no BJ W
    lia
   |exc c0 s V=>
    rw[e]at h;dsimp only at h;by_cases BJ:aB s=O
    .rw[b0 BJ]at h
     exact .ex _ ts [] c0 s V M (aF.no hn r) e λg0 d p y=>let⟨a,b⟩:=back p y.sub;q2 _ _ _ h.symm _ d a b
    lia
  lia
 rcases h with⟨g,ts,m,t,L,x,r,h,q⟩|⟨g,ts,m,c,fs,I,x,r,h,q⟩
 .exact go x r _ h (λz=>nomatch z) (λ_ _ z=>by grind) λ_ _ _ z=>nomatch z
 .exact go x r _ h (λz=>nomatch z) (λ_ _ z=>nomatch z) λ_ _ _ z=>by lia
end
end D
namespace L2
open PySem PySem.W PyProof.Rows PySem.Calls PySem.Builtin PySem.Builtin.ObjectAttr PySem.Builtin.Getset_descriptor
section
variable{K:y8}{C a:ax}{A:ef}
def IX(X:K.In h)(b:qB K (.ref C) name=U (U f))(a:specialIn K f "__get__" = U (U g))(ht:takesIn K f=U O) :
  tf M h (E6 (.ref x) (.ref C) name)<|.bind g f:=
 (pd X b).andThen<|(looks_specialIn X a).andThen<|(show tf M h _ (U _)from(looks_takesIn X ht).andThen .now).andThen<|Looks.tag .now
def IY(X:K.In s.heap)(he:s.heap.get? x=U u)(c:u.cls=.ref C)(a:mroIn K C (.type "object")=U O)
  (h:R (.ok<|.ret<|.ref C) s):jA (cv prog w) A (.call (.builtin "getset_descriptor.__get__") ⟨[.builtin Hl,.ref x,tp],[]⟩) R s:=by
 obtain⟨b,g,d,t,os⟩:=s;have e:tf (cv prog w) b (xB<|.ref x)<|.ref C:=c▸(rb he).andThen .now;have L1:=vb (M:=cv prog w) X a;refine hA KF.slot_gs.plain KF.entry_gs<|KF.slot_gs.check _ _ _ _ _ _ _ _ KF.type_class (KF.args_gs _ _ _) ?_;refine av<|dn ?_;unfold descrGetter descrCheckInstance descrNameAndClass sq;simp only[KF.owner_class]
 repeat lk
 refine⟨n0 _<|by decide +kernel,codeAny_builtin KF.entry_class ?_⟩
 repeat lk
 exact h
structure vA(K:y8)(C:ax):Prop where
 ga:qB K (.ref C) "__getattribute__" = U (U<|.builtin He)
 gn:qB K (.ref C) "__getattr__" = U Y
 cl:qB K (.ref C) "__class__" = U (U<|.builtin Hl)
 gt:specialIn K (.builtin Hl) "__get__" = U (U<|.builtin "getset_descriptor.__get__")
 tk:takesIn K (.builtin Hl)=U O
 mb:mroIn K C (.type "BaseException")=U O
 mo:mroIn K C (.type "object")=U O
def E9(Z:vA K C)(X:K.In s.heap)(he:s.heap.get? a=U u)(f:u.cls=.ref C)(c:Q () s) :
  c4 M A (u1 He ⟨[.ref a,b],[]⟩) Q E s:=by
 obtain⟨e,g,d,t,os⟩:=s;have L0:tf M e (xB<|.ref a)<|.ref C:=f▸(rb he).andThen .now;have L4:=vb (M:=M) X Z.mb;have hk:builtinKind He = U .slot:=by decide +kernel
 have h:splitId He = U ("BaseException","__getattribute__"):=by decide +kernel
 have i:=F.args_bexc_ga (.ref a) b;simp only[u1,hk,h];apply av;unfold sq;refine av<|L0.at<|L4.at ?_
 repeat (first|wp_step)
 exact c
def UU(Z:vA K C)(X:K.In s.heap)(he:s.heap.get? a=U u)(e:u.cls=.ref C)(h:Q (U<|.ref C) {s with toks:=s.toks+1}) :
  c4 (cv prog w) A (getAttr? (.ref a) "__class__") Q E s:=by
 obtain⟨f,g,d,t,os⟩:=s;have L0:tf (cv prog w) f (xB<|.ref a)<|.ref C:=e▸(rb he).andThen .now;have L1:=pd (M:=cv prog w) X Z.ga;have L2:=pd (M:=cv prog w) X Z.gn;have k:=IX (M:=cv prog w) (x:=a) X Z.cl Z.gt Z.tk;have b:(p0 He == p0 "object.__getattribute__")=Zb:=by decide +kernel
 have c:(onTheHeap (Value.ref C)&&p0 He == p0 "object.__getattribute__")=Zb:=by rfl
 refine av<|wpAny_mkText<|av<|wpAny_attempt<|ke<|av<|L0.at<|av<|L1.at ?_;dsimp only;rw[c]
 apply av;show c4 _ _ _ _ _ _;refine L2.at ?_;refine av<|wpAny_attempt<|ke ?_;refine iv<|hA F.excAttr_ValueError.ga.plain F.entry_bexc_ga ?_;refine E9 Z X he e ?_;repeat ((fail_if_success (with_reducible show c4 _ _ (PySem.call _ _ _) _ _ _));lk)
 refine iv<|IY X he e Z.mo ?_
 repeat lk
 exact h
end
section
variable{K:y8}
def CW(Z:vA K C):∃a,clsIn K C=U a:=by
 have h:=Z.mo;obtain⟨a,e,_⟩:=bV.mp h;exact⟨a,e⟩
def I0(Z:vA K C)(i:y.cls=.ref C):KitX K (.ref a) (.ref C) λh=>h.get? a=U y where
 ty:=λ_ _ _ e=>i▸(rb e).andThen .now
 it:=λ_ _ X _=>by
  obtain⟨f,b⟩:=CW Z;unfold clsIn at b;split at b
  .rename_i m l g o d
   intro v t u p k q;exact av<|qs (k _ _<|X _ _ d)<|dn q
  .cases b
 ne:=λh j r s n sl X c=>by
  obtain⟨f,b⟩:=CW Z;refine Bool.eq_false_iff.mpr λq=>?_;have e:=Value.ref.inj<|beq_iff_eq.mp q;subst e;unfold clsIn at b;split at b
  .rename_i m l g o d
   have z:=(X _ _ d).symm.trans c;cases z
  .cases b
 ca:=λX e k=>UU Z X e i k
end
end L2
namespace D
open PySem L2 PySem.W PyProof.Rows
def tEi(i:Nat)(a:ax)(d:Obj)(b:Bool):TE:=λc H Q=>c[i]?=U (U<|.ref a)/\H a=U (EX a d)/\Q (.bl b) H
def Q8(i:Nat)(a:ax)(c:Obj)(bs:Fs):TA:=λb H Q=>b[i]?=U (U<|.ref a)/\H a=U (EX a c)/\Q (bs.map V.bl) H
def XiF(K:y8)(mg:Str->D2)(C:ax)(y:Str)(b:Bool):Prop:=bB y/\((∃D,mg y=U (.ref D)/\kitOne K (.ref C) (.ref D)=U b)\/∃T,mg y=Y/\hF y=U (.type T)/\y ≠ "__name__" /\ kitOne K (.ref C) (.type T)=U b)
section
variable{a C:ax}
def I_(Z:vA X.K C)(i:B.cls=.ref C):fM X (.builtin "isinstance") λvs H Q=>∃c u b,vs=[.ref a,c]/\(∀e,RelV c e->e=u)/\H a=U (EX a B)/\kitOne X.K (.ref C) u=U b/\Q (.bl b) H:=by
 rintro m s k H vs l Q I r ⟨c,u,b,rfl,h,j,d,q⟩
 cases r with
 |cons g r=>
  cases r with
  |cons f r=>
   cases r;cases(g);cases h _ f;exact kia_one (I0 Z i) I.jk (EX.at_<|I.bF a _ j) d (λz=>nomatch z) λtk=>⟨.bl b,H,I.tok tk,J,q⟩
def UW(Z:vA X.K C)(l:B.cls=.ref C)(F:XiF X.K X.mg C y b)(o:X.mg "isinstance" = Y)(m:X.N[i]?=U n)(j:nA X.env.scope n)(hd:bB n)(h:gk n)(k:Gl X "isinstance")(r:Gl X y) :
  PE X (.Call (.Name "isinstance" p) [.Name n pn,.Name y py] [] pos)<|tEi i a B b:=by
 obtain⟨q,⟨D,g,f⟩|⟨T,g,f,u,t⟩⟩:=F
 .exact aX (gA (I_ Z l) k o xl (aU (cu m j hd h) (aU (oS (v:=.ref D) r g J q) cy J) J)) λs H Q ⟨e,d,c⟩=>⟨.ref a,e,_,.ref D,b,J,λ_ z=>z,d,f,c⟩
 .exact aX (gA (I_ Z l) k o xl (aU (cu m j hd h) (aU (BI r g f (v:=.ty T) J u q) cy J) J)) λs H Q ⟨e,d,c⟩=>⟨.ref a,e,_,.type T,b,J,λ_ z=>z,d,t,c⟩
def UX:PA X []<|Q8 i a B []:=tQ cy λ_ _ _ h=>h.2.2
def Nj(h:PE X e<|tEi i a B b)(hr:PA X es<|Q8 i a B bs)(hs:c3 (e::es) X.env=(Zb,eE e X.env)::c3 es X.env):PA X (e::es)<|Q8 i a B<|b::bs:=
 tQ (aU h hr hs) λ_ _ _ ⟨d,c,f⟩=>⟨d,c,d,c,f⟩
end
def UY{a C:ax}{m g K:Bz}{p1 p2 p3 p4 Z q1 q2 W q4 q5 T S R:Pos}
  (hz:Hq b1+Hq b2+Hq b3<=1000)
  (h1:PA X m<|Q8 i a p b1) (h2:PA X g<|Q8 i a p b2) (h3:PA X K<|Q8 i a p b3)
  (d:X.N.Nodup) (f:X.N[j]?=U x) (t:Loc X.env.scope x) (B:nA X.env.scope x) (dx:bB x) (G:gk x) (fx:F6 X x) :
  iz X [.Assign [.Name x p1] (.List m q1) T,.Assign [.Name x p2] (.BinOp (.Name x p3) .Add (.List g q2) W) S,.Assign [.Name x p4] (.BinOp (.Name x Z) .Add (.List K q4) q5) R]
   λE c H=>c[i]?=U (U<|.ref a)/\H a=U (EX a p)/\j<Hq c/\j≠i/\∀l H1,(∀HF,aT HF H->Gr HF H HF H1)->H l=Y->H1 l=U (.lst<|(b1++b2++b3).map V.bl)->E.nx (c.set j<|U<|.ref l) H1:=by
 refine qj (jv (jw d f t (pX h1) J fx)<|jv (jw d f t (nC zW (cu f B dx G)<|pX h2) J fx)<|lF<|jw d f t (nC zW (cu f B dx G)<|pX h3) J fx) ?_;intro E c H P;obtain⟨F,e,L,Z7,k⟩:=P;have hz':1000<=cC:=by decide
 have I:∀v,(c.set j v)[i]?=U _:=λv=>by rw[e9 Z7];exact F
 have q:∀u w:Option V,(c.set j u).set j w=c.set j w:=λu w=>PD ..;have na:∀{M:Hp}{l:ax}{b:ax}{o:HO},M b=U o->M l=Y->b≠l:=λh n z=>by rw[z,n]at h;cases h
 refine⟨F,e,by rw[bQ];lia,λl1 n1=>?_⟩
 have a1:=na e n1;refine⟨.ref l1,f9 L,I _,by rw[aq a1];exact e,by rw[bQ];lia,λl2 n2=>?_⟩
 have A:=na ak n2;have a2:=na (by rw[aq a1];exact e) n2
 refine⟨l1,l2,_,_,J,J,by rw[aq A];exact ak,ak,by rw[bQ,bQ];lia,λl3 s=>?_⟩
 have a3:=na (by rw[aq a2,aq a1];exact e) s
 refine⟨.ref l3,by rw[q];exact f9 L,by rw[q];exact I _,by rw[aq a3,aq a2,aq a1];exact e,by rw[bQ];lia,λl4 r=>?_⟩
 have y:=na ak r;refine⟨l3,l4,_,_,J,J,by rw[aq y];exact ak,ak,by rw[bU,bQ,bQ,bQ];exact cJ hz<|by decide,λl5 D=>?_⟩
 have e5:b1.map V.bl++b2.map V.bl++b3.map V.bl=(b1++b2++b3).map V.bl:=by rw[gf,gf]
 dsimp only[xu];rw[q,q,e5];refine k l5 _ (λHF Q=>?_) ?_ ak
 .have g1:=Gr.jm (o:=.lst<|b1.map V.bl) Q n1
  have g2:=g1.trans<|Gr.jm (o:=.lst<|b2.map V.bl) g1.sub n2;have g3:=g2.trans<|Gr.jm (o:=.lst<|b1.map V.bl++b2.map V.bl) g2.sub s;have g4:=g3.trans<|Gr.jm (o:=.lst<|b3.map V.bl) g3.sub r;exact g4.trans<|Gr.jm g4.sub D
 .exact((aW n1).trans<|(aW n2).trans<|(aW s).trans<|aW r).free D
end D
namespace D
open PySem L2 PyProof.Rows
variable{X:Cx}{a e:cx}{fl:FL}{B:KT}{es:Bz}{i:Nat}{bq p pos:Pos}{x y:Str}
section
variable{P:Pg}
def ExS(P:Pg)(X:Cx)(N:XN)(ae:dJ)(σ:L2.St)(g:G)(H:Hp)(c:Nat)(fs:FR)(s':S)(Ex:F1):Prop:=∃k,N[c]?=U k/\∀a t d c2 b sa H1 g1 e sh,Inv X ae σ b sa->sh.os=sa.os->kx sh.gens->Lies X.prog X.w X.stack b sa H1 e sh.heap->kY e X.stack a (.ref k.1) (.ref t) (d,c2) sh.heap->(d=Y->c2=.none)->dE g H g1 H1->SR (P.kt X) g1 H1 σ s'->XF k.2 fs d H1->Ex (.ref a) sh
def Z9{fa:ax}{Q:F1}
  (R:cX X.prog X.w X.K X.mg X.base (ue X.prog X.w) k fa fd ps<|wF (P.kt X) N f) (hr:bI k X.A) (hb:Binds X.K fd ps []) (I:Inv X ae σ H s) (x:SR (P.kt X) g H σ ss) (l:Vals vs us) (r:aF (P.kt X) g.al g.HF ts vs)
  (B:(∃t m',f ts ss.m=.ok (t,m')/\∀u v sh g' H',Inv X ae σ H' sh->RelV v u->dE g H g' H'->SR (P.kt X) g' H' σ {ss with m:=m'}->Rep (P.kt X) g'.al g'.HF t v->Q u sh)\/(∃c fs i,f ts ss.m=.exc c fs i/\ExS P X N ae σ g H c fs {ss with m:=i.m} Ex)) :
  Gf X (call (.ref fa) us) Q Ex s:=by
 have run:∀(n:VK)(o:XK),wF _ N f vs H n o->jA _ X.A _ _ s:=λn o sp=>by
  have hl:us.length=ps.length:=by rw[<- l.length];exact R.len _ _ _ _ sp
  have M:=hb s us I.jk (by rw[b9];exact hl)
  rw[b9]at M;exact R.run X.A X.stack s H _ us vs n o hr I.LZ M l sp
 rcases B with⟨t,m',F,q⟩|⟨c,fs,i,F,E,hk,q⟩
 .refine iv<|gV (run (λv h=>∃g2,dE g H g2 h/\SR _ g2 h σ _/\Rep _ g2.al g2.HF t v) (λ_ _ _=>False)<|Az x r F λv g' H' j y l=>⟨g',j,y,l⟩) λr i b=>?_
  cases r with
  |error e=>
   obtain⟨_,_,_,_,_,_,_,_,_,_,_,_,_,z⟩:=b;exact z.elim
  |ok fo=>
   cases fo with
   |ret u=>
    obtain⟨v,h,G,T,g2,j,y,W⟩:=I.after b;exact q u v i g2 h G T j y W
   |next=>exact eJ b
   |brk=>exact eJ b
   |cont=>exact eJ b
 .refine iv<|gV (run (λ_ _=>False) (λCv d h=>∃g2,Cv=.ref _/\XF _ fs d h/\dE g H g2 h/\SR _ g2 h σ _)<|.ex g.aj ts ss.m c fs i x.st.aj r F λg' H' j S=>⟨E,hk,λd hd=>let⟨D,p⟩:=x.back j S;⟨_,J,hd,D,p⟩⟩) λr s2 b=>?_
  cases r with
  |error e=>
   obtain⟨a,t,C,d,c2,h,Bh,rfl,ho,Z,L,Fl,ī,g2,eC,hd,D,p⟩:=b;cases eC;exact q a t d c2 H s h g2 Bh s2 I ho Z L Fl ī D p hd
  |ok fo=>
   cases fo with
   |ret u=>
    obtain⟨v,h,G,_,z⟩:=I.after b;exact z.elim
   |next=>exact eJ b
   |brk=>exact eJ b
   |cont=>exact eJ b
def yt{Q:F1}(D:ZW P X.prog X.w X.K X.mg X.base N k x f)(hr:bI j X.A)(mU:k<=j)(ha:PA X.sX (e::es)<|tA (P.kt X) fl)(hg:Gl X x)(ie:bB x)(hs:(e::es).all noStar=O)(I:Inv X ae σ H s)(S:SR (P.kt X) g H σ ss)
  (F:(∃t s',ai f [] (pe fl) ss=.ok (t,s')/\∀u v sh g' H',Inv X ae σ H' sh->RelV v u->dE g H g' H'->SR (P.kt X) g' H' σ s'->Rep (P.kt X) g'.al g'.HF t v->Q u sh)\/(∃c fs s',ai f [] (pe fl) ss=.exc c fs s'/\ExS P X N ae σ g H c fs s' Ex)) :
  Gf X (eE (.Call (.Name x p) (e::es) [] bq) X.env) Q Ex s:=by
 obtain⟨fa,fd,ps,FF,hm,hk,hb⟩:=D.ex;rw[dW,cL]at hs;obtain⟨ts,b,n,i⟩:∃ts b,fl ss=.ok (ts,b)/\((∃t l,f ts b.m=.ok (t,l)/\∀u v sh g' H',Inv X ae σ H' sh->RelV v u->dE g H g' H'->SR (P.kt X) g' H' σ {b with m:=l}->Rep (P.kt X) g'.al g'.HF t v->Q u sh)\/(∃c fs s',f ts b.m=.exc c fs s'/\ExS P X N ae σ g H c fs {b with m:=s'.m} Ex)):=by
  rcases F with⟨t,s',h,q⟩|⟨c,fs,s',h,q⟩
  .obtain⟨ts,b,l,n,i,rfl⟩:=gG h
   rw[b9]at i;exact⟨ts,b,iw n,.inl ⟨t,l,i,q⟩⟩
  .rcases call_exc h with h|⟨ts,b,s2,n,i,rfl⟩
   .exact(i8 h).elim
   .rw[b9]at i
    exact⟨ts,b,iw n,.inr ⟨c,fs,s2,i,q⟩⟩
 refine ff<|gp I hg hm ?_ ie;refine Bj (h₀:=X.base) I.ok.mod.kin hk (ey (ha bq ae s σ H (λC y=>∃g2,dE g H g2 y/\SR (P.kt X) g2 y σ b/\aF (P.kt X) g2.al g2.HF ts C) (I.oi _) ⟨g,ss,ts,b,S,n,λC g2 y o B G=>⟨g2,o,B,G⟩⟩) (λus s3 R=>?_) λ_ _ z=>z.elim) (aw hs.1)<|dg hs.2;obtain⟨C,y,r,E,g2,o,B,G⟩:=R;have r:=r.ib;refine⟨r.jk,Z9 FF (hr.mono mU) hb r B E G ?_⟩;rcases i with⟨t,l,M,q⟩|⟨c,fs,s',M,kk,hk,q⟩
 .exact .inl ⟨t,l,M,λu v sh g' H' I' W p' V Z=>q u v sh g' H' I' W (o.trans p') V Z⟩
 .exact .inr ⟨c,fs,s',M,kk,hk,λa t d c2 Ha sa H1 g1 Bh sh Ia ho lV L Fl hc p1 T hd=>q a t d c2 Ha sa H1 g1 Bh sh Ia ho lV L Fl hc (o.trans p1) T hd⟩
end
def Ĭ(i j:Nat)(kb:List Fs)(c:Nat):FS:=λs=>(bu<|kb[c]?).bind λbs=>match s.r[i]? with
 |some none=>.ok (.nx,iT s j<|.val<|.lst<|bs.map .bl)
 |_=>.bad
def Ja(F:FE)(A:Nat->FS):FS:=λs=>match F s with
 |.ok p=>.ok (.nx,p.2)
 |.exc c _ a=>A c a
 |.bad=>.bad
def yu(i cn:Nat)(F:FE):FS:=λs=>match F s with
 |.ok p=>.ok (.nx,iT p.2 i<|.val p.1)
 |.exc c _ a=>if c=cn then .ok (.nx,iT a i<|.val .non)else .bad
 |.bad=>.bad
def SR.slot{a:L2.St}(x:SR B g H a s)(b:s.r[i]?=U Y)(w:Option V):SR B g H (a.set i w) s:=
 ⟨x.st,by rw[fF];exact x.lc.len,λm c h=>by
  have:i≠m:=λz=>by rw[z,h]at b;cases b
  rw[e9 this];exact x.lc.at_ m c h⟩
theorem CY:∀bs:Fs,aF B al HF (bs.map T.bl)<|bs.map V.bl
 |[]=>J
 |b::bs=>⟨_,_,J,J,CY bs⟩
def tSu(i j:Nat)(a:ax)(c:Obj)(bs:Fs):TS:=λE b H=>b[i]?=U (U<|.ref a)/\H a=U (EX a c)/\j<Hq b/\j≠i/\∀l H1,(∀HF,aT HF H->Gr HF H HF H1)->H l=Y->H1 l=U (.lst<|bs.map V.bl)->E.nx (b.set j<|U<|.ref l) H1
section
variable{P:Pg}{N:XN}{k jj j m:Nat}{n v:Str}{f:Fn}{st:gL}{nS:Fh}{jy np Nk aaD vp vp2 ap kp ap2:Pos}{kb:List Fs}
def UZ{CB:ax}(Up:X.xe=λ_ _=>False)(D:ZW P X.prog X.w X.K X.mg X.base N k x f)(hr:bI jj X.A)(mU:k<=jj)(ha:PA X.sX (e::es)<|tA (P.kt X) fl)(hg:Gl X x)(ie:bB x)(hs:(e::es).all noStar=O)
  (hm:X.mg y=U (.ref CB)) (Z:Gl X y) (Wy:bB y)
  (hN:X.N.Nodup) (hi:X.N[i]?=U n) (hj:j<Hq X.N) (Z7:j≠i) (hk:X.env.scope.names.lookup n=U .local)
  (C:∀(c:Nat)bs,kb[c]?=U bs->∃q,N[c]?=U q/\uF X.K (.ref q.1) (.ref CB)=U O/\∀a m Q,m.cls=.ref q.1->m.data=.fields Q->iz (IK X a λ_ _=>False) (st::nS) (tSu i j a m bs))
  (FJ:X.stack=X.env::X.outer) (wB:X.env.frame=U X.env.locals) :
  PS X (.Try [.Expr (.Call (.Name x p) (e::es) [] bq) aaD] [.ExceptHandler (U<|.Name y np) (U n) (st::nS) Nk] [] [] jy)<|tS (P.kt X)<|Ja (ai f []<|pe fl)<|Ĭ i j kb:=by
 rintro ae s d H Dn I ⟨g,ss,o,s',xr,h,kk⟩
 rw[Up];unfold Ja at h;refine ui<|i5<|wpAny_Expr_any (yt D hr mU ha hg ie hs I xr ?_) I.quiet J;cases q:ai f [] _ ss with
 |bad=>rw[q]at h;cases h
 |ok pq=>
  rw[q]at h;cases h;exact .inl ⟨pq.1,pq.2,J,λu v sh g' H' I' ru p' x' r'=>fv<|fv ⟨d,H',I',kk d g' H' p' x'⟩⟩
 |exc c fs s2=>
  rw[q]at h;revert h;refine abJ λbs h1=>λh=>?_;have h1:=au h1;have T:s2.r[i]?=U Y/\o=.nx/\s'=iT s2 j (.val<|.lst<|bs.map .bl):=by
   split at h
   .rename_i q
    cases h;exact⟨q,J,J⟩
   .cases h
  obtain⟨G,rfl,rfl⟩:=T;obtain⟨qc,hNc,W,C⟩:=C c bs h1;refine .inr ⟨c,_,s2,J,_,hNc,λa t dd c2 Ha sa H1 g1 Bh sh Ia ho lV L Fl _ p1 F hd=>?_⟩;refine IL Ia FJ wB ho lV L Fl hm W (λh5 L5 F5=>Nb Ia ho lV hN hi hk L5 F5 λm Q s6 hco hcw iS new I6=>?_) Z Wy;have Wq:j<Hq d:=by rw[I.len];exact hj
  refine ey (C a m Q hco hcw ae s6 _ _ {nx:=λB H8=>∀R,Inv X ae (B.set i Y) H8 R->SP X ae Dn .next R,rt:=λ_ _=>False} I6 ⟨f9<|by rw[I.len];exact(dw.mp hi).1,ak,by rw[fF];exact Wq,Z7,λl H2 gr S hl R I9=>?_⟩) (λf s8 q=>?_) λ_ _ z=>z
  .refine⟨_,H2,I9,?_⟩
   have E:∀{b},upd H1 a (EX a m) b=Y->H1 b=Y:=λ{b} z=>by
    by_cases q:b=a
    .rw[q];exact new
    .rw[aq q]at z;exact z
   have g0:=Gr.jm (o:=EX a m) F.sub new;have g2:=g0.trans<|gr g1.HF g0.sub;have x2:=F.grow g2;have no:g1.o l=Y:=by
    cases q:g1.o l with
    |none=>rfl
    |some p=>obtain⟨_,u,y⟩:=F.st.live l p q;rw[E S]at y;cases y
   have M:=F.sub.free<|E S;have x3:=x2.Aa M no hl;have p3:=(p1.trans<|F.j_ g2).Aa (u:=.lst<|bs.map V.bl) (p1.there l<|E S) M;have x4:=x3.set (i:=j) (t:=.lst _) ⟨l,_,J,ak,CY bs⟩;have x5:=x4.slot (by show(s2.r.set j _)[i]?=_;rw[e9 Z7];exact G) Y
   have e1:((d.set i<|U<|.ref a).set j<|U<|.ref l).set i Y=(d.set j<|U<|.ref l).set i Y:=by
    have c:(d.set i _).set j _=(d.set j<|U<|V.ref l).set i (U<|V.ref a):=List.set_comm _ _<|e7 Z7;rw[c,PD]
   rw[e1];exact kk _ _ H2 p3 x5
  .cases f with
   |next=>
    obtain⟨B,H8,I8,q⟩:=q;exact⟨B,H8,I8,q⟩
   |brk=>obtain⟨_,_,_,q⟩:=q;exact q.elim
   |cont=>obtain⟨_,_,_,q⟩:=q;exact q.elim
   |ret u=>obtain⟨_,_,_,_,_,q⟩:=q;exact q.elim
def U0(B:X.xe=λ_ _=>False)(D:ZW P X.prog X.w X.K X.mg X.base N k x f)(hr:bI jj X.A)(mU:k<=jj)(ha:PA X.sX (e::es)<|tA (P.kt X) fl)(hg:Gl X x)(ie:bB x)(hs:(e::es).all noStar=O)
  (hm:X.mg y=U (.ref CB)) (m:Gl X y) (Wy:bB y) (n:N[cn]?=U q1) (l:uF X.K (.ref q1.1) (.ref CB)=U O)
  (V:X.N.Nodup) (S:X.N[i]?=U v) (Q:Loc X.env.scope v) (T:X.fn v=O\/X.env.scope.names.lookup v=U .local)
  (Wh:eP (.Call (.Name x p) (e::es) [] bq) (U<|.Name v vp) ap.line X.env=pure Zb)
  (FJ:X.stack=X.env::X.outer) (wB:X.env.frame=U X.env.locals) :
  PS X (.Try [.Assign [.Name v vp] (.Call (.Name x p) (e::es) [] bq) ap] [.ExceptHandler (U<|.Name y np) Y [.Assign [.Name v vp2] (.Constant .none k0 kp) ap2] Nk] [] [] jy)<|tS (P.kt X)<|yu i cn<|ai f []<|pe fl:=by
 rintro r s σ H Dn I ⟨g,ss,o,s',xr,h,M⟩
 rw[B];unfold yu at h;refine ui<|i5<|wpAny_Assign_Name (yt D hr mU ha hg ie hs I xr ?_) Wh;cases q:ai f [] _ ss with
 |bad=>rw[q]at h;cases h
 |ok E=>
  rw[q]at h;cases h;exact .inl ⟨E.1,E.2,J,λu v sh g' H' I' ru p' x' r'=>ju I' V S Q ru (λs2 I2=>fv<|fv ⟨_,H',I2,M _ g' H' p'<|x'.set r'⟩) T⟩
 |exc c fs s2=>
  rw[q]at h
  replace h:(if c=cn then Res.ok _ else .bad)=.ok _:=h
  have W:=Decidable.byContradiction λz=>by rw[bt z]at h;cases h
  rw[b0 W]at h;cases h;subst W;refine .inr ⟨c,_,s2,J,_,n,λa t dd c2 Ha sa H1 g1 Bh sh C R G L Fl _ p1 d hd=>?_⟩;refine IL C FJ wB R G L Fl hm l (λh5 L5 F5=>B▸UN C R G (B▸PassesOwnAt.never) L5 F5 λF ws s6 hco hcw _ new I6=>?_) m Wy;have g0:=Gr.jm (o:=EX a F) d.sub new;refine ey (lF (jw (X:=IK X a X.xe) V S Q GZ J T) r s6 σ _ {nx:=λb Z=>∀j,Inv X r b Z j->SP X r Dn .next j,rt:=λ_ _=>False} I6 ?_) (λf s8 q=>?_) λ_ _ z=>z
  .intro j I9
   exact⟨_,_,I9,M _ _ _ (p1.trans<|d.j_ g0)<|(d.grow g0).set J⟩
  .cases f with
   |next=>
    obtain⟨b,Z,I8,q⟩:=q;exact q _<|Inv.ZR C.ok I8
   |brk=>obtain⟨_,_,_,q⟩:=q;exact q.elim
   |cont=>obtain⟨_,_,_,q⟩:=q;exact q.elim
   |ret u=>obtain⟨_,_,_,_,_,q⟩:=q;exact q.elim
end
def ee{b:Type}(xs:List b)(lo a:Dx)(k:Int):List b:=(xH (fE lo a (U k) xs.length).1 (fE lo a (U k) xs.length).2.1 (fE lo a (U k) xs.length).2.2).filterMap (xs[·]?)
def Nl(k:Int)(lo a:Dx):T->FV
 |.scr ns=>gd (k≠0)<|.lst<|(ee ns lo a k).map .int
 |_=>Y
def AA(k:Int)(a:FE)(lo b:FO):FE:=λs=>(a s).bind λp=>(lo p.2).bind λq=>(b q.2).bind λz=>(bu<|Nl k q.1 z.1 p.1).bind λt=>.ok (t,z.2)
def CZ(b:B2)(lo a:Dx)(k:Int):z9 b.toArray lo a (U k)=(ee b lo a k).toArray:=by
 unfold z9 ee;congr 1
 congr 1
 funext i
 exact Pk
def Jb{a c:Type}(f:a->c)(xs:List a)(lo b:Dx)(k:Int):(ee xs lo b k).map f=ee (xs.map f) lo b k:=by
 unfold ee;rw[bQ,List.map_filterMap]
 congr 1
 funext i
 rw[eX]
def Jc(xs:B2)(lo a:Dx)(k:Int):(ee xs lo a k).length<=Hq xs:=by
 have:=slicePick_size_le xs.toArray lo a<|U k
 rw[CZ,cD]at this;exact this
theorem Vals.at'(r:Vals xs us):∀l:B1,Vals (l.filterMap (xs[·]?))<|l.filterMap (us[·]?)
 |[]=>.nil
 |i::l=>by
  cases q:xs[i]? with
  |none=>rw[zm,zm,q,r.none_of q];exact Vals.at' r l
  |some x=>
   obtain⟨u,e,h⟩:=r.get q;rw[zm,zm,q,e];exact .cons h<|Vals.at' r l
def Z_(hB:B.K=X.K)(ha:PE X a<|tE B fa)(hl:PO X QH<|tP B Tp)(hh:PO X QI<|tP B Tq):PE X (.Subscript a (.Slice QH QI (U<|.Constant (.int k) k0 p1) p2) pos)<|tE B<|AA k fa Tp Tq:=by
 intro i s c H Q I d;obtain⟨g,ss,t,s',x,h,kk⟩:=d;revert h;refine abK λtx G h1=>abK λlo s2 h2=>abK λhi W h3=>abJ λt' p=>λh=>?_;cases h;have p:=au p;obtain⟨ns,rfl⟩:∃ns,tx=.scr ns:=by cases tx<;>first|(cases p)|exact⟨_,J⟩
 obtain⟨k1,rfl⟩:=bz p;refine y0<|cH (ha i s c H (λv H1=>∃g1,dE g H g1 H1/\SR B g1 H1 c G/\Rep B g1.al g1.HF _ v) I ⟨g,ss,_,G,x,h1,λv g1 H1 p1 C M=>⟨g1,p1,C,M⟩⟩) λv F d=>?_;obtain⟨v1,H1,I1,M,g1,p1,C,q1⟩:=d;refine wpAny_Slice<|cH (hl i F c H1 (λl m=>l=lo/\∃g2,dE g1 H1 g2 m/\SR B g2 m c s2) I1 ⟨g1,G,_,s2,C,h2,λg2 m p2 z=>⟨J,g2,p2,z⟩⟩) λS E d=>?_;obtain⟨l,m,I2,pl,rfl,g2,p2,z⟩:=d;refine cH (hh i E c m (λl j=>l=hi/\∃g3,dE g2 m g3 j/\SR B g3 j c W) I2 ⟨g2,s2,_,W,z,h3,λg3 j n f=>⟨J,g3,n,f⟩⟩) λR D d=>?_;obtain⟨u,j,I3,pu,rfl,g3,n,f⟩:=d;rw[evalPart_some];refine cH (GY i D c j (λv y=>v=.int k/\y=j) I3 ⟨J,J⟩) λvs e d=>?_;obtain⟨w,y,I4,L,rfl,rfl⟩:=d;obtain⟨tk,rfl⟩:=L;have r3:=(q1.mv p2.pre p2.fr).mv n.pre n.fr;have pp:=(p1.trans p2).trans n;obtain⟨N,rfl,q⟩:=r3;cases(M);have P:Inv X i c y {e with heap:=e.heap.push {cls:=.type "slice",data:=.fields #[S,R,.int k tk]}}:=I4.kept λb ob q=>ar _ q
 obtain⟨aO,r,ht,hz⟩:=P.list<|hB▸f.sub.seq q;show c4 _ X.A _ _ X.xe _
 refine tail_any ht.isList.typeIs slot_list_getitem.lookup ?_ (by with_unfolding_all rfl)
 refine zv ht.isList (Heap.IsSliceOf.new ..) pl pu (.int k tk) (by simpa using k1) ?_ (by rw[cD,<- r.length];exact hz)
 rw[CZ];have hV:Vals ((ee ns l u k).map V.int)<|ee aO l u k:=by
  rw[Jb];unfold ee;rw[r.length];exact Vals.at' r _
 have Z:=P.bF.fresh<|bP _;refine⟨.ref _,_,P.laid (o:=.lst _) (λb ob q=>ar _ q) (bP _) ⟨?_,_,0,hV,c5 _ J⟩,J,?_⟩
 .rw[hV.length];exact cJ (Jc ..) (by rw[<- r.length];exact hz)
 .exact kk _ _ _ (pp.trans<|f.j_<|Gr.new f.sub Z) (f.grow<|Gr.new f.sub Z) ⟨_,_,J,ak,aF.ints _⟩
def lsO:T->FK
 |.lst ts=>U ts
 |_=>Y
def Jd(i:Nat)(a:FE):FS:=λs=>(bu<|mR s.r[i]?).bind λ_=>(a s).bind λp=>(bu<|mR p.2.r[i]?).bind λts=>(bu<|lsO p.1).bind λb=>(bu<|gd (Hq ts+Hq b<=1000000) ()).bind λ_=>.ok (.nx,iT p.2 i<|.ol<|ts++b)
section
variable{d V:Pos}
def À(he:PE X e<|tE B fa)(L:X.N[i]?=U y)(I:nA X.env.scope y)(hd:bB y)(G:gk y)(hs:noStar e=O)(E:(V.endLine == bq.line)=O) :
  PS X (.Expr (.Call (.Attribute (.Name y py) "extend" V) [e] [] bq) pos)<|tS B<|Jd i fa:=by
 refine cz (jQ (xJ i4 PySem.F.slot_list_extend PySem.F.type_list_extend EC (cu L I hd G) (aU he cy<|aw hs) (gu J) (EL (by rw[dW,hs];rfl)<|by decide) E (aw hs) J) J) λD W H n=>?_
 obtain⟨g,s,o,s',x,h,k⟩:=n;revert h;refine abJ λT R=>abK λt A Q=>abJ λts P=>abJ λzs c=>abJ λ_ M=>λh=>?_;obtain⟨z,_⟩:=bz<|au M;cases h;cases t<;>try(cases c;done)
 cases c;obtain⟨l0,u,q1,q2,C,q4⟩:=x.oK<|eB<|au R;refine⟨_,q1,.inl ⟨J,_,dY.of C⟩,g,s,_,A,x,Q,λv g1 H1 p1 d a=>?_⟩;have m:=eB<|au P;obtain⟨l,w,j,S,r,f⟩:=d.oK m;rw[q1]at j;cases j;obtain⟨b,q,rfl,K,a⟩:=a;obtain⟨p,p2⟩:=d.chg m q1<|f.app a;exact⟨l0,b,w,q,J,J,r,d.sub _ _ K,by rw[<- f.len,<- a.len];exact cJ z<|by decide,k W g1 _ (p1.trans p2) p⟩
end
def Á(i:Nat)(s:S):Bool:=(Wt s.r[i]?).isSome
def C0(neg:Bool)(i:Nat)(a:FE):FE:=λs=>(a s).bind λp=>(bu<|mR p.2.r[i]?).bind λts=>(bu<|Mx p.1<|.lst ts).bind λb=>.ok (.bl<|if neg then !b else b,p.2)
def Je(neg:Bool)(i:Nat)(a:FE):FE:=λs=>if Á i s then MW neg i a s else C0 neg i a s
def C2(hB:B.K=X.K):∀c H Q,tE B (C0 neg i fa) c H Q->Qg (Af X.K neg) (tE B fa) (GX i) c H Q:=by
 rintro c H Q ⟨g,s,t,z,x,h,k⟩
 revert h;refine abK λtx y w=>abJ λts r=>abJ λb q=>λh=>?_;cases h;refine⟨g,s,tx,_,x,w,λv g1 H1 p1 a p=>?_⟩;obtain⟨l,d,o,n,m,j⟩:=a.oK<|eB<|au r;have f:=(a.st.live l _ n).1;refine⟨_,o,HL (ty:=.lst ts) hB (λb u e=>?_) (p.mv fH<|aW f) ⟨l,d,J,ak,j.mv fH<|aW f⟩ (au q)<|k _ g1 H1 p1 a J⟩;by_cases hb:b=l
 .subst hb;rw[ak]at e;cases e;exact m
 .rw[aq hb]at e;exact a.sub _ _ e
def uf(h:nQ op=U neg):ic X (et op)<|Af X.K neg:=by
 cases op<;>try(cases h;done)
 .cases h;exact HJ
 .cases h;exact B_
def Q_{k:Nat}(hB:B.K=X.K)(hr:bI k X.A)(m:nQ op=U neg)(n:PE X a<|tE B fa)(o:X.N[i]?=U y)(l:nA X.env.scope y)(hd:bB y)(j:gk y) :
  PE X (.Compare a [op] [.Name y py] pos) (tE B<|Je neg i fa)/\PT X (.Compare a [op] [.Name y py] pos) (tT B<|aZ<|Je neg i fa):=by
 obtain⟨r,_⟩:=Us hr m n o l hd j;have q:eR op (.Name y py)=Zb:=by cases op<;>rfl
 refine⟨λf c b H Q I p=>?_,λf c b H Q I p=>?_⟩
 .obtain⟨g,s,t,d,x,h,e⟩:=p
  unfold Je at h;split at h
  .exact r f c b H Q I ⟨g,s,t,d,x,h,e⟩
  .exact oU (uf m) n (cu o l hd j) q f c b H Q I<|C2 hB b H Q ⟨g,s,t,d,x,h,e⟩
 .obtain⟨g,s,t,d,x,h,e⟩:=Ce p
  unfold Je at h;split at h
  .exact lH (jL (by have:=hr.units;lia) m) n (cu o l hd j) q f c b H Q I<|Aq b H _ ⟨g,s,t,d,x,h,e⟩
  .exact lH (uf m) n (cu o l hd j) q f c b H Q I<|C2 hB b H _ ⟨g,s,t,d,x,h,e⟩
end D
namespace D
open PySem
structure Lc where
 N:Bi
 sc:f7
 mu:Bi
inductive Ck where
 |fz (c n:Nat)|z0 (c:Nat)|cp (c:Nat)|nw (c i:Nat)
structure Gm where
 P:Pg
 cs:List<|Str×T
 fs:List<|Str×FR×Nat
 cl:List<|Str×Ck
 ms:List<|Str×List (Nat×Nat)
 bl:Bi
 xc:List<|Str×Option Str×Nat:=[]
 xs:List<|Str×Nat:=[]
 xt:List<|Str×Nat×Nat:=[]
 ys:Bi:=[]
 kb:List Fs:=[]
 xm:Str := ""
 xg:Str := ""
 bf:Bi:=[]
def Gm.bc(M:Gm):Nat:=Hq M.P.cn+Hq M.P.tab
def Gm.sd(M:Gm):M.P.cn[M.bc]?=Y:=GC<|bH _ _
def Gm.Â(M:Gm):M.P.fn[M.bc]?=Y:=GC (by unfold Pg.fn;rw[bQ];exact sD _ _)
def km(N:Bi)(x:Str):Option Nat:=N.idxOf? x
def ko(x:Str):Bool:=x == ("__debug__" : Str) ||x == ("__classdict__" : Str)
def iM(L:Lc)(x:Str):Bool:=match L.sc.names.lookup x with
 |some .local=>!ko x
 |some .cell=>!ko x
 |_=>Zb
def vB(L:Lc)(x:Str):Bool:=decide (L.sc.names.lookup x=U .globalImplicit)&&!ko x
structure Rc where
 E:Lc->cx->FE
 T:Lc->cx->FT
 I:Lc->cx->cx->FL
 O:Lc->cx->FL
def ez:List FE->FL
 |[]=>a_
 |a::r=>ba a<|ez r
def Jf:List FE->FE
 |[]=>cR
 |[a]=>a
 |a::r=>ow a<|Jf r
def U1:List FE->FE
 |[]=>cR
 |[a]=>a
 |a::r=>ź a<|U1 r
def U3:List FT->FT
 |[]=>rZ
 |[a]=>a
 |a::r=>j9 a<|U3 r
def Jg:List FT->FT
 |[]=>rZ
 |[a]=>a
 |a::r=>gM a<|Jg r
def Jh(sc outer:f7):f7:={sc with names:=sc.names.map λ(n,k)=>if(k == NameKind.free&&outer.kind == .function&&outer.names.lookup n == U .cell)then(n,NameKind.cell)else(n,k)}
def locals(sc:f7):Bi:=sc.names.filterMap λp=>if p.2=.local then U p.1 else Y
def frees(sc:f7):Bi:=sc.names.filterMap λp=>if p.2=.free then U p.1 else Y
def idxs(N:Bi):Bi->Option B1
 |[]=>U []
 |x::xs=>(km N x).bind λi=>(idxs N xs).map (i::·)
def U4(L:Lc)(sc:f7):Bool:=decide (sc.kind=.function)&&sc.names.all (λp=>decide (p.2≠.cell)&&(decide (p.2=.local)->decide (sc.names.lookup p.1=U .local))&&(decide (p.2=.free)->(decide (sc.names.lookup p.1=U .free)&&decide (L.sc.names.lookup p.1=U .cell))))&&decide (L.sc.kind=.function)
def Ra(N:Bi)(ok:Str->Bool):cx->Option (FG×B1)
 |.Name x _=>if ok x then(km N x).map λi=>(setG i,[i])else Y
 |.Tuple a _ _=>(namesOf a).bind λxs=>if xs.all ok then(idxs N xs).map λis=>(bw is,is)else Y
 |_=>Y
def isSet:cx->Bool
 |.Set _ _ _=>O
 |_=>Zb
def Rb(r:Rc)(L:Lc):Bz->FT
 |[]=>eZ
 |[c]=>r.T L c
 |_=>rZ
def Ji(L:Lc)(sc:f7):Lc:=⟨locals sc++frees sc,Jh sc L.sc,[]⟩
def qA(r:Rc)(L:Lc)(elt:cx)(q:Comprehension)(sc:f7):FL:=if q.is_async=0/\(U4 L sc&&decide ((locals sc++frees sc).Nodup)&&!isSet q.iter&&decide (Hq q.ifs<=1))=O then(match idxs L.N (frees sc),Ra (locals sc) (λx=>decide<|sc.names.lookup x=U .local) q.target with
  |some a,some (g,_)=>cY (r.I L q.target q.iter) (locals sc).length a g (Rb r (Ji L sc) q.ifs)<|r.E (Ji L sc) elt
  |_,_=>gD)else gD
def ug(r:Rc)(L:Lc):cx->FL
 |.ListComp a b sc _=>(match b with
  |[g]=>qA r L a g sc
  |_=>gD)
 |_=>gD
def AB(r:Rc)(L:Lc):Option cx->FO
 |none=>je
 |some e=>dD<|r.E L e
def yv(M:Gm)(L:Lc):Bi->Option B1
 |[]=>U []
 |y::ys=>if vB L y&&((km M.P.cn y).bind λd=>M.P.fn[d]?).isSome then(km M.P.cn y).bind λd=>(yv M L ys).map (d::·)else Y
def blt(M:Gm)(L:Lc)(x:Str):Bool:=M.bl.contains x&&vB L x
def isF(M:Gm)(r:Rc)(L:Lc)(a:cx):cx->FE
 |.Name y _=>(match yb.lookup y with
  |some ty=>if M.bl.contains y&&vB L y then dz (Y3 ty) (r.E L a)else cR
  |none=>(match yv M L [y]with
   |some ds=>dz (ir M.P.sub ds)<|r.E L a
   |none=>cR))
 |.Tuple b _ _=>if Hq b<=100 then(match(namesOf b).bind (yv M L)with
  |some ds=>dz (ir M.P.sub ds)<|r.E L a
  |none=>cR)else cR
 |_=>cR
def aD(l:List<|Nat×Nat)(aj:Nat->Fn)(c:Nat):Option Fn:=(l.lookup c).map aj
def Nm(M:Gm)(r:Rc)(L:Lc)(o:cx):Option FE:=(kT o).bind λq=>if M.bf.contains q.2.1&&bX q.1 then(km M.P.an q.2.1).map λj=>aA M.P.tab j (r.E L q.1)else Y
def Ã(L:Lc):cx->Option Nat
 |.Name y _=>if L.mu.contains y&&iM L y then km L.N y else Y
 |_=>Y
def yw(M:Gm)(r:Rc)(L:Lc)(a:cx)(op:lp)(b:cx):FE:=match nQ op,Nm M r L b with
 |some c,some f=>yl M.bc c (r.E L a) f
 |_,_=>(match nQ op,Ã L b with
  |some c,some i=>Je c i<|r.E L a
  |_,_=>bo (aI op) (r.E L a)<|r.E L b)
def AD(M:Gm)(L:Lc)(f:Str)(a:Bz):Option cx:=(An a ([]:B1)).bind λe=>(nm1 e).bind λq=>if f=("list" : Str)/\q.1=("range" : Str)/\blt M L ("range" : Str)=O/\noStar q.2=O then U q.2 else Y
def U5(M:Gm)(r:Rc)(L:Lc)(f:Str)(b:Bz):Option FE:=match b with
 |[a]=>if f=("sorted" : Str)then(Nm M r L a).map λg=>Iw M.bc g else Y
 |_=>Y
def Ä:List<|Str×(FR->FV):=("max",UE)::Ah
def AE(M:Gm)(aj:Nat->Fn)(r:Rc)(L:Lc)(f:Str)(b:Bz):FE:=
 if b.all noStar then(match M.fs.lookup f with
  |some (ds,i)=>if vB L f then ai (aj i) ds (ez<|b.map<|r.E L)else cR
  |none=>(match M.cl.lookup f with
   |U<|.fz c n=>if vB L f&&!b.isEmpty then dR c n (ez<|b.map<|r.E L)else cR
   |U<|.z0 c=>if vB L f&&b.isEmpty then dR c 0 a_ else cR
   |U<|.cp c=>(match b with
    |[a]=>if vB L f then dz (Tc c) (r.E L a)else cR
    |_=>cR)
   |U<|.nw c i=>if vB L f&&!b.isEmpty then kL c (aj i) (ez<|b.map<|r.E L)else cR
   |none=>if blt M L f then(match U5 M r L f b with
    |some g=>g
    |none=>match f == ("isinstance" : Str),b with
     |true,[a,q]=>isF M r L a q
     |_,_=>(match AD M L f b with
        |some a=>eO<|o1 E3<|r.E L a
        |none=>(match Ä.lookup f,b with
         |some g,_::_=>aV g<|ez<|b.map<|r.E L
         |_,_=>cR)))else cR))else cR
def Jj:Const->FE
 |.int i=>cF<|.int i
 |.bool b=>cF<|.bl b
 |.none=>cF .non
 |.str s=>if s.length<=1000000 then cF (.str s.cps.toList)else cR
 |_=>cR
def Jk(M:Gm)(L:Lc)(x:Str):FE:=match km L.N x with
 |some i=>if iM L x then vF i else cR
 |none=>(match M.cs.lookup x with
  |some t=>if vB L x then cF t else cR
  |none=>cR)
def unE(a:FE):UnaryOp->FE
 |.USub=>dz fh a
 |.Not=>oz a
 |_=>cR
def boE(l:List FE):BoolOp->FE
 |.And=>Jf l
 |.Or=>U1 l
def aaE(M:Gm)(r:Rc)(L:Lc)(a:cx):List lp->Bz->FE
 |[op],[b]=>if eR op b then cR else yw M r L a op b
 |_,_=>cR
def aaF:cx->Bool
 |.Attribute _ _ _=>O
 |.Dict _ _ _=>O
 |_=>Zb
def ĭ(M:Gm)(r:Rc)(L:Lc)(o i:cx):FE:=match Nm M r L o with
 |some f=>As M.bc f<|r.E L i
 |none=>if aaF o then bo BX (r.E L o) (r.E L i)else match(asName o).bind λy=>(km L.N y).map λk=>(y,k)with
 |some (y,k)=>if L.mu.contains y&&iM L y then xU k (r.E L i)else bo fL (r.E L o) (r.E L i)
 |none=>bo fL (r.E L o)<|r.E L i
def U6(M:Gm)(r:Rc)(L:Lc)(o:cx):cx->FE
 |.Slice lo a st _=>(match st with
  |none=>fK (r.E L o) (AB r L lo)<|AB r L a
  |some k=>(match jV k with
   |U<|.int k=>AA k (r.E L o) (AB r L lo)<|AB r L a
   |_=>cR))
 |i=>ĭ M r L o i
def aaG(M:Gm)(r:Rc)(L:Lc)(o:cx)(f:Str):FE:=if bX o then(match km M.P.an f with
  |some j=>if M.bf.contains f then i7 M.bc M.P.tab j (r.E L o)else aA M.P.tab j (r.E L o)
  |none=>cR)else cR
def U7(M:Gm)(r:Rc)(L:Lc)(o:cx)(m:Str)(a:Bz):Option FE:=match a with
 |[b,d]=>if m=("get" : Str)then(Nm M r L o).map λf=>r9 M.bc f (r.E L b) (r.E L d)else Y
 |_=>Y
def U8(M:Gm)(aj:Nat->Fn)(r:Rc)(L:Lc)(o:cx)(m:Str)(b:Pos)(a:Bz)(cp:Pos):FE:=if bX o&&a.all noStar&&decide (a.length<29)&&b.endLine == cp.line then(match U7 M r L o m a with
   |some f=>f
   |none=>match M.ms.lookup m with
   |some l=>aJ (aD l aj) (r.E L o)<|ez<|a.map<|r.E L
   |none=>(match Ag.lookup m,a with
    |some g,_::_=>oG g (r.E L o)<|ez<|a.map<|r.E L
    |_,_=>cR))else cR
def aaH(M:Gm)(aj:Nat->Fn)(r:Rc)(L:Lc)(a:Bz)(cp:Pos):cx->FE
 |.Name f _=>AE M aj r L f a
 |.Attribute o m b=>U8 M aj r L o m b a cp
 |_=>cR
def Rf(M:Gm)(aj:Nat->Fn)(r:Rc)(L:Lc):cx->FE
 |.Constant c _ _=>Jj c
 |.Name x _=>Jk M L x
 |.BinOp a e b _=>bo (jo e) (r.E L a)<|r.E L b
 |.UnaryOp e a _=>unE (r.E L a) e
 |.BoolOp e d _=>boE (d.map<|r.E L) e
 |.Compare a h bs _=>aaE M r L a h bs
 |.IfExp c a b _=>rG (r.T L c) (r.E L a)<|r.E L b
 |.Tuple d _ _=>if d.all noStar then aV df (ez<|d.map<|r.E L)else cR
 |.List d _=>if d.all noStar then aV dm (ez<|d.map<|r.E L)else cR
 |.Subscript o i _=>U6 M r L o i
 |.Attribute o f _=>aaG M r L o f
 |.ListComp j k sc p=>eO<|ug r L<|.ListComp j k sc p
 |.Call f g ks cp=>(match ks with
  |[]=>aaH M aj r L g cp f
  |_::_=>cR)
 |_=>cR
def boT(l:List FT):BoolOp->FT
 |.And=>Jg l
 |.Or=>U3 l
def aaI(M:Gm)(r:Rc)(L:Lc)(a:cx):List lp->Bz->FT
 |[op],[b]=>if eR op b then rZ else aZ (yw M r L a op b)
 |_,_=>rZ
def stepT(M:Gm)(r:Rc)(L:Lc)(e:cx):FT:=match e with
 |.BoolOp c d _=>boT (d.map<|r.T L) c
 |.UnaryOp c a _=>(match c with
  |.Not=>eM<|r.T L a
  |_=>tB<|r.E L e)
 |.Compare a b bs _=>aaI M r L a b bs
 |.IfExp _ _ _ _=>rZ
 |_=>tB<|r.E L e
def C3(e:cx):Option Bz:=(kU e).bind λq=>if q.1=("range" : Str)/\q.2.2.isEmpty=O then U q.2.1 else Y
def yx(e:cx):Option<|cx×Int:=(kU e).bind λq=>if q.1=("enumerate" : Str)then(match q.2.1 with
 |[a]=>(match q.2.2 with
  |[]=>U (a,0)
  |[w]=>(match jV w.value with
   |U<|.int n=>if w.arg=U ("start" : Str)/\n=1 then U (a,n)else Y
   |_=>Y)
  |_=>Y)
 |_=>Y)else Y
def U9:cx->Bool
 |.Tuple _ _ _=>O
 |_=>Zb
def Nn:cx->Bool
 |.Name _ _=>O
 |_=>Zb
def Jl(e:cx):Option cx:=(nm1 e).bind λq=>if q.1=("reversed" : Str)/\noStar q.2=O then U q.2 else Y
def stepI(M:Gm)(r:Rc)(L:Lc)(tg e:cx):FL:=match C3 e with
 |some d=>if blt M L ("range" : Str)&&d.all noStar then(match d with
   |[a]=>EM xV<|ez [r.E L a]
   |[a,b]=>EM xV<|ez [r.E L a,r.E L b]
   |[a,b,c]=>EM E4<|ez [r.E L a,r.E L b,r.E L c]
   |_=>gD)else gD
 |none=>(match yx e with
  |some (a,n)=>if blt M L ("enumerate" : Str)&&U9 tg&&noStar a then jf n (r.E L a)else gD
  |none=>match Jl e with
  |some a=>if blt M L ("reversed" : Str)then o1 Ip (r.E L a)else gD
  |none=>if Nn tg then nK (r.E L e)else oJ (r.E L e))
def U_(M:Gm)(r:Rc)(L:Lc)(f:Str)(b:Bz):FL:=if blt M L f then match AD M L f b with
 |some a=>o1 E3<|r.E L a
 |none=>(match b with
  |[a]=>if f=("list" : Str)/\noStar a=O then o1 cpO (r.E L a)else gD
  |_=>gD)else gD
def Rg(M:Gm)(r:Rc)(L:Lc):cx->FL
 |.IfExp c a b _=>ZA (r.T L c) (r.O L a)<|r.O L b
 |.BinOp a h b _=>(match h with
  |.Mult=>o2 Io (r.E L a)<|r.E L b
  |_=>gD)
 |.Call f d ks _=>(match ks with
  |[]=>(match asName f with
   |some y=>U_ M r L y d
   |none=>gD)
  |_::_=>gD)
 |.List g _=>if g.all noStar then kc (ez<|g.map<|r.E L)else gD
 |.ListComp e i sc p=>ug r L<|.ListComp e i sc p
 |_=>gD
def comp(M:Gm)(aj:Nat->Fn):Nat->Rc
 |0=>⟨λ_ _=>cR,λ_ _=>rZ,λ_ _ _=>gD,λ_ _=>gD⟩
 |n+1=>⟨Rf M aj<|comp M aj n,stepT M<|comp M aj n,stepI M<|comp M aj n,Rg M<|comp M aj n⟩
def Jm(L:Lc)(t:Str)(tp:Pos):cx->Bool
 |.ListComp _ _ sc p=>(if L.sc.kind.isAnnotationScope then ScopeKind.function else L.sc.kind) == .function&&L.sc.names.lookup t == U .local&&tp.line == p.line&&!(sc.names.any λ(n,k)=>n == t&&(k == .local ||k == .cell))
 |_=>Zb
def yz:cx->Bool
 |.ListComp _ _ _ _=>O
 |.SetComp _ _ _ _=>O
 |.DictComp _ _ _ _ _=>O
 |_=>Zb
def ph(nm:Str)(mu:Bi)(e:cx):Option<|Str×cx:=(at1 e).bind λw=>(asName w.1).bind λy=>if w.2.1=nm/\mu.contains y=O then U (y,w.2.2)else Y
def C4:cx->Bool
 |.Dict [] [] _=>O
 |_=>Zb
def Jo(M:Gm)(aj:Nat->Fn)(n:Nat)(L:Lc)(x:Str)(e:cx):FS:=match km L.N x with
 |some i=>if iM L x then(if L.mu.contains x then(if C4 e then CG i else iJ i ((comp M aj n).O L e))else aG i ((comp M aj n).E L e))else cj
 |none=>cj
def Ri:cx->Bool
 |.Tuple a _ _=>a.all<|foldedForSure 8
 |_=>O
abbrev many:Nat:=1000000
def tupS(M:Gm)(aj:Nat->Fn)(n:Nat)(L:Lc)(es:Bz)(e:cx):FS:=if yz e || !Ri e || !es.all noStar then cj else(match Ra L.N (iM L) (.Tuple es 0 ⟨0,0,0,0⟩)with
  |some (g,_)=>oF g<|(comp M aj n).E L e
  |none=>cj)
def Va(M:Gm)(aj:Nat->Fn)(n:Nat)(L:Lc)(f:Str)(e:cx):FE:=if M.bf.contains f then(if C4 e then mX M.bc else xW M.bc ((comp M aj n).O L e))else(comp M aj n).E L e
def Vb(M:Gm)(aj:Nat->Fn)(n:Nat)(L:Lc)(o:cx)(f:Str)(e:cx):FS:=match km M.P.an f with
  |some j=>aQ M.P.tab j ((comp M aj n).E L o)<|Va M aj n L f e
  |none=>cj
def Vc(M:Gm)(aj:Nat->Fn)(n:Nat)(L:Lc)(o b e:cx):FS:=if yz e then cj else match Nm M (comp M aj n) L o with
 |some f=>oN M.bc f ((comp M aj n).E L b)<|(comp M aj n).E L e
 |none=>match(asName o).bind λy=>if iM L y then km L.N y else Y with
  |some i=>if isSlice b then cj else Lu i ((comp M aj n).E L b) ((comp M aj n).E L e)
  |none=>cj
def asS(M:Gm)(aj:Nat->Fn)(n:Nat)(L:Lc)(e:cx):cx->FS
 |.Name x _=>Jo M aj n L x e
 |.Tuple a _ _=>tupS M aj n L a e
 |.Attribute o f _=>Vb M aj n L o f e
 |.Subscript o b _=>Vc M aj n L o b e
 |_=>cj
def Vd(M:Gm)(aj:Nat->Fn)(n:Nat)(L:Lc)(t:cx)(op:og)(e:cx):FS:=match(kT t).bind λq=>(km M.P.an q.2.1).map λj=>(q.1,j)with
  |some (o,j)=>if op=.Add then Au M.P.tab j jg ((comp M aj n).E L o) ((comp M aj n).E L e)else cj
  |none=>match(asName t).bind λx=>(km L.N x).map λi=>(x,i)with
  |some (x,i)=>if op=.Add/\iM L x=O then zY jg i ((comp M aj n).E L e)else cj
  |none=>cj
def Å(M:Gm)(r:Rc)(L:Lc)(e:cx):Option<|FE×cx:=(at1 e).bind λw=>(Nm M r L w.1).bind λf=>if w.2.1=("append" : Str)then U (f,w.2.2)else Y
def exS(M:Gm)(aj:Nat->Fn)(n:Nat)(L:Lc)(e:cx):FS:=match Å M (comp M aj n) L e with
  |some (f,a)=>gW M.bc f<|(comp M aj n).E L a
  |none=>match ph "append" L.mu e with
  |some (y,a)=>(match km L.N y with
   |some i=>if iM L y then gO i ((comp M aj n).E L a)else cj
   |none=>cj)
  |none=>match ph "extend" L.mu e with
  |some (y,a)=>(match km L.N y with
   |some i=>if iM L y then Jd i ((comp M aj n).E L a)else cj
   |none=>cj)
  |none=>if yz e then cj else aR ((comp M aj n).E L e)
def retS(M:Gm)(aj:Nat->Fn)(n:Nat)(L:Lc):Option cx->FS
 |some e=>aC<|(comp M aj n).E L e
 |none=>aC<|cF .non
def Ve(M:Gm)(aj:Nat->Fn)(n:Nat)(L:Lc)(b:FS)(tg it:cx):FS:=if isSet it then cj else(match Ra L.N (iM L) tg with
  |some (g,_)=>dM ((comp M aj n).I L tg it) g b
  |none=>cj)
def Np:gL->Option cx
 |.Expr e _=>U e
 |_=>Y
def qE:gL->Option (Str×cx)
 |.Assign ts e _=>(match ts with
  |[t]=>(asName t).map λx=>(x,e)
  |_=>Y)
 |_=>Y
def xmA(M:Gm)(e:cx):Option<|Nat×Nat×cx×Bz:=(ve e).bind λq=>(kT q.1).bind λw=>(M.xt.lookup w.2.1).bind λa=>if q.2.2.1.isEmpty=O/\bX w.1=O/\q.2.1.all noStar=O/\q.2.1.length<29/\(w.2.2.endLine == q.2.2.2.line)=O then U (a.1,a.2,w.1,q.2.1)else Y
def Į(L:Lc)(e:cx):Option<|Str×Bz:=(kU e).bind λq=>if q.2.2.isEmpty=O/\q.2.1.isEmpty=Zb/\vB L q.1=O/\q.2.1.all noStar=O then U (q.1,q.2.1)else Y
def į(M:Gm)(L:Lc)(e:cx):Option<|Nat×Bz:=(Į L e).bind λq=>(M.xs.lookup q.1).map λi=>(i,q.2)
def fzA(M:Gm)(L:Lc)(e:cx):Option<|Nat×Nat×Bz:=(Į L e).bind λq=>match M.cl.lookup q.1 with
 |U<|.fz c n=>U (c,n,q.2)
 |_=>Y
def xE(M:Gm)(aj:Nat->Fn)(r:Rc)(L:Lc):Nat->cx->Option FE
 |0,_=>Y
 |d+1,e=>match xmA M e with
  |some (c,i,o,b)=>U<|F3 c (aj i) (r.E L o)<|ez<|b.map λa=>wD<|r.E L a
  |none=>match į M L e with
   |some (i,b)=>U<|ai (aj i) []<|ez<|b.map λa=>wD<|r.E L a
   |none=>match fzA M L e with
    |some (c,n,b)=>if b.any (λa=>(xE M aj r L d a).isSome)then U (dR c n<|ez<|b.map λa=>(xE M aj r L d a).getD<|wD<|r.E L a)else Y
    |none=>Y
def isA(nm:Str)(e:cx):Option Str:=(kU e).bind λq=>match q.2.1 with
 |[a,b]=>if q.1=("isinstance" : Str)/\q.2.2.isEmpty=O/\asName a=U nm then asName b else Y
 |_=>Y
def vC(nm:Str):Bz->Option Bi
 |[]=>U []
 |e::es=>(isA nm e).bind λy=>(vC nm es).map (y::·)
def Jp:cx->Option Bz
 |.List a _=>U a
 |_=>Y
def plA(x:Str):cx->Option Bz
 |.BinOp a c b _=>if c=.Add/\asName a=U x then Jp b else Y
 |_=>Y
def Vf(o:Option cx):Bool:=match o.bind jV with
 |some .none=>O
 |_=>Zb
def suA(M:Gm)(nm:Str):Fh->Option Str
 |[s1,s2,s3]=>(qE s1).bind λq1=>(qE s2).bind λq2=>(qE s3).bind λa=>
   (Jp q1.2).bind λl1=>(plA q1.1 q2.2).bind λl2=>(plA q1.1 a.2).bind λl3=>(vC nm l1).bind λd=>(vC nm l2).bind λc=>(vC nm l3).bind λb=>
   if(q2.1=q1.1/\a.1=q1.1)/\d++c++b=M.ys then U q1.1 else Y
 |_=>Y
def xIx(M:Gm)(x:Str):Option<|Nat×Option Str:=((M.xc.map (·.1)).idxOf? x).bind λc=>(M.xc[c]?).map λq=>(c,q.2.1)
def Vg(M:Gm)(aj:Nat->Fn)(n:Nat)(L:Lc):Fh->List oP->Option FS
 |[s],[.ExceptHandler ty nm su _]=>(ty.bind asName).bind λy=>(match nm with
  |some nm=>(Np s).bind λe=>(į M L e).bind λq=>(suA M nm su).bind λx=>(km L.N nm).bind λi=>(km L.N x).bind λj=>
   if(vB L y=O/\y=M.xm/\vB L ("isinstance" : Str)=O/\M.ys.all (vB L)=O/\M.bl.contains ("isinstance" : Str)=O)/\(iM L x=O/\iM L nm=O)/\L.sc.names.lookup nm=U .local/\j≠i then U (Ja (ai (aj q.1) []<|pe<|ez<|q.2.map<|(comp M aj n).E L)<|Ĭ i j M.kb)else Y
  |none=>(qE s).bind λw=>(į M L w.2).bind λq=>(An su ([]:B1)).bind λt=>(qE t).bind λz=>(xIx M y).bind λc=>(km L.N w.1).bind λi=>
   if(vB L y=O/\iM L w.1=O)/\z.1=w.1/\Vf (U z.2)=O then U (yu i c.1<|ai (aj q.1) []<|pe<|ez<|q.2.map<|(comp M aj n).E L)else Y)
 |_,_=>Y
def Æ(M:Gm)(aj:Nat->Fn)(n:Nat)(f:Lc->Fh->FS)(L:Lc):gL->FS
 |.Assign ts e _=>(match ts with
  |[t]=>asS M aj n L e t
  |_=>cj)
 |.AugAssign t i e _=>Vd M aj n L t i e
 |.Expr e _=>exS M aj n L e
 |.Return o _=>retS M aj n L o
 |.If c a b _=>bj ((comp M aj n).T L c) (f L a)<|f L b
 |.For h it d g _=>(match g with
  |[]=>Ve M aj n L (f L d) h it
  |_::_=>cj)
 |.While c d g _=>(match g with
  |[]=>il many ((comp M aj n).T L c)<|f L d
  |_::_=>cj)
 |.Try d hs g j _=>(match hs,g,j with
  |_::_,[],[]=>(match Vg M aj n L d hs with
   |some F=>F
   |none=>f L d)
  |_,_,_=>cj)
 |.Pass _=>aM
 |_=>cj
def kZ(M:Gm)(aj:Nat->Fn)(n:Nat):Nat->Lc->Fh->FS
 |0,_,_=>cj
 |_+1,_,[]=>aM
 |k+1,L,[st]=>Æ M aj n (kZ M aj n k) L st
 |k+1,L,st::rest=>ah (Æ M aj n (kZ M aj n k) L st)<|kZ M aj n k L rest
def Ç:gL->Option (cx×Option cx)
 |.Raise e c _=>e.map λe=>(e,c)
 |_=>Y
def rsF(M:Gm)(aj:Nat->Fn)(n:Nat)(L:Lc)(e:cx):Option FS:=(Į L e).bind λq=>(xIx M q.1).bind λc=>match c.2 with
 |some _=>U<|Z5 c.1<|ez<|q.2.map<|(comp M aj n).E L
 |none=>(An q.2 ([]:B1)).map λa=>xr0 c.1<|(comp M aj n).E L a
def Rj:gL->Option cx
 |.Return o _=>o
 |_=>Y
def xD:Nat:=4
def İ(M:Gm)(aj:Nat->Fn)(n:Nat)(f:Lc->Fh->FS)(L:Lc)(st:gL):FS:=match(Ç st).bind λz=>if z.2.isNone then rsF M aj n L z.1 else Y with
 |some F=>F
 |none=>match(Np st).bind (xE M aj (comp M aj n) L xD)with
 |some fe=>aR fe
 |none=>match(Rj st).bind (xE M aj (comp M aj n) L xD)with
 |some fe=>aC fe
 |none=>match(qE st).bind λq=>(xE M aj (comp M aj n) L xD q.2).bind λfe=>(km L.N q.1).bind λi=>if iM L q.1=O/\L.mu.contains q.1=Zb then U (i,fe)else Y with
 |some (i,fe)=>aG i fe
 |none=>match(Np st).bind λe=>(ph "append" L.mu e).bind λq=>(xE M aj (comp M aj n) L xD q.2).bind λfe=>(km L.N q.1).bind λi=>if iM L q.1=O then U (i,fe)else Y with
 |some (i,fe)=>gO i fe
 |none=>(match st with
   |.If c a b _=>bj (mC<|(comp M aj n).T L c) (f L a)<|f L b
   |.For j it d h _=>(match h with
    |[]=>if isSet it then cj else(match Ra L.N (iM L) j with
     |some (g,_)=>dM (pe<|(comp M aj n).I L j it) g<|f L d
     |none=>cj)
    |_::_=>cj)
   |.While c d h _=>(match h with
    |[]=>il many (mC<|(comp M aj n).T L c)<|f L d
    |_::_=>cj)
   |st=>m_<|Æ M aj n (kZ M aj n 200) L st)
def yC(M:Gm)(aj:Nat->Fn)(n:Nat):Nat->Lc->Fh->FS
 |0,_,_=>cj
 |_+1,_,[]=>aM
 |k+1,L,[st]=>İ M aj n (yC M aj n k) L st
 |k+1,L,st::rest=>ah (İ M aj n (yC M aj n k) L st)<|yC M aj n k L rest
end D
namespace D
open PySem L2
def Jq(K:bD)(mg:Str->D2)(C:ax):Bi->Fs->Prop
 |[],[]=>True
 |y::ys,b::bs=>XiF K mg C y b/\Jq K mg C ys bs
 |_,_=>False
theorem Jq.split{C:ax}:∀{xs ys:Bi}{bs:Fs},Jq K mg C (xs++ys) bs->∃b1 b2,bs=b1++b2/\Jq K mg C xs b1/\Jq K mg C ys b2
 |[],ys,bs,h=>⟨[],bs,J,trivial,h⟩
 |x::xs,ys,b::bs,h=>by
  obtain⟨b1,b2,e,c,a⟩:=Jq.split<|h.2;exact⟨b::b1,b2,by rw[e];rfl,⟨h.1,c⟩,a⟩
structure XsF(M:Gm)(Pr:da)(w:de)(K:bD)(mg:Str->D2)(base:eh)(N:XN):Prop where
 two:∀(c:Nat)x f i,M.xc[c]?=U (x,U f,i)->∃C,N[c]?=U (C,U f)/\XM2 K Pr w mg base C f M.xg x/\uF K (.ref C) (.ref C)=U O
 non:∀(c:Nat)x i,M.xc[c]?=U (x,Y,i)->∃C,N[c]?=U (C,Y)/\XM0 K mg C x/\uF K (.ref C) (.ref C)=U O
 kd:∃CB,mg M.xm=U (.ref CB)/\∀(c:Nat)bs,M.kb[c]?=U bs->∃q,N[c]?=U q/\vA K q.1/\uF K (.ref q.1) (.ref CB)=U O/\Jq K mg q.1 M.ys bs/\bs.length<=1000
structure AF(M:Gm)(N:XN)(Pr:da)(w:de)(K:bD)(mg:Str->D2)(base:eh)(aj:Nat->Fn)(k:Nat):Prop where
 pg:oH K mg M.P
 cst:∀x t,M.cs.lookup x=U t->CF K mg x t
 fns:∀x ds i,M.fs.lookup x=U (ds,i)->DnF M.P Pr w K mg base k x ds (aj i)
 fz:∀x c n,M.cl.lookup x=U (.fz c n)->DnC M.P Pr w K mg base k c n x
 z0:∀x c,M.cl.lookup x=U (.z0 c)->Y8 M.P Pr w K mg c x
 cp:∀x c,M.cl.lookup x=U (.cp c)->DnP M.P Pr w K mg base k c x
 nw:∀x c i,M.cl.lookup x=U (.nw c i)->DnN M.P Pr w K mg base k c x (aj i)
 mts:∀m l c i,M.ms.lookup m=U l->l.lookup c=U i->Ġ M.P Pr w K mg base k c m (aj i)
 bl:∀x,x∈M.bl->mg x=Y
 xf:XsF M Pr w K mg base N
 xs:∀x i,M.xs.lookup x=U i->ZW M.P Pr w K mg base N k x (aj i)
 xt:∀m c i,M.xt.lookup m=U (c,i)->MdX M.P Pr w K mg base N k c m (aj i)
structure CxOk(M:Gm)(N:XN)(aj:Nat->Fn)(k:Nat)(L:Lc)(X:Cx):Prop where
 gm:AF M N X.prog X.w X.K X.mg X.base aj k
 N:X.N=L.N
 sc:X.env.scope=L.sc
 calm:X.calm=O
 room:∃j,k+1<=j/\bI j X.A
variable{X:Cx}{a b c e o:cx}{M:Gm}{L:Lc}{i k:Nat}{aj:Nat->Fn}{K:bD}{r:Rc}{x y:Str}{N:XN}
def gx{N:Bi}(h:km N x=U i):N[i]?=U x:=by
 unfold km at h;rw[Pu,Pw]at h;obtain⟨a,b,_⟩:=h;rw[dP a,eq_of_beq b]
def Rm(h:ko x=Zb):bB x/\gk x:=by
 exact BE.mp h
def fB(C:CxOk M N aj k L X)(h:iM L x=O):Loc X.env.scope x/\nA X.env.scope x/\bB x/\gk x:=by
 rw[C.sc];unfold iM at h;split at h
 .rename_i e
  obtain⟨b,a⟩:=Rm (by simpa using h)
  exact⟨.inl e,.inl e,b,a⟩
 .rename_i e
  obtain⟨b,a⟩:=Rm (by simpa using h)
  exact⟨.inr e,.inr<|.inl e,b,a⟩
 .cases h
def fR(C:CxOk M N aj k L X)(h:vB L x=O):Gl X x/\bB x:=by
 unfold vB at h;rw[cL]at h;obtain⟨b,a⟩:=h;refine⟨?_,(Rm<|by simpa using a).1⟩
 show X.env.scope.names.lookup x=_;rw[C.sc];exact bh b
def AG(M:Gm)(X:Cx)(r:Rc)(L:Lc):Prop:=∀e,PE X e<|tE (M.P.kt X)<|r.E L e
def OkT(M:Gm)(X:Cx)(r:Rc)(L:Lc):Prop:=∀e,PT X e<|tT (M.P.kt X)<|r.T L e
def OkI(M:Gm)(X:Cx)(r:Rc)(L:Lc):Prop:=∀a e,PI X a e<|tI (M.P.kt X)<|r.I L a e
def OkO(M:Gm)(X:Cx)(r:Rc)(L:Lc):Prop:=∀e,PE X e<|tO (M.P.kt X)<|r.O L e
def AH(M:Gm)(N:XN)(aj:Nat->Fn)(k:Nat)(r:Rc):Prop:=∀L X,CxOk M N aj k L X->AG M X r L/\OkT M X r L/\OkI M X r L/\OkO M X r L
theorem gy(a:AG M X r L):∀es:Bz,es.all noStar=O->PA X es (tA (M.P.kt X)<|ez<|es.map<|r.E L)
 |[],_=>z7
 |e::es,h=>by
  rw[dW,cL]at h;exact u7 (a e) (gy a es h.2)<|aw h.1
theorem yD(c:AG M X r L):∀es:Bz,PE X (.BoolOp .And es pos)<|tE (M.P.kt X)<|Jf<|es.map<|r.E L
 |[]=>bL
 |[a]=>HA<|c a
 |a::b::es=>Tg (c a)<|yD c _
theorem C5(c:AG M X r L):∀es:Bz,PE X (.BoolOp .Or es pos)<|tE (M.P.kt X)<|U1<|es.map<|r.E L
 |[]=>bL
 |[a]=>HA<|c a
 |a::b::es=>YA (c a)<|C5 c _
def È:PW X e<|tT (M.P.kt X) rZ:=λ_ _ _ _ _ _ _ a=>by obtain⟨_,_,_,_,_,h,_⟩:=a;cases h
theorem yE(c:OkT M X r L):∀es:Bz,PW X (.BoolOp .And es pos)<|tT (M.P.kt X)<|Jg<|es.map<|r.T L
 |[]=>È
 |[a]=>Tf<|c a
 |a::b::es=>Yy (c a)<|yE c _
theorem C6(c:OkT M X r L):∀es:Bz,PW X (.BoolOp .Or es pos)<|tT (M.P.kt X)<|U3<|es.map<|r.T L
 |[]=>È
 |[a]=>Yx<|c a
 |a::b::es=>aab (c a)<|C6 c _
def dC{c:Type}{l:List<|Str×c}{a:c}(h:l.lookup x=U a):(x,a)∈l:=by
 induction l with
 |nil=>simp at h
 |cons p l d=>
  rw[kC]at h;split at h
  .rename_i e
   cases h;rw[eq_of_beq e];exact d_ ..
  .exact eG _<|d h
theorem AI(C:CxOk M N aj k L X):∀{ys:Bi}{ds:B1},yv M L ys=U ds->ys.length=ds.length/\∀(i d:Nat)(y:Str),ds[i]?=U d->ys[i]?=U y->M.P.cn[d]?=U y/\(M.P.fn[d]?).isSome=O/\Gl X y/\bB y
 |[],ds,h=>by
  cases h;exact⟨J,λi d y h=>by simp at h⟩
 |y::ys,ds,h=>by
  unfold yv at h;split at h
  .rename_i q
   rw[cL]at q;obtain⟨d,c,l⟩:=bV.mp h;obtain⟨m,j,rfl⟩:=bZ.mp l;obtain⟨g,f⟩:=AI C j;obtain⟨g1,g2⟩:=fR C q.1;refine⟨by simp[g],λi n e b a=>?_⟩
   cases i with
   |zero=>
    simp at b a;subst b a;refine⟨gx c,?_,g1,g2⟩;have q2:=q.2;rw[c]at q2;exact q2
   |succ i=>exact f i n e (by simpa using b) (by simpa using a)
  .cases h
def gX(C:CxOk M N aj k L X)(h:blt M L x=O):Gl X x/\X.mg x=Y/\bB x:=by
 unfold blt at h;rw[cL]at h;obtain⟨g1,g2⟩:=fR C h.2;exact⟨g1,C.gm.bl x<|zw.mp h.1,g2⟩
def É(C:CxOk M N aj k L X)(g:AG M X r L)(i:blt M L ("isinstance" : Str)=O)(hs:noStar a=O):PE X (.Call (.Name "isinstance" p) [a,q] [] pos)<|tE (M.P.kt X)<|isF M r L a q:=by
 obtain⟨f,e,_⟩:=gX C i;cases q with
 |Name y v=>
  show PE X _<|tE _<|match yb.lookup y with|some ty=>_|none=>_
  split
  .rename_i ty s
   split
   .rename_i q
    rw[cL]at q;obtain⟨g1,g2⟩:=fR C q.2;exact TR J (dC s) e (C.gm.bl _<|zw.mp q.1) (g a) f g1 hs
   .exact bL
  .split
   .rename_i ds c
    obtain⟨h,b⟩:=AI C c
    match ds,h,b with
    |[d],_,b=>
     obtain⟨o,n,m,l⟩:=b 0 d y J J;exact Y5 C.gm.pg o e (g a) f m hs l n
   .exact bL
 |Tuple es t u=>
  show PE X _<|tE _<|if Hq es<=100 then _ else cR
  split
  .rename_i hl
   split
   .rename_i ds c
    revert c;refine abc λys j=>λc=>?_;obtain⟨h,b⟩:=AI C c;exact Zr C.gm.pg j h b hl e (g a) f hs
   .exact bL
  .exact bL
 |_=>exact bL
def yF{c:Bz}(h:AD M L f c=U a):f=("list" : Str)/\blt M L ("range" : Str)=O/\noStar a=O/\∃i d,c=[.Call (.Name "range" i) [a] [] d]:=by
 revert h;refine abc λe l=>abH λg b k=>λh=>?_;obtain⟨⟨q1,q2,j,q4⟩,h⟩:=j6.mp h;cases h;obtain⟨i,d,m⟩:=Cq k;exact⟨q1,j,q4,i,d,by rw[(jK l).1,m,q2]⟩
def k6(C:CxOk M N aj k L X)(a:AG M X r L)(h:Nm M r L o=U f):PE X o (tE (M.P.kt X) f)/\bX o=O:=by
 revert h;refine abc λq c=>λh=>?_;rw[lS c];split at h
 .rename_i z
  rw[cL]at z;obtain⟨j,b,rfl⟩:=bZ.mp h;exact⟨QJ C.gm.pg (gx b) (a _) z.2,J⟩
 .cases h
def Jr(C:CxOk M N aj k L X)(h:Ã L b=U i):∃y py,b=.Name y py/\X.N[i]?=U y/\nA X.env.scope y/\bB y/\gk y:=by
 cases b<;>try(cases h)
 replace h:(if _ then _ else Y)=U i:=h
 split at h
 .rename_i q
  rw[cL]at q;obtain⟨l1,l2,l3,l4⟩:=fB C q.2;exact⟨_,_,J,by rw[C.N];exact gx h,l2,l3,l4⟩
 .cases h
def Nq(C:CxOk M N aj k L X)(c:AG M X r L)(h:eR op b=Zb):PE X (.Compare a [op] [b] pos)<|tE (M.P.kt X)<|yw M r L a op b:=by
 obtain⟨j,n,hr⟩:=C.room;unfold yw;split
 .rename_i d f g e
  exact Uy M.sd hr g (c a) (k6 C c e).1 h
 split
 .rename_i d i g e
  obtain⟨y,m,rfl,q1,q2,l,q4⟩:=Jr C e;exact(Q_ J hr g (c a) q1 q2 l q4).1
 .exact Uq J hr (c a) (c b) h
def Js(C:CxOk M N aj k L X)(c:AG M X r L)(h:eR op b=Zb):PT X (.Compare a [op] [b] pos)<|tT (M.P.kt X)<|aZ<|yw M r L a op b:=by
 obtain⟨j,n,hr⟩:=C.room;unfold yw;split
 .rename_i d f g e
  exact Uz M.sd hr g (c a) (k6 C c e).1 h
 split
 .rename_i d i g e
  obtain⟨y,m,rfl,q1,q2,l,q4⟩:=Jr C e;exact(Q_ J hr g (c a) q1 q2 l q4).2
 .exact MX J hr (c a) (c b) h
def Nr(C:CxOk M N aj k L X)(c:AG M X r L){b:Bz}(g1:Gl X f)(g2:X.mg f=Y)(hs:b.all noStar=O)(h:U5 M r L f b=U g):PE X (.Call (.Name f p) b [] pos)<|tE (M.P.kt X) g:=by
 unfold U5 at h;split at h
 case h_2=>cases h
 have hs:=by simpa using hs
 split at h
 .rename_i e
  subst e;obtain⟨i,d,rfl⟩:=bZ.mp h;exact ZK C.calm M.sd (k6 C c d).1 hs g1 g2
 .cases h
def Nt(a:X.calm=O):∀p∈Ä,Blt X p.1 p.2:=by
 intro p h;rcases bM.mp h with rfl|h
 .exact⟨⟨_,ZH,.inl ⟨_,PyProof.Rows.boot_max,En a⟩⟩,by decide,by decide⟩
 .exact TN a p h
def Jt(C:CxOk M N aj k L X)(l:AG M X r L)(f:Str)(b:Bz):PE X (.Call (.Name f p) b [] pos)<|tE (M.P.kt X)<|AE M aj r L f b:=by
 obtain⟨j,h,hr⟩:=C.room;unfold AE;split
 case isFalse=>exact bL
 rename_i hs;have m:=gy l b hs;split
 .rename_i ds i s
  split
  case isFalse=>exact bL
  rename_i q;obtain⟨g1,g2⟩:=fR C q;cases b with
  |nil=>exact MN (C.gm.fns f ds i s) hr (cJ (bH ..) h) g1 g2
  |cons a b=>exact s_call (C.gm.fns f ds i s) hr (cJ (bH ..) h) m g1 g2 hs
 .split
  .rename_i c n d
   split
   case isFalse=>exact bL
   rename_i q;rw[cL]at q;obtain⟨g1,g2⟩:=fR C q.1;cases b with
   |nil=>cases q.2
   |cons a b=>exact Y6 (C.gm.fz f c n d) hr h m g1 g2 hs
  .rename_i c d
   split
   case isFalse=>exact bL
   rename_i q;rw[cL]at q;obtain⟨g1,g2⟩:=fR C q.1;cases b with
   |nil=>exact TY (C.gm.z0 f c d) g1 g2
   |cons a b=>cases q.2
  .rename_i c d
   split
   .rename_i a
    split
    case isFalse=>exact bL
    rename_i q;obtain⟨g1,g2⟩:=fR C q;exact Ul (C.gm.cp f c d) hr h (l a) g1 g2 (by simpa using hs)
   .exact bL
  .rename_i c i d
   split
   case isFalse=>exact bL
   rename_i q;rw[cL]at q;obtain⟨g1,g2⟩:=fR C q.1;cases b with
   |nil=>cases q.2
   |cons a b=>exact Uk (C.gm.nw f c i d) hr h m g1 g2 hs
  .split
   case isFalse=>exact bL
   rename_i t;obtain⟨g1,g2,g3⟩:=gX C t;split
   .rename_i g o
    exact Nr C l g1 g2 hs o
   split
   .rename_i a q e _
    have e:=eq_of_beq e;subst e;rw[dW,cL]at hs;exact É C l t hs.1
   .split
    .rename_i a u
     obtain⟨rfl,w,v,y,x,rfl⟩:=yF u;obtain⟨k1,k2,k3⟩:=gX C w;exact Ab<|QW C.calm g2 k2 g1 k1 (l a) v
    .split
     .rename_i g a Ê o _ _ _
      exact Y0 (Nt C.calm _<|dC o) J g1 g2 m hs
     .exact bL
theorem qF(C:CxOk M N aj k L X)(b:∀x∈frees sc,sc.names.lookup x=U .free/\L.sc.names.lookup x=U .cell):∀{xs:Bi}{js:B1},idxs L.N xs=U js->(∀x∈xs,x∈frees sc)->gB X sc js xs
 |[],js,h,_=>by cases h;exact .nil
 |x::xs,js,h,a=>by
  obtain⟨i,g,f⟩:=bV.mp<|h;obtain⟨c,e,rfl⟩:=bZ.mp f;obtain⟨l,j⟩:=b x<|a x<|d_ ..;refine .cons (by rw[C.N];exact gx g) l ?_<|qF C b e λy d=>a y<|eG _ d
  show X.env.scope.names.lookup x=_;rw[C.sc];exact j
def E_(h:x∈frees sc):(x,NameKind.free)∈sc.names:=by
 obtain⟨q,c,a⟩:=Eb.mp h;obtain⟨n,b⟩:=q;split at a
 .rename_i e;cases a;have e:=e;subst e;exact c
 .cases a
def Ju(C:CxOk M N aj k L X)(sc:f7):Ep sc X.env=Jh sc L.sc:=by
 unfold Ep Jh Env.kindOf;rw[C.sc]
theorem AJ{d:Bi}{ok:Str->Bool}(f:X.N.Nodup)(h:∀x i,ok x=O->km d x=U i->X.N[i]?=U x/\Loc X.env.scope x/\(F6 X x)):∀{es:Bz}{xs:Bi}{is:B1},namesOf es=U xs->xs.all ok=O->idxs d xs=U is ->
  WZ X es (qp is)/\(hW es X.env).length=Hq is/\(hW es X.env).findIdx? (·.1)=Y
 |[],xs,is,a,_,b=>by
  cases a;cases b;exact⟨LK,J,J⟩
 |e::es,xs,is,a,c,b=>by
  cases e<;>try(cases a)
  rename_i x q;obtain⟨zs,p,rfl⟩:=bZ.mp<|a
  rw[dW,cL]at c;obtain⟨i,o,n⟩:=bV.mp<|b;obtain⟨l,m,rfl⟩:=bZ.mp n;obtain⟨g1,g2,g3⟩:=h x i c.1 o;obtain⟨k,j,g⟩:=AJ f h p c.2 m;refine⟨G3 (uP f g1 g2 g3) k J,?_,?_⟩
  .show((Zb,_)::hW es X.env).length=_
   rw[dU,j];rfl
  .show List.findIdx? _ ((Zb,_)::hW es X.env)=Y
   rw[List.findIdx?_cons];simp only[g];rfl
def Jv(hB:B.K=X.K){d:Bi}{ok:Str->Bool}(l:X.calm=O)(c:X.N.Nodup)(h:∀x i,ok x=O->km d x=U i->X.N[i]?=U x/\Loc X.env.scope x/\(F6 X x))
  (ht:Ra d ok tg=U (g,is)):∃gt,PG X tg gt/\r6 B gt g is:=by
 cases tg<;>try(cases ht)
 .rename_i x r
  replace ht:(if ok x=O then _ else Y)=U _:=ht
  split at ht
  .rename_i q
   obtain⟨i,b,a⟩:=bZ.mp ht;cases a;obtain⟨g1,g2,g3⟩:=h x i q b;exact⟨_,uP c g1 g2 g3,Cm i⟩
  .cases ht
 .rename_i es o p
  replace ht:=ht
  obtain⟨xs,b,a⟩:=bV.mp ht;split at a
  .rename_i q
   obtain⟨k,n,m⟩:=bZ.mp a;cases m;obtain⟨j,f,e⟩:=AJ c h b q n;refine⟨_,G4 l j f e,?_⟩;rw[<- hB];exact Ib _ J
  .cases a
def Vh{a:Bi}(ht:Ra a ok tg=U (g,is)):∀i∈is,i<a.length:=by
 have lt:∀{x i},km a x=U i->i<Hq a:=λh=>(dw.mp<|gx h).1;cases tg<;>try(cases ht)
 .rename_i x t
  replace ht:(if ok x=O then _ else Y)=U _:=ht
  split at ht
  .obtain⟨i,e,b⟩:=bZ.mp ht
   cases b;intro j d;rw[dj.mp d];exact lt e
  .cases ht
 .rename_i es r s
  replace ht:=ht
  obtain⟨xs,e,b⟩:=bV.mp ht;split at b
  .obtain⟨f,q,p⟩:=bZ.mp b
   cases p
   have:∀(xs:Bi)(is:B1),idxs a xs=U is->∀i∈is,i<Hq a:=by
    intro xs
    induction xs with
    |nil=>intro is h;cases h;intro i l;cases l
    |cons x xs k=>
     intro is h;obtain⟨i,o,n⟩:=bV.mp<|h;obtain⟨c,m,rfl⟩:=bZ.mp n;intro j d;rcases bM.mp d with z|z
     .rw[z];exact lt o
     .exact k c m j z
   exact this xs _ q
  .cases b
def vD(h:isSet it=Zb):∀x,eI it X.env x=pure x:=λx=>by
 cases it<;>first|rfl|(cases h)
structure Vi(M:Gm)(X:Cx)(r:Rc)(L:Lc)(elt tg iter:cx)(ifs:Bz)(sc:f7)(js:B1)(g:FG)(is:B1):Prop where
 sco:gT X sc
 fr:gB X sc js<|frees sc
 nd:(locals sc++frees sc).Nodup
 it:PI X tg iter<|tI (M.P.kt X)<|r.I L tg iter
 ex:∃gt,(∀cl C fp s H,PG (X.block (locals sc++frees sc) sc cl C fp s H) tg gt)/\r6 (M.P.kt X) gt g is
 ts:∀cl C fp s H,Lo (X.block (locals sc++frees sc) sc cl C fp s H) ifs<|tT (M.P.kt X)<|Rb r (Ji L sc) ifs
 el:∀cl C fp s H,PE (X.block (locals sc++frees sc) sc cl C fp s H) elt<|tE (M.P.kt X)<|r.E (Ji L sc) elt
 lt:∀i∈is,i<(locals sc).length
 st:∀x,eI iter X.env x=pure x
def C7(R:AH M N aj k r)(C:CxOk M N aj k L X){elt tg d:cx}(h:(U4 L sc&&decide ((locals sc++frees sc).Nodup)&&!isSet d&&decide (Hq f<=1))=O)(A:idxs L.N (frees sc)=U js)
  (ht:Ra (locals sc) (λx=>decide<|sc.names.lookup x=U .local) tg=U (g,is)):Vi M X r L elt tg d f sc js g is:=by
 obtain⟨hE,W,E,Z⟩:=R L X C;simp only[cL,du,zE]at h;obtain⟨⟨⟨j,t⟩,Q⟩,I⟩:=h;unfold U4 at j;simp only[cL,du,fJ]at j;obtain⟨⟨k1,k2⟩,k3⟩:=j;have u:∀x∈frees sc,sc.names.lookup x=U .free/\L.sc.names.lookup x=U .cell:=λx o=>by
  have:=(k2 _<|E_ o).2 J
  exact this
 have bs:gT X sc:=⟨k1,λq m=>(k2 q m).1.1,λq m e=>(k2 q m).1.2 e,λq m e=>by
  show X.env.scope.names.lookup _=_;rw[C.sc];exact((k2 q m).2 e).2⟩
 have Ě:∀cl b a s H,CxOk M N aj k (Ji L sc)<|X.block _ sc cl b a s H:=λcl b a s H=>⟨C.gm,J,Ju C sc,C.calm,C.room⟩;refine⟨bs,qF C u A λ_ h=>h,t,E tg d,?_,λcl b a s H=>?_,λcl b a s H=>(R _ _<|Ě cl b a s H).1 elt,Vh ht,vD Q⟩
 .-- the target's names are the block's own
  have l:∀cl b a s H,∀x i,decide _=O->km _ x=U i->(X.block _ sc cl b a s H).N[i]?=U x/\Loc _ x/\((X.block (locals sc++frees sc) sc cl b a s H).fn x=O\/(X.block (locals sc++frees sc) sc cl b a s H).env.scope.names.lookup x=U .local):=λcl b a s H x i o D=>by
   have hl:(Ep sc X.env).names.lookup x=U .local:=lookup_relabel_local<|bh o;have j:=gx D;refine⟨?_,.inl hl,.inr hl⟩;show(locals sc++frees sc)[i]?=U x;rw[j4 (dw.mp j).1];exact j
  cases tg<;>try(cases ht)
  .rename_i x V
   replace ht:(if _ then _ else Y)=U _:=ht
   split at ht
   .rename_i q
    obtain⟨i,p,n⟩:=bZ.mp ht;cases n;exact⟨_,λcl b a s H=>by
     obtain⟨g1,g2,g3⟩:=l cl b a s H x i q p;exact uP t g1 g2 g3,Cm i⟩
   .cases ht
  .rename_i es S T
   replace ht:=ht
   obtain⟨xs,p,n⟩:=bV.mp ht;split at n
   .rename_i q
    obtain⟨z,G,F⟩:=bZ.mp n;cases F;refine⟨Sj X.K is.length _,λcl b a s H=>?_,Ib is J⟩;obtain⟨y,w,v⟩:=AJ t (l cl b a s H) p q G;exact G4 C.calm y w v
   .cases n
 .match f,I with
  |[],_=>exact Y_
  |[c],_=>exact Za<|(R _ _<|Ě cl b a s H).2.1 c
def lW(R:AH M N aj k r)(C:CxOk M N aj k L X)(e:cx):PE X e<|tO (M.P.kt X)<|ug r L e:=by
 cases e<;>first|exact fk|skip
 rename_i elt d sc p
 match d with
 |[]=>exact fk
 |_::_::_=>exact fk
 |[⟨tg,iter,ifs,ay⟩]=>
  show PE X _<|tO _<|qA r L elt _ sc;unfold qA;split
  case isFalse=>exact fk
  rename_i h;obtain⟨rfl,h⟩:=h;split
  .rename_i f g is a ht
   have K:=C7 R C (elt:=elt) h a ht;obtain⟨gt,c,b⟩:=K.ex;exact Ub _ C.calm K.sco K.fr K.it c b K.ts K.el K.lt K.st
  .exact fk
def vG(a:AG M X r L):∀e:Option cx,PO X e<|tP (M.P.kt X)<|AB r L e
 |none=>YO
 |some e=>YQ<|a e
def Nu(h:isSlice e=Zb):jR e:=λo i=>by
 cases e<;>first|rfl|(cases h)
def Ë(c:bX o=O)(hs:[a,b].all noStar=O)(hl:(d.endLine == j.line)=O):M2 X o "get" d a b j:=by
 refine⟨gu c,EL hs<|by simp,hl,?_⟩
 simp only[dW,Py,sO,cL]at hs;rw[aw hs.1,aw hs.2];rfl
def Nv{a:Bz}(h:U7 M r L o m a=U f):m=("get" : Str)/\∃b d c,a=[b,d]/\Nm M r L o=U c/\f=r9 M.bc c (r.E L b) (r.E L d):=by
 unfold U7 at h;split at h
 .split at h
  .rename_i e
   obtain⟨c,g,rfl⟩:=bZ.mp h;exact⟨e,_,_,c,J,g,J⟩
  .cases h
 .cases h
def C8(C:CxOk M N aj k L X)(h:M.ms.lookup m=U l):∀c f,aD l aj c=U f->Ġ M.P X.prog X.w X.K X.mg X.base k c m f:=λc f a=>by
 obtain⟨i,b,rfl⟩:=bZ.mp a;exact C.gm.mts m l c i h b
def Jw{a:Nat}(c:Const):PE X (.Constant c a pos)<|tE (M.P.kt X)<|Jj c:=by
 cases c with
 |int i=>exact lL GY λ_ _=>J
 |bool b=>exact lL WQ λ_ _=>J
 |none=>exact lL GZ λ_ _=>J
 |str s=>
  show PE X _<|tE _<|if s.length<=1000000 then cF _ else cR
  split
  .rename_i h
   obtain⟨⟨l⟩⟩:=s;exact lL Sa λ_ _=>⟨J,by exact h⟩
  .exact bL
 |_=>exact bL
def Nx(C:CxOk M N aj k L X)(x:Str):PE X (.Name x pos)<|tE (M.P.kt X)<|Jk M L x:=by
 unfold Jk;split
 .rename_i i a
  split
  .rename_i q
   obtain⟨l1,l2,l3,l4⟩:=fB C q;exact Yu (by rw[C.N];exact gx a) l2 l3 l4
  .exact bL
 .split
  .rename_i t ht
   split
   .rename_i q
    obtain⟨g1,g2⟩:=fR C q;exact Zt (C.gm.cst _ _ ht) J g1 g2
   .exact bL
  .exact bL
def Ì(C:CxOk M N aj k L X)(a:AG M X r L){i:cx}(h:jR i):PE X (.Subscript o i pos)<|tE (M.P.kt X)<|ĭ M r L o i:=by
 unfold ĭ;split
 .rename_i f d
  obtain⟨j,c,hr⟩:=C.room;exact Zx M.sd hr (k6 C a d).1 (a _) h
 split
 .obtain⟨j,c,hr⟩:=C.room
  exact ZG J hr (a _) (a _) h
 split
 .rename_i y n hk
  obtain⟨l,g,b⟩:=bV.mp hk;obtain⟨p,b,e⟩:=bZ.mp b;cases e;obtain⟨m,rfl⟩:=c6 g;split
  .rename_i q
   rw[cL]at q;obtain⟨l1,l2,l3,l4⟩:=fB C q.2;exact Uo (by rw[C.N];exact gx b) l2 l3 l4 (a _) h
  .exact Tu J (a _) (a _) h
 .exact Tu J (a _) (a _) h
def Vj(C:CxOk M N aj k L X)(e:AG M X r L)(o:cx)(m:Str)(u:Pos)(c:Bz)(cp:Pos):PE X (.Call (.Attribute o m u) c [] cp)<|tE (M.P.kt X)<|U8 M aj r L o m u c cp:=by
 obtain⟨j,s,hr⟩:=C.room;unfold U8;split
 case isFalse=>exact bL
 rename_i h;simp only[cL,du]at h;obtain⟨⟨⟨q,i⟩,p⟩,n⟩:=h;have t:=gy e c i;split
 .rename_i f w
  obtain⟨rfl,b,d,y,rfl,x,rfl⟩:=Nv w;obtain⟨b1,b2⟩:=k6 C e x;exact Zy M.sd hr b1 (e b) (e d)<|Ë b2 i n
 split
 .rename_i l hl
  cases c with
  |nil=>exact MO (C8 C hl) hr (cJ (bH ..) s) (e o)<|Cz q i (fU p<|by decide) n
  |cons a c=>exact TU (C8 C hl) hr (cJ (bH ..) s) (e o) t i<|Cz q i (fU p<|by decide) n
 .split
  .rename_i g a Ê v _
   exact YT (TL _<|dC v) J (e o) t q i (by exact rL (bH ..) p) n
  .exact bL
def Jx(R:AH M N aj k r)(C:CxOk M N aj k L X)(e:cx):PE X e<|tE (M.P.kt X)<|Rf M aj r L e:=by
 obtain⟨d,u,z,y⟩:=R L X C;cases e with
 |Constant c _ _=>exact Jw c
 |Name x _=>exact Nx C x
 |BinOp a g b _=>exact YI J _ (d _)<|d _
 |UnaryOp g a _=>cases g with
  |USub=>exact YJ J<|d _
  |Not=>exact Ti<|d _
  |_=>exact bL
 |BoolOp g es _=>cases g with
  |And=>exact yD d _
  |Or=>exact C5 d _
 |Compare a n bs _=>
  match n,bs with
  |[g],[b]=>
   show PE X _<|tE _<|if eR g b then cR else yw M r L a g b
   split
   .exact bL
   .rename_i h
    exact Nq C d (by simpa using h)
  |[],_=>exact bL
  |_::_::_,_=>exact bL
  |[_],[]=>exact bL
  |[_],_::_::_=>exact bL
 |IfExp c a b _=>exact YB (u _) (d _)<|d _
 |Tuple es _ _=>
  show PE X _<|tE _<|if es.all noStar then _ else cR
  split
  .rename_i h;exact Yv<|gy d _ h
  .exact bL
 |List es _=>
  show PE X _<|tE _<|if es.all noStar then _ else cR
  split
  .rename_i h;exact Yw<|gy d _ h
  .exact bL
 |Subscript o i _=>
  show PE X _<|tE _<|U6 M r L o i;cases hs:isSlice i with
  |false=>
   rw[show U6 M r L o i=ĭ M r L o i by cases i<;>first|rfl|cases hs]
   exact Ì C d<|Nu hs
  |true=>
   cases i<;>try(cases hs)
   rename_i lo s st _;cases st with
   |none=>
    exact aak J (d _) (vG d _)<|vG d _
   |some st=>
    show PE X _<|tE _<|match jV st with|U<|.int k=>AA k _ _ _|_=>cR
    split
    .rename_i k t
     obtain⟨_,_,rfl⟩:=mY t;exact Z_ J (d _) (vG d _)<|vG d _
    .exact bL
 |Attribute o f _=>
  show PE X _<|tE _<|if bX o then _ else cR
  split
  .rename_i h
   split
   .rename_i j q
    split
    .exact UB C.gm.pg M.sd (gx q) (d _) h
    .exact QJ C.gm.pg (gx q) (d _) h
   .exact bL
  .exact bL
 |ListComp v A sc p=>exact Ab<|lW R C _
 |Call f l ks cp=>
  cases ks with
  |cons _ _=>exact bL
  |nil=>cases f with
   |Name f _=>exact Jt C d _ _
   |Attribute o m w=>exact Vj C d o m w l cp
   |_=>exact bL
 |_=>exact bL
def Jy(R:AH M N aj k r)(C:CxOk M N aj k L X)(e:cx):PT X e<|tT (M.P.kt X)<|stepT M r L e:=by
 obtain⟨g,f,l,j⟩:=R L X C;cases e with
 |BoolOp c es _=>cases c with
  |And=>exact(yE f _).pt
  |Or=>exact(C6 f _).pt
 |UnaryOp c a _=>cases c with
  |Not=>exact Yz<|f _
  |_=>exact QA (g _) J λi=>J
 |Compare a d bs _=>
  match d,bs with
  |[c],[b]=>
   show PT X _<|tT _<|if eR c b then rZ else aZ _
   split
   .exact kO
   .rename_i h
    exact Js C g (by simpa using h)
  |[],_=>exact kO
  |_::_::_,_=>exact kO
  |[_],[]=>exact kO
  |[_],_::_::_=>exact kO
 |IfExp _ _ _ _=>exact kO
 |_=>exact QA (g _) J λi=>J
def Ny{a:Bz}(h:C3 e=U a):∃p pos,e=.Call (.Name "range" p) a [] pos:=by
 obtain⟨⟨f,as,ks⟩,c,b⟩:=bV.mp h;obtain⟨p,pos,rfl⟩:=fW c;have h:=b;split at h
 .rename_i q
  obtain⟨rfl,q⟩:=q;cases h;rw[rP.mp q];exact⟨_,_,J⟩
 .cases h
def Jz(h:yx e=U (a,n)):∃p pos,(n=0/\e=.Call (.Name "enumerate" p) [a] [] pos)\/(n=1/\∃k1 d kp,e=.Call (.Name "enumerate" p) [a] [⟨U<|gs "start",.Constant (.int 1) k1 d,kp⟩] pos):=by
 obtain⟨⟨f,as,ks⟩,i,g⟩:=bV.mp h;clear h;obtain⟨p,pos,rfl⟩:=fW i;have h:=g;clear g;split at h
 case isFalse=>cases h
 rename_i q
 replace q:f=("enumerate" : Str):=q
 subst q
 match as,ks,h with
 |[a'],[],h=>cases h;exact⟨_,_,.inl ⟨J,J⟩⟩
 |[a'],[⟨an,v,kp⟩],h=>
  dsimp only at h;cases b:jV v with
  |none=>rw[b]at h;cases h
  |some c=>
   rw[b]at h;cases c<;>try(cases h;done)
   obtain⟨k1,d,rfl⟩:=mY b;dsimp only at h;split at h
   .rename_i q;obtain⟨rfl,rfl⟩:=q;cases h;exact⟨_,_,.inr ⟨J,_,_,_,J⟩⟩
   .cases h
def Nz(h:Jl e=U a):∃p pos,e=.Call (.Name "reversed" p) [a] [] pos/\noStar a=O:=by
 revert h;refine abc λq b=>λh=>?_;obtain⟨⟨q1,q2⟩,h⟩:=j6.mp h;cases h;obtain⟨p,r,c⟩:=Cq b;exact⟨p,r,by rw[c,q1],q2⟩
def NB(C:CxOk M N aj k L X)(c:AG M X r L)(f:Str)(b:Bz):PE X (.Call (.Name f p) b [] pos)<|tO (M.P.kt X)<|U_ M r L f b:=by
 unfold U_;split
 case isFalse=>exact fk
 rename_i d;obtain⟨g1,g2,g3⟩:=gX C d;split
 .rename_i a e
  obtain⟨rfl,h,g,j,i,rfl⟩:=yF e;obtain⟨k1,k2,k3⟩:=gX C h;exact QW C.calm g2 k2 g1 k1 (c a) g
 .split
  .split
   .rename_i q
    obtain⟨rfl,q⟩:=q;exact ZD J g2 g1 (c _) q
   .exact fk
  .exact fk
def JA(R:AH M N aj k r)(C:CxOk M N aj k L X)(tg e:cx):PI X tg e<|tI (M.P.kt X)<|stepI M r L tg e:=by
 obtain⟨b,q,t,s⟩:=R L X C;unfold stepI;split
 .rename_i j l
  obtain⟨p,pos,rfl⟩:=Ny l;split
  case isFalse=>exact yh
  rename_i h;rw[cL]at h;obtain⟨g1,g2,_⟩:=gX C h.1;have hs:=h.2;split
  .exact Ic g1 g2 (b _) (by simpa using hs)
  .simp only[dW,cL]at hs
   exact Ig g1 g2 (b _) (b _) hs.1 hs.2.1
  .exact UD g1 g2 (b _) (b _) (b _) hs
  .exact yh
 .split
  .rename_i a n m
   split
   case isFalse=>exact yh
   rename_i h;simp only[cL]at h;obtain⟨⟨g,f⟩,i⟩:=h;obtain⟨g1,g2,_⟩:=gX C g;cases tg<;>try(cases f;done)
   obtain⟨p,pos,d|d⟩:=Jz m
   .obtain⟨rfl,rfl⟩:=d
    exact Zo J g1 g2 (b a) i
   .obtain⟨rfl,k1,o,kp,rfl⟩:=d
    exact Zp J g1 g2 (b a) i
  split
  .rename_i a c
   obtain⟨p,pos,rfl,f⟩:=Nz c;split
   .rename_i g
    obtain⟨g1,g2,_⟩:=gX C g;exact ZE g1 g2 (b a) f
   .exact yh
  split
  .rename_i h
   cases tg<;>try(cases h;done)
   exact Y9 J<|b e
  .exact QN J<|b e
def JB(R:AH M N aj k r)(C:CxOk M N aj k L X)(e:cx):PE X e<|tO (M.P.kt X)<|Rg M r L e:=by
 obtain⟨d,l,n,g⟩:=R L X C;cases e with
 |List es _=>
  show PE X _<|tO _<|if es.all noStar then _ else gD
  split
  .rename_i h;exact Te<|gy d _ h
  .exact fk
 |ListComp m o sc p=>exact lW R C _
 |IfExp c a b _=>exact ZC (l _) (g _)<|g _
 |BinOp a j b _=>cases j<;>first|exact UC (d _)<|d _|exact fk
 |Call f i ks _=>cases ks with
  |cons _ _=>exact fk
  |nil=>cases f<;>first|exact NB C d _ _|exact fk
 |_=>exact fk
theorem c7:∀n,AH M N aj k<|comp M aj n
 |0=>λL X C=>⟨λ_=>bL,λ_=>kO,λ_ _=>yh,λ_=>fk⟩
 |n+1=>λL X C=>⟨Jx (c7 n) C,Jy (c7 n) C,JA (c7 n) C,JB (c7 n) C⟩
structure C9(M:Gm)(N:XN)(aj:Nat->Fn)(k:Nat)(L:Lc)(X:Cx):Prop extends CxOk M N aj k L X where
 fn:∀x,X.fn x=O
 nd:X.N.Nodup
 xe:X.xe=λ_ _=>False
 stk:X.stack=X.env::X.outer
 frm:X.env.frame=U X.env.locals
def i9(h:yz e=Zb):eP e t l X.env=pure Zb:=by
 cases e<;>first|rfl|(cases h)
def Vk(C:CxOk M N aj k L X)(h:yz e=O->∃elt a sc p,e=.ListComp elt a sc p):eP e (U<|.Name x tp) l X.env=pure (Jm L x tp e):=by
 cases e<;>first|rfl|skip
 .unfold eP Jm Env.blockKind Env.kindOf
  rw[C.sc];rfl
 .obtain⟨_,_,_,_,z⟩:=h J;cases z
 .obtain⟨_,_,_,_,z⟩:=h J;cases z
def passes(C:C9 M N aj k L X):mB (cv X.prog X.w) X.A X.env X.xe:=by rw[C.xe];exact PassesOwn.never
def C_(h:C4 e=O):∃dp,e=.Dict [] [] dp:=by
 cases e<;>try(cases h)
 rename_i ks a dp
 match ks,a,h with
 |[],[],_=>exact⟨_,J⟩
def Vl(h:yz e=O):C4 e=Zb:=by
 cases e<;>first|rfl|(cases h)
def jM{F:FS}(h:∀s,F s=.bad):PS X st<|tS B F:=λ_ _ _ _ _ _ z=>by
 obtain⟨g,s,o,a,_,e,_⟩:=z;rw[h]at e;cases e
def NC(C:C9 M N aj k L X)(n:Nat)(e:cx):PS X (.Assign [.Name x F] e pos)<|tS (M.P.kt X)<|Jo M aj n L x e:=by
 obtain⟨v,A,B,u⟩:=c7 n L X C.toCxOk;unfold Jo;split
 case h_2=>exact dh
 rename_i i t;split
 case isFalse=>exact dh
 rename_i q;obtain⟨l1,l2,l3,l4⟩:=fB C.toCxOk q;have p:X.N[i]?=U x:=by rw[C.N];exact gx t
 have o:F6 X x:=.inl<|C.fn x;by_cases hlc:yz e=Zb
 .split
  .split
   .rename_i hd
    obtain⟨dp,rfl⟩:=C_ hd;exact Ut C.nd p l1 o
   .exact QP C.nd p l1 (u e) (i9 hlc) o
  .exact QO C.nd p l1 (v e) (i9 hlc) o
 .rw[Vl<|by simpa using hlc]
  cases n with
  |zero=>
   split
   .exact jM λ_=>J
   .exact jM λ_=>J
  |succ n=>
   cases e with
   |ListComp elt j sc cp=>
    have R:=c7 (M:=M) (N:=N) (aj:=aj) (k:=k) n;have m:PS X (.Assign [.Name x F] (.ListComp elt j sc cp) pos) (tS (M.P.kt X)<|iJ i<|ug (comp M aj n) L<|.ListComp elt j sc cp)/\PS X (.Assign [.Name x F] (.ListComp elt j sc cp) pos) (tS (M.P.kt X)<|aG i<|eO<|ug (comp M aj n) L<|.ListComp elt j sc cp):=by
     have sw:=Vk (x:=x) (tp:=F) (l:=pos.line) (e:=.ListComp elt j sc cp) C.toCxOk λ_=>⟨_,_,_,_,J⟩;cases r:Jm L x F _ with
     |false=>
      rw[r]at sw;exact⟨QP C.nd p l1 (lW R C.toCxOk _) sw o,QO C.nd p l1 (Ab<|lW R C.toCxOk _) sw o⟩
     |true=>
      rw[r]at sw;have bad:PS X (.Assign [.Name x F] (.ListComp elt j sc cp) pos) (tS (M.P.kt X) _)/\PS X (.Assign [.Name x F] (.ListComp elt j sc cp) pos) (tS (M.P.kt X) _):=
       ⟨jM λ_=>J,jM λ_=>J⟩
      match j with
      |[]=>exact bad
      |_::_::_=>exact bad
      |[⟨tg,iter,ifs,ay⟩]=>
       rw[show ug _ L _=qA _ L elt _ sc from J];unfold qA;split
       case isFalse=>exact bad
       rename_i h;obtain⟨rfl,h⟩:=h;split
       .rename_i z g is s ht
        have K:=C7 R C.toCxOk (elt:=elt) h s ht;obtain⟨gt,y,w⟩:=K.ex;exact Ue _ C.calm C.nd p l1 K.sco K.fr K.it y w K.ts K.el K.lt K.st o sw
       .exact bad
    split
    .exact m.1
    .exact m.2
   |SetComp a b c d=>
    split
    .exact jM λ_=>J
    .exact jM λ_=>J
   |DictComp a b c d f=>
    split
    .exact jM λ_=>J
    .exact jM λ_=>J
   |_=>exact dy J hlc
def vH(h:ph nm mu e=U (y,a)):noStar a=O/\∃py c cp,e=.Call (.Attribute (.Name y py) nm c) [a] [] cp/\(c.endLine == cp.line)=O:=by
 revert h;refine abI λo m b f=>abc λz d=>λh=>?_;obtain⟨⟨q1,_⟩,h⟩:=j6.mp h;cases h;obtain⟨z,c,cp,j,i⟩:=Cr f;obtain⟨py,g⟩:=c6 d;exact⟨z,_,_,_,by rw[j,<- q1,<- g],i⟩
def vI{a:Nat}(h:Ri e=O):sg [.Tuple es a tp] e X.env=pure Y:=by
 cases e<;>first|rfl|skip
 rename_i b _ _;unfold sg;dsimp only;rw[show b.all _=O from h];split
 .rfl
 split
 .rfl
 split
 .rfl
 rfl
def tgl(C:C9 M N aj k L X):∀x i,iM L x=O->km L.N x=U i->X.N[i]?=U x/\Loc X.env.scope x/\(F6 X x):=λx i b a=>⟨by rw[C.N];exact gx a,(fB C.toCxOk b).1,.inl<|C.fn x⟩
def ND(C:C9 M N aj k L X)(n:Nat)(es:Bz){a:Nat}(e:cx):PS X (.Assign [.Tuple es a tp] e pos)<|tS (M.P.kt X)<|tupS M aj n L es e:=by
 obtain⟨b,f,j,i⟩:=c7 n L X C.toCxOk;unfold tupS;split
 .exact dh
 .rename_i h
  simp only[w_,not_or,Bool.not_eq_true,Bool.not_false]at h;obtain⟨⟨d,c⟩,l⟩:=h;split
  .rename_i g is ht
   obtain⟨gt,q1,q2⟩:=Jv (B:=M.P.kt X) (tg:=.Tuple es a tp) J C.calm C.nd (tgl C) ht;exact Zg (b e) q1 q2 (show eP e (U<|.Tuple es a tp) pos.line X.env=pure Zb from i9 d) (vI<|by simpa using c) J
  .exact dh
def Vm(C:C9 M N aj k L X)(n:Nat)(f:Str)(e:cx):PE X e<|tE (M.P.kt X)<|Va M aj n L f e:=by
 obtain⟨b,c,d,a⟩:=c7 n L X C.toCxOk;unfold Va;split
 .split
  .rename_i hd
   obtain⟨dp,rfl⟩:=C_ hd;exact Uw M.sd M.Â
  .exact Uv M.sd M.Â<|a e
 .exact b e
def JC{a:Pos}:eP e (U<|.Attribute o f a) l X.env=pure Zb:=by
 cases e<;>rfl
def NF(C:C9 M N aj k L X)(n:Nat)(o:cx)(f:Str){c:Pos}(e:cx):PS X (.Assign [.Attribute o f c] e pos)<|tS (M.P.kt X)<|Vb M aj n L o f e:=by
 obtain⟨b,d,h,g⟩:=c7 n L X C.toCxOk;unfold Vb;split
 .rename_i j a
  exact Zl C.gm.pg (gx a) (b o) (Vm C n f e) JC
 .exact dh
def NG(C:C9 M N aj k L X)(n:Nat)(o b:cx)(e:cx):PS X (.Assign [.Subscript o b sp] e pos)<|tS (M.P.kt X)<|Vc M aj n L o b e:=by
 obtain⟨a,r,t,s⟩:=c7 n L X C.toCxOk;obtain⟨j,p,hr⟩:=C.room;unfold Vc;split
 .exact dh
 rename_i h;split
 .rename_i f g
  exact Zw M.sd hr (a e) (k6 C.toCxOk a g).1 (a b)<|i9<|by simpa using h
 split
 .rename_i i d
  obtain⟨y,l,c⟩:=bV.mp d;obtain⟨m,rfl⟩:=c6 l;split at c
  .rename_i q
   obtain⟨l1,l2,l3,l4⟩:=fB C.toCxOk q;split
   .exact dh
   .rename_i hs
    exact aaw hr (a b) (a e) (by rw[C.N];exact gx c) l2 l3 l4 (i9<|by simpa using h) (by simpa using hs)
  .cases c
 .exact dh
def NH(C:C9 M N aj k L X)(n:Nat)(t:cx)(op:og)(e:cx):PS X (.AugAssign t op e pos)<|tS (M.P.kt X)<|Vd M aj n L t op e:=by
 obtain⟨b,m,r,p⟩:=c7 n L X C.toCxOk;unfold Vd;split
 .rename_i o j hk
  obtain⟨q,d,a⟩:=bV.mp hk;obtain⟨h,a,c⟩:=bZ.mp a;cases c;rw[lS d];split
  .rename_i e;subst e
   exact Zz C.gm.pg (gx a) (b _)<|b _
  .exact dh
 split
 case h_2=>exact dh
 rename_i x i hk;obtain⟨f,d,a⟩:=bV.mp hk;obtain⟨l,a,c⟩:=bZ.mp a;cases c;obtain⟨g,rfl⟩:=c6 d;split
 .rename_i q
  obtain⟨rfl,q⟩:=q;obtain⟨l1,l2,l3,l4⟩:=fB C.toCxOk q;exact Zs C.nd (by rw[C.N];exact gx a) l1 (b _)<|.inl<|C.fn _
 .exact dh
def NI(h:Å M r L e=U (f,a)):∃o c cp,e=.Call (.Attribute o "append" c) [a] [] cp/\Nm M r L o=U f/\noStar a=O/\(c.endLine == cp.line)=O:=by
 revert h;refine abI λo m b g=>abc λz d=>λh=>?_;obtain⟨q1,h⟩:=j6.mp h;cases h;obtain⟨z,c,cp,j,i⟩:=Cr g;exact⟨o,_,_,by rw[j,<- q1],d,z,i⟩
def Vn(C:C9 M N aj k L X)(n:Nat)(e:cx):PS X (.Expr e pos)<|tS (M.P.kt X)<|exS M aj n L e:=by
 obtain⟨c,r,t,s⟩:=c7 n L X C.toCxOk;unfold exS;split
 .rename_i f a b
  obtain⟨o,l,cp,rfl,p,g,d⟩:=NI b;obtain⟨b1,b2⟩:=k6 C.toCxOk c p;exact Ux M.sd b1 b2 (c a) g d
 split
 .rename_i y a b
  obtain⟨g,m,l,cp,rfl,d⟩:=vH b;split
  .rename_i i j
   split
   .rename_i q
    obtain⟨l1,l2,l3,l4⟩:=fB C.toCxOk q;exact Zi (c a) (by rw[C.N];exact gx j) l2 l3 l4 g d
   .exact dh
  .exact dh
 split
 .rename_i y a b
  obtain⟨g,m,l,cp,rfl,d⟩:=vH b;split
  .rename_i i j
   split
   .rename_i q
    obtain⟨l1,l2,l3,l4⟩:=fB C.toCxOk q;exact À (c a) (by rw[C.N];exact gx j) l2 l3 l4 g d
   .exact dh
  .exact dh
 .split
  .exact dh
  .rename_i h
   exact Uh (c e)<|i9<|by simpa using h
def AK(h:Np st=U e):∃p,st=.Expr e p:=by
 cases st<;>first|(cases h;done)|(cases h;exact⟨_,J⟩)
def jY{q}(h:qE st=U q):∃p a,st=.Assign [.Name q.1 p] q.2 a:=by
 cases st<;>try(cases h)
 rename_i ts e p
 match ts,h with
 |[t],h=>
  obtain⟨x,b,rfl⟩:=bZ.mp<|h;obtain⟨p,rfl⟩:=c6 b;exact⟨_,_,J⟩
def vJ(h:Į L e=U q):∃a es p cp,q.2=a::es/\e=.Call (.Name q.1 p) (a::es) [] cp/\vB L q.1=O/\(a::es).all noStar=O:=by
 revert h;refine abI λf l ks i=>λh=>?_;obtain⟨⟨g,d,c,b⟩,h⟩:=j6.mp h;cases h;obtain⟨p,cp,rfl⟩:=fW i;cases(rP.mp g);cases l with
 |nil=>cases d
 |cons a r=>exact⟨a,r,p,cp,J,J,c,b⟩
def AL(h:į M L e=U q):∃x a es p cp,M.xs.lookup x=U q.1/\q.2=a::es/\e=.Call (.Name x p) (a::es) [] cp/\vB L x=O/\(a::es).all noStar=O:=by
 revert h;refine abc λw j=>λh=>?_;obtain⟨i,g,rfl⟩:=bZ.mp h;obtain⟨a,es,p,cp,f,d,c,b⟩:=vJ j;exact⟨w.1,a,es,p,cp,g,f,d,c,b⟩
def Vo(h:xmA M e=U z):∃m a cp,e=.Call (.Attribute z.2.2.1 m a) z.2.2.2 [] cp/\M.xt.lookup m=U (z.1,z.2.1)/\bX z.2.2.1=O/\z.2.2.2.all noStar=O/\z.2.2.2.length<29/\(a.endLine == cp.line)=O:=by
 obtain⟨⟨g,as,ks,cp⟩,f,h⟩:=bV.mp h;revert h;refine abc λw d=>abc λi c=>λh=>?_;obtain⟨⟨q1,q2,b,q4,q5⟩,h⟩:=j6.mp h;cases h;cases(rP.mp q1:ks=[]);exact⟨w.2.1,w.2.2,cp,by rw[mW f,lS d],c,q2,b,q4,q5⟩
def Vp(h:fzA M L e=U q):∃x a es p cp,M.cl.lookup x=U (.fz q.1 q.2.1)/\q.2.2=a::es/\e=.Call (.Name x p) (a::es) [] cp/\vB L x=O/\(a::es).all noStar=O:=by
 revert h;refine abc λw j=>λh=>?_;split at h
 .rename_i c n i
  cases h;obtain⟨a,es,p,cp,g,f,d,b⟩:=vJ j;exact⟨w.1,a,es,p,cp,i,g,f,d,b⟩
 .cases h
theorem lX{g:cx->FE}(h:∀e,PE X e<|Ay (M.P.kt X) N E<|g e):∀es:Bz,es.all noStar=O->PA X es (Q6 (M.P.kt X) N E<|ez<|es.map g)
 |[],_=>UO
 |e::es,hs=>by
  rw[dW,cL]at hs;exact Nc (h e) (lX h es hs.2)<|aw hs.1
theorem Rn(C:CxOk M N aj k L X)(s:Passes (ue X.prog X.w) X E)(t:AG M X r L):∀(d:Nat)(e:cx){fe:FE},xE M aj r L d e=U fe->PE X e (Ay (M.P.kt X) N E fe)
 |0,_,_,h=>by cases h
 |d+1,e,fe,h=>by
  obtain⟨B,v,hr⟩:=C.room;have hk:=cJ (bH k 1) v;have ok:∀e,PE X e<|Ay _ N E _:=λe=>ZV<|t e;rw[xE]at h;split at h
  .rename_i c i o b l
   cases h;obtain⟨m,F,cp,rfl,A,j,g,z,y⟩:=Vo l;have D:=C.gm.xt m c i A;cases b with
   |nil=>exact IS s D hr hk (t o)<|Cz j J (by decide) y
   |cons a b=>exact Ng s D hr hk (t o) (lX ok _ g) g<|Cz j g (fU z<|by decide) y
  split at h
  .rename_i i b l
   cases h;obtain⟨x,a,es,p,cp,u,rfl,rfl,j,g⟩:=AL l;obtain⟨g1,g2⟩:=fR C j;exact Nd s (C.gm.xs x i u) hr hk (lX ok _ g) g1 g2 g
  split at h
  .rename_i c n b l
   split at h
   .cases h
    obtain⟨x,a,es,p,cp,u,rfl,rfl,j,g⟩:=Vp l;obtain⟨g1,g2⟩:=fR C j;refine UP (C.gm.fz x c n u) hr v (lX (λe=>?_) _ g) g1 g2 g;cases q:xE M aj r L d e with
    |none=>exact ok e
    |some f=>exact Rn C s t d e q
   .cases h
  .cases h
def NJ(h:isA nm e=U y):∃p pn py cp,e=.Call (.Name "isinstance" p) [.Name nm pn,.Name y py] [] cp:=by
 obtain⟨⟨f,l,ks⟩,k,c⟩:=bV.mp h;obtain⟨p,cp,rfl⟩:=fW k;dsimp only at c;split at c
 . obtain⟨⟨i,g,d⟩,j⟩:=j6.mp c;cases i;cases(rP.mp g);obtain⟨pn,n⟩:=c6 d;obtain⟨py,m⟩:=c6 j;exact⟨_,_,_,_,by rw[n,m]⟩
 .cases c
theorem Dc{C:ax}{d:Obj}{a:ax}(Z:vA X.K C)(k:d.cls=.ref C)(m:X.mg "isinstance" = Y)(j:Gl X "isinstance")(l:X.N[i]?=U nm)(g:nA X.env.scope nm)(hd:bB nm)(f:gk nm) :
  ∀{es:Bz}{ys:Bi}{bs:Fs},vC nm es=U ys->Jq X.K X.mg C ys bs->(∀y∈ys,Gl X y)->PA X es (Q8 i a d bs)
 |[],ys,bs,h,c,_=>by
  cases h;cases bs with
  |nil=>exact UX
  |cons _ _=>cases c
 |e::es,ys,bs,h,c,ĥ=>by
  revert h;refine abc λy q=>λh=>?_;obtain⟨n,o,rfl⟩:=bZ.mp h;cases bs with
  |nil=>cases c
  |cons b bs=>
   obtain⟨p,pn,r,cp,rfl⟩:=NJ q;exact Nj (UW Z k c.1 m l g hd f j<|ĥ y<|d_ ..) (Dc Z k m j l g hd f o c.2 λz hz=>ĥ z<|eG _ hz) J
def lst_inv(h:Jp e=U es):∃p,e=.List es p:=by
 cases e<;>first|(cases h;done)|(cases h;exact⟨_,J⟩)
def JD(h:plA x e=U es):∃p q r,e=.BinOp (.Name x p) .Add (.List es q) r:=by
 cases e<;>try(cases h)
 obtain⟨⟨b,a⟩,c⟩:=j6.mp h;obtain⟨p,f⟩:=c6 a;obtain⟨q,d⟩:=lst_inv c;exact⟨_,_,_,by rw[f,d,b]⟩
def Vq(q:Vf h=O):∃k p,h=U (.Constant .none k p):=by
 unfold Vf at q;split at q
 .rename_i a
  obtain⟨e,rfl,b⟩:=bV.mp a;obtain⟨k,p,rfl⟩:=mY b;exact⟨_,_,J⟩
 .cases q
def Vr(h:suA M nm su=U x):∃l1 l2 l3 c b a s r q p o q1 q2 n q4 q5 m l k,(vC nm l1=U c/\vC nm l2=U b/\vC nm l3=U a/\c++b++a=M.ys) /\
  su=[.Assign [.Name x s] (.List l1 q1) m,.Assign [.Name x r] (.BinOp (.Name x q) .Add (.List l2 q2) n) l,.Assign [.Name x p] (.BinOp (.Name x o) .Add (.List l3 q4) q5) k]:=by
 rcases su with _|⟨B,_|⟨s2,_|⟨A,_|⟨_,_⟩⟩⟩⟩<;>try(cases h;done)
 revert h;refine abH λz E v=>abH λy D u=>abH λw C t=>abc λl1 i=>abc λl2 g=>abc λl3 f=>abc λc k1=>abc λb k2=>abc λa k3=>λh=>?_;obtain⟨⟨⟨e,d⟩,j⟩,h⟩:=j6.mp h;cases h;dsimp only at e d i g f;subst e d;obtain⟨_,_,rfl⟩:=jY v;obtain⟨_,_,rfl⟩:=jY u;obtain⟨_,_,rfl⟩:=jY t;dsimp only;obtain⟨_,rfl⟩:=lst_inv i;obtain⟨_,_,_,rfl⟩:=JD g;obtain⟨_,_,_,rfl⟩:=JD f;exact⟨_,_,_,_,_,_,_,_,_,_,_,_,_,_,_,_,_,_,_,⟨k1,k2,k3,j⟩,J⟩
def Dd(h:xIx M x=U q):∃i,M.xc[q.1]?=U (x,q.2,i):=by
 revert h;refine abc λc d=>λh=>?_;obtain⟨⟨e,f,i⟩,b,rfl⟩:=bZ.mp h;have a:=gx<|d
 rw[eX,b]at a;cases a;exact⟨i,b⟩
def NK(C:C9 M N aj k L X)(n:Nat){b:Fh}{F:FS}(h:Vg M aj n L b hs=U F):PS X (.Try b hs [] [] pos)<|tS (M.P.kt X) F:=by
 match b,hs,h with
 |[s],[.ExceptHandler ty nm su hp],h=>
  revert h;refine abc λy S=>λh=>?_;revert S;refine abc λty' Xz=>λS=>?_;subst Xz;obtain⟨yp,rfl⟩:=c6 S;obtain⟨jr,hj,hr⟩:=C.room;have CN:CxOk M N aj k L X.sX:=⟨C.gm,C.N,C.sc,C.calm,C.room⟩;cases nm with
  |some l=>
   revert h;refine abc λe V=>abH λq1 q2 T=>abc λx R=>abc λi w=>abc λj z3=>λh=>?_;obtain⟨⟨⟨B,A,r,z,w5⟩,⟨w6,w8⟩,w9,v1⟩,h⟩:=j6.mp h;cases h;subst A;obtain⟨ep,rfl⟩:=AK V;obtain⟨f,a,es,p,cp,k1,k2,rfl,I,m⟩:=AL T;cases k2;obtain⟨l1,l2,l3,y1,y2',y3,p1,p2,p3,p4,p5,r1,r2,r3,r4,r5,t1,t2,t3,⟨i1,i2,i3,u⟩,rfl⟩:=Vr R;obtain⟨CB,m1,m2⟩:=C.gm.xf.kd;obtain⟨g1,g2⟩:=fR C.toCxOk I;obtain⟨g3,g4⟩:=fR C.toCxOk B;obtain⟨g5,_⟩:=fR C.toCxOk r;obtain⟨H,G,E,D⟩:=fB C.toCxOk w6;obtain⟨n1,n2,n3,n4⟩:=fB C.toCxOk w8;have hi:X.N[i]?=U l:=by rw[C.N];exact gx w
   have o:X.N[j]?=U x:=by rw[C.N];exact gx z3
   have W:=λy d=>(fR C.toCxOk<|fJ.mp z y d).1;have Q:=gy (c7 n L X.sX CN).1 _ m;refine UZ C.xe (C.gm.xs f q1 k1) hr (cJ (bH ..) hj) Q g1 g2 m m1 g3 g4 C.nd hi (dw.mp o).1 v1 (by rw[C.sc];exact w9) (λc bs hb=>?_) C.stk C.frm
   obtain⟨q,e1,e3,e5,v,Z⟩:=m2 c bs hb;refine⟨q,e1,e5,λa oe ws c1 c2=>?_⟩;rw[<- u]at v;obtain⟨b12,b3,rfl,v,x3⟩:=v.split;obtain⟨b1,b2,rfl,x1,x2⟩:=v.split;have mi:=C.gm.bl _<|zw.mp w5;have g:∀{es:Bz}{ys:Bi}{bs:Fs},vC l es=U ys->Jq X.K X.mg _ ys bs->(∀y∈ys,y∈M.ys)->PA _ es (Q8 i a oe bs):=λq1 q2 q3=>Dc (X:=IK X a λ_ _=>False) e3 c1 mi g5 hi n2 n3 n4 q1 q2 λy d=>W y<|q3 y d;exact UY (C:=q.1) (by simpa[Nat.add_assoc]using Z) (g i1 x1 λy d=>by rw[<- u];simp[d]) (g i2 x2 λy d=>by rw[<- u];simp[d]) (g i3 x3 λy d=>by rw[<- u];simp[d])
    C.nd o H G E D<|.inl<|C.fn _
  |none=>
   revert h;refine abH λx e V=>abH λq1 q2 T=>abc λt R=>abH λx2 e2 h5=>abH λc fo h6=>abc λi w=>λh=>?_;obtain⟨⟨⟨B,A⟩,r,z⟩,h⟩:=j6.mp h;cases h;subst r;obtain⟨p1,p2,rfl⟩:=jY V;obtain⟨f,a,es,p,cp,k1,k2,rfl,I,m⟩:=AL T;cases k2;obtain⟨Z,_⟩:=jK R;subst Z;obtain⟨p3,p4,rfl⟩:=jY h5;obtain⟨k0,kp,e8⟩:=Vq z;cases e8;obtain⟨ci,h7⟩:=Dd h6;obtain⟨qc,e1,e2,e3⟩:∃q,N[c]?=U q/\X.mg y=U (.ref q.1)/\uF X.K (.ref q.1) (.ref q.1)=U O:=by
    cases fo with
    |none=>obtain⟨Ca,a1,a2,a3⟩:=C.gm.xf.non c y ci h7;exact⟨_,a1,a2.at_,a3⟩
    |some f=>obtain⟨Ca,a1,a2,a3⟩:=C.gm.xf.two c y f ci h7;exact⟨_,a1,a2.at_,a3⟩
   obtain⟨g1,g2⟩:=fR C.toCxOk I;obtain⟨g3,g4⟩:=fR C.toCxOk B;obtain⟨l1,l2,l3,l4⟩:=fB C.toCxOk A;have Q:=gy (c7 n L X.sX CN).1 _ m;exact U0 C.xe (C.gm.xs f q1 k1) hr (cJ (bH ..) hj) Q g1 g2 m e2 g3 g4 e1 e3 C.nd (by rw[C.N];exact gx w) l1 (.inl<|C.fn _) (i9 J) C.stk C.frm
def AM(C:C9 M N aj k L X)(n:Nat){l:Lc->Fh->FS}(j:∀q,iz X q<|tS (M.P.kt X)<|l L q)(st:gL):PS X st<|tS (M.P.kt X)<|Æ M aj n l L st:=by
 obtain⟨v,p,s,y⟩:=c7 n L X C.toCxOk;cases st with
 |Assign ts e pos=>
  match ts with
  |[]=>exact dh
  |_::_::_=>exact dh
  |[t]=>
   cases t with
   |Name x _=>exact NC C n _
   |Tuple es _ _=>exact ND C n es e
   |Attribute o f _=>exact NF C n o f e
   |Subscript o b _=>exact NG C n o b e
   |_=>exact dh
 |AugAssign t r e pos=>exact NH C n t r e
 |Expr e pos=>exact Vn C n e
 |Return o pos=>cases o with
  |none=>exact Ug
  |some e=>
   exact Zh<|v _
 |If c a b pos=>exact aaq (p _) (j _)<|j _
 |For m it d i pos=>cases i with
  |cons _ _=>exact dh
  |nil=>
   show PS X _<|tS _<|Ve M aj n L _ m it;unfold Ve;split
   .exact dh
   .rename_i h
    split
    .rename_i g is ht
     obtain⟨gt,q1,q2⟩:=Jv (B:=M.P.kt X) J C.calm C.nd (tgl C) ht;exact Zj C.calm (s m it) q1 q2 (j d) (passes C)<|vD<|by simpa using h
    .exact dh
 |While c d i pos=>cases i with
  |cons _ _=>exact dh
  |nil=>exact MQ _ (p _) (j _)<|passes C
 |Try d hs i w pos=>
  match hs,i,w with
  |[],_,_=>exact dh
  |_::_,_::_,_=>exact dh
  |_::_,[],_::_=>exact dh
  |h::hs,[],[]=>
   show PS X _<|tS _<|match Vg M aj n L d _ with|some F=>F|none=>l L d
   split
   .rename_i F u
    exact NK C n u
   .exact Zu C.xe<|j _
 |Pass _=>exact Ud
 |_=>exact dh
theorem iN(n:Nat):∀(m:Nat)(L:Lc)(X:Cx),C9 M N aj k L X->∀a,iz X a<|tS (M.P.kt X)<|kZ M aj n m L a
 |0,_,_,_,_=>Zd
 |m+1,L,X,C,[]=>Ze
 |m+1,L,X,C,[st]=>Zf<|AM C n (iN n m L X C) st
 |m+1,L,X,C,st::s2::rest=>Uc (AM C n (iN n m L X C) st)<|iN n m L X C _
def Vs(h:Ç st=U z):∃p,st=.Raise (U z.1) z.2 p:=by
 cases st<;>try(cases h)
 obtain⟨e,a,rfl⟩:=bZ.mp h;subst a;exact⟨_,J⟩
def NL(h:Rj st=U e):∃p,st=.Return (U e) p:=by
 cases st<;>try(cases h;done)
 cases(h);exact⟨_,J⟩
def Vt(C:CxOk M N aj k L X)(hk:1<=k)(Z:F0 X E)(n:Nat){F:FS}(h:rsF M aj n L e=U F):PS X (.Raise (U e) Y pos)<|tX (M.P.kt X) N E F:=by
 obtain⟨r,W,hI,hO⟩:=c7 n L X C;obtain⟨T,V,hr⟩:=C.room;revert h;refine abH λx l I=>abH λc K G=>λh=>?_;obtain⟨a,es,p,cp,k1,k2,k3,d⟩:=vJ I;obtain⟨i,j⟩:=Dd G;subst k1 k2;obtain⟨g1,g2⟩:=fR C k3;cases K with
 |some f=>
  cases h;obtain⟨R,o,m,_⟩:=C.gm.xf.two c x f i j;exact IU o Z m (hr.mono<|by lia) (gy r _ d) g1 g2 d
 |none=>
  obtain⟨R,o,m,_⟩:=C.gm.xf.non c x i j;obtain⟨b,D,rfl⟩:=bZ.mp<|h;obtain⟨B,_⟩:=jK D;cases B;rw[dW,cL]at d;refine IV o Z m (r _) (λS H Q z=>?_) g1 g2 d.1;obtain⟨g,s,t,w,x,h,q⟩:=z;exact⟨g,s,t,w,x,h,λv g1 H1 A u y=>⟨J,q v g1 H1 A u y⟩⟩
def vK:PS X st<|tX (M.P.kt X) N E cj:=λ_ _ _ _ _ _ z=>by
 rcases z with⟨_,_,_,_,_,h,_⟩|⟨_,_,_,_,_,_,h,_⟩<;>cases h
def JE(n:Nat)(hk:1<=k)(C:CxOk M N aj k L X)(CS:C9 M N aj k L X.sX)(Z:F0 X E)(K:mB (cv X.prog X.w) X.A X.env X.xe)(Qs:∀a,PassesOwnAt (cv X.prog X.w) (X.A.mark<|U<|.ref a) X.A X.env X.xe){t:Lc->Fh->FS}(o:∀R,iz X R<|tX (M.P.kt X) N E<|t L R)(st:gL) :
  PS X st<|tX (M.P.kt X) N E<|İ M aj n t L st:=by
 obtain⟨W,Q,V,hO⟩:=c7 n L X C;have m:∀{e fe},xE M aj _ L xD e=U fe->PE X e _:=λ{e fe} q=>Rn C (ZQ Z) W xD e q;have l:∀{e fe},xE M aj (comp M aj n) L xD e=U fe->yz e=Zb:=λ{e fe} q=>by
  cases e<;>first|rfl|(cases q)
 have plain:PS X st<|tX _ N E _:=aaz λae s S H D I h=>ey (AM CS n (iN n 200 L X.sX CS) st ae s S H D (I.oi _) h) (λ_ _ q=>q.ib) λ_ _ z=>z.elim;unfold İ;split
 .rename_i F h
  obtain⟨⟨e,ca⟩,f,d⟩:=bV.mp h;obtain⟨p,rfl⟩:=Vs f;obtain⟨q,d⟩:=j6.mp d;cases(PY.mp q);exact Vt C hk Z n d
 split
 .rename_i fe h
  obtain⟨e,f,d⟩:=bV.mp h;obtain⟨p,rfl⟩:=AK f;exact UR (m d)<|i9<|l d
 split
 .rename_i fe h
  obtain⟨e,f,d⟩:=bV.mp h;obtain⟨p,rfl⟩:=NL f;exact ZZ<|m d
 split
 .rename_i i fe h
  revert h;refine abH λx e f=>abc λG d=>abc λT v=>λh=>?_;obtain⟨⟨q1,q2⟩,h⟩:=j6.mp h;cases h;obtain⟨p,p',rfl⟩:=jY f;obtain⟨l1,l2,l3,l4⟩:=fB C q1;exact ZY CS.nd (by rw[C.N];exact gx v) l1 (m d) (i9<|l d)<|.inl<|CS.fn x
 split
 .rename_i i fe h
  revert h;refine abc λe f=>abH λy a d=>abc λG v=>abc λT h4=>λh=>?_;obtain⟨q1,h⟩:=j6.mp h;cases h;obtain⟨p,rfl⟩:=AK f;obtain⟨h5,py,ap,cp,rfl,h6⟩:=vH d;obtain⟨l1,l2,l3,l4⟩:=fB C q1;exact Z3 (m v) (by rw[C.N];exact gx h4) l2 l3 l4 h5 h6
 .cases st with
  |If c a b pos=>exact aaA (Q _) (o _)<|o _
  |For r it j u pos=>cases u with
   |cons _ _=>exact vK
   |nil=>
    show PS X _<|tX _ N E<|if isSet it then cj else match Ra L.N _ r with|some (g,_)=>dM _ g _|none=>cj
    split
    .exact vK
    .rename_i h
     split
     .rename_i g is ht
      obtain⟨gt,q1,q2⟩:=Jv (B:=M.P.kt X) J C.calm CS.nd (λx i f d=>tgl CS x i f d) ht;exact Z4 C.calm (V r it) q1 q2 (o j) K<|vD<|by simpa using h
     .exact vK
  |While c j u pos=>cases u with
   |nil=>exact Nh many (Q _) (o _) K
   |cons _ _=>exact vK
  |_=>exact plain
theorem lY(n:Nat)(hk:1<=k)(C:CxOk M N aj k L X)(d:C9 M N aj k L X.sX)(Z:F0 X E)(b:mB (cv X.prog X.w) X.A X.env X.xe)(c:∀a,PassesOwnAt (cv X.prog X.w) (X.A.mark<|U<|.ref a) X.A X.env X.xe):∀m e,iz X e<|tX (M.P.kt X) N E<|yC M aj n m L e
 |0,_=>λ_ _ _ _ _ _ z=>by rcases z with⟨_,_,_,_,_,h,_⟩|⟨_,_,_,_,_,_,h,_⟩<;>cases h
 |m+1,[]=>ZX
 |m+1,[st]=>lF<|JE n hk C d Z b c (lY n hk C d Z b c m) st
 |m+1,st::s2::rest=>UQ (JE n hk C d Z b c (lY n hk C d Z b c m) st)<|lY n hk C d Z b c m _
abbrev NN:=List<|Str×Nat
structure Fe where
 cls:Option Str
 x:Str
 qual:Str
 st:gL
 N:Bi
 ps:Bi
 mu:Bi
 sl:Bool
 ds:FR
def noFn:Fn:=λ_ _=>.bad
def Vu(b:Bool)(f:Fn):Fn:=if b then aL f else f
def Í(e:Fe):Bool:=e.mu.contains ("raise" : Str)
def yG(M:Gm)(aj:Nat->Fn)(e:Fe):FS:=match Í e with
 |false=>kZ M aj 60 200 ⟨e.N,aK e.st,e.mu⟩<|cP e.st
 |true=>yC M aj 60 200 ⟨e.N,aK e.st,e.mu⟩<|cP e.st
def yH(M:Gm)(aj:Nat->Fn)(e:Fe):Fn:=Vu e.sl<|aE e.ps.length e.N.length<|yG M aj e
def iO(M:Gm)(Ft:List Fe):Nat->Nat->Fn
 |0,_=>noFn
 |n+1,i=>match Ft[i]? with
  |some e=>yH M (iO M Ft n) e
  |none=>noFn
def vL(K:bD)(x:Str):Option ax:=match pM K eD x with
 |U<|U<|.ref a=>U a
 |_=>Y
def fZ{a:ax}(h:vL K x=U a):pM K eD x=U (U<|.ref a):=by
 unfold vL at h;split at h
 .rename_i e;cases h;exact e
 .cases h
def aaJ(K:bD)(C:ax)(m:Str):Option ax:=match f6 K (.ref C) m with
 |U<|U<|.ref a=>U a
 |_=>Y
def ı(K:bD)(C:ax)(ns:Bi):Bool:=wJ K C w1&&wK K C&&F9 K C&&decide (f6 K (.ref C) "__setattr__" = U (U<|.builtin "object.__setattr__")) &&
 decide (f6 K (.ref C) "__class__" = U (U<|.builtin Hl))&&decide (D_ K C (.type "object")=U O)&&ns.all (λf=>decide<|f6 K (.ref C) f=U Y)&&decide ns.Nodup&&decide (ns.length<=100)
def subB(K:bD)(cn:Bi)(C:ax)(l:B1):Bool:=(cU cn.length).all λd=>match cn[d]? with
 |none=>O
 |some n=>(match vL K n with
  |some D=>decide<|pK K (.ref C) (.ref D)=U (decide<|d∈l)
  |none=>Zb)
def Î(K:bD)(P:Pg):Bool:=(cU P.cn.length).all λc=>match P.cn[c]? with
 |none=>O
 |some n=>(match vL K n,P.fn[c]?,P.sub[c]? with
  |some C,some ns,some l=>ı K C ns&&subB K P.cn C l
  |_,_,_=>Zb)
def gtB(K:bD):Bool:=decide (Bf K (.builtin Hl) "__get__" = U (U<|.builtin "getset_descriptor.__get__"))&&decide (Bg K (.builtin Hl)=U O)
def Lv(K:bD)(mg:Str->D2):Prop:=∀x o,pM K eD x=U o->mg x=o
def Vv(X:K.In h)(G:h.Ns eD mg):Lv K mg:=λx o e=>by
 cases o with
 |none=>exact PySem.W.mg_none_of X G e
 |some v=>exact PySem.W.mg_of X G e
def uh(h:Î K P=O){c:Nat}(a:P.cn[c]?=U n):∃C ns l,vL K n=U C/\P.fn[c]?=U ns/\P.sub[c]?=U l/\ı K C ns=O/\subB K P.cn C l=O:=by
 have:=fJ.mp h c<|wR.mpr (dw.mp a).1
 rw[a]at this;dsimp only at this;split at this
 .rename_i C ns l e d b
  rw[cL]at this;exact⟨C,ns,l,e,d,b,this.1,this.2⟩
 .cases this
def qG(g:Lv K mg){C:ax}(c:vL K n=U C)(h:ı K C ns=O):Wn K mg n ns C:=by
 unfold ı at h;simp only[cL,du]at h;obtain⟨⟨⟨⟨⟨⟨⟨⟨p,o⟩,m⟩,l⟩,k⟩,j⟩,i⟩,e⟩,d⟩:=h;have a:=fZ c;exact⟨a,g _ _ a,e,d,⟨p,o,m,l⟩,λf b=>show f6 K _ f=U Y from bh<|fJ.mp i f b,k,j⟩
def Ï(g:Lv K mg)(h:Î K P=O)(ht:gtB K=O):oH K mg P:=by
 refine⟨λc n ns f a=>?_,λc d n n' C D l f a o m k=>?_,?_⟩
 .obtain⟨C,p,l,b,i,_,j,_⟩:=uh h f
  rw[a]at i;cases i;exact⟨C,qG g b j⟩
 .obtain⟨s,p,q,b,_,hl,_,hs⟩:=uh h f
  rw[k]at hl;cases hl;have e:=(g _ _<|fZ b).symm.trans o;cases e;have:=fJ.mp hs d<|wR.mpr (dw.mp a).1
  rw[a]at this;dsimp only at this;split at this
  .rename_i r hd
   have e:=(g _ _<|fZ hd).symm.trans m;cases e;exact bh this
  .cases this
 .unfold gtB at ht
  rw[cL]at ht;exact⟨bh ht.1,bh ht.2⟩
def NO(K:bD)(e:Fe):Option ax:=match e.cls with
 |none=>vL K e.x
 |some c=>(vL K c).bind λC=>aaJ K C e.x
def Ro(K:bD)(e:Fe):Option dA:=(NO K e).bind λf=>match K.lookup f with
 |some ⟨_,_,.func fd,_⟩=>U fd
 |_=>Y
def Fb(e:Fe)(fd:dA):dA:=zk e.x e.qual (jT e.st) (cP e.st) (aK e.st) fd.defaults fd.kwdefaults fd.doc fd.pyModule fd.annotations fd.code fd.closureTuple
def scB(e:Fe):Bool:=decide ((aK e.st).kind=.function)&&!(aK e.st).isCoroutine&&!(aK e.st).isGenerator&&decide e.N.Nodup&&decide (e.N.take e.ps.length=e.ps)&&e.ps.all (λx=>decide ((aK e.st).names.lookup x=U .local) ||decide ((aK e.st).names.lookup x=U .cell))&&(aK e.st).names.all (λy=>decide<|y.2≠.free)
def De:T->ao->Bool
 |.int i,.int j _=>decide<|i=j
 |.str l,.str s _=>decide (s.cps.toList=l)&&decide (l.length<=1000000)
 |.bl b,.bool c=>b == c
 |.non,.none=>O
 |_,_=>Zb
def fP:T->V
 |.int i=>.int i
 |.str l=>SV l
 |.bl b=>.bl b
 |_=>.non
def Df(h:De t u=O):RelV (fP t) u/\∀(B:KT)al H,Rep B al H t<|fP t:=by
 unfold De at h;split at h
 .have h:=bh h
  subst h;exact⟨⟨_,J⟩,λ_ _ _=>J⟩
 .rename_i l s tk
  rw[cL]at h;have a:=bh h.1;subst a;exact⟨⟨tk,J⟩,λ_ _ _=>⟨J,bh h.2⟩⟩
 .have h:=eq_of_beq h
  subst h;exact⟨J,λ_ _ _=>J⟩
 .exact⟨J,λ_ _ _=>J⟩
 .cases h
def k7:FR->B2->Bool
 |[],[]=>O
 |t::ts,u::us=>De t u&&k7 ts us
 |_,_=>Zb
theorem qH:∀{ts:FR}{us:B2},k7 ts us=O->Vals (ts.map fP) us/\∀(B:KT)al H,aF B al H ts<|ts.map fP
 |[],[],_=>⟨.nil,λ_ _ _=>J⟩
 |t::ts,u::us,h=>by
  rw[k7,cL]at h;obtain⟨a,b⟩:=Df h.1;obtain⟨c,d⟩:=qH h.2;exact⟨.cons a c,λB al H=>⟨_,_,J,b B al H,d B al H⟩⟩
 |[],_::_,h=>by cases h
 |_::_,[],h=>by cases h
def dfB(K:bD)(ds:FR)(b:ao):Bool:=match ds with
 |[]=>(match b with
  |.none=>O
  |_=>Zb)
 |_::_=>(match b with
  |.ref a=>(match K.lookup a with
   |some ⟨_,_,.seq c _,_⟩=>k7 ds c.toList
   |_=>Zb)
  |_=>Zb)
def Ĳ(K:bD)(e:Fe):Bool:=match NO K e,Ro K e with
 |some f,some fd=>lC K (.ref f)&&D9 K (.ref f)&&Ge K fd.code e.qual&&scB e&&dfB K e.ds fd.defaults
 |_,_=>Zb
def Bn(e:Fe):Prop:=match e.ds with
 |[]=>∀(kV c d:ao)(an:Option ax)(f ct:ao)(b:B2),Hq b=Hq e.ps->bindArgs (zk e.x e.qual (jT e.st) (cP e.st) (aK e.st) .none kV c d an f ct) ⟨b,[]⟩=pure (e.ps.zip b)
 |ds=>∀(kV c d:ao)(an:Option ax)(f ct:ao)(s:ag)(a:ax)(o:Obj)(g:B2)(n:Nat)(b:B2),s.heap.get? a=U o->o.data=.seq g.toArray n->Hq g=Hq ds ->
  ((b++g).length=Hq e.ps->EZ s (zk e.x e.qual (jT e.st) (cP e.st) (aK e.st) (.ref a) kV c d an f ct) ⟨b,[]⟩ (e.ps.zip<|b++g)) /\
  (Hq b=Hq e.ps->EZ s (zk e.x e.qual (jT e.st) (cP e.st) (aK e.st) (.ref a) kV c d an f ct) ⟨b,[]⟩ (e.ps.zip b))
structure qI(K:bD)(e:Fe)(f:ax)(fd:dA):Prop where
 at_:NO K e=U f
 fn:yi K e.x e.qual e.st f fd
 sc:gS e.N e.ps<|aK e.st
 isf:D9 K (.ref f)=O
 bs:e.ds=[]->∀us:B2,Hq us=Hq e.ps->bindArgs fd ⟨us,[]⟩=pure (e.ps.zip us)
 bf:Binds K fd e.ps []
 bd:∃(gK:B2)(dV:List V),Binds K fd e.ps gK/\Vals dV gK/\∀(B:KT)al H,aF B al H e.ds dV
def qI.bn{e:Fe}(F:qI K e f fd)(_:e.ds=[]):Binds K fd e.ps []:=F.bf
theorem nh:∀{ts:FR}{us:B2},k7 ts us=O->Hq us=Hq ts
 |[],[],_=>J
 |t::ts,u::us,h=>by
  rw[k7,cL]at h;simp[nh h.2]
 |[],_::_,h=>by cases h
 |_::_,[],h=>by cases h
def Ð{e:Fe}(h:Ĳ K e=O)(q:Ro K e=(Ro K e).map (Fb e))(b:Bn e):∃f fd,qI K e f fd:=by
 unfold Ĳ at h;split at h
 case h_2=>cases h
 rename_i f fd t i;simp only[cL]at h;obtain⟨⟨⟨⟨L,I⟩,G⟩,n⟩,c⟩:=h;rw[i]at q;injection q with q
 have l:∃k od j,K.lookup f=U ⟨k,od,.func fd,j⟩:=by
  unfold Ro at i;rw[t]at i;dsimp only[Option.bind]at i;split at i
  .rename_i k od M j e
   cases i;exact⟨k,od,j,e⟩
  .cases i
 obtain⟨k,od,j,l⟩:=l;have F:yi K e.x e.qual e.st f fd:=⟨⟨k,od,fd.defaults,fd.kwdefaults,fd.doc,fd.pyModule,fd.annotations,fd.code,fd.closureTuple,j,q,l,G⟩,L⟩;have bs:e.ds=[]->∀g:B2,Hq g=Hq e.ps->bindArgs fd ⟨g,[]⟩=pure (e.ps.zip g):=λh g hl=>by
  unfold Bn at b;rw[h]at b c;unfold dfB at c;dsimp only at b c;split at c
  .rename_i hd
   rw[q];unfold Fb;rw[hd];exact b _ _ _ _ _ _ g hl
  .cases c
 have bd:(∃(u:B2)(v:List V),Binds K fd e.ps u/\Vals v u/\∀(B:KT)al H,aF B al H e.ds v)/\Binds K fd e.ps []:=by
  cases r:e.ds with
  |nil=>exact⟨⟨[],[],.all<|bs r,.nil,λ_ _ _=>J⟩,.all<|bs r⟩
  |cons d ds=>
   unfold Bn at b;rw[r]at b c;unfold dfB at c;dsimp only at b c;split at c
   case h_2=>cases c
   rename_i a hd;split at c
   case h_2=>cases c
   rename_i C A o n' N m;obtain⟨z,w⟩:=qH c;refine⟨⟨o.toList,_,λs g p hl=>?_,z,λB al H=>w B al H⟩,λs g p hl=>?_⟩
   .rw[q]
    unfold Fb;rw[hd];exact(b _ _ _ _ _ _ s a _ o.toList n' g (p _ _ m) J<|nh c).1 hl
   .rw[b9]at hl ⊢
    rw[q];unfold Fb;rw[hd];exact(b _ _ _ _ _ _ s a _ o.toList n' g (p _ _ m) J<|nh c).2 hl
 refine⟨f,fd,t,F,?_,I,bs,bd.2,bd.1⟩;unfold scB at n;simp only[cL,du]at n;obtain⟨⟨⟨⟨⟨⟨g1,g2⟩,g3⟩,g4⟩,g5⟩,g6⟩,g7⟩:=n;refine⟨g1,by simpa using g2,by simpa using g3,g4,g5,λx E=>?_,λy D=>bh<|fJ.mp g7 y D⟩
 have:=fJ.mp g6 x E
 rw[w_]at this;exact this.imp bh bh
section
variable{Ft:List Fe}{It:NN}
def hvB(e:Fe):Bool:=e.N.all λx=>(decide ((aK e.st).names.lookup x=U .local) ||decide ((aK e.st).names.lookup x=U .cell))&&!ko x
def Rp{e:Fe}(h:hvB e=O):∀(i:Nat)(x:Str),e.N[i]?=U x->nA (aK e.st) x/\bB x/\gk x:=λi x a=>by
 have:=fJ.mp h x<|ji a
 rw[cL,w_]at this;refine⟨this.1.elim (λh=>.inl<|bh h) λh=>.inr<|.inl<|bh h,Rm<|by simpa using this.2⟩
def mkB(K:bD)(C f:ax):Bool:=wL K C&&decide (f6 K (.ref C) "__init__" = U (U<|.ref f))&&lC K (.ref C)
def JF(K:bD)(M:Gm)(Ft:List Fe)(It:NN)(c:Nat)(x:Str)(t:Bi->Fe->Bool):Bool:=match M.P.cn[c]?,M.P.fn[c]?,(It.lookup x).bind λi=>Ft[i]? with
 |some n,some ns,some e=>decide (n=x)&&(match vL K x,NO K e with
  |some C,some f=>mkB K C f&&e.ds.isEmpty&&t ns e
  |_,_=>Zb)
 |_,_,_=>Zb
def fzB(n:Nat)(ns:Bi)(e:Fe):Bool:=hvB e&&qq e.N 1 (cP e.st) ns&&decide (Hq e.ps=Hq ns+1)&&decide (Hq ns=n)
def cpB(K:bD)(ns:Bi)(e:Fe):Bool:=hvB e&&decide (e.ps.length=2)&&decide (pM K eD "list" = U Y)&&decide ((aK e.st).names.lookup ("list" : Str)=U .globalImplicit)&&(match cP e.st with
 |[Zq]=>(match vm Zq with
  |some (a,n,q)=>decide (ns=[n])&&decide (e.N[0]?=U a)&&decide (e.N[1]?=U q)
  |none=>Zb)
 |_=>Zb)
def ĳ(K:bD)(M:Gm)(Ft:List Fe)(It:NN)(x:Str):Ck->Bool
 |.fz c n=>JF K M Ft It c x<|fzB n
 |.z0 c=>(match M.P.cn[c]?,vL K x with
  |some n,some C=>decide (n=x)&&wL K C&&decide (f6 K (.ref C) "__init__" = U (U<|.builtin "object.__init__"))&&lC K (.ref C)
  |_,_=>Zb)
 |.cp c=>JF K M Ft It c x<|cpB K
 |.nw c i=>decide (It.lookup x=U i)&&JF K M Ft It c x λ_ _=>O
def dsB:FR->FR->Bool
 |[],[]=>O
 |[.int i],[.int j]=>decide<|i=j
 |_,_=>Zb
def NP{a b:FR}(h:dsB a b=O):a=b:=by
 unfold dsB at h;split at h
 .rfl
 .rw[bh h]
 .cases h
def Ñ(K:bD)(Ft:List Fe)(p:Str×FR×Nat):Bool:=match Ft[p.2.2]? with
 |some e=>decide (e.cls=Y)&&decide (e.x=p.1)&&(p.2.1.isEmpty ||dsB p.2.1 e.ds)
 |none=>Zb
def Ò(K:bD)(M:Gm)(Ft:List Fe)(m:Str)(p:Nat×Nat):Bool:=match M.P.cn[p.1]?,M.P.fn[p.1]?,Ft[p.2]? with
 |some n,some ns,some e=>(match vL K n,NO K e with
  |some C,some f=>decide (f6 K (.ref C) m=U (U<|.ref f))&&e.ds.isEmpty&&!ns.contains m
  |_,_=>Zb)
 |_,_,_=>Zb
def Ĵ(K:bD)(C:ax):Bool:=decide (f6 K (.ref C) "__getattribute__" = U (U<|.builtin He))&&decide (f6 K (.ref C) "__getattr__" = U Y)&&decide (f6 K (.ref C) "__class__" = U (U<|.builtin Hl))&&decide (D_ K C (.type "BaseException")=U O)&&decide (D_ K C (.type "object")=U O) &&
 decide (f6 K (.ref C) "__setattr__" = U (U<|.builtin "object.__setattr__"))&&wK K C&&(PySem.W.clsIn K C).any (λa=>CO a.mro)&&lC K (.ref C)
def ĵ(K:bD)(C:ax)(f:Str):Bool:=decide<|f6 K (.ref C) f=U Y
def xmB(K:bD)(C:ax)(y:Str):Bool:=match vL K y with
 |some D=>decide<|uF K (.ref C) (.ref D)=U O
 |none=>Zb
def NQ(s f p:Str)(st:gL):Bool:=match Cs st with
 |some (a,b,e)=>decide (a=s)&&decide (b=f)&&decide (asName e=U p)
 |none=>Zb
def un{b:Type}:List b->Option (b×List b)
 |[]=>Y
 |a::r=>U (a,r)
def uR{a:Type}{l:List a}{p}(h:un l=U p):l=p.1::p.2:=by
 cases l<;>cases h;rfl
def l2{a:Type}(l:List a):Option<|a×a:=(un l).bind λp=>(un p.2).bind λq=>if q.2.isEmpty=O then U (p.1,q.1)else Y
def JG{c:Type}{l:List c}{p}(h:l2 l=U p):l=[p.1,p.2]:=by
 revert h;refine abc λa e=>abc λb d=>λh=>?_;obtain⟨z,h⟩:=j6.mp h;cases h;rw[uR e,uR d,rP.mp z]
def l3{a:Type}(l:List a):Option<|a×a×a:=(un l).bind λp=>(l2 p.2).map λq=>(p.1,q)
def Vw{c:Type}{l:List c}{p}(h:l3 l=U p):l=[p.1,p.2.1,p.2.2]:=by
 revert h;refine abc λa e=>λh=>?_;obtain⟨b,d,rfl⟩:=bZ.mp h;rw[uR e,JG d]
def mkV(f g:Str)(e:Fe):Bool:=(l2<|cP e.st).any λb=>(l3 e.ps).any λs=>decide (e.N=[s.1,s.2.1,s.2.2])&&NQ s.1 f s.2.1 b.1&&NQ s.1 g s.2.2 b.2&&!ko s.1&&!ko s.2.1&&!ko s.2.2&&e.ds.isEmpty
def Ó(K:bD)(Ft:List Fe)(C:ax)(f g:Str)(i:Nat):Bool:=match Ft[i]? with
 |some e=>(match NO K e with
  |some a=>M9 K C a&&mkV f g e
  |none=>Zb)
 |none=>Zb
def Vx(K:bD)(M:Gm)(Ft:List Fe)(q:Str×Option Str×Nat):Bool:=match vL K q.1 with
 |some C=>(match q.2.1 with
  |some f=>Ĵ K C&&ĵ K C f&&ĵ K C M.xg&&decide (M.xg≠f)&&Ó K Ft C f M.xg q.2.2&&decide (uF K (.ref C) (.ref C)=U O)
  |none=>O_ K C UJ "ValueError.__new__" && decide (uF K (.ref C) (.ref C)=U O))
 |none=>Zb
def Fc(K:bD)(M:Gm):XN:=M.xc.map λq=>((vL K q.1).getD 0,q.2.1)
def xiA(K:bD)(C:ax)(y:Str):Option Bool:=if ko y then Y else match pM K eD y with
 |U<|U<|.ref D=>pK K (.ref C)<|.ref D
 |some none=>if y=("ValueError" : Str)then pK K (.ref C) (.type "ValueError")else Y
 |_=>Y
def Vy(K:bD)(C:ax):Bi->Option Fs
 |[]=>U []
 |y::ys=>(xiA K C y).bind λb=>(Vy K C ys).map (b::·)
def kdB(K:bD)(M:Gm)(c:Nat)(bs:Fs):Bool:=match M.xc[c]? with
 |some q=>(match vL K q.1 with
  |some C=>Ĵ K C&&decide (Vy K C M.ys=U bs)&&xmB K C M.xm&&decide (Hq bs<=1000)
  |none=>Zb)
 |none=>Zb
def kbB(K:bD)(M:Gm):Bool:=(cU M.kb.length).all λc=>match M.kb[c]? with
 |some bs=>kdB K M c bs
 |none=>Zb
def NR(Ft:List Fe)(i:Nat):Bool:=match Ft[i]? with
 |some e=>Í e
 |none=>Zb
def Ô(K:bD)(M:Gm)(Ft:List Fe):Bool:=M.xc.all (Vx K M Ft)&&kbB K M&&(vL K M.xm).isSome&&M.xs.all (λp=>Ñ K Ft (p.1,[],p.2)&&NR Ft p.2)&&M.xt.all λp=>Ò K M Ft p.1 p.2&&NR Ft p.2.2
def Vz(K:bD)(M:Gm)(Ft:List Fe)(It:NN):Bool:=Î K M.P&&gtB K&&Ft.all (Ĳ K)&&M.fs.all (Ñ K Ft)&&M.cl.all (λp=>ĳ K M Ft It p.1 p.2)&&M.ms.all (λp=>p.2.all<|Ò K M Ft p.1)&&M.bl.all (λx=>decide<|pM K eD x=U Y)&&Ô K M Ft
structure ModOk(K:bD)(M:Gm)(Ft:List Fe)(It:NN):Prop where
 b:Vz K M Ft It=O
 q:Ft.map (Ro K)=Ft.map λe=>(Ro K e).map<|Fb e
 bn:∀e∈Ft,Bn e
theorem JH{c d:Type}{f g:c->d}:∀{l:List c},l.map f=l.map g->∀a∈l,f a=g a
 |[],_,a,h=>by simp at h
 |b::l,e,a,h=>by
  rw[gj]at e;injection e with e1 e2
  rcases bM.mp h with rfl|h
  .exact e1
  .exact JH e2 a h
def ModOk.split(n:ModOk K M Ft It):Î K M.P=O/\gtB K=O/\(∀e∈Ft,Ĳ K e=O)/\(∀p∈M.fs,Ñ K Ft p=O)/\(∀p∈M.cl,ĳ K M Ft It p.1 p.2=O)/\(∀p∈M.ms,∀q∈p.2,Ò K M Ft p.1 q=O)/\(∀x∈M.bl,pM K eD x=U Y)/\Ô K M Ft=O:=by
 have h:=n.b;unfold Vz at h;simp only[cL]at h;obtain⟨⟨⟨⟨⟨⟨⟨m,l⟩,k⟩,j⟩,i⟩,g⟩,f⟩,d⟩:=h;exact⟨m,l,fJ.mp k,fJ.mp j,fJ.mp i,λp c=>fJ.mp<|fJ.mp g p c,λx a=>bh<|fJ.mp f x a,d⟩
def ModOk.fe(a:ModOk K M Ft It){e:Fe}(h:e∈Ft):∃f fd,qI K e f fd:=Ð (a.split.2.2.1 e h) (JH a.q e h)<|a.bn e h
def NS:cX P w K mg base lu k f fd ps<|rH B noFn:=
 ⟨by rintro a H Q E ⟨_,_,_,_,_,_,_,h,_⟩;exact(by cases h),by rintro _ _ _ _ _ _ _ _ _ _ _ _ _ ⟨_,_,_,_,_,_,_,h,_⟩;exact(by cases h)⟩
def AN(g:Lv K mg)(u:ModOk K M Ft It){c:Nat}(h:JF K M Ft It c x t=O):∃C ns e i f fd,M.P.cn[c]?=U x/\M.P.fn[c]?=U ns/\It.lookup x=U i/\Ft[i]?=U e/\qI K e f fd/\Mk K C f/\Wn K mg x ns C/\t ns e=O/\e.ds=[]:=by
 unfold JF at h;split at h
 case h_2=>cases h
 rename_i n ns e k j p;obtain⟨i,o,d⟩:=bV.mp p;rw[cL]at h;obtain⟨a,h⟩:=h;have a:=bh a;subst a;split at h
 case h_2=>cases h
 rename_i C f b m;obtain⟨q,fd,F⟩:=u.fe<|ji d
 have:=F.at_.symm.trans m
 cases this;obtain⟨s,r,l,g1,g2,_,g3,_⟩:=uh u.split.1 k;rw[b]at g1;cases g1;rw[j]at g2;cases g2;unfold mkB at h;simp only[cL,du]at h;exact⟨C,ns,e,i,_,fd,k,j,o,d,F,⟨h.1.1.1.1,h.1.1.1.2,F.isf,h.1.1.2⟩,qG g b g3,h.2,rP.mp h.1.2⟩
def Fd{c:Type}{l:List<|Nat×c}{x:Nat}{a:c}(h:l.lookup x=U a):(x,a)∈l:=by
 induction l with
 |nil=>simp at h
 |cons p l d=>
  rw[kC]at h;split at h
  .rename_i e
   cases h;rw[eq_of_beq e];exact d_ ..
  .exact eG _<|d h
def Wn.Ff{c:Nat}{C:ax}(F:Wn K mg x ns C)(b:P.cn[c]?=U x)(a:P.fn[c]?=U ns):iK (iu P K Pr w) c C ns:=⟨x,b,a,F.nd,F.at_⟩
def yI{a b c:Str}(h:NQ a b c st=O):∃j i f g,st=.Assign [.Attribute (.Name a j) b i] (.Name c f) g:=by
 unfold NQ at h;split at h
 .rename_i x y e d
  simp only[cL,du]at h;obtain⟨⟨rfl,rfl⟩,k⟩:=h;obtain⟨f,rfl⟩:=c6 k;obtain⟨_,_,_,d⟩:=vf d;exact⟨_,_,_,_,d⟩
 .cases h
def JI{C:ax}{e:Fe}(F:qI K e f fd)(Z:yr K C)(n1:cO K C xf)(n2:cO K C xg)(ne:xg≠xf)(h:mkV xf xg e=O):cX Pr w K mg base lu 1 f fd e.ps (IG C xf xg)/\e.ps.length=3/\e.ds=[]:=by
 obtain⟨⟨a,b⟩,d,h⟩:=Ga h;obtain⟨⟨s,p,q⟩,c,h⟩:=Ga h;have d:=JG d;have c:=Vw c;simp only[cL,du,zE]at h;obtain⟨⟨⟨⟨⟨⟨I,G⟩,D⟩,B⟩,y⟩,t⟩,r⟩:=h;refine⟨?_,by rw[c];rfl,rP.mp r⟩
 obtain⟨_,_,_,_,o⟩:=yI G;obtain⟨_,_,_,_,L⟩:=yI D;have sc:=F.sc;rw[I,c]at sc;rw[c];have g:∀x∈[s,p,q],nA _ x:=λx n=>(sc.par x n).elim .inl λz=>.inr<|.inl z;refine F.fn.ok sc (λi H Q E j=>by obtain⟨_,_,_,_,_,z,_⟩:=j;rw[z];rfl) λm A outer sh H i Q E hr h=>?_
 rw[d,o,L];refine⟨_,M8 Z n1 n2 ne J (g s<|by simp) (g p<|by simp) (g q<|by simp) (Rm B) (Rm y)<|Rm t,i,?_,?_⟩
 .obtain⟨_,_,_,_,_,z,_⟩:=h
  rw[z];rfl
 .obtain⟨a,u,v,l,k,z,h⟩:=h
  exact⟨a,u,v,l,k,z,h⟩
def Õ(g:Lv K mg){C:ax}{b:Bool}(h:xiA K C y=U b):XiF K mg C y b:=by
 unfold xiA at h;split at h
 .cases h
 rename_i hd;refine⟨(Rm<|by simpa using hd).1,?_⟩
 split at h
 .rename_i D a
  exact .inl ⟨D,g _ _ a,h⟩
 .rename_i a
  split at h
  .rename_i e
   subst e;exact .inr ⟨"ValueError",g _ _ a,PyProof.Rows.Boot.«ValueError»,by decide,h⟩
  .cases h
 .cases h
theorem JJ(g:Lv K mg){C:ax}:∀{ys:Bi}{bs:Fs},Vy K C ys=U bs->Jq K mg C ys bs
 |[],bs,h=>by cases h;trivial
 |y::ys,bs,h=>by
  revert h;refine abc λb c=>λh=>?_;obtain⟨Ö,a,rfl⟩:=bZ.mp h;exact⟨Õ g c,JJ g a⟩
def Rq{C:ax}(gt:gtB K=O)(h:Ĵ K C=O):yr K C/\vA K C/\lC K (.ref C)=O:=by
 unfold Ĵ at h;simp only[cL,du]at h;obtain⟨⟨⟨⟨⟨⟨⟨⟨a1,a2⟩,a3⟩,a6⟩,a7⟩,a8⟩,a9⟩,ů⟩,Ű⟩:=h;unfold gtB at gt;simp only[cL,du]at gt;exact⟨⟨a1,a2,a8,a9,ů⟩,⟨a1,a2,a3,gt.1,gt.2,a6,a7⟩,Ű⟩
def JK{c:Nat}{C:ax}(h:M.xc[c]?=U (x,f,i))(a:vL K x=U C):(Fc K M)[c]?=U (C,f):=by
 unfold Fc;rw[eX,h];show U ((vL K x).getD 0,f)=_;rw[a];rfl
def VA(g:Lv K mg)(B:ModOk K M Ft It):XsF M Pr w K mg base<|Fc K M:=by
 obtain⟨_,gt,_,_,_,_,_,h⟩:=B.split;unfold Ô at h;simp only[cL,fJ]at h;obtain⟨⟨⟨⟨m,l⟩,k⟩,z⟩,y⟩:=h;refine⟨λc x f i h=>?_,λc x i h=>?_,?_⟩
 .have q:=m _<|ji h
  unfold Vx at q;split at q
  case h_2=>cases q
  rename_i C a;simp only[cL,du]at q;obtain⟨⟨⟨⟨⟨q1,q2⟩,b⟩,q4⟩,q5⟩,q6⟩:=q;obtain⟨es,n,kp⟩:=Rq gt q1;have n1:cO K C f:=by unfold cO;exact decide_eq_true_eq.mp q2
  have n2:cO K C M.xg:=by unfold cO;exact decide_eq_true_eq.mp b
  unfold Ó at q5;split at q5
  case h_2=>cases q5
  rename_i e s;split at q5
  case h_2=>cases q5
  rename_i u r;rw[cL]at q5;obtain⟨A,fd,F⟩:=B.fe<|ji s;cases F.at_.symm.trans r;obtain⟨m1,m2,m3⟩:=JI F es n1 n2 q4 q5.2;exact⟨C,JK h a,⟨⟨u,fd,e.ps,q5.1,F.isf,m1,m2,F.bn m3⟩,kp,g _ _<|fZ a⟩,q6⟩
 .have q:=m _<|ji h
  unfold Vx at q;split at q
  case h_2=>cases q
  rename_i C a;rw[cL]at q;exact⟨C,JK h a,⟨q.1,g _ _<|fZ a⟩,bh q.2⟩
 .cases d:vL K M.xm with
  |none=>rw[d]at k;cases k
  |some v=>
  refine⟨v,g _ _<|fZ d,λc bs j=>?_⟩;have q:=fJ.mp l c<|wR.mpr (dw.mp j).1;rw[j]at q
  replace q:kdB K M c bs=O:=q
  unfold kdB at q;split at q
  case h_2=>cases q
  rename_i w p;obtain⟨x,t,i⟩:=w;split at q
  case h_2=>cases q
  rename_i C a;simp only[cL,du]at q;obtain⟨⟨⟨o,q1⟩,q2⟩,b⟩:=q;obtain⟨es,n,kp⟩:=Rq gt o;unfold xmB at q2;rw[d]at q2;exact⟨(C,t),JK p a,n,bh q2,JJ g q1,b⟩
def yJ{e:Fe}(F:qI K e f fd)(G:AF M N Pr w K mg base aj k)(hk:1<=k)(b:Í e=O):cX Pr w K mg base (ue Pr w) (k+2) f fd e.ps<|wF (iu M.P K Pr w) N<|yH M aj e:=by
 have a:cX Pr w K mg base (ue Pr w) (k+2) f fd e.ps<|wF (iu M.P K Pr w) N<|aE e.ps.length e.N.length<|yG M aj e:=by
  unfold yG;rw[b];refine Ni F.fn F.sc λc A outer s H E hr Z=>?_;exact lY 60 hk ⟨G,J,J,J,k+1,bP _,hr⟩ ⟨⟨G,J,J,J,k+1,bP _,hr⟩,λ_=>J,F.sc.nd,J,J,J⟩ Z PassesOwn.leaving (λ_=>PassesOwnAt.leaving) 200 _
 unfold yH Vu;split
 .exact IW a
 .exact a
def NT{e:Fe}(F:qI K e f fd)(G:AF M N Pr w K mg base aj k)(hk:1<=k):cX Pr w K mg base lu (k+2) f fd e.ps<|rH (iu M.P K Pr w)<|yH M aj e:=by
 cases b:Í e with
 |true=>exact UT<|yJ F G hk b
 |false=>
 have a:cX Pr w K mg base lu (k+2) f fd e.ps<|rH (iu M.P K Pr w)<|aE e.ps.length e.N.length<|yG M aj e:=by
  refine Uj F.fn F.sc λc A outer s H E hr=>?_;unfold yG;rw[b];exact iN 60 200 _ _ ⟨⟨G,J,J,J,k+1,bP _,hr⟩,λ_=>J,F.sc.nd,J,J,J⟩ _
 unfold yH Vu;split
 .exact MR a
 .exact a
def Dg{e:Fe}(F:qI K e f fd)(he:Ft[i]?=U e)(h:∀m,n=m+1->AF M N Pr w K mg base (iO M Ft m) (2*m+1)):cX Pr w K mg base lu (2*n+1) f fd e.ps<|rH (iu M.P K Pr w)<|iO M Ft n i:=by
 cases n with
 |zero=>exact NS
 |succ m=>
  have:=NT F (h m J)<|sD ..
  unfold iO;rw[he];exact this
def yK{e:Fe}(F:qI K e f fd)(he:Ft[i]?=U e)(a:Í e=O)(h:∀m,n=m+1->AF M N Pr w K mg base (iO M Ft m) (2*m+1)):cX Pr w K mg base (ue Pr w) (2*n+1) f fd e.ps<|wF (iu M.P K Pr w) N<|iO M Ft n i:=by
 cases n with
 |zero=>exact⟨λb H Q E z=>(by rcases z with⟨_,_,_,_,_,_,_,h,_⟩|⟨_,_,_,_,_,_,_,_,h,_⟩<;>cases h),λ_ _ _ _ _ _ _ _ _ _ _ _ _ z=>(by rcases z with⟨_,_,_,_,_,_,_,h,_⟩|⟨_,_,_,_,_,_,_,_,h,_⟩<;>cases h)⟩
 |succ m=>
  have:=yJ F (h m J) (sD ..) a
  unfold iO;rw[he];exact this
def VB(g:Lv K mg)(qC:ModOk K M Ft It)(T:∀x t,M.cs.lookup x=U t->CF K mg x t):∀n,AF M (Fc K M) Pr w K mg base (iO M Ft n)<|2*n+1:=by
 intro n
 induction n using Nat.strongRecOn with
 |ind n y=>
 have call:∀{i:Nat}{e:Fe}{f:ax}{fd:dA},qI K e f fd->Ft[i]?=U e->cX Pr w K mg base lu _ f fd e.ps (rH _<|iO M Ft n i):=λF d=>Dg F d λm B=>y m (by lia)
 obtain⟨o1,o2,o3,Q,p,N,L,o⟩:=qC.split;have pg:=Ï g o1 o2;refine⟨pg,T,λx ds i h=>?_,λx c k h=>?_,λx c h=>?_,λx c h=>?_,λx c i h=>?_,λm l c i s r=>?_,λx h=>g x Y<|L x h,VA g qC,λx i h=>?_,λm c i h=>?_⟩
 .have q:=Q _<|dC h
  unfold Ñ at q;dsimp only at q;split at q
  case h_2=>cases q
  rename_i e d;rw[cL,cL]at q;obtain⟨⟨q2,a⟩,q1⟩:=q;have q2:=bh q2;have a:=bh a;subst a;obtain⟨f,fd,F⟩:=qC.fe<|ji d;have j:=F.at_;unfold NO at j;rw[q2]at j;rcases Bool.or_eq_true_iff.mp q1 with q1|q1
  .cases rP.mp q1
   exact⟨f,fd,e.ps,[],[],call F d,g _ _<|fZ j,F.fn.kp,F.bf,.nil,λal H=>J⟩
  .obtain⟨W,Z,b1,b2,b3⟩:=F.bd
   exact⟨f,fd,e.ps,W,Z,call F d,g _ _<|fZ j,F.fn.kp,b1,b2,λal H=>NP q1▸b3 _ al H⟩
 .obtain⟨C,ns,e,i,f,fd,c1,c2,u,A,F,m,cl,q,q9⟩:=AN g qC<|p _<|dC h
  unfold fzB at q;simp only[cL,du]at q;obtain⟨⟨⟨q1,q2⟩,a⟩,q4⟩:=q;exact⟨C,f,fd,e.ps,ns,cl.Ff c1 c2,q4,cl.gl,m,MU F.fn F.sc (Rp q1) q2 a cl.cl cl.na cl.nd cl.EL,F.bn q9⟩
 .have q:=p _<|dC h
  unfold ĳ at q;dsimp only at q;split at q
  case h_2=>cases q
  rename_i n' C s r;simp only[cL,du]at q;obtain⟨⟨⟨q1,q2⟩,a⟩,q4⟩:=q;subst q1;obtain⟨D,ns,l,g1,g2,_,g3,_⟩:=uh o1 s;rw[r]at g1;cases g1;have cl:=qG g r g3;exact⟨C,ns,cl.Ff s g2,cl.gl,q2,a,q4⟩
 .obtain⟨C,ns,e,i,f,fd,c1,c2,u,A,F,m,cl,q,q9⟩:=AN g qC<|p _<|dC h
  unfold cpB at q;simp only[cL,du]at q;obtain⟨⟨⟨⟨q1,q2⟩,a⟩,q4⟩,q5⟩:=q;split at q5
  case h_2=>cases q5
  rename_i Zq V;split at q5
  case h_2=>cases q5
  rename_i s0 n' q' S;simp only[cL,du]at q5;obtain⟨⟨I,G⟩,E⟩:=q5;subst I;exact⟨C,f,fd,e.ps,n',cl.Ff c1 c2,cl.gl,m,Ij F.fn F.sc V S G E (Rp q1) (g _ _ a) q4 q2 cl.cl<|cl.na _<|d_ ..,F.bn q9⟩
 .have q:=p _<|dC h
  unfold ĳ at q;rw[cL]at q;obtain⟨v,q⟩:=q;have v:=bh v;obtain⟨C,ns,e,i',f,fd,c1,c2,u,A,F,m,cl,_,q9⟩:=AN g qC q;rw[v]at u;cases u;exact⟨C,f,fd,e.ps,ns,cl.Ff c1 c2,cl.gl,m,call F A,F.bn q9⟩
 .have q:=N _ (dC s) _<|Fd r
  unfold Ò at q;split at q
  case h_2=>cases q
  rename_i n' ns e d1 d2 d3;split at q
  case h_2=>cases q
  rename_i C f d4 d5;rw[cL,cL]at q;obtain⟨⟨q1,q9⟩,q2⟩:=q;obtain⟨D,FW,R,g1,g2,_,g3,_⟩:=uh o1 d1;rw[d4]at g1;cases g1;rw[d2]at g2;cases g2;have cl:=qG g d4 g3;obtain⟨X,fd,F⟩:=qC.fe<|ji d3
  have:=F.at_.symm.trans d5
  cases this;exact⟨C,_,fd,e.ps,ns,cl.Ff d1 d2,cl.cl,⟨bh q1,F.isf,F.fn.kp⟩,call F d3,F.bn<|rP.mp q9,λz=>by rw[zw.mpr z]at q2;cases q2⟩
 .unfold Ô at o
  simp only[cL,fJ]at o;obtain⟨q,b⟩:=o.1.2 _<|dC h;unfold Ñ at q;split at q
  case h_2=>cases q
  rename_i e d;rw[cL,cL]at q;obtain⟨⟨q2,a⟩,q1⟩:=q;have q2:=bh q2;have a:=bh a;subst a;obtain⟨f,fd,F⟩:=qC.fe<|ji d;have j:=F.at_;unfold NO at j;rw[q2]at j;unfold NR at b;rw[d]at b;exact⟨f,fd,e.ps,yK F d b λm B=>y m<|by lia,g _ _<|fZ j,F.fn.kp,F.bf⟩
 .unfold Ô at o
  simp only[cL,fJ]at o;obtain⟨q,b⟩:=o.2 _<|dC h;unfold NR at b;unfold Ò at q;split at q
  case h_2=>cases q
  rename_i n' ns e d1 d2 d3;split at q
  case h_2=>cases q
  rename_i C f d4 d5;rw[cL,cL]at q;obtain⟨⟨q1,q9⟩,q2⟩:=q;obtain⟨D,FW,R,g1,g2,_,g3,_⟩:=uh o1 d1;rw[d4]at g1;cases g1;rw[d2]at g2;cases g2;have cl:=qG g d4 g3;obtain⟨X,fd,F⟩:=qC.fe<|ji d3
  have:=F.at_.symm.trans d5
  cases this;rw[d3]at b;exact⟨C,_,fd,e.ps,ns,cl.Ff d1 d2,cl.cl,⟨bh q1,F.isf,F.fn.kp⟩,yK F d3 b λm B=>y m<|by lia,F.bn<|rP.mp q9,λz=>by rw[zw.mpr z]at q2;cases q2⟩
end
section
variable{Ft:List Fe}{It:NN}
def NU(K:bD)(p:Str×T):Bool:=match pM K eD p.1 with
 |U<|U u=>(match p.2,u with
  |.tup ts,.ref a=>(match K.lookup a with
   |some ⟨.type c,_,.seq b _,_⟩=>decide (c = "tuple")&&decide (b.size<=cC)&&k7 ts b.toList
   |_=>Zb)
  |t,u=>De t u)
 |_=>Zb
def VC(g:Lv K mg)(h:NU K (x,t)=O):CF K mg x t:=by
 unfold NU at h;dsimp only at h;split at h
 case h_2=>cases h
 rename_i u f;have e:=g _ _ f;split at h
 .rename_i ts a
  split at h
  .rename_i c od l n sl hl
   simp only[cL,du]at h;obtain⟨⟨k,j⟩,i⟩:=h;subst k;obtain⟨d,b⟩:=qH i;exact⟨_,.ref a,e,J,λB al H hB=>⟨a,ts.map fP,J,.inr ⟨_,l,n,hB▸hl,J,J,j,d⟩,b B al H⟩⟩
  .cases h
 .obtain⟨d,b⟩:=Df h
  exact⟨u,fP t,e,d,λB al H _=>b B al H⟩
structure JL(K:bD)(M:Gm)(Ft:List Fe)(It:NN):Prop extends ModOk K M Ft It where
 cs:M.cs.all (NU K)=O
def NV(g:Lv K mg)(a:JL K M Ft It)(n:Nat):AF M (Fc K M) Pr w K mg base (iO M Ft n)<|2*n+1:=VB g a.toModOk (λx t h=>VC g<|fJ.mp a.cs _<|dC h) n
def NW{f:Fn}{k:Nat}(ns:Ee)(h:∃m',f [.scr ns] []=.ok (.bl O,m')){a:ax}(d:SN H)(c:dY B.K H a<|ns.map V.int):rH B f [.ref a] H (λv _=>v=.bl O) λ_ _ _=>False:=by
 obtain⟨m',h⟩:=h;refine⟨⟨H,λ_=>Y,[]⟩,[.scr ns],[],_,m',⟨λ_ _ e=>e,λb p e=>(by cases e),J,λk ob e=>(by simp at e)⟩,⟨_,_,J,⟨a,J,c⟩,J⟩,h,λv g i _ _ r=>r⟩
end
def Ø{l:PySem.W.OpenLaw}{YP:de->eh->Prop}{d:DefRec}{K:mI->bD}{It:NN}{e:Fe}
  (hn:l.most=U m) (y:m<=cC) (C:d.params.defaults=[]) (hr:bI (2*n+1) td) (hY:∀(w:de)(h:eh),YP w h->(K w.params).In h)
  (he:Ft[i]?=U e) (A:e.ps=[("_law_script" : Str)]) (X:e.x=d.name) (Mj:e.cls=Y) (Ai:e.ds=[]) (qC:∀P,JL (K P) M Ft It) (hT:∀ns:Ee,ns.length<=m->(∀i∈ns,i.natAbs.log2<1048577)->∃m',iO M Ft n i [.scr ns] []=.ok (.bl O,m')) :
  PySem.W.WalkO q loose XP YP l.row.toRowW d [] λf vs=>PySem.call f vs:=by
 intro w s₀ c mg mb G qD fa o pm cd doc dV kV ho hd iS Q B hg S L as Mi I Z Ţ hlo
 obtain⟨a,vs,ns,rfl,rfl,E,j,R⟩:=Att.ED hn Mi Ţ;have t:∀i∈ns,i.natAbs.log2<1048577:=λi hi=>by
  have h1:=PySem.W.layableW_item (PySem.W.layableW_arg I _<|dj.mpr J) _<|iC.mpr ⟨i,hi,J⟩;have p:=PyData.bits_of_layable<|PyProof.Rows.Da.lay0_int<|PySem.W.layable_int h1;unfold hZ at p;split at p
  .rename_i z
   rw[bh z];decide
  .exact fU p (by decide)
 refine PySem.W.enter_call<|gV (?_:jA _ td _ (λr v=>r=.ok (.ret<|.bool O)/\OldK c.heap v.heap/\v.os=c.os/\PyProof.Rows.AllBare v.gens) c) λr v hq=>?_
 .have V:=hY w _ qD
  have g:=Vv V G.T.g;obtain⟨f,fd,F⟩:=(qC w.params).fe<|ji he;have D:=F.at_;unfold NO at D;rw[Mj]at D;have ea:=(g _ _<|fZ D).symm.trans<|X▸B;cases ea;refine Hn (fd:=fd) (x:=("_law_script")) (CX:=lu) (sp:=rH (iu M.P _ l.prog w) _) V G.T.g G.T.b G.T.builtins G.T.nolimit hg E j (cJ R y) hr (λbase KB GB=>?_) (λs u=>?_) (λH hO hS=>NW (k:=0) ns (hT ns R t) hO hS) λ_ _ _ z=>z
  .have:=Dg (Pr:=l.prog) (w:=w) (base:=base) F he (n:=n) λm y=>NV g (qC w.params) m
   rw[A]at this;exact this
  .have:=F.bs Ai [u] (by rw[A];rfl)
   rw[A]at this;exact .of_eq this
 .obtain⟨rfl,p,h3,h4⟩:=hq
  exact⟨.inl ⟨.bool O,.bool O,[],J,λ_=>J,.bool O,Att.EE l _,λ_=>⟨PB.nil,λ_ y=>(nomatch y)⟩⟩,p,h3,h4⟩
end D
namespace D
def Ù(a:b)(f:b->Res c):Res.bind (.ok a) f=f a:=J
def dF{f:c->Res b}(h:f a=r):Res.bind (.ok a) f=r:=h
def oso(a:b):bu (U a)=.ok a:=J
section
variable{a b:FS}{s s':S}{t:T}{d n:Nat}{ts:FR}{m m':FX}
def seq1(h:a s=.ok (.nx,s'))(k:b s'=r):ah a b s=r:=by unfold ah;rw[h];exact k
def NX(h:a s=.ok (.rt t,s')):ah a b s=.ok (.rt t,s'):=by unfold ah;rw[h];rfl
def AO(h:c s=.ok (O,s'))(k:a s'=r):bj c a b s=r:=by unfold bj;rw[h];exact k
def se(h:c s=.ok (Zb,s'))(k:b s'=r):bj c a b s=r:=by unfold bj;rw[h];exact k
def jN(h:e s=.ok (t,s')):aC e s=.ok (.rt t,s'):=by unfold aC;rw[h];rfl
def jq(h:Hq ts=d)(k:b ⟨ts.map (λt=>U<|.val t)++cK (n-Hq ts) Y,m⟩=.ok (.rt t,s'))(a:s'.m=m'):aE d n b ts m=.ok (t,m'):=by
 unfold aE;rw[b0 h,k,<- a];rfl
def yL(h:Hq ts=d)(k:b ⟨ts.map (λt=>U<|.val t)++cK (n-Hq ts) Y,m⟩=.ok (.nx,s'))(a:s'.m=m'):aE d n b ts m=.ok (.non,m'):=by
 unfold aE;rw[b0 h,k,<- a];rfl
def fS(h:aB ts=O)(k:g ts []=.ok (t,m'))(ht:noOwn t=O):aL g ts m=.ok (t,m):=by
 unfold aL;rw[b0 h,k];exact b0 ht
def nT(h:fl s=.ok (ts,s'))(k:g (ts++ds) s'.m=.ok (t,m')):ai g ds fl s=.ok (t,⟨s'.r,m'⟩):=by
 unfold ai;rw[h];show(match g _ s'.m with|.ok q=>_|.bad=>_|.exc c fs s'=>_)=_;rw[k]
end
def Dh(h:o s=.ok (.own k,s1))(a:s1.m[k]?=U ob)(b:g ob.c=U f)(e:fl s1=.ok (ts,s2))(d:f (.own k::ts) s2.m=.ok (t,m')) :
  aJ g o fl s=.ok (t,⟨s2.r,m'⟩):=by
 unfold aJ;rw[h];show Res.bind (bu _) _=_;rw[a];show Res.bind (bu<|g ob.c) _=_;rw[b];refine Eq.trans (Ù f _) ?_;exact nT (by rw[e];rfl) (by rw[b9];exact d)
def gc[Decidable p]{x:a}(h:p):gd p x=U x:=b0 h
end D
namespace D
open PySem L2 PyProof.Rows
end D
namespace D
abbrev sv(t:T):Option C:=U<|.val t
abbrev px(i:Int):=sv<|.int i
abbrev tl(l:List Nat):=sv<|.str l
abbrev FH(l:List T):=sv<|.lst l
abbrev FU(k:Nat):=sv<|.own k
abbrev cI(i:Int):FE:=cF<|.int i
abbrev cS(l:B1):FE:=cF<|.str l
abbrev oA:FE->FE->FE:=bo<|jo .Add
abbrev oM:FE->FE->FE:=bo<|jo .Mod
abbrev oD:FE->FE->FE:=bo<|jo .FloorDiv
abbrev oE:FE->FE->FE:=bo<|aI .Eq
abbrev oI:FE->FE->FE:=bo fL
abbrev k1(a:FE):FL:=ba a a_
abbrev k2(a b:FE):FL:=ba a<|k1 b
abbrev k3(a b c:FE):FL:=ba a<|k2 b c
abbrev zA:FE:=vF 0
abbrev zB:FE:=vF 1
abbrev zC:FE:=vF 2
abbrev zD:FE:=vF 3
abbrev zO:FE:=cI 0
abbrev zI:FE:=cI 1
abbrev zg:B1:=[103,105,118,101]
def W(x:Res b)(Q:b->Prop):Prop:=∃a,x=.ok a/\Q a
section
variable{f:d->Res a}{P:d->Prop}
def W.mono(h:W x Q)(k:∀a,Q a->P a):W x P:=let⟨a,e,q⟩:=h;⟨a,e,k a q⟩
theorem W.bind(h:W x λa=>W (f a) R):W (x.bind f) R:=by
 obtain⟨a,rfl,b,e,q⟩:=h;exact⟨b,e,q⟩
def W.of{a:d}(e:x=.ok a)(h:P a):W x P:=⟨a,e,h⟩
def wO{a:d}(e:o=U a)(h:W (f a) R):W ((bu o).bind f) R:=by rw[e];exact h
end
section
variable{a b:FE}{fl:FL}{y:FR->FV}{Q:T×S->Prop}{t u:T}{ts:FR}{c:FT}{A B:FS}{d:Out×S->Prop}{j:FR×S->Prop}{G:T×FX->Prop}
def aaM(h:W (fl s) λp=>∃v,y p.1=U v/\Q (v,p.2)):W (aV y fl s) Q:=W.bind<|h.mono λ_ ⟨_,e,q⟩=>wO e ⟨_,J,q⟩
def Ú(h:W (a s) λp=>W (fl p.2) λq=>j (p.1::q.1,q.2)):W (ba a fl s) j:=W.bind<|h.mono λ_ k=>W.bind<|k.mono λ_ q=>⟨_,J,q⟩
def WB(b:FS)(s:S)(G:T×FX->Prop):Prop:=W (b s) λp=>∃t,p.1=.rt t/\G (t,p.2.m)
def Û(h:W (a s) λp=>G (p.1,p.2.m)):WB (aC a) s G:=W.bind<|h.mono λp q=>⟨_,J,_,J,q⟩
def NY(e:a s=.ok (t,s'))(h:G (t,s'.m)):WB (aC a) s G:=Û ⟨_,e,h⟩
def kg(h:W (A s) λp=>p.1=.nx/\WB B p.2 G):WB (ah A B) s G:=W.bind<|h.mono λp a=>by
 obtain⟨e,k⟩:=a;obtain⟨o,s'⟩:=p;cases e;exact k
def Ü(h:WB A s G):WB (ah A B) s G:=W.bind<|W.mono h λp ⟨t,e,k⟩=>⟨p,by obtain⟨o,s'⟩:=p;cases e;rfl,t,e,k⟩
def aaN(h:W (a s) λp=>d (.nx,iT p.2 i<|.val p.1)):W (aG i a s) d:=W.bind<|h.mono λ_ q=>⟨_,J,q⟩
def aaO(h:W (a s) λp=>WB B (iT p.2 i<|.val p.1) G):WB (ah (aG i a) B) s G:=kg<|aaN<|h.mono λ_ q=>⟨J,q⟩
def bSt(e:a s=.ok (t,s'))(h:WB B (iT s' i<|.val t) G):WB (ah (aG i a) B) s G:=aaO ⟨_,e,h⟩
def NZ(h:W (c s) λp=>(p.1=O->W (A p.2) d)/\(p.1=Zb->W (B p.2) d)):W (bj c A B s) d:=W.bind<|h.mono λp a=>by
 obtain⟨k1,k2⟩:=a;cases e:p.1 with
 |true=>exact k1 e
 |false=>exact k2 e
def jt(e:c s=.ok (O,s'))(h:W (A s') d):W (bj c A B s) d:=NZ ⟨_,e,⟨λ_=>h,λz=>by cases z⟩⟩
def b8(e:c s=.ok (Zb,s'))(h:W (B s') d):W (bj c A B s) d:=NZ ⟨_,e,⟨λz=>(by cases z),λ_=>h⟩⟩
def bHt(e:c s=.ok (O,s'))(h:WB A s' G):WB (ah (bj c A B) a') s G:=Ü<|jt e h
def bSk(e:c s=.ok (Zb,s'))(h:WB B s' G):WB (ah (bj c A aM) B) s G:=kg<|b8 e ⟨_,J,J,h⟩
def bBr(h:W (c s) λp=>(p.1=O->WB A p.2 G)/\(p.1=Zb->WB B p.2 G)):WB (ah (bj c A aM) B) s G:=by
 obtain⟨p,e,k1,k2⟩:=h;obtain⟨k,s'⟩:=p;cases k with
 |true=>exact bHt e<|k1 J
 |false=>exact bSk e<|k2 J
def gR{a n:Nat}{m:FX}(h:Hq ts=a)(k:WB B ⟨ts.map (λt=>U<|.val t)++cK (n-Hq ts) Y,m⟩ G):W (aE a n B ts m) G:=by
 unfold aE;rw[b0 h];exact W.bind<|W.mono k λp ⟨t,e,k⟩=>⟨_,by rw[e],k⟩
def Ý{f:Fn}(h:aB ts=O)(k:W (f ts []) λp=>noOwn p.1=O/\G (p.1,m)):W (aL f ts m) G:=by
 obtain⟨p,e,b,a⟩:=k;refine⟨_,?_,a⟩;unfold aL;rw[b0 h,e];exact b0 b
def sf(h:W (A s) λp=>p.1=.nx/\W (B p.2) d):W (ah A B s) d:=W.bind<|h.mono λp a=>by
 obtain⟨e,k⟩:=a;obtain⟨o,s'⟩:=p;cases e;exact k
def aaP(h:W (fl s) λp=>Q (.lst p.1,p.2)):W (eO fl s) Q:=W.bind<|h.mono λ_ q=>⟨_,J,q⟩
def Þ{a:FG}(h:W (fl s) λp=>Hq p.1<=1000000/\W (bA a c e (jG n js<|kM js p.2.r) p.1 p.2.m) λq=>j (q.1,⟨kM js p.2.r,q.2⟩)):W (cY fl n js a c e s) j:=W.bind<|h.mono λp b=>by
 obtain⟨z,k⟩:=b;rw[b0 z];exact W.bind<|k.mono λ_ q=>⟨_,J,q⟩
theorem ß{a:FG}{I:S->Prop}:∀{ts:FR}{s:S},(∀t∈ts,∀s,I s->∃r,a t s.r=U r/\W (B ⟨r,s.m⟩) λp=>p.1=.nx/\I p.2)->I s->W (bg a B ts s) λp=>p.1=.nx/\I p.2
 |[],s,_,h=>⟨_,J,J,h⟩
 |t::ts,s,k,h=>by
  obtain⟨r,g,⟨o,s1⟩,f,e,c⟩:=k t (d_ ..) s h;cases e;obtain⟨p,d,b⟩:=ß (λt ht=>k t<|eG _ ht) c;refine⟨p,?_,b⟩;rw[bg,g];apply dF;show Res.bind _ _=_;rw[f];exact d
end
end D
namespace K64
open PySem D L2
variable(n:Nat)
abbrev N1:B1:=[97,98,99,100,101,102,103,104,105,106,107,108,109,110,111,112,113,114,115,116,117,118,119,120,121,122,65,66,67,68,69,70,71,72,73,74,75,76,77,78,79,80,81,82,83,84,85,86,87,88,89,90,48,49,50,51,52,53,54,55,56,57,32,33,34,35,36,38,39,40,41,42,43,44,45,46,47,58,59,60,61,62,63,64,91,92,93,94,95,96,123,124,125,126]
abbrev à:B1:=[97,98,99,100,101,102,103,104,105,106,107,108,109,110,111,112,113,114,115,116,117,118,119,120,121,122]
abbrev fx(x:Str)(i:Nat):Str×FR×Nat:=(x,[],i)
def M:Gm:={
 P:={cn:=("Program" :: "Line" :: "Cond" :: "Always" :: "RowIs" :: "Last" :: "Like" :: "Soon" :: "FromTo" :: "Not" :: "End" :: "Deed" :: "Mark" :: "Drop" :: "Print" :: "Done" :: "Say" :: "Swap" :: "Join" :: "Pile" :: "Bring" :: "Go" :: "Add" :: "Tell" :: "TextRow" :: "Truths" :: "Walker" :: "Scan" :: []),an:=("lines" :: "cond" :: "deed" :: "number" :: "pattern" :: "many" :: "first" :: "second" :: "inner" :: "name" :: "words" :: "every" :: "most" :: "shelf" :: "text" :: "known" :: "conds" :: "up" :: "behind_marks" :: "teller" :: "truths" :: "passed" :: "met" :: "taken" :: "hand" :: "hand_rows" :: "shelves" :: "sums" :: "noted" :: "log" :: "wanting" :: "rest" :: []),tab:=[[0],[1,2],[],[],[3],[],[4],[5,4],[6,7],[8],[],[],[9],[],[],[],[10],[4,10,11],[12],[13,12],[13],[9],[6,7],[],[14,3,15],[16,17],[0,18,19,20,21,22,23,24,25,26,27,28,29,30],[31,3]],sub:=[[0],[1],[2],[2,3],[2,4],[2,5],[2,6],[2,7],[2,8],[2,9],[2,10],[11],[11,12],[11,13],[11,14],[11,15],[11,16],[11,17],[11,18],[11,19],[11,20],[11,21],[11,22],[11,23],[24],[25],[26],[27]]},
 cs:=[("SIGNS",.str N1),("SMALL_LETTERS",.str à),("FIGURES",.str [48,49,50,51,52,53,54,55,56,57]),("MOST_ITEMS",.int 8),("MOST_SIGNS",.int 12),("NEVER_PLAIN",.str [94,36,46,91,93,42,43,63,47]),("NEVER_IN_A_SET",.str [93,94,47]),("ONCE",.str [49]),("HOW_MANY",.str [42,43,63]),("NOWHERE",.int<|-1),("MOST_FIGURES_pieces",.int 60),("COND_BEGINNINGS",.tup [.str [114,111,119,32],.str [108,97,115,116],.str [47],.str [115,111,111,110,32],.str [102,114,111,109,32],.str [110,111,116,32],.str [101,110,100]]),("MOST_ROW",.int 999),("MOST_FIGURES_linereading",.int 3),("MOST_SOON",.int 3),("LEAST_JOIN",.int 2),("MOST_SMALL",.int 9),("MOST_LETTERS",.int 8),("MOST_TEXT",.int 40),("MOST_LINES",.int 24)],
 fs:=(fx "_wall" 0::fx "cut" 1::fx "pasted" 2::fx "made_of" 3::fx "beginning_of" 4::fx "may_stand_plain" 5::fx "pattern" 6::fx "items_of" 7::fx "place_behind_core" 8::fx "many_at" 9::fx "item_of" 10::fx "set_item" 11::fx "is_written_plain" 12::fx "written" 13::fx "written_core" 14::fx "may_be_empty" 15::fx "least_length" 16::fx "may_be_left_out" 17::fx "may_come_again" 18::("stretch",[.int 0],19)::fx "found" 20::fx "greatest_ends" 21::fx "ends_behind_items" 22::fx "ends_with_item" 23::fx "text_rows" 24::fx "holds" 25::fx "is_row_up_to" 26::fx "first_swapped" 27::fx "every_swapped" 28::fx "words_of" 29::fx "word_of" 30::fx "number_of" 31::fx "given_in" 32::fx "numbers_of_marks" 33::fx "walk" 34::fx "plan" 35::fx "size_of" 36::fx "hunks_in" 37::fx "fits" 38::fx "made_of_rows" 39::fx "done" 40::fx "back" 41::fx "line_of" 42::fx "line_next" 43::fx "cond_next" 44::fx "plain_cond_next" 45::fx "row_or_pattern_next" 46::fx "deed_next" 47::fx "swap_next" 48::fx "pile_next" 49::fx "add_next" 50::fx "number_next" 51::fx "name_next" 52::fx "words_next" 53::fx "pattern_next" 54::fx "may_stand" 55::fx "may_swap" 56::fx "read" 57::fx "lines_of" 58::fx "marks_of" 59::fx "refuse_go_without_mark" 60::fx "_law_cell_at" 61::fx "_law_cond" 62::fx "_law_deed" 63::fx "_law_program" 64::fx "_law_row" 65::fx "_law_text" 66::fx "_law_setup" 67::fx "_law_cut" 68::fx "_law_pasted" 69::fx "_law_planned" 70::fx "_law_off" 71::fx "_law_other" 72::fx "_law_laid" 73::fx "_law_refused" 74::fx "law" 75::[]),
 cl:=(("Program",.cp 0)::("Line",.fz 1 2)::("Cond",.z0 2)::("Always",.z0 3)::("RowIs",.fz 4 1)::("Last",.z0 5)::("Like",.fz 6 1)::("Soon",.fz 7 2)::("FromTo",.fz 8 2)::("Not",.fz 9 1)::("End",.z0 10)::("Deed",.z0 11)::("Mark",.fz 12 1)::("Drop",.z0 13)::("Print",.z0 14)::("Done",.z0 15)::("Say",.fz 16 1)::("Swap",.fz 17 3)::("Join",.fz 18 1)::("Pile",.fz 19 2)::("Bring",.fz 20 1)::("Go",.fz 21 1)::("Add",.fz 22 2)::("Tell",.z0 23)::("TextRow",.nw 24 91)::("Truths",.nw 25 93)::("Walker",.nw 26 97)::("Scan",.nw 27 118)::[]),
 ms:=(("has",[(24,92)])::("told_of",[(25,94)])::("truth",[(25,95)])::("truth_of_stretch",[(25,96)])::("want",[(26,98)])::("take",[(26,99)])::("take_with",[(26,100)])::("go_on",[(26,101)])::("meet",[(26,102)])::("hand_over",[(26,103)])::("finish",[(26,104)])::("find_none",[(26,105)])::("give",[(26,106)])::("end_turn",[(26,107)])::("give_hand_and_end",[(26,108)])::("do",[(26,109)])::("do_giving",[(26,110)])::("do_swap",[(26,111)])::("do_join",[(26,112)])::("do_pile",[(26,113)])::("do_bring",[(26,114)])::("rows_on_shelves",[(26,115)])::("do_add",[(26,116)])::("do_tell",[(26,117)])::("refuse",[(27,119)])::("passes",[(27,120)])::("must_pass",[(27,121)])::("while_made_of",[(27,122)])::("between",[(27,123)])::[]),
 bl:=["isinstance","len","all","any","str","int","list","range","enumerate","bool","max","reversed","sorted"],bf:=["log","met","up","known","shelves","sums","noted"],xc:=[("NotThat",Y,0),("Endless",U "row",124)],xs:=[("walk",34),("plan",35),("done",40)],xt:=[("take",26,99),("take_with",26,100),("go_on",26,101),("meet",26,102)],ys:=["NotThat","ValueError","NoLine","NoMark","NoPattern","NotWoven","TwoMarks","Finished","Endless"],kb:=[[O,O,Zb,Zb,Zb,Zb,Zb,Zb,Zb]],xm := "BladeError",xg := "line"}
abbrev Fu(x:Str)(k:Nat)(N:Bi)(a:Nat)(u:Bi)(b:Bool):Fe:=⟨Y,x,x,top k,N,N.take a,u,b,[]⟩
abbrev Fm(c x q:Str)(k h:Nat)(N:Bi)(a:Nat):Fe:=⟨U c,x,q,inClass (top k) h,"self" :: N,"self" :: N.take a,[],Zb,[]⟩
def Ft:List Fe:=[
 Fu "_wall" 0 ["k"] 9 [] O,
 Fu "cut" 12 ["text","rows"] 1 [] O,
 ⟨Y,"pasted","pasted",top 13,["rows","ended","text"],["rows","ended"],[],O,[.bl O]⟩,
 Fu "made_of" 43 ["text","signs"] 9 [] O,
 Fu "beginning_of" 44 ["text","signs","many"] 2 [] O,
 Fu "may_stand_plain" 52 ["sign"] 9 [] O,
 Fu "pattern" 53 ["text","front","body","back","items"] 1 [] O,
 Fu "items_of" 54 ["body","items","place","behind","many"] 1 ["items"] O,
 Fu "place_behind_core" 55 ["body","place","bracket"] 2 [] O,
 Fu "many_at" 56 ["body","place"] 9 [] O,
 Fu "item_of" 57 ["core","many"] 9 [] O,
 Fu "set_item" 58 ["inside","many","others","signs"] 2 [] O,
 Fu "is_written_plain" 59 ["signs","others"] 9 [] O,
 Fu "written" 60 ["one","parts","signs","others","many"] 1 ["parts"] O,
 Fu "written_core" 61 ["signs","others"] 9 [] O,
 Fu "may_be_empty" 62 ["one"] 9 [] O,
 Fu "least_length" 63 ["one"] 9 [] O,
 Fu "may_be_left_out" 64 ["item"] 9 [] O,
 Fu "may_come_again" 65 ["item"] 9 [] O,
 ⟨Y,"stretch","stretch",top 68,["one","row","start","ends","begin"],["one","row","start"],[],O,[.int 0]⟩,
 Fu "found" 69 ["one","row"] 9 [] O,
 Fu "greatest_ends" 70 ["one","row","ends","item"] 2 [] O,
 Fu "ends_behind_items" 71 ["row","back"] 9 [] O,
 Fu "ends_with_item" 72 ["item","row","behind","signs","others","again","ends","place","end"] 3 ["ends"] O,
 Fu "text_rows" 75 ["rows"] 9 [] Zb,
 Fu "holds" 77 ["cond","row"] 9 [] Zb,
 Fu "is_row_up_to" 78 ["cond","number"] 9 [] O,
 Fu "first_swapped" 81 ["hand","one","words","place"] 3 [] O,
 Fu "every_swapped" 82 ["hand","one","words","ends","parts","kept_to","place"] 3 ["parts"] O,
 Fu "words_of" 83 ["hand"] 9 [] O,
 Fu "word_of" 84 ["hand","number","words"] 2 [] O,
 Fu "number_of" 85 ["word","figures"] 1 [] O,
 Fu "given_in" 88 ["log"] 9 [] O,
 Fu "numbers_of_marks" 89 ["lines","numbers","number","line"] 1 ["numbers"] O,
 Fu "walk" 91 ["program","text","rows","walker","number","row"] 2 ["raise"] O,
 Fu "plan" 93 ["program","text","told","rows","made"] 2 ["raise"] O,
 Fu "size_of" 94 ["text","told"] 1 [] O,
 Fu "hunks_in" 95 ["log","rows","hunks","start","taken","given","entry"] 2 ["hunks","given"] O,
 Fu "fits" 96 ["one","text","rows"] 2 [] O,
 Fu "made_of_rows" 97 ["one","rows","made","passed","at","old","new"] 2 ["made"] O,
 Fu "done" 98 ["one","text"] 9 ["raise"] O,
 Fu "back" 99 ["one","hunks","more","at","old","new"] 1 ["hunks"] O,
 Fu "line_of" 110 ["row","number","scan","line"] 2 [] O,
 Fu "line_next" 111 ["scan","cond"] 1 [] Zb,
 Fu "cond_next" 112 ["scan"] 9 [] Zb,
 Fu "plain_cond_next" 113 ["scan","many","first"] 1 [] Zb,
 Fu "row_or_pattern_next" 114 ["scan"] 9 [] Zb,
 Fu "deed_next" 115 ["scan"] 9 [] Zb,
 Fu "swap_next" 116 ["scan","every","one"] 2 [] Zb,
 Fu "pile_next" 117 ["scan","shelf"] 1 [] Zb,
 Fu "add_next" 118 ["scan","first"] 1 [] Zb,
 Fu "number_next" 119 ["scan","least","most","figures","number"] 3 [] Zb,
 Fu "name_next" 120 ["scan","name"] 1 [] Zb,
 Fu "words_next" 121 ["scan","words"] 1 [] Zb,
 Fu "pattern_next" 122 ["scan","text"] 1 [] Zb,
 Fu "may_stand" 123 ["cond","deed"] 9 [] O,
 Fu "may_swap" 124 ["deed"] 9 [] O,
 Fu "read" 127 ["text","lines","marks"] 1 [] O,
 Fu "lines_of" 128 ["rows","lines","number","row"] 1 ["lines"] O,
 Fu "marks_of" 129 ["lines","marks","number","line"] 1 ["marks"] O,
 Fu "refuse_go_without_mark" 130 ["lines","marks","number","line"] 2 [] O,
 Fu "_law_cell_at" 132 ["_law_script","_law_k"] 9 [] O,
 Fu "_law_cond" 133 ["_law_cell","_law_letter","_law_other_here","_law_number","_law_some"] 1 [] O,
 Fu "_law_deed" 134 ["_law_cell","_law_letter","_law_said","_law_some"] 1 [] O,
 Fu "_law_program" 135 ["_law_cells","_law_marked","_law_rows","_law_cell"] 1 ["_law_rows"] O,
 Fu "_law_row" 136 ["_law_cell","_law_rest","_law_row_here","_law_k"] 1 [] O,
 Fu "_law_text" 137 ["_law_cells","_law_ended","_law_text_here"] 2 [] O,
 Fu "_law_setup" 138 ["_law_script","_law_lines","_law_rows"] 1 [] O,
 Fu "_law_cut" 139 ["_law_text_here","_law_rows"] 1 [] O,
 Fu "_law_pasted" 140 ["_law_rows","_law_ended","_law_text_here"] 2 [] O,
 Fu "_law_planned" 141 ["_law_program_here","_law_text_here","_law_told"] 2 [] O,
 Fu "_law_off" 142 ["_law_rows","_law_hunks","_law_cell","_law_other_here","_law_at","_law_old","_law_new"] 3 [] O,
 Fu "_law_other" 143 ["_law_rows","_law_ended","_law_hunks","_law_script","_law_way","_law_cell","_law_spot"] 4 [] O,
 Fu "_law_laid" 144 ["_law_one","_law_text_here","_law_made","_law_before","_law_behind","_law_hunks","_law_rows","_law_ended","_law_at","_law_old","_law_new"] 2 [] O,
 Fu "_law_refused" 145 ["_law_one","_law_text_here","_law_sorts","e"] 2 [] O,
 Fu "law" 146 ["_law_script","_law_one","_law_kept","_law_other_here","_law_due","_law_got","_law_made","_law_turned","_law_lines","_law_text_here","_law_rows","_law_ended"] 1 [] O,
 Fm "Program" "__init__" "Program.__init__" 15 0 ["lines"] 9,
 Fm "Line" "__init__" "Line.__init__" 16 0 ["cond","deed"] 9,
 Fm "RowIs" "__init__" "RowIs.__init__" 19 0 ["number"] 9,
 Fm "Like" "__init__" "Like.__init__" 21 0 ["pattern"] 9,
 Fm "Soon" "__init__" "Soon.__init__" 22 0 ["many","pattern"] 9,
 Fm "FromTo" "__init__" "FromTo.__init__" 23 0 ["first","second"] 9,
 Fm "Not" "__init__" "Not.__init__" 24 0 ["inner"] 9,
 Fm "Mark" "__init__" "Mark.__init__" 27 0 ["name"] 9,
 Fm "Say" "__init__" "Say.__init__" 31 0 ["words"] 9,
 Fm "Swap" "__init__" "Swap.__init__" 32 0 ["pattern","words","every"] 9,
 Fm "Join" "__init__" "Join.__init__" 33 0 ["most"] 9,
 Fm "Pile" "__init__" "Pile.__init__" 34 0 ["shelf","most"] 9,
 Fm "Bring" "__init__" "Bring.__init__" 35 0 ["shelf"] 9,
 Fm "Go" "__init__" "Go.__init__" 36 0 ["name"] 9,
 Fm "Add" "__init__" "Add.__init__" 37 0 ["first","second"] 9,
 Fm "TextRow" "__init__" "TextRow.__init__" 74 0 ["text","number"] 9,
 Fm "TextRow" "has" "TextRow.has" 74 1 ["one","name"] 1,
 Fm "Truths" "__init__" "Truths.__init__" 76 0 ["lines"] 9,
 ⟨U "Truths","told_of","Truths.told_of",inClass (top 76) 1,["self","row","behind","truths","place","cond"],["self","row","behind"],["truths"],Zb,[]⟩,
 Fm "Truths" "truth" "Truths.truth" 76 2 ["place","cond","row","behind"] 9,
 Fm "Truths" "truth_of_stretch" "Truths.truth_of_stretch" 76 3 ["place","cond","row"] 9,
 Fm "Walker" "__init__" "Walker.__init__" 87 0 ["program"] 9,
 Fm "Walker" "want" "Walker.want" 87 1 [] 9,
 ⟨U "Walker","take","Walker.take",inClass (top 87) 2,["self","row","behind"],["self","row","behind"],["raise"],Zb,[]⟩,
 ⟨U "Walker","take_with","Walker.take_with",inClass (top 87) 3,["self","text","truths"],["self","text","truths"],["raise"],Zb,[]⟩,
 ⟨U "Walker","go_on","Walker.go_on",inClass (top 87) 4,["self"],["self"],["raise"],Zb,[]⟩,
 ⟨U "Walker","meet","Walker.meet",inClass (top 87) 5,["self","line","number","truth"],["self","line","number"],["raise"],Zb,[]⟩,
 Fm "Walker" "hand_over" "Walker.hand_over" 87 6 [] 9,
 Fm "Walker" "finish" "Walker.finish" 87 7 ["line"] 0,
 Fm "Walker" "find_none" "Walker.find_none" 87 8 [] 9,
 Fm "Walker" "give" "Walker.give" 87 9 ["row"] 9,
 Fm "Walker" "end_turn" "Walker.end_turn" 87 10 [] 9,
 Fm "Walker" "give_hand_and_end" "Walker.give_hand_and_end" 87 11 [] 9,
 Fm "Walker" "do" "Walker.do" 87 12 ["deed","number"] 9,
 Fm "Walker" "do_giving" "Walker.do_giving" 87 13 ["deed"] 9,
 Fm "Walker" "do_swap" "Walker.do_swap" 87 14 ["deed"] 9,
 Fm "Walker" "do_join" "Walker.do_join" 87 15 ["deed"] 9,
 Fm "Walker" "do_pile" "Walker.do_pile" 87 16 ["deed","things"] 1,
 Fm "Walker" "do_bring" "Walker.do_bring" 87 17 ["deed","thing"] 1,
 Fm "Walker" "rows_on_shelves" "Walker.rows_on_shelves" 87 18 [] 9,
 Fm "Walker" "do_add" "Walker.do_add" 87 19 ["deed","number","name","word","amount"] 2,
 Fm "Walker" "do_tell" "Walker.do_tell" 87 20 ["name"] 0,
 Fm "Scan" "__init__" "Scan.__init__" 109 0 ["row","number"] 9,
 Fm "Scan" "refuse" "Scan.refuse" 109 1 [] 9,
 Fm "Scan" "passes" "Scan.passes" 109 2 ["words"] 9,
 Fm "Scan" "must_pass" "Scan.must_pass" 109 3 ["words"] 9,
 Fm "Scan" "while_made_of" "Scan.while_made_of" 109 4 ["signs","taken"] 1,
 Fm "Scan" "between" "Scan.between" 109 5 ["sign","place","inside"] 1,
 Fm "Endless" "__init__" "Endless.__init__" 10 0 ["row","line"] 9]
def It:NN:=[("Program",76),("Line",77),("RowIs",78),("Like",79),("Soon",80),("FromTo",81),("Not",82),("Mark",83),("Say",84),("Swap",85),("Join",86),("Pile",87),("Bring",88),("Go",89),("Add",90),("TextRow",91),("Truths",93),("Walker",97),("Scan",118)]
abbrev cN:=iO M Ft
set_option maxHeartbeats 0
abbrev TF:=(Nat->Fn)->Fn
def t0:TF:=λaj=>aL<|aE 1 1<|il many (tB<|cF<|.bl O)
  aM
def t1:TF:=λaj=>aL<|aE 1 2<|ah (aG 1<|oG splitM zA<|k1<|cS [10])
<|ah (bj (aZ<|oE (oI zB<|dz fh zI)<|cS [])
  (aC<|aV df<|k2 (fK zB je<|dD<|dz fh zI)<|cF<|.bl O)
  aM)
<|aC<|aV df<|k2 zB<|cF<|.bl Zb
def t2:TF:=λaj=>aL<|aE 2 3<|ah (bj (aZ<|oE (aV bG<|k1 zA) zO)
  (aC<|cS [])
  aM)
<|ah (aG 2<|oG joinM (cS [10])<|k1 zA)
<|ah (bj (j9 (tB zB)<|aZ<|oE (oI zA<|dz fh zI)<|cS [])
  (aC<|oA zC<|cS [10])
  aM)
<|aC zC
def t3:TF:=λaj=>aL<|aE 2 2<|aC<|aV MK<|k1<|eO<|cY (nK zA) 2 [1] (setG 1) eZ<|bo (aI .In) zB zC
def t4:TF:=λaj=>aL<|aE 2 3<|ah (aG 2 zO)
<|ah (il many (gM (aZ<|bo (aI .Lt) zC<|aV bG<|k1 zA)<|aZ<|bo (aI .In) (oI zA zC) zB)
 <|zY jg 2 zI)
<|aC<|fK zA je<|dD zC
def t5:TF:=λaj=>aL<|aE 1 1<|aC<|ow (bo (aI .In) zA<|cS N1)<|bo (aI .NotIn) zA<|cS [94,36,46,91,93,42,43,63,47]
def t6:TF:=λaj=>aL<|aE 1 5<|ah (bj (eM<|tB<|dz (Y3 "str") zA)
  cj
  aM)
<|ah (bj (eM<|tB<|ai (aj 3) []<|k2 zA<|cS N1)
  cj
  aM)
<|ah (aG 1<|oG Lr zA<|k1<|cS [94])
<|ah (aG 2<|rG (tB zB) (fK zA (dD zI) je) zA)
<|ah (aG 3<|oG ewM zC<|k1<|cS [36])
<|ah (aG 4<|ai (aj 7) []<|k1<|rG (tB zD) (fK zC je<|dD<|dz fh zI) zC)
<|ah (bj (aZ<|bo (aI .Gt) (aV bG<|k1<|vF 4)<|cI 8)
  cj
  aM)
<|aC<|aV df<|k3 zB (vF 4) zD
abbrev y7a(aj:Nat->Fn):FS:=ah (aG 3<|ai (aj 8) []<|k2 zA zC)
<|ah (aG 4<|ai (aj 9) []<|k2 zA zD)
<|ah (gO 1<|ai (aj 10) []<|k2 (fK zA (dD zC)<|dD zD)<|vF 4)
<|aG 2<|rG (aZ<|oE (vF 4)<|cS [49]) zD<|oA zD zI
def t7:TF:=λaj=>aL<|aE 1 5<|ah (iJ 1<|kc a_)
<|ah (aG 2 zO)
<|ah (il many (aZ<|bo (aI .Lt) zC<|aV bG<|k1 zA)
 <|y7a aj)
<|aC zB
def t8:TF:=λaj=>aL<|aE 2 3<|ah (bj (aZ<|bo (aI .NotEq) (oI zA zB)<|cS [91])
  (aC<|oA zB zI)
  aM)
<|ah (aG 2<|oG Ci zA<|k2 (cS [93]) zB)
<|ah (bj (aZ<|oE zC<|dz fh zI)
  cj
  aM)
<|aC<|oA zC zI
def t9:TF:=λaj=>aL<|aE 2 2<|ah (bj (gM (aZ<|bo (aI .Lt) zB<|aV bG<|k1 zA)<|aZ<|bo (aI .In) (oI zA zB)<|cS [42,43,63])
  (aC<|oI zA zB)
  aM)
<|aC<|cS [49]
def t10:TF:=λaj=>aL<|aE 2 2<|ah (bj (aZ<|oE zA<|cS [46])
  (aC<|aV df<|k3 (cS []) (cF<|.bl O) zB)
  aM)
<|ah (bj (tB<|oG Lr zA<|k1<|cS [91])
  (aC<|ai (aj 11) []<|k2 (fK zA (dD zI)<|dD<|dz fh zI) zB)
  aM)
<|ah (bj (eM<|tB<|ai (aj 5) []<|k1 zA)
  cj
  aM)
<|aC<|aV df<|k3 zA (cF<|.bl Zb) zB
def t11:TF:=λaj=>aL<|aE 2 4<|ah (aG 2<|oG Lr zA<|k1<|cS [94])
<|ah (aG 3<|rG (tB zC) (fK zA (dD zI) je) zA)
<|ah (bj (j9 (aZ<|oE zD<|cS [])<|aZ<|bo (aI .Gt) (aV bG<|k1 zD)<|cI 12)
  cj
  aM)
<|ah (bj (tB<|aV ya<|k1<|eO<|cY (nK zD) 2 [] (setG 1) eZ<|bo (aI .In) zB<|cS [93,94,47])
  cj
  aM)
<|ah (bj (aZ<|bo (aI .NotEq) (aV bG<|k1 cR)<|aV bG<|k1 zD)
  cj
  aM)
<|ah (bj (tB<|ai (aj 12) []<|k2 zD zC)
  cj
  aM)
<|aC<|aV df<|k3 zD zC zB
def t12:TF:=λaj=>aL<|aE 2 2<|aC<|ow (oz zB)<|ow (oE (aV bG<|k1 zA) zI)<|ai (aj 5) []<|k1 zA
abbrev aaQ(aj:Nat->Fn):FS:=ah (gO 1<|ai (aj 14) []<|k2 zC zD)
<|gO 1<|rG (aZ<|oE (vF 4)<|cS [49]) (cS [])<|vF 4
def t13:TF:=λaj=>aL<|aE 1 5<|ah (iJ 1<|kc<|k1<|rG (tB<|oI zA zO) (cS [94])<|cS [])
<|ah (dM (oJ<|oI zA zI) (bw [2,3,4])
 <|aaQ aj)
<|ah (gO 1<|rG (tB<|oI zA<|cI 2) (cS [36])<|cS [])
<|aC<|oG joinM (cS [])<|k1 zB
def t14:TF:=λaj=>aL<|aE 2 2<|ah (bj (aZ<|oE zA<|cS [])
  (aC<|cS [46])
  aM)
<|ah (bj (tB zB)
  (aC cR)
  aM)
<|ah (bj (tB<|ai (aj 12) []<|k2 zA zB)
  (aC zA)
  aM)
<|aC cR
def t15:TF:=λaj=>aL<|aE 1 1<|aC<|oE (ai (aj 16) []<|k1 zA) zO
def t16:TF:=λaj=>aL<|aE 1 1<|aC<|aV bG<|k1<|eO<|cY (nK<|oI zA zI) 2 [] (setG 1) (eM<|tB<|ai (aj 17) []<|k1 zB) zB
def t17:TF:=λaj=>aL<|aE 1 1<|aC<|bo (aI .In) (oI zA<|cI 2)<|aV df<|k2 (cS [42])<|cS [63]
def t18:TF:=λaj=>aL<|aE 1 1<|aC<|bo (aI .In) (oI zA<|cI 2)<|aV df<|k2 (cS [42])<|cS [43]
abbrev aaR:FS:=bj (aZ<|bo (aI .NotEq) (oI zD<|vF 4)<|cI<|-1)
  (aC<|aV df<|k2 (vF 4)<|oI zD<|vF 4)
  aM
def t19:TF:=λaj=>aL<|aE 3 5<|ah (aG 3<|ai (aj 21) []<|k2 zA zB)
<|ah (dM (EM xV<|k2 zC<|aV bG<|k1 zD) (setG 4)
  aaR)
<|aC<|cF .non
def t20:TF:=λaj=>aL<|aE 2 2<|aC<|bo (aI .IsNot) (ai (aj 19) [(.int<|0)]<|k2 zA zB)<|cF .non
def t21:TF:=λaj=>aL<|aE 2 4<|ah (aG 2<|ai (aj 22) []<|k2 zB<|oI zA<|cI 2)
<|ah (dM (o1 Ip<|oI zA zI) (setG 3)
 <|aG 2<|ai (aj 23) []<|k3 zD zB zC)
<|aC<|rG (tB<|oI zA zO) (fK zC je<|dD zI) zC
def t22:TF:=λaj=>aL<|aE 2 2<|ah (bj (tB zB)
  (aC<|oA (bo (jo .Mult) (aV dm<|k1<|cI<|-1)<|aV bG<|k1 zA)<|aV dm<|k1<|aV bG<|k1 zA)
  aM)
<|aC<|eO<|o1 E3<|oA (aV bG<|k1 zA) zI
abbrev aaS:FS:=bj (aZ<|bo (aI .NotEq) (bo (aI .In) (oI zB<|vF 7) zD)<|vF 4)
  (ah (aG 8<|oI zC<|oA (vF 7) zI)
<|ah (bj (gM (tB<|vF 5)<|aZ<|bo (aI .Gt) (xU 6<|oA (vF 7) zI)<|vF 8)
  (aG 8<|xU 6<|oA (vF 7) zI)
  aM)
<|bj (aZ<|bo (aI .Gt) (vF 8)<|xU 6<|vF 7)
  (Lu 6 (vF 7)<|vF 8)
  aM)
  aM
def t23:TF:=λaj=>aL<|aE 3 9<|ah (aG 3<|oI zA zO)
<|ah (aG 4<|oI zA zI)
<|ah (aG 5<|ai (aj 18) []<|k1 zA)
<|ah (iJ 6<|ZA (tB<|ai (aj 17) []<|k1 zA) (o1 cpO zC)<|o2 Io (aV dm<|k1<|cI<|-1)<|aV bG<|k1 zC)
<|ah (dM (EM E4<|k3 (bo (jo .Sub) (aV bG<|k1 zB) zI) (dz fh zI)<|dz fh zI) (setG 7)
  aaS)
<|aC<|vF 6
def t24:TF:=λaj=>aE 1 1<|aC<|eO<|cY (jf 1 zA) 3 [] (bw [1,2]) eZ<|kL 24 (aj 91)<|k2 zC zB
def t25:TF:=λaj=>aE 2 2<|ah (bj (tB<|dz (ir M.P.sub [4]) zA)
  (aC<|oE (aA M.P.tab 3 zA)<|aA M.P.tab 3 zB)
  aM)
<|ah (bj (tB<|dz (ir M.P.sub [6]) zA)
  (aC<|aJ (aD [(24,92)] aj) zB<|k1<|aA M.P.tab 4 zA)
  aM)
<|aC<|cF<|.bl O
def t26:TF:=λaj=>aL<|aE 2 2<|aC<|ow (dz (ir M.P.sub [4]) zA)<|bo (aI .LtE) (aA M.P.tab 3 zA) zB
def t27:TF:=λaj=>aL<|aE 3 4<|ah (aG 3<|ai (aj 19) [(.int<|0)]<|k2 zB zA)
<|ah (bj (aZ<|bo (aI .Is) zD<|cF .non)
  (aC zA)
  aM)
<|aC<|oA (oA (fK zA je<|dD<|oI zD zO) zC)<|fK zA (dD<|oI zD zI) je
abbrev á:FS:=bj (aZ<|oE (oI zD<|vF 6)<|cI<|-1)
  (zY jg 6 zI)
 <|ah (gO 4<|oA (fK zA (dD<|vF 5)<|dD<|vF 6) zC)
<|ah (aG 5<|oI zD<|vF 6)
<|aG 6<|vF 5
def t28:TF:=λaj=>aL<|aE 3 7<|ah (aG 3<|ai (aj 21) []<|k2 zB zA)
<|ah (iJ 4<|kc a_)
<|ah (aG 5 zO)
<|ah (aG 6 zO)
<|ah (il many (aZ<|bo (aI .Lt) (vF 6)<|aV bG<|k1 zD)
  á)
<|aC<|oA (oG joinM (cS [])<|k1<|vF 4)<|fK zA (dD<|vF 5) je
def t29:TF:=λaj=>aL<|aE 1 1<|aC<|eO<|cY (nK<|oG splitM zA<|k1<|cS [32]) 2 [] (setG 1) (aZ<|bo (aI .NotEq) zB<|cS []) zB
def t30:TF:=λaj=>aL<|aE 2 3<|ah (aG 2<|ai (aj 29) []<|k1 zA)
<|ah (bj (aZ<|bo (aI .Gt) zB<|aV bG<|k1 zC)
  (aC<|cF .non)
  aM)
<|aC<|oI zC<|bo (jo .Sub) zB zI
def t31:TF:=λaj=>aL<|aE 1 2<|ah (aG 1<|rG (tB<|oG Lr zA<|k1<|cS [45]) (fK zA (dD zI) je) zA)
<|ah (bj (j9 (aZ<|oE zB<|cS [])<|j9 (aZ<|bo (aI .Gt) (aV bG<|k1 zB)<|cI 60)<|eM<|tB<|ai (aj 3) []<|k2 zB<|cS [48,49,50,51,52,53,54,55,56,57])
  (aC<|cF .non)
  aM)
<|aC<|aV ML<|k1 zA
def t32:TF:=λaj=>aL<|aE 1 1<|aC<|eO<|cY (nK zA) 2 [] (setG 1) (aZ<|oE (oI zB zO)<|cS zg)<|oI zB zI
abbrev â:FS:=bj (tB<|dz (ir M.P.sub [12])<|aA M.P.tab 2 zD)
  (Lu 1 (aA M.P.tab 9<|aA M.P.tab 2 zD) zC)
  aM
def t33:TF:=λaj=>aL<|aE 1 4<|ah (CG 1)
<|ah (dM (jf 1 zA) (bw [2,3])
  â)
<|aC zB
def t34:TF:=λaj=>aL<|aE 2 6<|ah (m_<|aG 2<|ai (aj 24) []<|k1<|oI (ai (aj 1) []<|k1 zB) zO)
<|ah (m_<|aG 3<|kL 26 (aj 97)<|k1 zA)
<|ah (dM (pe<|jf 1 zC) (bw [4,5])
 <|aR<|F3 26 (aj 99) zD<|k2 (wD<|vF 5)<|wD<|fK zC (dD<|vF 4) je)
<|ah (m_<|aR<|aJ (aD [(26,104)] aj) zD a_)
<|m_<|aC<|aV df<|ba (ai (aj 32) []<|k1<|i7 M.bc M.P.tab 29 zD)<|k3 (i7 M.bc M.P.tab 27 zD) (i7 M.bc M.P.tab 28 zD)<|i7 M.bc M.P.tab 29 zD
def t35:TF:=λaj=>aL<|aE 2 5<|ah (aG 2<|ai (aj 34) []<|k2 (wD zA)<|wD zB)
<|ah (m_<|aG 3<|oI (ai (aj 1) []<|k1 zB) zO)
<|ah (m_<|aG 4<|ai (aj 2) []<|k2 (oI zC zO)<|oI (ai (aj 1) []<|k1 zB) zI)
<|m_<|aC<|aV df<|k3 (ai (aj 36) []<|k1 zB) (ai (aj 36) []<|k1<|vF 4)<|ai (aj 37) []<|k2 (oI zC<|cI 3) zD
def t36:TF:=λaj=>aL<|aE 1 2<|ah (aG 1<|ai (aj 1) []<|k1 zA)
<|aC<|aV df<|k2 (aV bG<|k1<|oI zB zO)<|oI zB zI
abbrev JM:FS:=bj (aZ<|oE (oI (vF 6) zO)<|cS [116,97,107,101])
  (aG 4<|oI (vF 6) zI)
 <|bj (aZ<|oE (oI (vF 6) zO)<|cS zg)
  (gO 5<|oI (vF 6) zI)
 <|bj (aZ<|oE (oI (vF 6) zO)<|cS [111,118,101,114])
  (ah (bj (aZ<|bo (aI .NotEq) (vF 5)<|fK zB (dD zD)<|dD<|vF 4)
  (gO 2<|aV df<|k3 zD (fK zB (dD zD)<|dD<|vF 4)<|vF 5)
  aM)
<|ah (aG 3<|vF 4)
<|iJ 5<|kc a_)
  aM
def t37:TF:=λaj=>aL<|aE 2 7<|ah (iJ 2<|kc a_)
<|ah (aG 3 zO)
<|ah (aG 4 zO)
<|ah (iJ 5<|kc a_)
<|ah (dM (nK<|oA zA<|aV dm<|k1<|aV df<|k1<|cS [111,118,101,114]) (setG 6)
  JM)
<|aC zC
def t38:TF:=λaj=>aL<|aE 2 3<|ah (aG 2<|oI (ai (aj 1) []<|k1 zB) zO)
<|ah (bj (aZ<|bo (aI .NotEq) (ai (aj 36) []<|k1 zB)<|oI zA zO)
  (aC<|cF<|.bl Zb)
  aM)
<|ah (bj (tB<|aV ya<|k1<|eO<|cY (oJ<|oI zA<|cI 2) 4 [2] (bw [1,2,3]) eZ<|bo (aI .NotEq) (fK (vF 4) (dD zB)<|dD<|oA zB<|aV bG<|k1 zC) zC)
  (aC<|cF<|.bl Zb)
  aM)
<|aC<|oE (ai (aj 36) []<|k1<|ai (aj 39) []<|k2 zA zC)<|oI zA zI
abbrev ã:FS:=ah (Jd 2<|oA (fK zB (dD zD)<|dD<|vF 4)<|vF 6)
<|aG 3<|oA (vF 4)<|aV bG<|k1<|vF 5
def t39:TF:=λaj=>aL<|aE 2 7<|ah (iJ 2<|kc a_)
<|ah (aG 3 zO)
<|ah (dM (oJ<|oI zA<|cI 2) (bw [4,5,6])
  ã)
<|aC<|ai (aj 2) []<|k2 (oA zC<|fK zB (dD zD) je)<|oI (oI zA zI) zI
def t40:TF:=λaj=>aL<|aE 2 2<|ah (bj (mC<|eM<|tB<|ai (aj 38) []<|k2 zA zB)
  (xr0 0<|cS [116,104,101,32,112,108,97,110,32,100,111,101,115,110,39,116,32,102,105,116,32,116,104,101,32,116,101,120,116])
  aM)
<|m_<|aC<|ai (aj 39) []<|k2 zA<|oI (ai (aj 1) []<|k1 zB) zO
abbrev ä:FS:=ah (gO 1<|aV df<|k3 (oA zD zC) (aV kj<|k1<|vF 5)<|aV kj<|k1<|vF 4)
<|zY jg 2<|bo (jo .Sub) (aV bG<|k1<|vF 5)<|aV bG<|k1<|vF 4
def t41:TF:=λaj=>aL<|aE 1 6<|ah (iJ 1<|kc a_)
<|ah (aG 2 zO)
<|ah (dM (oJ<|oI zA<|cI 2) (bw [3,4,5])
  ä)
<|aC<|aV df<|k3 (oI zA zI) (oI zA zO) zB
def t42:TF:=λaj=>aL<|aE 2 4<|ah (aG 2<|kL 27 (aj 118)<|k2 zA zB)
<|ah (aG 3<|ai (aj 43) []<|k1 zC)
<|ah (bj (j9 (aZ<|bo (aI .NotEq) (aA M.P.tab 31 zC)<|cS [])<|eM<|tB<|ai (aj 55) []<|k2 (aA M.P.tab 1 zD)<|aA M.P.tab 2 zD)
  (aR<|aJ (aD [(27,119)] aj) zC a_)
  aM)
<|aC zD
def t43:TF:=λaj=>aE 1 2<|ah (bj (tB<|aJ (aD [(27,120)] aj) zA<|k1<|cS [109,97,114,107,32])
  (aC<|dR 1 2<|k2 (dR 3 0 a_)<|dR 12 1<|k1<|ai (aj 52) []<|k1 zA)
  aM)
<|ah (bj (eM<|tB<|aV ya<|k1<|eO<|cY (nK<|cF<|.tup [(.str [114,111,119,32]),(.str [108,97,115,116]),(.str [47]),(.str [115,111,111,110,32]),(.str [102,114,111,109,32]),(.str [110,111,116,32]),(.str [101,110,100])]) 2 [0] (setG 1) eZ<|oG Lr (aA M.P.tab 31 zC)<|k1 zB)
  (aC<|dR 1 2<|k2 (dR 3 0 a_)<|ai (aj 47) []<|k1 zA)
  aM)
<|ah (aG 1<|ai (aj 44) []<|k1 zA)
<|ah (aR<|aJ (aD [(27,121)] aj) zA<|k1<|cS [58,32])
<|aC<|dR 1 2<|k2 zB<|ai (aj 47) []<|k1 zA
def t44:TF:=λaj=>aE 1 1<|ah (bj (tB<|aJ (aD [(27,120)] aj) zA<|k1<|cS [101,110,100])
  (aC<|dR 10 0 a_)
  aM)
<|ah (bj (tB<|aJ (aD [(27,120)] aj) zA<|k1<|cS [110,111,116,32])
  (aC<|dR 9 1<|k1<|ai (aj 45) []<|k1 zA)
  aM)
<|aC<|ai (aj 45) []<|k1 zA
def t45:TF:=λaj=>aE 1 3<|ah (bj (tB<|aJ (aD [(27,120)] aj) zA<|k1<|cS [108,97,115,116])
  (aC<|dR 5 0 a_)
  aM)
<|ah (bj (tB<|aJ (aD [(27,120)] aj) zA<|k1<|cS [115,111,111,110,32])
  (ah (aG 1<|ai (aj 51) []<|k3 zA zI<|cI 3)
<|ah (aR<|aJ (aD [(27,121)] aj) zA<|k1<|cS [32])
<|aC<|dR 7 2<|k2 zB<|ai (aj 54) []<|k1 zA)
  aM)
<|ah (bj (tB<|aJ (aD [(27,120)] aj) zA<|k1<|cS [102,114,111,109,32])
  (ah (aG 2<|ai (aj 46) []<|k1 zA)
<|ah (aR<|aJ (aD [(27,121)] aj) zA<|k1<|cS [32,116,111,32])
<|aC<|dR 8 2<|k2 zC<|ai (aj 46) []<|k1 zA)
  aM)
<|aC<|ai (aj 46) []<|k1 zA
def t46:TF:=λaj=>aE 1 1<|ah (bj (tB<|aJ (aD [(27,120)] aj) zA<|k1<|cS [114,111,119,32])
  (aC<|dR 4 1<|k1<|ai (aj 51) []<|k3 zA zI<|cI 999)
  aM)
<|aC<|dR 6 1<|k1<|ai (aj 54) []<|k1 zA
def t47:TF:=λaj=>aE 1 1<|ah (bj (tB<|aJ (aD [(27,120)] aj) zA<|k1<|cS [100,114,111,112])
  (aC<|dR 13 0 a_)
  aM)
<|ah (bj (tB<|aJ (aD [(27,120)] aj) zA<|k1<|cS [112,114,105,110,116])
  (aC<|dR 14 0 a_)
  aM)
<|ah (bj (tB<|aJ (aD [(27,120)] aj) zA<|k1<|cS [100,111,110,101])
  (aC<|dR 15 0 a_)
  aM)
<|ah (bj (tB<|aJ (aD [(27,120)] aj) zA<|k1<|cS [116,101,108,108])
  (aC<|dR 23 0 a_)
  aM)
<|ah (bj (tB<|aJ (aD [(27,120)] aj) zA<|k1<|cS [115,97,121,32])
  (aC<|dR 16 1<|k1<|ai (aj 53) []<|k1 zA)
  aM)
<|ah (bj (tB<|aJ (aD [(27,120)] aj) zA<|k1<|cS [115,119,97,112,32,101,118,101,114,121,32])
  (aC<|ai (aj 48) []<|k2 zA<|cF<|.bl O)
  aM)
<|ah (bj (tB<|aJ (aD [(27,120)] aj) zA<|k1<|cS [115,119,97,112,32])
  (aC<|ai (aj 48) []<|k2 zA<|cF<|.bl Zb)
  aM)
<|ah (bj (tB<|aJ (aD [(27,120)] aj) zA<|k1<|cS [106,111,105,110,32])
  (aC<|dR 18 1<|k1<|ai (aj 51) []<|k3 zA (cI 2)<|cI 9)
  aM)
<|ah (bj (tB<|aJ (aD [(27,120)] aj) zA<|k1<|cS [112,105,108,101,32])
  (aC<|ai (aj 49) []<|k1 zA)
  aM)
<|ah (bj (tB<|aJ (aD [(27,120)] aj) zA<|k1<|cS [98,114,105,110,103,32])
  (aC<|dR 20 1<|k1<|ai (aj 52) []<|k1 zA)
  aM)
<|ah (bj (tB<|aJ (aD [(27,120)] aj) zA<|k1<|cS [103,111,32])
  (aC<|dR 21 1<|k1<|ai (aj 52) []<|k1 zA)
  aM)
<|ah (aR<|aJ (aD [(27,121)] aj) zA<|k1<|cS [97,100,100,32])
<|aC<|ai (aj 50) []<|k1 zA
def t48:TF:=λaj=>aE 2 3<|ah (aG 2<|ai (aj 54) []<|k1 zA)
<|ah (aR<|aJ (aD [(27,121)] aj) zA<|k1<|cS [32])
<|aC<|dR 17 3<|k3 zC (ai (aj 53) []<|k1 zA) zB
def t49:TF:=λaj=>aE 1 2<|ah (aG 1<|ai (aj 52) []<|k1 zA)
<|ah (bj (eM<|tB<|aJ (aD [(27,120)] aj) zA<|k1<|cS [32])
  (aC<|dR 19 2<|k2 zB<|cF .non)
  aM)
<|aC<|dR 19 2<|k2 zB<|ai (aj 51) []<|k3 zA zI<|cI 9
def t50:TF:=λaj=>aE 1 2<|ah (aG 1<|ai (aj 51) []<|k3 zA zI<|cI 9)
<|ah (aR<|aJ (aD [(27,121)] aj) zA<|k1<|cS [32])
<|aC<|dR 22 2<|k2 zB<|ai (aj 51) []<|k3 zA zI<|cI 9
def t51:TF:=λaj=>aE 3 5<|ah (aG 3<|aJ (aD [(27,122)] aj) zA<|k1<|cS [48,49,50,51,52,53,54,55,56,57])
<|ah (bj (j9 (aZ<|oE zD<|cS [])<|j9 (tB<|oG Lr zD<|k1<|cS [48])<|aZ<|bo (aI .Gt) (aV bG<|k1 zD)<|cI 3)
  (aR<|aJ (aD [(27,119)] aj) zA a_)
  aM)
<|ah (aG 4<|aV ML<|k1 zD)
<|ah (bj (j9 (aZ<|bo (aI .Lt) (vF 4) zB)<|aZ<|bo (aI .Gt) (vF 4) zC)
  (aR<|aJ (aD [(27,119)] aj) zA a_)
  aM)
<|aC<|vF 4
def t52:TF:=λaj=>aE 1 2<|ah (aG 1<|aJ (aD [(27,122)] aj) zA<|k1<|cS à)
<|ah (bj (j9 (aZ<|oE zB<|cS [])<|aZ<|bo (aI .Gt) (aV bG<|k1 zB)<|cI 8)
  (aR<|aJ (aD [(27,119)] aj) zA a_)
  aM)
<|aC zB
def t53:TF:=λaj=>aE 1 2<|ah (aG 1<|aJ (aD [(27,123)] aj) zA<|k1<|cS [34])
<|ah (bj (j9 (aZ<|bo (aI .Gt) (aV bG<|k1 zB)<|cI 40)<|eM<|tB<|ai (aj 3) []<|k2 zB<|cS N1)
  (aR<|aJ (aD [(27,119)] aj) zA a_)
  aM)
<|aC zB
def t54:TF:=λaj=>aE 1 2<|ah (aG 1<|aJ (aD [(27,123)] aj) zA<|k1<|cS [47])
<|aC<|ai (aj 6) []<|k1 zB
def t55:TF:=λaj=>aL<|aE 2 2<|ah (bj (tB<|dz (ir M.P.sub [10]) zA)
  (aC<|dz (ir M.P.sub [16,20,23]) zB)
  aM)
<|ah (bj (tB<|dz (ir M.P.sub [17]) zB)
  (aC<|ai (aj 56) []<|k1 zB)
  aM)
<|aC<|oz<|dz (ir M.P.sub [23]) zB
def t56:TF:=λaj=>aL<|aE 1 1<|ah (bj (tB<|ai (aj 15) []<|k1<|aA M.P.tab 4 zA)
  (aC<|cF<|.bl Zb)
  aM)
<|aC<|ź (oz<|aA M.P.tab 11 zA)<|bo (aI .LtE) (aV bG<|k1<|aA M.P.tab 10 zA)<|ai (aj 16) []<|k1<|aA M.P.tab 4 zA
def t57:TF:=λaj=>aL<|aE 1 3<|ah (aG 1<|ai (aj 58) []<|k1<|oI (ai (aj 1) []<|k1 zA) zO)
<|ah (aG 2<|ai (aj 59) []<|k1 zB)
<|ah (aR<|ai (aj 60) []<|k2 zB zC)
<|aC<|dz (Tc 0) zB
abbrev å(aj:Nat->Fn):FS:=ah (bj (aZ<|bo (aI .Gt) zC<|cI 24)
  cj
  aM)
<|gO 1<|ai (aj 42) []<|k2 zD zC
def t58:TF:=λaj=>aL<|aE 1 4<|ah (iJ 1<|kc a_)
<|ah (dM (jf 1 zA) (bw [2,3])
 <|å aj)
<|aC zB
abbrev æ:FS:=bj (tB<|dz (ir M.P.sub [12])<|aA M.P.tab 2 zD)
  (ah (bj (aZ<|Je Zb 1<|aA M.P.tab 9<|aA M.P.tab 2 zD)
  cj
  aM)
<|Lu 1 (aA M.P.tab 9<|aA M.P.tab 2 zD)<|cF<|.bl O)
  aM
def t59:TF:=λaj=>aL<|aE 1 4<|ah (CG 1)
<|ah (dM (jf 1 zA) (bw [2,3])
  æ)
<|aC zB
abbrev ç:FS:=bj (gM (tB<|dz (ir M.P.sub [21])<|aA M.P.tab 2 zD)<|aZ<|bo (aI .NotIn) (aA M.P.tab 9<|aA M.P.tab 2 zD) zB)
  cj
  aM
def t60:TF:=λaj=>aL<|aE 2 4<|dM (jf 1 zA) (bw [2,3])
  ç
def t61:TF:=λaj=>aL<|aE 2 2<|ah (bj (aZ<|bo (aI .Lt) zB<|aV bG<|k1 zA)
  (aC<|oI zA zB)
  aM)
<|aC zO
def t62:TF:=λaj=>aL<|aE 1 5<|ah (aG 1<|oI (cS [97,98,99])<|oM zA<|cI 3)
<|ah (aG 2<|oI (cS [97,98,99])<|oM (oD zA<|cI 3)<|cI 3)
<|ah (aG 3<|aV strN<|k1<|oA zI<|oM (oD zA<|cI 9)<|cI 5)
<|ah (aG 4<|aV dm<|ba (cS [])<|ba (cS [])<|ba (oA (oA (cS [114,111,119,32]) zD)<|cS [58,32])<|k3 (cS [108,97,115,116,58,32]) (oA (oA (cS [47]) zB)<|cS [47,58,32])<|oA (oA (cS [110,111,116,32,47]) zB)<|cS [47,58,32])
<|ah (aG 4<|oA (vF 4)<|aV dm<|k2 (oA (oA (oA (oA (cS [102,114,111,109,32,47]) zB)<|cS [47,32,116,111,32,47]) zC)<|cS [47,58,32])<|oA (oA (oA (oA (cS [102,114,111,109,32,114,111,119,32]) zD)<|cS [32,116,111,32,47]) zC)<|cS [47,58,32])
<|ah (aG 4<|oA (vF 4)<|aV dm<|ba (oA (oA (cS [115,111,111,110,32,49,32,47]) zB)<|cS [47,58,32])<|k3 (cS [47,94,36,47,58,32]) (cS [110,111,116,32,108,97,115,116,58,32])<|oA (oA (oA (oA (cS [102,114,111,109,32,47]) zB)<|cS [47,32,116,111,32,114,111,119,32]) zD)<|cS [58,32])
<|aC<|oI (vF 4)<|oM (oD zA<|cI 45)<|cI 12
def t63:TF:=λaj=>aL<|aE 1 4<|ah (aG 1<|oI (cS [97,98,99])<|oM zA<|cI 3)
<|ah (aG 2<|oI (aV dm<|ba (cS [])<|ba (cS [120])<|k3 (cS [97,98]) (cS [99,32,97])<|cS [98])<|oM (oD zA<|cI 3)<|cI 5)
<|ah (aG 3<|aV dm<|ba (cS [100,114,111,112])<|ba (cS [112,114,105,110,116])<|k3 (cS [100,111,110,101]) (oA (oA (cS [115,97,121,32,34]) zC)<|cS [34])<|oA (oA (oA (oA (cS [115,119,97,112,32,47]) zB)<|cS [47,32,34]) zC)<|cS [34])
<|ah (aG 3<|oA zD<|aV dm<|ba (oA (oA (oA (oA (cS [115,119,97,112,32,101,118,101,114,121,32,47]) zB)<|cS [47,32,34])<|fK zC je<|dD zI)<|cS [34])<|ba (cS [106,111,105,110,32,50])<|k3 (cS [106,111,105,110,32,51]) (cS [112,105,108,101,32,115])<|cS [112,105,108,101,32,115,32,50])
<|ah (aG 3<|oA zD<|aV dm<|ba (cS [98,114,105,110,103,32,115])<|ba (cS [112,105,108,101,32,116,32,49])<|ba (cS [98,114,105,110,103,32,116])<|k3 (cS [97,100,100,32,49,32,50]) (oA (oA (cS [115,119,97,112,32,47]) zB)<|cS [43,47,32,34,34])<|cS [100,114,111,112])
<|aC<|oI zD<|oM (oD zA<|cI 15)<|cI 16
abbrev VD(aj:Nat->Fn):FS:=bj (gM (aZ<|oE (oM zD<|cI 13)<|cI 5)<|aZ<|Je O 2<|cS [109,97,114,107,32,109])
  (gO 2<|cS [109,97,114,107,32,109])
 <|bj (gM (aZ<|oE (oM zD<|cI 13)<|cI 6)<|tB zB)
  (gO 2<|oA (ai (aj 62) []<|k1<|oD zD<|cI 13)<|cS [103,111,32,109])
 <|bj (aZ<|oE (oM zD<|cI 13)<|cI 7)
  (gO 2<|oA (cS [101,110,100,58,32])<|oI (aV dm<|ba (cS [115,97,121,32,34,34])<|ba (cS [98,114,105,110,103,32,115])<|k3 (cS [98,114,105,110,103,32,116]) (cS [115,97,121,32,34,97,98,34])<|cS [116,101,108,108])<|oM (oD zD<|cI 13)<|cI 5)
 <|gO 2<|oA (ai (aj 62) []<|k1<|oD zD<|cI 13)<|ai (aj 63) []<|k1<|oD zD<|cI 7020
def t64:TF:=λaj=>aL<|aE 1 4<|ah (aG 1<|bo (aI .NotEq) (eO<|cY (nK zA) 2 [] (setG 1) (aZ<|oE (oM zB<|cI 13)<|cI 5) zB)<|aV dm a_)
<|ah (iJ 2<|kc a_)
<|ah (dM (nK zA) (setG 3)
 <|VD aj)
<|aC<|oG joinM (cS [])<|k1<|eO<|cY (nK zC) 2 [] (setG 1) eZ<|oA zB<|cS [10]
abbrev è:FS:=ah (aG 2<|oA zC<|oI (cS [97,98,99,32,98,49,32])<|oM zB<|cI 7)
<|aG 1<|oD zB<|cI 7
def t65:TF:=λaj=>aL<|aE 1 4<|ah (aG 1<|oM (oD zA<|cI 7)<|cI 16807)
<|ah (aG 2<|cS [])
<|ah (dM (EM xV<|k1<|oM zA<|cI 7) (setG 3)
  è)
<|aC zC
def t66:TF:=λaj=>aL<|aE 2 3<|ah (aG 2<|oG joinM (cS [10])<|k1<|eO<|cY (nK zA) 2 [] (setG 1) eZ<|ai (aj 65) []<|k1 zB)
<|ah (bj (gM (aZ<|bo (aI .NotEq) zA<|aV dm a_)<|j9 (tB zB)<|j9 (aZ<|oE zC<|cS [])<|aZ<|oE (oI zC<|dz fh zI)<|cS [10])
  (aC<|oA zC<|cS [10])
  aM)
<|aC zC
def t67:TF:=λaj=>aL<|aE 1 3<|ah (aG 1<|eO<|cY (nK<|AA (2) zA (dD zI)<|dD<|cI 21) 2 [] (setG 1) eZ<|oM (bo (jo .Mult) zB<|cI 69621)<|cI 2147483647)
<|ah (aG 2<|eO<|cY (nK<|AA (2) zA (dD<|cI 2)<|dD<|cI 26) 2 [] (setG 1) eZ<|oM (bo (jo .Mult) zB<|cI 48271)<|cI 2147483647)
<|aC<|aV df<|k2 (ai (aj 64) []<|k1 zB)<|ai (aj 66) []<|k2 zC<|bo (aI .Gt) (oM (ai (aj 61) []<|k2 zA zO)<|cI 3) zO
def t68:TF:=λaj=>aL<|aE 1 2<|ah (bj (aZ<|oE zA<|cS [])
  (aC<|aV df<|k2 (aV dm a_)<|cF<|.bl O)
  aM)
<|ah (aG 1<|oG splitM zA<|k1<|cS [10])
<|ah (bj (aZ<|oE (oI zB<|dz fh zI)<|cS [])
  (aC<|aV df<|k2 (fK zB je<|dD<|dz fh zI)<|cF<|.bl O)
  aM)
<|aC<|aV df<|k2 zB<|cF<|.bl Zb
def t69:TF:=λaj=>aL<|aE 2 3<|ah (aG 2<|oG joinM (cS [10])<|k1 zA)
<|ah (bj (gM (aZ<|bo (aI .NotEq) zA<|aV dm a_)<|j9 (tB zB)<|aZ<|oE (oI zA<|dz fh zI)<|cS [])
  (aC<|oA zC<|cS [10])
  aM)
<|aC zC
def t70:TF:=λaj=>aL<|aE 2 3<|ah (aG 2<|cF .non)
<|ah (yu 2 1<|ai (aj 35) []<|pe<|k2 zA zB)
<|aC zC
abbrev é:FS:=aG 3<|oA (oA (fK zD je<|dD<|vF 4)<|vF 5)<|fK zD (dD<|oA (vF 4)<|aV bG<|k1<|vF 5) je
def t71:TF:=λaj=>aL<|aE 3 7<|ah (aG 3<|eO<|cY (EM xV<|k1<|aV bG<|k1 zA) 2 [2] (setG 1) eZ<|ai (aj 65) []<|k1<|oM (oD zC<|oA zB zI)<|cI 1000003)
<|ah (dM (oJ zB) (bw [4,5,6])
  é)
<|aC zD
def t72:TF:=λaj=>aL<|aE 4 7<|ah (aG 4<|oM (oD (ai (aj 61) []<|k2 zD zO)<|cI 3)<|cI 8)
<|ah (aG 5<|oM (bo (jo .Mult) (ai (aj 61) []<|k2 zD<|cI 3)<|cI 48271)<|cI 2147483647)
<|ah (aG 6<|oM (oD (vF 5)<|cI 50021)<|aV UE<|k2 zI<|aV bG<|k1 zA)
<|ah (bj (aZ<|oE (vF 4) zO)
  (aC<|ai (aj 69) []<|k2 (ai (aj 71) []<|k3 zA zC<|vF 5) zB)
  aM)
<|ah (bj (gM (aZ<|oE (vF 4) zI)<|aZ<|bo (aI .NotEq) zA<|aV dm a_)
  (aC<|ai (aj 69) []<|k2 (oA (oA (fK zA je<|dD<|vF 6)<|aV dm<|k1<|ai (aj 65) []<|k1<|vF 5)<|fK zA (dD<|oA (vF 6) zI) je) zB)
  aM)
<|ah (bj (gM (aZ<|oE (vF 4)<|cI 2)<|aZ<|bo (aI .NotEq) zA<|aV dm a_)
  (aC<|ai (aj 69) []<|k2 (oA (fK zA je<|dD<|dz fh zI)<|aV dm<|k1<|cS []) zB)
  aM)
<|ah (bj (gM (aZ<|oE (vF 4)<|cI 3)<|aZ<|bo (aI .Gt) (aV bG<|k1 zA) zI)
  (aC<|ai (aj 69) []<|k2 (oA (oA (fK zA je<|dD<|dz fh<|cI 2)<|aV dm<|k1<|cS [])<|fK zA (dD<|dz fh zI) je) zB)
  aM)
<|ah (bj (aZ<|oE (vF 4)<|cI 4)
  (aC<|ai (aj 69) []<|k2 (oA zA<|aV dm<|k1<|ai (aj 65) []<|k1<|vF 5) zB)
  aM)
<|ah (bj (aZ<|oE (vF 4)<|cI 5)
  (aC<|ai (aj 69) []<|k2 (fK zA je<|dD<|dz fh zI) zB)
  aM)
<|ah (bj (aZ<|oE (vF 4)<|cI 6)
  (aC<|ai (aj 69) []<|k2 zA<|oz zB)
  aM)
<|aC<|ai (aj 69) []<|k2 zA zB
abbrev JN:FS:=ah (bj (aZ<|bo (aI .NotEq) (fK (vF 6) (dD<|vF 8)<|dD<|oA (vF 8)<|aV bG<|k1<|vF 9)<|vF 9)
  (aC<|cF .non)
  aM)
<|aG 6<|oA (oA (fK (vF 6) je<|dD<|vF 8)<|vF 10)<|fK (vF 6) (dD<|oA (vF 8)<|aV bG<|k1<|vF 9) je
def t73:TF:=λaj=>aL<|aE 2 11<|ah (oF (bw [3,4,5]) zA)
<|ah (oF (bw [6,7])<|ai (aj 68) []<|k1 zB)
<|ah (bj (aZ<|bo (aI .NotEq) zD<|aV df<|k2 (aV bG<|k1<|vF 6)<|vF 7)
  (aC<|cF .non)
  aM)
<|ah (dM (o1 Ip<|vF 5) (bw [8,9,10])
  JN)
<|ah (aG 2<|ai (aj 69) []<|k2 (vF 6)<|oI (vF 4) zI)
<|ah (bj (aZ<|bo (aI .NotEq) (oI (ai (aj 68) []<|k1 zC) zI)<|oI (vF 4) zI)
  (aC<|cF .non)
  aM)
<|aC zC
def t74:TF:=λaj=>aL<|aE 2 4<|ah (aG 2<|aV dm a_)
<|ah (Ja (ai (aj 40) []<|pe<|k2 zA zB)<|Ĭ 3 2 M.kb)
<|aC<|oE zC<|aV dm<|ba (cF<|.bl O)<|ba (cF<|.bl O)<|ba (cF<|.bl Zb)<|ba (cF<|.bl Zb)<|ba (cF<|.bl Zb)<|ba (cF<|.bl Zb)<|k3 (cF<|.bl Zb) (cF<|.bl Zb)<|cF<|.bl Zb
def t75:TF:=λaj=>aL<|aE 1 12<|ah (oF (bw [8,9])<|ai (aj 67) []<|k1 zA)
<|ah (bj (aZ<|oE (oM (oD (ai (aj 61) []<|k2 zA zO)<|cI 3)<|cI 16)<|cI 3)
  (ah (aG 8<|cS [108,97,115,116,58,32,100,114,111,112,10])
<|aG 9<|ai (aj 69) []<|k2 (oI (ai (aj 68) []<|k1<|vF 9) zO)<|cF<|.bl Zb)
  aM)
<|ah (aG 1<|ai (aj 70) []<|k2 (ai (aj 57) []<|k1<|vF 8)<|vF 9)
<|ah (bj (aZ<|bo (aI .Is) zB<|cF .non)
  (aC<|cF<|.bl O)
  aM)
<|ah (aG 2<|aV df<|k3 (oI zB zO) (oI zB zI)<|eO<|cY (oJ<|oI zB<|cI 2) 4 [] (bw [1,2,3]) eZ<|aV df<|k3 zB (aV kj<|k1 zC)<|aV kj<|k1 zD)
<|ah (oF (bw [10,11])<|ai (aj 68) []<|k1<|vF 9)
<|ah (aG 3<|ai (aj 72) []<|ba (vF 10)<|k3 (vF 11) (oI zC<|cI 2) zA)
<|ah (aG 4<|ai (aj 73) []<|k2 zC zD)
<|ah (aG 5<|ai (aj 38) []<|k2 zB zD)
<|ah (bj (j9 (eM<|tB<|dz (Y3 "bool")<|vF 5)<|j9 (aZ<|bo (aI .NotEq) (vF 5)<|bo (aI .IsNot) (vF 4)<|cF .non)<|aZ<|bo (aI .NotEq) zB zC)
  (aC<|cF<|.bl Zb)
  aM)
<|ah (bj (aZ<|bo (aI .Is) (vF 4)<|cF .non)
  (aC<|ow (ai (aj 74) []<|k2 zB zD)<|ow (bo (aI .Is) (ai (aj 38) []<|k2 zB<|vF 9)<|cF<|.bl O)<|oE zB zC)
  aM)
<|ah (aG 6<|ai (aj 40) []<|k2 zB zD)
<|ah (bj (j9 (eM<|tB<|dz (Y3 "str")<|vF 6)<|aZ<|bo (aI .NotEq) (vF 6)<|vF 4)
  (aC<|cF<|.bl Zb)
  aM)
<|ah (aG 7<|ai (aj 41) []<|k1 zB)
<|aC<|ow (bo (aI .Is) (ai (aj 38) []<|k2 (vF 7)<|vF 6)<|cF<|.bl O)<|ow (oE (ai (aj 40) []<|k2 (vF 7)<|vF 6) zD)<|oE zB zC
def t76:TF:=λaj=>aE 2 2<|aQ M.P.tab 0 zA<|aV kj<|k1 zB
def t77:TF:=λaj=>aE 3 3<|ah (aQ M.P.tab 1 zA zB)
<|aQ M.P.tab 2 zA zC
def t78:TF:=λaj=>aE 2 2<|aQ M.P.tab 3 zA zB
def t79:TF:=λaj=>aE 2 2<|aQ M.P.tab 4 zA zB
def t80:TF:=λaj=>aE 3 3<|ah (aQ M.P.tab 5 zA zB)
<|aQ M.P.tab 4 zA zC
def t81:TF:=λaj=>aE 3 3<|ah (aQ M.P.tab 6 zA zB)
<|aQ M.P.tab 7 zA zC
def t82:TF:=λaj=>aE 2 2<|aQ M.P.tab 8 zA zB
def t83:TF:=λaj=>aE 2 2<|aQ M.P.tab 9 zA zB
def t84:TF:=λaj=>aE 2 2<|aQ M.P.tab 10 zA zB
def t85:TF:=λaj=>aE 4 4<|ah (aQ M.P.tab 4 zA zB)
<|ah (aQ M.P.tab 10 zA zC)
<|aQ M.P.tab 11 zA zD
def t86:TF:=λaj=>aE 2 2<|aQ M.P.tab 12 zA zB
def t87:TF:=λaj=>aE 3 3<|ah (aQ M.P.tab 13 zA zB)
<|aQ M.P.tab 12 zA zC
def t88:TF:=λaj=>aE 2 2<|aQ M.P.tab 13 zA zB
def t89:TF:=λaj=>aE 2 2<|aQ M.P.tab 9 zA zB
def t90:TF:=λaj=>aE 3 3<|ah (aQ M.P.tab 6 zA zB)
<|aQ M.P.tab 7 zA zC
def t91:TF:=λaj=>aE 3 3<|ah (aQ M.P.tab 14 zA zB)
<|ah (aQ M.P.tab 3 zA zC)
<|aQ M.P.tab 15 zA<|mX M.bc
def t92:TF:=λaj=>aE 2 3<|ah (aG 2<|ai (aj 13) []<|k1 zB)
<|ah (bj (aZ<|yl M.bc O zC<|aA M.P.tab 15 zA)
  (oN M.bc (aA M.P.tab 15 zA) zC<|ai (aj 20) []<|k2 zB<|aA M.P.tab 14 zA)
  aM)
<|aC<|As M.bc (aA M.P.tab 15 zA) zC
def t93:TF:=λaj=>aE 2 2<|ah (aQ M.P.tab 16 zA<|eO<|cY (nK zB) 2 [] (setG 1) eZ<|aA M.P.tab 1 zB)
<|aQ M.P.tab 17 zA<|mX M.bc
def t94:TF:=λaj=>aE 3 6<|ah (iJ 3<|kc a_)
<|ah (dM (jf 0<|aA M.P.tab 16 zA) (bw [4,5])
 <|gO 3<|aJ (aD [(25,95)] aj) zA<|ba (vF 4)<|k3 (vF 5) zB zC)
<|aC zD
def t95:TF:=λaj=>aE 5 5<|ah (bj (tB<|dz (ir M.P.sub [9]) zC)
  (aC<|oz<|aJ (aD [(25,95)] aj) zA<|ba zB<|k3 (aA M.P.tab 8 zC) zD<|vF 4)
  aM)
<|ah (bj (tB<|dz (ir M.P.sub [8]) zC)
  (aC<|aJ (aD [(25,96)] aj) zA<|k3 zB zC zD)
  aM)
<|ah (bj (tB<|dz (ir M.P.sub [5]) zC)
  (aC<|oE (aV bG<|k1<|vF 4) zO)
  aM)
<|ah (bj (tB<|dz (ir M.P.sub [7]) zC)
  (aC<|aV ya<|k1<|eO<|cY (nK<|fK (vF 4) je<|dD<|aA M.P.tab 5 zC) 2 [2] (setG 1) eZ<|aJ (aD [(24,92)] aj) zB<|k1<|aA M.P.tab 4 zC)
  aM)
<|aC<|ai (aj 25) []<|k2 zC zD
def t96:TF:=λaj=>aE 4 4<|ah (bj (tB<|r9 M.bc (aA M.P.tab 17 zA) zB<|cF<|.bl Zb)
  (ah (oN M.bc (aA M.P.tab 17 zA) zB<|oz<|ai (aj 25) []<|k2 (aA M.P.tab 7 zC) zD)
<|aC<|cF<|.bl O)
  aM)
<|ah (bj (eM<|tB<|ai (aj 25) []<|k2 (aA M.P.tab 6 zC) zD)
  (aC<|cF<|.bl Zb)
  aM)
<|ah (oN M.bc (aA M.P.tab 17 zA) zB<|oz<|ai (aj 26) []<|k2 (aA M.P.tab 7 zC)<|aA M.P.tab 3 zD)
<|aC<|cF<|.bl O
def t97:TF:=λaj=>aE 2 2<|ah (aQ M.P.tab 0 zA<|aV kj<|k1<|aA M.P.tab 0 zB)
<|ah (aQ M.P.tab 18 zA<|ai (aj 33) []<|k1<|aA M.P.tab 0 zA)
<|ah (aQ M.P.tab 19 zA<|kL 25 (aj 93)<|k1<|aA M.P.tab 0 zA)
<|ah (aQ M.P.tab 20 zA<|aV dm a_)
<|ah (aQ M.P.tab 21 zA zO)
<|ah (aQ M.P.tab 22 zA<|mX M.bc)
<|ah (aQ M.P.tab 23 zA zO)
<|ah (aQ M.P.tab 24 zA<|cF .non)
<|ah (aQ M.P.tab 25 zA zO)
<|ah (aQ M.P.tab 26 zA<|mX M.bc)
<|ah (aQ M.P.tab 27 zA<|mX M.bc)
<|ah (aQ M.P.tab 28 zA<|xW M.bc<|kc a_)
<|ah (aQ M.P.tab 29 zA<|xW M.bc<|kc a_)
<|ah (aQ M.P.tab 30 zA<|cF<|.bl Zb)
<|aR<|aJ (aD [(26,98)] aj) zA a_
def t98:TF:=λaj=>aE 1 1<|ah (gW M.bc (aA M.P.tab 29 zA)<|aV df<|k2 (cS [119,97,110,116])<|oA (aA M.P.tab 23 zA) zI)
<|aQ M.P.tab 30 zA<|cF<|.bl O
def t99:TF:=λaj=>aE 3 3<|aR<|F3 26 (aj 100) zA<|k2 (wD<|aA M.P.tab 14 zB)<|wD<|aJ (aD [(25,94)] aj) (aA M.P.tab 19 zA)<|k2 zB zC
def aaT:TF:=λaj=>aE 3 3<|ah (m_<|Au M.P.tab 23 jg zA zI)
<|ah (m_<|gW M.bc (aA M.P.tab 29 zA)<|aV df<|k2 (cS [116,97,107,101])<|aA M.P.tab 23 zA)
<|ah (m_<|aQ M.P.tab 24 zA<|rG (aZ<|bo (aI .Is) (aA M.P.tab 24 zA)<|cF .non) zB<|oA (oA (aA M.P.tab 24 zA)<|cS [32]) zB)
<|ah (m_<|Au M.P.tab 25 jg zA zI)
<|ah (m_<|aQ M.P.tab 20 zA zC)
<|ah (m_<|aQ M.P.tab 22 zA<|mX M.bc)
<|ah (m_<|aQ M.P.tab 30 zA<|cF<|.bl Zb)
<|il many (mC<|eM<|tB<|aA M.P.tab 30 zA)
 <|aR<|F3 26 (aj 101) zA a_
def aaU:TF:=λaj=>aE 1 1<|bj (mC<|aZ<|oE (aA M.P.tab 21 zA)<|aV bG<|k1<|aA M.P.tab 0 zA)
  (m_<|aR<|aJ (aD [(26,108)] aj) zA a_)
 <|ah (m_<|Au M.P.tab 21 jg zA zI)
<|aR<|F3 26 (aj 102) zA<|k2 (wD<|bo BX (aA M.P.tab 0 zA)<|bo (jo .Sub) (aA M.P.tab 21 zA) zI)<|wD<|aA M.P.tab 21 zA
def aaV:TF:=λaj=>aE 3 4<|ah (bj (mC<|tB<|dz (ir M.P.sub [10])<|aA M.P.tab 1 zB)
  (m_<|aC<|cF .non)
  aM)
<|ah (bj (mC<|aZ<|yl M.bc Zb zC<|aA M.P.tab 22 zA)
  (Z5 1<|k2 (aA M.P.tab 23 zA) zC)
  aM)
<|ah (m_<|oN M.bc (aA M.P.tab 22 zA) zC<|cF<|.bl O)
<|ah (m_<|aG 3<|bo BX (aA M.P.tab 20 zA)<|bo (jo .Sub) zC zI)
<|ah (m_<|gW M.bc (aA M.P.tab 29 zA)<|aV df<|k3 (cS [109,101,101,116]) zC zD)
<|bj (mC<|tB zD)
  (m_<|aR<|aJ (aD [(26,109)] aj) zA<|k2 (aA M.P.tab 2 zB) zC)
  aM
def aaW:TF:=λaj=>aE 1 1<|aR<|ai (aj 0) []<|k1 zO
abbrev JO(aj:Nat->Fn):FS:=bj (tB<|dz (ir M.P.sub [10])<|aA M.P.tab 1 zB)
  (aR<|aJ (aD [(26,110)] aj) zA<|k1<|aA M.P.tab 2 zB)
  aM
def aaX:TF:=λaj=>aE 1 2<|ah (aR<|aJ (aD [(26,105)] aj) zA a_)
<|ah (bj (aZ<|bo (aI .IsNot) (aA M.P.tab 24 zA)<|cF .non)
  (ah (aR<|aJ (aD [(26,108)] aj) zA a_)
<|aR<|aJ (aD [(26,105)] aj) zA a_)
  aM)
<|ah (gW M.bc (aA M.P.tab 29 zA)<|aV df<|k1<|cS [101,110,100])
<|dM (nK<|aA M.P.tab 0 zA) (setG 1)
 <|JO aj
def aaY:TF:=λaj=>aE 1 1<|gW M.bc (aA M.P.tab 29 zA)<|aV df<|k2 (cS [110,111,110,101])<|oA (aA M.P.tab 23 zA) zI
def aaZ:TF:=λaj=>aE 2 2<|gW M.bc (aA M.P.tab 29 zA)<|aV df<|k2 (cS zg) zB
def aa0:TF:=λaj=>aE 1 1<|ah (gW M.bc (aA M.P.tab 29 zA)<|aV df<|k1<|cS [111,118,101,114])
<|ah (aQ M.P.tab 24 zA<|cF .non)
<|ah (aQ M.P.tab 25 zA zO)
<|ah (aQ M.P.tab 21 zA zO)
<|aR<|aJ (aD [(26,98)] aj) zA a_
def aa1:TF:=λaj=>aE 1 1<|ah (aR<|aJ (aD [(26,106)] aj) zA<|k1<|aA M.P.tab 24 zA)
<|aR<|aJ (aD [(26,107)] aj) zA a_
def aa2:TF:=λaj=>aE 3 3<|bj (tB<|dz (ir M.P.sub [13]) zB)
  (aR<|aJ (aD [(26,107)] aj) zA a_)
 <|bj (tB<|dz (ir M.P.sub [14]) zB)
  (aR<|aJ (aD [(26,106)] aj) zA<|k1<|aA M.P.tab 24 zA)
 <|bj (tB<|dz (ir M.P.sub [15]) zB)
  (aR<|aJ (aD [(26,108)] aj) zA a_)
 <|bj (tB<|dz (ir M.P.sub [17]) zB)
  (aR<|aJ (aD [(26,111)] aj) zA<|k1 zB)
 <|bj (tB<|dz (ir M.P.sub [18]) zB)
  (aR<|aJ (aD [(26,112)] aj) zA<|k1 zB)
 <|bj (tB<|dz (ir M.P.sub [19]) zB)
  (aR<|aJ (aD [(26,113)] aj) zA<|k1 zB)
 <|bj (tB<|dz (ir M.P.sub [21]) zB)
  (aQ M.P.tab 21 zA<|bo BX (aA M.P.tab 18 zA)<|aA M.P.tab 9 zB)
 <|bj (tB<|dz (ir M.P.sub [22]) zB)
  (aR<|aJ (aD [(26,116)] aj) zA<|k2 zB zC)
 <|bj (eM<|tB<|dz (ir M.P.sub [12]) zB)
  (aR<|aJ (aD [(26,110)] aj) zA<|k1 zB)
  aM
def aa3:TF:=λaj=>aE 2 2<|bj (tB<|dz (ir M.P.sub [16]) zB)
  (aR<|aJ (aD [(26,106)] aj) zA<|k1<|aA M.P.tab 10 zB)
 <|bj (tB<|dz (ir M.P.sub [20]) zB)
  (aR<|aJ (aD [(26,114)] aj) zA<|k1 zB)
 <|bj (tB<|dz (ir M.P.sub [23]) zB)
  (aR<|aJ (aD [(26,117)] aj) zA a_)
  aM
def aa4:TF:=λaj=>aE 2 2<|bj (tB<|aA M.P.tab 11 zB)
  (aQ M.P.tab 24 zA<|ai (aj 28) []<|k3 (aA M.P.tab 24 zA) (aA M.P.tab 4 zB)<|aA M.P.tab 10 zB)
 <|aQ M.P.tab 24 zA<|ai (aj 27) []<|k3 (aA M.P.tab 24 zA) (aA M.P.tab 4 zB)<|aA M.P.tab 10 zB
def aa5:TF:=λaj=>aE 2 2<|bj (aZ<|bo (aI .GtE) (aA M.P.tab 25 zA)<|aA M.P.tab 12 zB)
  (aR<|aJ (aD [(26,108)] aj) zA a_)
 <|aR<|aJ (aD [(26,98)] aj) zA a_
def aa6:TF:=λaj=>aE 2 3<|ah (aG 2<|oA (r9 M.bc (aA M.P.tab 26 zA) (aA M.P.tab 13 zB)<|aV dm a_)<|aV dm<|k1<|aV df<|k2 (aA M.P.tab 24 zA)<|aA M.P.tab 25 zA)
<|oN M.bc (aA M.P.tab 26 zA) (aA M.P.tab 13 zB)<|rG (aZ<|bo (aI .Is) (aA M.P.tab 12 zB)<|cF .non) zC<|fK zC (dD<|dz fh<|aA M.P.tab 12 zB) je
def aa7:TF:=λaj=>aE 2 3<|ah (dM (nK<|r9 M.bc (aA M.P.tab 26 zA) (aA M.P.tab 13 zB)<|aV dm a_) (setG 2)
 <|aR<|aJ (aD [(26,106)] aj) zA<|k1<|oI zC zO)
<|oN M.bc (aA M.P.tab 26 zA) (aA M.P.tab 13 zB)<|aV dm a_
def aa8:TF:=λaj=>aE 1 1<|aR<|ai (aj 0) []<|k1 zI
def aa9:TF:=λaj=>aE 3 6<|ah (aG 3<|ai (aj 30) []<|k2 (aA M.P.tab 24 zA)<|aA M.P.tab 6 zB)
<|ah (aG 4<|ai (aj 30) []<|k2 (aA M.P.tab 24 zA)<|aA M.P.tab 7 zB)
<|ah (aG 5<|rG (aZ<|bo (aI .Is) (vF 4)<|cF .non) (cF .non)<|ai (aj 31) []<|k1<|vF 4)
<|bj (j9 (aZ<|bo (aI .Is) zD<|cF .non)<|aZ<|bo (aI .Is) (vF 5)<|cF .non)
  (gW M.bc (aA M.P.tab 28 zA)<|aV df<|k2 (aA M.P.tab 23 zA) zC)
 <|oN M.bc (aA M.P.tab 27 zA) zD<|oA (r9 M.bc (aA M.P.tab 27 zA) zD zO)<|vF 5
abbrev Rr(aj:Nat->Fn):FS:=aR<|aJ (aD [(26,106)] aj) zA<|k1<|oA (oA zB<|cS [32])<|aV strN<|k1<|As M.bc (aA M.P.tab 27 zA) zB
def aa_:TF:=λaj=>aE 1 2<|dM (nK<|Iw M.bc<|aA M.P.tab 27 zA) (setG 1)
 <|Rr aj
def aba:TF:=λaj=>aE 3 3<|ah (aQ M.P.tab 31 zA zB)
<|aQ M.P.tab 3 zA zC
def abb:TF:=λaj=>aE 1 1 cj
def abd:TF:=λaj=>aE 2 2<|ah (bj (eM<|tB<|oG Lr (aA M.P.tab 31 zA)<|k1 zB)
  (aC<|cF<|.bl Zb)
  aM)
<|ah (aQ M.P.tab 31 zA<|fK (aA M.P.tab 31 zA) (dD<|aV bG<|k1 zB) je)
<|aC<|cF<|.bl O
def abe:TF:=λaj=>aE 2 2<|bj (eM<|tB<|aJ (aD [(27,120)] aj) zA<|k1 zB)
  (aR<|aJ (aD [(27,119)] aj) zA a_)
  aM
def abf:TF:=λaj=>aE 2 3<|ah (aG 2<|ai (aj 4) []<|k2 (aA M.P.tab 31 zA) zB)
<|ah (aQ M.P.tab 31 zA<|fK (aA M.P.tab 31 zA) (dD<|aV bG<|k1 zC) je)
<|aC zC
def abg:TF:=λaj=>aE 2 4<|ah (aR<|aJ (aD [(27,121)] aj) zA<|k1 zB)
<|ah (aG 2<|oG Ci (aA M.P.tab 31 zA)<|k1 zB)
<|ah (bj (aZ<|oE zC<|dz fh zI)
  (aR<|aJ (aD [(27,119)] aj) zA a_)
  aM)
<|ah (aG 3<|fK (aA M.P.tab 31 zA) je<|dD zC)
<|ah (aQ M.P.tab 31 zA<|fK (aA M.P.tab 31 zA) (dD<|oA zC zI) je)
<|aC zD
def abh:TF:=λaj=>aE 3 3<|ah cj
 cj
end K64
namespace K64
open D
variable(n:Nat)
section
variable{s s' s1 s2:S}
def qJ{a:Type}{l:List a}(h:j<Hq l):atT l (j:Int)=l[j]?:=by
 unfold atT;rw[b0<|by lia,b0<|by lia];rfl
def abi{c m:Nat}(h:fl s=.ok (ts,s'))(hl:Hq ts=m):dR c m fl s=.ok (.obj c ts,s'):=by
 unfold dR;rw[h];exact b0 hl
def az(h:a s=.ok (t,s1))(b:fl s1=.ok (ts,s2)):ba a fl s=.ok (t::ts,s2):=by
 unfold ba;rw[h];show Res.bind (fl s1) _=_;rw[b];rfl
def eS(h:a s=.ok (t,s')):aG i a s=.ok (.nx,iT s' i<|.val t):=by unfold aG;rw[h];rfl
end
def sj(a b:B1):aI .Eq (.str a) (.str b)=U (.bl<|decide<|a=b):=J
def AQ(a b:Int):aI .Gt (.int a) (.int b)=U (.bl<|decide<|b<a):=J
def ê(a b:Int):aI .Lt (.int a) (.int b)=U (.bl<|decide<|a<b):=J
theorem k8:∀{ts:FR},(∀t∈ts,∃b1 b2,g t b=U b1/\e ⟨b1,m⟩=.ok (f t,⟨b2,m⟩))->bA g eZ e b ts m=.ok (ts.map f,m)
 |[],_=>J
 |t::ts,h=>by
  obtain⟨b1,b2,c,a⟩:=h t<|d_ ..;unfold bA;rw[c];show Res.bind (e _) _=_;rw[a];show Res.bind (bA g eZ e b ts m) _=_;rw[k8 λt ht=>h t<|eG _ ht];rfl
def um{n:Nat}(h:src s=.ok (ts,s1))(z:Hq ts<=1000000)(q:bA g c e (jG n js<|kM js s1.r) ts s1.m=.ok (us,m')):cY src n js g c e s=.ok (us,⟨kM js s1.r,m'⟩):=by
 unfold cY;rw[h];show(if Hq ts<=1000000 then _ else _)=_
 rw[b0 z,q];rfl
def qK(h:fl s=.ok (ts,s')):eO fl s=.ok (.lst ts,s'):=by unfold eO;rw[h];rfl
def cT(h:fl s=.ok (ts,s'))(q:g ts=U t):aV g fl s=.ok (t,s'):=by unfold aV;rw[h];show Res.bind (bu _) _=_;rw[q];rfl
def c_{s s1 s2:S}(h:a s=.ok (t,s1))(c:b s1=.ok (u,s2))(k:g t u=U v):bo g a b s=.ok (v,s2):=by
 unfold bo;rw[h];apply dF;rw[c];apply dF;rw[k];rfl
def cQ(h:g t s.r=U r)(a:b ⟨r,s.m⟩=.ok (.nx,s1))(k:bg g b ts s1=q):bg g b (t::ts) s=q:=by
 unfold bg;rw[h];apply dF;rw[a];exact k
def oO(h:src s=.ok (ts,s1))(k:bg g b ts s1=q):dM src g b s=q:=by unfold dM;rw[h];exact k
def AR(c:s.r[i]?=U (U<|.ol QX))(h:a s=.ok (t,s1))(b:s1.r[i]?=U (U<|.ol ts))(z:Hq ts<1000000):gO i a s=.ok (.nx,iT s1 i<|.ol<|ts++[t]):=by
 unfold gO;rw[c];refine Eq.trans (Ù QX _) ?_;rw[h];apply dF;rw[b];refine Eq.trans (Ù ts _) ?_;rw[gc z];rfl
def W.eq{v:b}(h:W x λa=>a=v):x=.ok v:=by
 obtain⟨a,e,rfl⟩:=h;exact e
def yM{src:FL}(h:W (src s) λp=>W (bg g b p.1 p.2) a):W (dM src g b s) a:=W.bind h
def dS{a n:Nat}{B:FS}{G:T×FX->Prop}(h:Hq ts=a)(k:W (B ⟨ts.map (λt=>sv t)++cK (n-Hq ts) Y,m⟩) λp=>p.1=.nx/\G (.non,p.2.m)):W (aE a n B ts m) G:=by
 unfold aE;rw[b0 h];exact W.bind<|k.mono λp ⟨e,k⟩=>⟨_,by rw[e],k⟩
def vM(h:a s=.ok (t,s))(k:g t=U (.bl b)):D.tB (dz g a) s=.ok (b,s):=by
 unfold D.tB dz;rw[h];refine Eq.trans (dv (λz=>Res.bind z _)<|Ù _ _) ?_;rw[k];rfl
def VE(h:c s=.ok (O,s')):eM c s=.ok (Zb,s'):=by unfold eM;rw[h];rfl
def Wz(h:c s=.ok (Zb,s1))(a:d s1=q):j9 c d s=q:=by unfold j9;rw[h];exact a
def VF(h:fl s=.ok (ts,s'))(k:g (.own s'.m.length::ts) (s'.m++[⟨c,[]⟩])=.ok (.non,m')):kL c g fl s=.ok (.own s'.m.length,⟨s'.r,m'⟩):=by
 unfold kL;rw[h];apply dF;rw[k]
section
variable{A B E:FS}{G:T×FX->Prop}
def bS(e:a s=.ok (t,s))(h:WB B (iT s i<|.val t) G):WB (ah (aG i a) B) s G:=bSt e h
def bN(e:c s=.ok (Zb,s))(h:WB B s G):WB (ah (bj c A aM) B) s G:=bSk e h
def bY(e:c s=.ok (O,s))(h:WB A s G):WB (ah (bj c A B) E) s G:=bHt e h
def bR(e:a s=.ok (t,s))(h:G (t,s.m)):WB (aC a) s G:=NY e h
def sEq{a n:Nat}(h:aB ts=O)(hl:Hq ts=a)(ht:noOwn t=O)(k:WB b ⟨ts.map (λt=>sv t)++cK (n-Hq ts) Y,[]⟩ λp=>p.1=t):aL (aE a n b) ts m=.ok (t,m):=W.eq<|Ý h<|(gR hl k).mono λp c=>⟨by rw[c];exact ht,by rw[c]⟩
def cE(h:fl s=.ok (ts,s))(k:g ts s.m=.ok (t,s.m)):ai g [] fl s=.ok (t,s):=nT h (by rw[b9];exact k)
def mE(h:o s=.ok (.own k,s))(a:s.m[k]?=U ob)(b:g ob.c=U f)(e:fl s=.ok (ts,s))(d:f (.own k::ts) s.m=.ok (t,m')):aJ g o fl s=.ok (t,⟨s.r,m'⟩):=Dh h a b e d
def wS(e:a s=.ok (t,s))(h:W (B<|iT s i<|.val t) d):W (ah (aG i a) B s) d:=sf<|W.of (eS e) ⟨J,h⟩
def JP{a:FG}(h:a t s.r=U r)(k:W (B ⟨r,s.m⟩) λp=>p.1=.nx/\W (bg a B ts p.2) d):W (bg a B (t::ts) s) d:=by
 obtain⟨⟨o,c⟩,e,rfl,p,b,q⟩:=k;exact⟨p,cQ h e b,q⟩
def WA(h:g t b=U b1)(a:e ⟨b1,m⟩=.ok (u,⟨b2,m⟩))(k:bA g eZ e b ts m=.ok (us,m)):bA g eZ e b (t::ts) m=.ok (u::us,m):=by
 rw[bA,h];apply dF;apply dF;show Res.bind _ _=_;rw[a];apply dF;rw[k];rfl
def sy(h:a s=.ok (.bl b,s)):D.tB a s=.ok (b,s):=by unfold D.tB;rw[h];rfl
def eF(h:a s=.ok (.bl b,s)):D.aZ a s=.ok (b,s):=by unfold D.aZ;rw[h];rfl
def F4(h:a s=.ok (t,s))(k:g t=U u):dz g a s=.ok (u,s):=by
 unfold dz;rw[h];apply dF;rw[k];rfl
def kq{d:FT}(h:c s=.ok (x,s))(a:d s=.ok (y,s)):gM c d s=.ok (x&&y,s):=by
 unfold gM;rw[h];cases x with
 |true=>exact a
 |false=>rfl
def AS{d:FT}(h:c s=.ok (x,s))(a:d s=.ok (y,s)):j9 c d s=.ok (x ||y,s):=by
 unfold j9;rw[h];cases x with
 |true=>rfl
 |false=>exact a
def VG(h:fl s=.ok (ts,s1))(k:g ts=U us):EM g fl s=.ok (us,s1):=by
 unfold EM;rw[h];apply dF;rw[k];rfl
def N2(h:a s=.ok (.bl b,s1)):oz a s=.ok (.bl<|!b,s1):=by unfold oz;rw[h];rfl
def zh(d:a s=.ok (t,s))(hl:lo s=.ok (x,s))(c:b s=.ok (y,s))(h:Ÿ x y t=U u):fK a lo b s=.ok (u,s):=by
 unfold fK;rw[d];apply dF;dsimp only;rw[hl];apply dF;dsimp only;rw[c];apply dF;dsimp only;rw[h];rfl
def Rt(h:a s=.ok (t,s))(k:Yq t=U ts):nK a s=.ok (ts,s):=by
 unfold nK;rw[h];apply dF;rw[k];rfl
def Ru{n:Nat}(h:src s=.ok (ts,s))(z:Hq ts<=1000000)(a:kM js s.r=s.r)(q:bA g c e (jG n js s.r) ts s.m=.ok (us,s.m)):eO (cY src n js g c e) s=.ok (.lst us,s):=by
 have:=qK<|um h z<|by rw[a];exact q
 rw[a]at this;exact this
def pE(h:a s=.ok (t,s))(c:b s=.ok (u,s))(k:g t u=U v):bo g a b s=.ok (v,s):=c_ h c k
def Lx{s s1 s2:S}(h:o s=.ok (.str l,s1))(b:fl s1=.ok (ts,s2))(a:f l ts=U t):oG f o fl s=.ok (t,s2):=by
 unfold oG;rw[h];apply dF;apply dF;rw[b];apply dF;rw[a];rfl
end
def VH(h:c s=.ok (Zb,s1)):gM c d s=.ok (Zb,s1):=by
 unfold gM;rw[h];rfl
def VI{B:FS}(d:c s=.ok (O,s1))(h:W (B s1) λq=>q.1=.nx/\W (bW c B k q.2) b):W (bW c B (k+1) s) b:=by
 obtain⟨⟨o,s2⟩,e,rfl,h⟩:=h;obtain⟨a,f,h⟩:=h;refine⟨a,?_,h⟩;show Res.bind _ _=_;rw[d];show Res.bind (B s1) _=_;rw[e];exact f
def abj(b:c s=.ok (Zb,s1))(h:a (.nx,s1)):W (bW c B (k+1) s) a:=by
 refine⟨_,?_,h⟩;show Res.bind _ _=_;rw[b];rfl
end K64
namespace K64
open PySem D L2
variable(n:Nat)
def eKL:List<|(Nat->Fn)->Fn:=[t0,t1,t2,t3,t4,t5,t6,t7,t8,t9,t10,t11,t12,t13,t14,t15,t16,t17,t18,t19,t20,t21,t22,t23,t24,t25,t26,t27,t28,t29,t30,t31,t32,t33,t34,t35,t36,t37,t38,t39,t40,t41,t42,t43,t44,t45,t46,t47,t48,t49,t50,t51,t52,t53,t54,t55,t56,t57,t58,t59,t60,t61,t62,t63,t64,t65,t66,t67,t68,t69,t70,t71,t72,t73,t74,t75,t76,t77,t78,t79,t80,t81,t82,t83,t84,t85,t86,t87,t88,t89,t90,t91,t92,t93,t94,t95,t96,t97,t98,t99,aaT,aaU,aaV,aaW,aaX,aaY,aaZ,aa0,aa1,aa2,aa3,aa4,aa5,aa6,aa7,aa8,aa9,aa_,aba,abb,abd,abe,abf,abg,abh]
def wT:∀i,cN (n+1) i=match eKL[i]? with
  |some f=>f<|cN n
  |none=>noFn
 |0=>J
 |1=>J
 |2=>J
 |3=>J
 |4=>J
 |5=>J
 |6=>J
 |7=>J
 |8=>J
 |9=>J
 |10=>J
 |11=>J
 |12=>J
 |13=>J
 |14=>J
 |15=>J
 |16=>J
 |17=>J
 |18=>J
 |19=>J
 |20=>J
 |21=>J
 |22=>J
 |23=>J
 |24=>J
 |25=>J
 |26=>J
 |27=>J
 |28=>J
 |29=>J
 |30=>J
 |31=>J
 |32=>J
 |33=>J
 |34=>J
 |35=>J
 |36=>J
 |37=>J
 |38=>J
 |39=>J
 |40=>J
 |41=>J
 |42=>J
 |43=>J
 |44=>J
 |45=>J
 |46=>J
 |47=>J
 |48=>J
 |49=>J
 |50=>J
 |51=>J
 |52=>J
 |53=>J
 |54=>J
 |55=>J
 |56=>J
 |57=>J
 |58=>J
 |59=>J
 |60=>J
 |61=>J
 |62=>J
 |63=>J
 |64=>J
 |65=>J
 |66=>J
 |67=>J
 |68=>J
 |69=>J
 |70=>J
 |71=>J
 |72=>J
 |73=>J
 |74=>J
 |75=>J
 |76=>J
 |77=>J
 |78=>J
 |79=>J
 |80=>J
 |81=>J
 |82=>J
 |83=>J
 |84=>J
 |85=>J
 |86=>J
 |87=>J
 |88=>J
 |89=>J
 |90=>J
 |91=>J
 |92=>J
 |93=>J
 |94=>J
 |95=>J
 |96=>J
 |97=>J
 |98=>J
 |99=>J
 |100=>J
 |101=>J
 |102=>J
 |103=>J
 |104=>J
 |105=>J
 |106=>J
 |107=>J
 |108=>J
 |109=>J
 |110=>J
 |111=>J
 |112=>J
 |113=>J
 |114=>J
 |115=>J
 |116=>J
 |117=>J
 |118=>J
 |119=>J
 |120=>J
 |121=>J
 |122=>J
 |123=>J
 |124=>J
 |_+125=>J
def wI(n i:Nat)(h:eKL[i]?=U f):cN (n+1) i=f (cN n):=by rw[wT,h]
def eK:Nat->Nat->Fn
 |0,_=>noFn
 |n+1,i=>match eKL[i]? with
  |some f=>f<|eK n
  |none=>noFn
theorem uo:∀n i,cN n i=eK n i
 |0,_=>J
 |n+1,i=>by rw[wT,xY<|uo n];rfl
end K64
namespace K64
open D PySem L2 PyProof.Rows
variable(n:Nat)
abbrev Tx:=B1
def Fg:Tx:=[48,49,50,51,52,53,54,55,56,57]
def Di(S l:Tx):Bool:=l.all λc=>decide<|c∈S
inductive qL where
 |one (c:Nat) (p:Bool)|emp
def qL.val:qL->T
 |.one c p=>.tup [.bl Zb,.lst [.tup [.str [c],.bl Zb,.str [if p then 43 else 49]]],.bl Zb]
 |.emp=>.tup [.bl O,.lst [],.bl O]
def zj:Tx:=[97,98,99]
inductive RP where
 |row (v:Int)|like (p:qL)
def RP.val:RP->T
 |.row v=>.obj 4 [.int v]
 |.like p=>.obj 6 [p.val]
inductive PC where
 |last|soon (v:Int) (p:qL)|ft (x y:RP)|rp (x:RP)
def PC.val:PC->T
 |.last=>.obj 5 []
 |.soon v p=>.obj 7 [.int v,p.val]
 |.ft x y=>.obj 8 [x.val,y.val]
 |.rp x=>x.val
inductive CD where
 |fin|no (x:PC)|pc (x:PC)
def CD.val:CD->T
 |.fin=>.obj 10 []
 |.no x=>.obj 9 [x.val]
 |.pc x=>x.val
inductive DD where
 |drop|print|done|tell|say (l:Tx)|swap (e:Bool) (p:qL) (l:Tx)|join (v:Int)|pile (a:Tx) (v:Dx)|bring (a:Tx)|go (a:Tx)|add (v w:Int)
def DD.val:DD->T
 |.drop=>.obj 13 []
 |.print=>.obj 14 []
 |.done=>.obj 15 []
 |.tell=>.obj 23 []
 |.say l=>.obj 16 [.str l]
 |.swap e p l=>.obj 17 [p.val,.str l,.bl e]
 |.join v=>.obj 18 [.int v]
 |.pile a none=>.obj 19 [.str a,.non]
 |.pile a<|U v=>.obj 19 [.str a,.int v]
 |.bring a=>.obj 20 [.str a]
 |.go a=>.obj 21 [.str a]
 |.add v w=>.obj 22 [.int v,.int w]
inductive LN where
 |mark (a:Tx)|bare (x:DD)|full (c:CD) (x:DD)
def LN.cond:LN->T
 |.full c _=>c.val
 |_=>.obj 3 []
def LN.ni:LN->T
 |.mark a=>.obj 12 [.str a]
 |.bare x=>x.val
 |.full _ x=>x.val
def LN.val(x:LN):T:=.obj 1 [x.cond,x.ni]
def least:qL->Nat
 |.one _ _=>1
 |.emp=>0
def DD.Fi:DD->Bool
 |.tell=>Zb
 |.swap e p l=>!decide (least p=0)&&(!e ||decide (Hq l<=least p))
 |_=>O
def DD.atEnd:DD->Bool
 |.tell=>O
 |.say _=>O
 |.bring _=>O
 |_=>Zb
def LN.ms:LN->Bool
 |.mark _=>O
 |.bare x=>x.Fi
 |.full .fin x=>x.atEnd
 |.full _ x=>x.Fi
def SC(rest:Tx)(k:Int):FX:=[⟨27,[.val<|.str rest,.val<|.int k]⟩]
def yN(a b:Int):aI .Eq (.int a) (.int b)=U (.bl<|decide<|a=b):=J
def AU:fh (.int 1)=U (.int<|-1):=J
def VJ(h:c s=.ok (y,s')):eM c s=.ok (!y,s'):=by unfold eM;rw[h];rfl
def ë(S:Tx):T->T
 |.str [c]=>.bl<|decide<|c∈S
 |_=>.non
theorem jZ{a:Type}(f:a->Bool):∀l:List a,boolsOf (l.map λw=>T.bl<|f w)=U (l.map f)
 |[]=>J
 |w::l=>by
  show(boolsOf _).map _=_;rw[jZ f l];rfl
abbrev sgT(l:Tx):FR:=l.map λc=>T.str [c]
def JQ(S l:Tx):(sgT l).map (ë S)=l.map λc=>T.bl<|decide<|c∈S:=by rw[j5];rfl
def AV{l signs:Tx}(hl:Hq l<=100000):cN (n+1) 3 [.str l,.str signs] m=.ok (.bl<|Di signs l,m):=by
 rw[wI _ 3 J];refine fS (m':=[]) J (jq (s':=⟨[tl l,tl signs],[]⟩) J (jN<|cT (ts:=[.lst<|(sgT l).map<|ë signs]) (az (qK<|um (ts:=sgT l) (s1:=⟨[tl l,tl signs],[]⟩) J (by rw[bQ];exact cJ hl<|by decide)<|k8 λt ht=>?_) J) ?_) J) J
 .obtain⟨c,a,rfl⟩:=iC.mp ht
  exact⟨[Y,tl [c],tl signs],[Y,tl [c],tl signs],J,J⟩
 .rw[JQ]
  simp only[MK,xT,jZ,Option.map_some,Gv];rfl
end K64
namespace K64
open D
variable(n:Nat){m:List _root_.D.Ob}
def abk(a b:B1):aI .NotEq (.str a) (.str b)=U (.bl<|!decide (a=b)):=J
def ì(h:noOwn t=O):aB [t]=O:=by
 show(noOwn t&&O)=O;rw[h];rfl
def j0(p:qL):noOwn p.val=O:=by cases p<;>rfl
section
variable{m:FX}
def JR:cN (n+2) 16 [p.val] m=.ok (.int (least p:Nat),m):=by
 cases p with
 |one c b=>cases b<;>kernel_rfl
 |emp=>kernel_rfl
def empty_eq:cN (n+3) 15 [p.val] m=.ok (.bl<|decide<|least p=0,m):=by
 cases p with
 |one c b=>cases b<;>kernel_rfl
 |emp=>kernel_rfl
def abl(a b:Int):aI .LtE (.int a) (.int b)=U (.bl<|decide<|a<=b):=J
def N3:cN (n+4) 56 [(DD.swap e p l).val] m=.ok (.bl (DD.swap e p l).Fi,m):=by
 rw[wI _ 56 J];refine sEq (by show((noOwn p.val&&(O&&(O&&O)))&&O)=O;rw[j0];rfl) J J ?_
 show WB _ ⟨[sv _],[]⟩ _;have a:D.tB (ai _ []<|k1<|aA M.P.tab 4 zA) _=.ok (decide _,⟨[sv (DD.swap e p l).val],[]⟩):=sy<|cE J<|empty_eq n;by_cases h:least p=0
 .refine bY (by rw[a,b7 h])<|bR J ?_
  show _=T.bl (!decide _&&_);rw[b7 h];rfl
 .refine bN (by rw[a,cq h])<|bR (t:=.bl<|!e ||decide (Hq l<=least p)) ?_ ?_
  .cases e with
   |false=>rfl
   |true=>
    refine(pE J (cE J<|JR _)<|(abl ..).trans ?_:bo _ (aV bG<|k1<|aA M.P.tab 10 zA) (ai _ []<|k1<|aA M.P.tab 4 zA) ⟨[sv (DD.swap O p l).val],[]⟩=_);congr 2
    lia
  .show _=T.bl (!decide _&&_)
   rw[cq h];rfl
end
def JS(x:RP):noOwn x.val=O:=by
 cases x with
 |row v=>rfl
 |like p=>show(noOwn p.val&&O)=O;rw[j0];rfl
def Rv(x:PC):noOwn x.val=O:=by
 cases x with
 |last=>rfl
 |soon v p=>show(O&&(noOwn p.val&&O))=O;rw[j0];rfl
 |ft x y=>show(noOwn x.val&&(noOwn y.val&&O))=O;rw[JS,JS];rfl
 |rp x=>exact JS x
def JT(x:CD):noOwn x.val=O:=by
 cases x with
 |fin=>rfl
 |no x=>show(noOwn x.val&&O)=O;rw[Rv];rfl
 |pc x=>exact Rv x
def Dj(x:DD):noOwn x.val=O:=by
 cases x with
 |swap e p l=>show(noOwn p.val&&(O&&(O&&O)))=O;rw[j0];rfl
 |pile a v=>cases v<;>rfl
 |_=>rfl
def í(x:LN):noOwn x.cond=O:=by
 cases x with
 |full c d=>exact JT c
 |_=>rfl
def î(x:LN):noOwn x.ni=O:=by
 cases x with
 |mark a=>rfl
 |bare d=>exact Dj d
 |full c d=>exact Dj d
def Rx(x:LN):noOwn x.val=O:=by
 show(noOwn x.cond&&(noOwn x.ni&&O))=O;rw[í,î];rfl
def no2(h:noOwn t=O)(a:noOwn u=O):aB [t,u]=O:=by
 show(noOwn t&&(noOwn u&&O))=O;rw[h,a];rfl
def JU(x:PC):ir M.P.sub [10] x.val=U (.bl Zb):=by
 cases x with
 |rp x=>cases x<;>rfl
 |_=>rfl
abbrev s2(a b:T):S:=⟨[sv a,sv b],[]⟩
def JV{x:DD}(c:noOwn b=O)(h:ir M.P.sub [10] b=U (.bl Zb)):cN (n+5) 55 [b,x.val] m=.ok (.bl x.Fi,m):=by
 rw[wI _ 55 J];refine sEq (no2 c<|Dj x) J J<|bN (sy<|F4 J h) ?_;cases x with
 |swap e p l=>exact bY J<|bR (cE J<|N3 n) J
 |pile a v=>cases v<;>exact bN J<|bR J J
 |_=>exact bN J<|bR J J
def VL{x:DD}:cN (n+5) 55 [CD.fin.val,x.val] m=.ok (.bl x.atEnd,m):=by
 rw[wI _ 55 J];refine sEq (no2 J<|Dj x) J J<|bY J ?_;cases x with
 |pile a v=>cases v<;>exact bR J J
 |_=>exact bR J J
def ï{x:LN}:cN (n+5) 55 [x.cond,x.ni] m=.ok (.bl x.ms,m):=by
 cases x with
 |mark a=>
  rw[wI _ 55 J];exact sEq J J J<|bN J<|bN J<|bR J J
 |bare d=>exact JV n J J
 |full c d=>
  cases c with
  |fin=>exact VL n
  |no y=>exact JV n (JT<|.no y) J
  |pc y=>exact JV n (JT<|.pc y)<|JU y
def N4:cN (n+1) 118 [.own 0,.str row,.int k] [⟨27,[]⟩]=.ok (.non,SC row k):=by
 rfl
def Rd(r:Tx)(l:LN):Prop:=(∀n k,cN (n+11) 43 [.own 0] (SC r k)=.ok (l.val,SC [] k))/\l.ms=O
def N5(H:Rd row x):cN (n+12) 42 [.str row,.int k] m=.ok (x.val,m):=by
 obtain⟨h,b⟩:=H;rw[wI _ 42 J];have c:aG 2 (kL 27 (cN (n+11) 118)<|k2 zA zB) ⟨[tl row,px k,Y,Y],[]⟩=.ok _:=eS<|VF (s':=⟨[sv _,sv _,Y,Y],[]⟩) J<|N4 _;have a:j9 (D.aZ<|bo _ (aA M.P.tab 31 zC)<|cS []) (eM<|D.tB<|ai (cN (n+11) 55) []<|k2 (aA M.P.tab 1 zD)<|aA M.P.tab 2 zD) _=.ok (!decide ([]=[]) || !x.ms,⟨[tl row,px k,sv<|.own 0,sv x.val],SC [] k⟩):=AS (eF<|pE J J<|abk ..)<|VJ<|sy<|cE J<|ï _;rw[b]at a;exact fS J (jq J (seq1 c<|seq1 (eS<|nT J<|h n k)<|seq1 (se a J)<|jN J) J)<|Rx x
end K64
namespace K64
open D PySem L2 PyProof.Rows
variable(n:Nat)
set_option maxRecDepth 1000000
def JW:Tx:=[49,50,51,52,53]
def qM:List Tx:=[[],[120],[97,98],[99,32,97],[98]]
abbrev JX:Tx:=[109,97,114,107,32,109]
def JY:List<|Tx×CD:=[([101,110,100,58,32],.fin),([108,97,115,116,58,32],.pc .last),([47,94,36,47,58,32],.pc<|.rp<|.like .emp),([110,111,116,32,108,97,115,116,58,32],.no .last)]++((JW.map λ(d:Nat)=>([114,111,119,32,d,58,32],CD.pc<|.rp<|.row<|kG d-48))++zj.flatMap λa=>[([47,a,47,58,32],.pc<|.rp<|.like<|.one a Zb),([110,111,116,32,47,a,47,58,32],.no<|.rp<|.like<|.one a Zb),([115,111,111,110,32,49,32,47,a,47,58,32],.pc<|.soon 1<|.one a Zb)]++((zj.map λb=>([102,114,111,109,32,47,a,47,32,116,111,32,47,b,47,58,32],CD.pc<|.ft (.like<|.one a Zb)<|.like<|.one b Zb))++JW.flatMap λ(d:Nat)=>[([102,114,111,109,32,114,111,119,32,d,32,116,111,32,47,a,47,58,32],.pc<|.ft (.row<|kG d-48)<|.like<|.one a Zb),([102,114,111,109,32,47,a,47,32,116,111,32,114,111,119,32,d,58,32],.pc<|.ft (.like<|.one a Zb)<|.row<|kG d-48)]))
def AW:List<|Tx×DD:=[([115,97,121,32,34,34],.say []),([98,114,105,110,103,32,115],.bring [115]),([98,114,105,110,103,32,116],.bring [116]),([115,97,121,32,34,97,98,34],.say [97,98]),([116,101,108,108],.tell)]
def vN:List<|Tx×DD:=[([100,114,111,112],.drop),([112,114,105,110,116],.print),([100,111,110,101],.done),([106,111,105,110,32,50],.join 2),([106,111,105,110,32,51],.join 3),([112,105,108,101,32,115],.pile [115] Y),([112,105,108,101,32,115,32,50],.pile [115]<|U 2),([98,114,105,110,103,32,115],.bring [115]),([112,105,108,101,32,116,32,49],.pile [116]<|U 1),([98,114,105,110,103,32,116],.bring [116]),([97,100,100,32,49,32,50],.add 1 2),([103,111,32,109],.go [109])]++((qM.map λw=>([115,97,121,32,34]++(w++[34]),DD.say w))++zj.flatMap λa=>([115,119,97,112,32,47,a,43,47,32,34,34],.swap Zb (.one a O) [])::qM.flatMap λw=>[([115,119,97,112,32,47,a,47,32,34]++(w++[34]),.swap Zb (.one a Zb) w),([115,119,97,112,32,101,118,101,114,121,32,47,a,47,32,34]++(w.take 1++[34]),.swap O (.one a Zb)<|w.take 1)])
section
variable(nn:Nat)(k:Int)(a:Fn)
abbrev lnY:Fn:=t43 λi=>if i=47 then a else eK (nn+10) i
def N6:((vN++AW).map λp=>eK (nn+10) 47 [.own 0]<|SC p.1 k)=(vN++AW).map λp=>.ok (p.2.val,SC [] k):=by kernel_rfl
def JZ:List<|Tx×LN:=(JX,.mark [109])::vN.map λq=>(q.1,.bare q.2)
def N7:(JZ.map λp=>eK (nn+11) 43 [.own 0]<|SC p.1 k)=JZ.map λp=>.ok (p.2.val,SC [] k):=by kernel_rfl
def N8:B1:=[4,5,6,7,8,9,11,12,13,14,17,18]
abbrev eY(v:Nat->Nat)(j:Nat):Prop:=(JY.map λp=>lnY nn a [.own 0]<|SC (p.1++(cU j).map v) k)=JY.map λp=>aE 2 2 (aC<|dR 1 2<|k2 zB<|ai a []<|k1 zA) [.own 0,p.2.val]<|SC ((cU j).map v) k
def gi(v:Nat->Nat):eY nn k a v 4/\eY nn k a v 5/\eY nn k a v 6:=by refine⟨?_,?_,?_⟩<;>kernel_rfl
def Kx(v:Nat->Nat):eY nn k a v 7/\eY nn k a v 8/\eY nn k a v 9:=by refine⟨?_,?_,?_⟩<;>kernel_rfl
def Lm(v:Nat->Nat):eY nn k a v 11/\eY nn k a v 12/\eY nn k a v 13:=by refine⟨?_,?_,?_⟩<;>kernel_rfl
def Lp(v:Nat->Nat):eY nn k a v 14/\eY nn k a v 17/\eY nn k a v 18:=by refine⟨?_,?_,?_⟩<;>kernel_rfl
def N9(v:Nat->Nat):∀j∈N8,eY nn k a v j:=λj h=>by
 unfold N8 at h;simp only[bM,kE,hQ]at h;have x:=gi nn k a v;have y:=Kx nn k a v;have z:=Lm nn k a v;have w:=Lp nn k a v;rcases h with rfl|rfl|rfl|rfl|rfl|rfl|rfl|rfl|rfl|rfl|rfl|rfl
 .exact x.1
 .exact x.2.1
 .exact x.2.2
 .exact y.1
 .exact y.2.1
 .exact y.2.2
 .exact z.1
 .exact z.2.1
 .exact z.2.2
 .exact w.1
 .exact w.2.1
 .exact w.2.2
end
def VM:lnY n (eK (n+10) 47)=eK (n+11) 43:=dv t43<|xY λi=>by
 split
 .rename_i h
  rw[h]
 .rfl
def N_(h:q∈vN++AW):eK (n+10) 47 [.own 0] (SC q.1 k)=.ok (q.2.val,SC [] k):=GD.mp (N6 n k) q h
def abm:∀D:Tx,(cU D.length).map (λi=>D.getD i 0)=D:=λD=>List.ext_getElem (by simp) λi h _=>by simp at h;simp[h]
def Dk(h:q∈JZ)(a:q.2.ms=O):Rd q.1 q.2:=⟨λn k=>by
 rw[uo];exact GD.mp (N7 n k) q h,a⟩
def vO(a:p∈JY)(h:q∈vN++AW)(hl:Hq q.1∈N8)(b:(LN.full p.2 q.2).ms=O):Rd (p.1++q.1)<|.full p.2 q.2:=⟨λn k=>by
 rw[uo,<- VM]
 have:=GD.mp (N9 n k (eK (n+10) 47) (λi=>q.1.getD i 0) _ hl) p a
 rw[abm]at this;refine this.trans<|jq J (jN<|abi (az J<|az (nT J<|N_ n h) J) J) J,b⟩
end K64
namespace K64
open D
variable(n:Nat)
abbrev af(xs:List Tx):FR:=xs.map T.str
abbrev aN(xs:List LN):FR:=xs.map LN.val
def okN{A:FS}(h:ct s=.ok (Zb,s)):bj ct A aM s=.ok (.nx,s):=se h J
theorem yO(n:Nat):∀(ps:List<|Tx×LN)(j:Nat)(done:List LN)(u v:Option C),(∀q∈ps,Rd q.1 q.2)->j+Hq ps<=25->Hq done<j->∃b a,bg (bw [2,3]) (å<|cN<|n+12) (eU (j:Nat)<|af<|ps.map ma) ⟨[R,U<|.ol<|aN done,u,v],[]⟩=.ok (.nx,⟨[R,U<|.ol<|aN<|done++ps.map ot,b,a],[]⟩)
 |[],j,done,u,v,_,_,_=>⟨u,v,by rw[zq,zq,b9];rfl⟩
 |(r,l)::ps,j,done,u,v,h,f,hd=>by
  rw[dU]at f;have g:D.aZ (bo _ zC<|cI 24) ⟨[R,U _,px j,sv _],[]⟩=.ok (Zb,⟨[R,U<|.ol<|aN done,px j,tl r],[]⟩):=eF<|pE J J<|(AQ ..).trans<|by rw[cq<|by lia]
  have c:(aN done).length<1000000:=by rw[bQ];lia
  obtain⟨b,a,d⟩:=yO n ps (j+1) (done++[l]) (px j) _ (λx e=>h x<|eG _ e) (by lia) (by rw[bU,h_];lia)
  refine⟨b,a,cQ J (seq1 (okN g)<|AR J (cE J<|N5 n<|h _<|d_ ..) J c) ?_⟩;rw[fG,show aN _=aN done++[l.val] by simp]at d
  exact d
theorem c8:∀(a:List LN),aB (aN a)=O
 |[]=>J
 |x::a=>by
  show(noOwn x.val&&aB _)=O;rw[Rx,c8 a];rfl
theorem aY:∀(l:List Tx),aB (af l)=O
 |[]=>J
 |x::a=>by
  show(O&&aB _)=O;rw[aY a];rfl
def J0(h:∀q∈ps,Rd q.1 q.2)(hl:Hq ps<=24):cN (n+13) 58 [.lst<|af<|ps.map ma] m=.ok (.lst<|aN<|ps.map ot,m):=by
 rw[wI _ 58 J];obtain⟨u,v,a⟩:=yO n ps 1 [] Y Y h (by lia) (by decide)
 exact fS (ì<|aY _) (jq J (seq1 J<|seq1 a J) J)<|c8 _
def LN.name:LN->Option Tx
 |.mark a=>U a
 |_=>Y
def DD.i_:DD->Option Tx
 |.go a=>U a
 |_=>Y
def LN.i_:LN->Option Tx
 |.mark _=>Y
 |.bare x=>x.i_
 |.full _ x=>x.i_
def J1(x:LN):ir M.P.sub [12] x.ni=U (.bl x.name.isSome):=by
 have h:∀d:DD,ir M.P.sub [12] d.val=U _:=λd=>by
  cases d with
  |pile a v=>cases v<;>rfl
  |_=>rfl
 cases x with
 |mark a=>rfl
 |bare d=>exact h d
 |full c d=>exact h d
def abn(x:LN):ir M.P.sub [21] x.ni=U (.bl x.i_.isSome):=by
 have h:∀d:DD,ir M.P.sub [21] d.val=U (.bl d.i_.isSome):=λd=>by
  cases d with
  |pile a v=>cases v<;>rfl
  |_=>rfl
 cases x with
 |mark a=>rfl
 |bare d=>exact h d
 |full c d=>exact h d
abbrev pj(l:List Tx):List Ky:=l.map Ky.s
abbrev qN(l:List Tx):FR:=l.map λ_=>T.bl O
def AX:(Ky.s a∈pj l) ↔ a∈l:=by
 constructor
 .intro h
  obtain⟨b,d,c⟩:=iC.mp h;cases c;exact d
 .exact λh=>iC.mpr ⟨a,h,J⟩
def names(ls:List LN):List Tx:=ls.filterMap LN.name
abbrev sM(R:Option C)(done:List Tx)(u v:Option C):S:=⟨[R,U<|.od (pj done)<|qN done,u,v],[]⟩
def uq{x:LN}(h:x.name=U a):x=.mark a:=by
 cases x with
 |mark b=>cases h;rfl
 |bare d=>cases h
 |full c d=>cases h
theorem qO:∀(xs:List LN)(j:Nat)(done:List Tx)(u v:Option C),Hq done+Hq xs<=100->(done++names xs).Nodup->∃c b,bg (bw [2,3]) æ (eU (j:Nat)<|aN xs) (sM R done u v)=.ok (.nx,sM R (done++names xs) c b)
 |[],j,done,u,v,_,_=>⟨u,v,by show _=Res.ok (Out.nx,sM R (done++[]) u v);rw[b9];rfl⟩
 |x::xs,j,done,u,v,hl,d=>by
  rw[dU]at hl;have hs:bw [2,3] (.tup [.int j,x.val]) [R,U<|.od (pj done)<|qN done,u,v]=U [R,U _,px j,sv x.val]:=J;have g:D.tB (dz _<|aA M.P.tab 2 zD) (sM R done (px j) _)=.ok (x.name.isSome,sM R done (px j)<|sv x.val):=sy<|F4 J<|J1 x;cases f:x.name with
  |none=>
   rw[f]at g;have en:names _=names xs:=GF f;rw[en]at d ⊢;obtain⟨c,b,e⟩:=qO xs _ done (px j) _ (by lia) d
   exact⟨c,b,cQ hs (se g J) e⟩
  |some a=>
   have ex:=uq f;subst ex;have hd:=λz=>(By.mp d).2.2 a z a (d_ ..) J;have h:D.aZ (Je Zb 1<|aA M.P.tab 9<|aA M.P.tab 2 zD) (sM R done (px j)<|sv (LN.mark a).val)=.ok (decide _,sM R done (px j) _):=J;rw[cq λz=>hd<|AX.mp z]at h;have hk:bx (pj done) (qN done) (.s a) (.bl O)=(pj<|done++[a],qN<|done++[a]):=by
    unfold bx;rw[bt λz=>hd<|AX.mp z];simp[qN]
   have i:Lu 1 (aA M.P.tab 9<|aA M.P.tab 2 zD) (cF<|.bl O) (sM R done (px j)<|sv (LN.mark a).val)=.ok (.nx,sM R (done++[a]) (px j)<|sv (LN.mark a).val):=by
    show Res.bind _ _=_;rw[gc<|by rw[bQ];lia]
    show Res.ok _=_;rw[hk];rfl
   obtain⟨c,b,e⟩:=qO xs _ (done++[a]) (px j) _ (by rw[bU,h_];lia) (by rw[fG];exact d)
   rw[fG]at e;exact⟨c,b,cQ hs (AO g<|seq1 (okN h) i) e⟩
theorem nj:∀l:List Tx,aB (qN l)=O
 |[]=>J
 |a::l=>by show(O&&aB _)=O;rw[nj l];rfl
def J3(hl:Hq xs<=24)(a:(names xs).Nodup):cN (n+1) 59 [.lst<|aN xs] m=.ok (.f_ (pj<|names xs)<|qN<|names xs,m):=by
 rw[wI _ 59 J];obtain⟨u,v,b⟩:=qO xs 1 [] Y Y (by show 0+_<=_;lia) a
 exact fS (ì<|c8 xs) (jq J (seq1 J<|seq1 b J) J)<|nj _
def Fj{x:LN}(h:x.i_=U a):x.ni=.obj 21 [.str a]:=by
 cases x with
 |mark b=>cases h
 |bare d=>cases d<;>first|(cases h;done)|(cases h;rfl)
 |full c d=>cases d<;>first|(cases h;done)|(cases h;rfl)
abbrev sG(R:Option C)(ms:List Tx)(u v:Option C):S:=⟨[R,sv<|.f_ (pj ms)<|qN ms,u,v],[]⟩
theorem Dl:∀(xs:List LN)(j:Nat)(u v:Option C),(∀x∈xs,∀a,x.i_=U a->a∈ms)->∃e d,bg (bw [2,3]) ç (eU (j:Nat)<|aN xs) (sG R ms u v)=.ok (.nx,sG R ms e d)
 |[],j,u,v,_=>⟨u,v,J⟩
 |x::xs,j,u,v,f=>by
  have hs:bw [2,3] (.tup [.int j,x.val]) [R,sv<|.f_ (pj ms)<|qN ms,u,v]=U [R,sv _,px j,sv x.val]:=J;have c:D.tB (dz _<|aA M.P.tab 2 zD) (sG R ms (px j) _)=.ok (x.i_.isSome,sG R ms (px j)<|sv x.val):=sy<|F4 J<|abn x;obtain⟨e,d,h⟩:=Dl xs _ (px j) _ λy i=>f y<|eG _ i;refine⟨e,d,cQ hs (okN ?_) h⟩;cases b:x.i_ with
  |none=>
   rw[b]at c;exact VH c
  |some a=>
   rw[b]at c;have hd:=Fj b;have g:D.aZ (bo (aI .NotIn) (aA M.P.tab 9<|aA M.P.tab 2 zD) zB) (sG R ms (px j)<|sv x.val)=.ok (!decide (Ky.s a∈pj ms),sG R ms (px j)<|sv x.val):=by
    have k:x.val=.obj 1 [x.cond,.obj 21 [.str a]]:=by rw[<- hd];rfl
    rw[k];rfl
   rw[b7<|AX.mpr<|f x (d_ ..) a b]at g;exact kq c g
def Oa(b:∀x∈xs,∀a,x.i_=U a->a∈ms):cN (n+1) 60 [.lst<|aN xs,.f_ (pj ms)<|qN ms] m=.ok (.non,m):=by
 rw[wI _ 60 J];obtain⟨u,v,c⟩:=Dl xs 1 Y Y b;refine fS (by show(aB _&&(aB _&&O))=O;rw[c8,nj];rfl) (yL J c J) J
theorem k9:∀{p q:B1},c∉p->aP c (p++c::q)=p::aP c q
 |[],q,_=>by show aP c (c::q)=_;rw[aP,b0 J]
 |d::p,q,h=>by
  have hd:d≠c:=λe=>h (by rw[e];exact d_ ..)
  show aP c (d::(p++c::q))=_;rw[aP,bt hd,k9 λz=>h<|eG _ z]
def flat(ls:List Tx):Tx:=(ls.map λl=>l++[10]).flatten
theorem qP:∀{ls:List Tx},(∀l∈ls,10∉l)->aP 10 (flat ls)=ls++[[]]
 |[],_=>J
 |a::r,h=>by
  have:flat (a::r)=a++10::flat r:=by show(a++[10])++flat r=_;simp
  rw[this,k9<|h a<|d_ ..,qP λl hl=>h l<|eG _ hl];rfl
def kh(a b:T):df [a,b]=U (.tup [a,b]):=gc (by show 2<=1000;decide)
def AY(a b c:T):df [a,b,c]=U (.tup [a,b,c]):=gc (by show 3<=1000;decide)
def lZ(xs:List a)(x:a):atT (xs++[x]) (-1)=U x:=by
 unfold atT;rw[bt<|by decide,b0<|by rw[bU,h_];lia]
 have:(-1+((xs++[x]).length:Int)).toNat=Hq xs:=by rw[bU,h_];lia
 rw[this];simp
def qQ(xs:List a)(x:a):bJ (xs++[x]) Y (U<|-1)=xs:=by
 unfold bJ iW;dsimp only;have:(-1+((xs++[x]).length:Int)).toNat=Hq xs:=by rw[bU,h_];lia
 rw[this];simp
def VN(h:∀l∈ls,10∉l)(hz:(flat ls).length<=100000):cN (n+1) 1 [.str<|flat ls] m=.ok (.tup [.lst<|af ls,.bl O],m):=by
 rw[wI _ 1 J];have c:splitM (flat ls) [.str [10]]=U (.lst<|af<|ls++[[]]):=by
  show gd _ _=_;rw[gc hz,qP h]
 have b:atT (af<|ls++[[]]) (-1)=U (.str []):=by
  rw[af,gf];exact lZ _ _
 have a:bJ (af<|ls++[[]]) Y (U<|-1)=af ls:=by
  rw[af,gf];exact qQ _ _
 refine sEq J J (no2 (aY ls) J)<|bS (Lx J J c)<|bY (eF<|pE (pE J (F4 J AU) b) J J)<|bR (cT (az (zh J J J<|by show U _=_;rw[a]) J)<|kh ..) J
def Dm(d:∃ps:List (Tx×LN),rs=ps.map ma/\ls=ps.map ot/\∀q∈ps,Rd q.1 q.2)(hl:Hq rs<=24)(e:(names ls).Nodup)(f:∀x∈ls,∀a,x.i_=U a->a∈names ls)(h:∀l∈rs,10∉l)(hz:(flat rs).length<=100000):cN (n+14) 57 [.str<|flat rs] m=.ok (.obj 0 [.lst<|aN ls],m):=by
 rw[wI _ 57 J];obtain⟨ps,rfl,rfl,g⟩:=d
 generalize Ķ:ps.map ma=rs at *
 generalize hls:ps.map ot=ls at *
 rw[<- Ķ,bQ]at hl;have j:Hq ls<=24:=by rw[<- hls,bQ];exact hl
 have i:k1 (oI (ai (cN (n+13) 1) []<|k1 zA) zO) _=.ok ([.lst _],⟨[sv _,Y,Y],[]⟩):=az (pE (cE J<|VN _ h hz) J J) J;have c:aG 1 _ _=.ok (.nx,⟨[sv _,FH<|aN ls,Y],[]⟩):=eS<|cE i<|by rw[<- Ķ,<- hls];exact J0 n g hl
 have s2:aG 2 (ai (cN (n+13) 59) []<|k1 zB) ⟨[tl<|flat rs,sv _,Y],[]⟩=.ok _:=eS<|cE J<|J3 _ j e;have b:aR (ai (cN (n+13) 60) []<|k2 zB zC) ⟨[tl<|flat rs,FH<|aN ls,sv<|.f_ (pj<|names ls)<|qN<|names ls],[]⟩=.ok (.nx,⟨[tl<|flat rs,FH<|aN ls,sv<|.f_ (pj<|names ls)<|qN<|names ls],[]⟩):=by
  have:=cE (s:=⟨[tl<|flat rs,sv _,sv _],[]⟩) (fl:=k2 zB zC) J<|Oa (n+12) f
  unfold aR;rw[this];rfl
 refine fS J (jq J (seq1 c<|seq1 s2<|seq1 b J) J) ?_;show(aB _&&O)=O;rw[c8];rfl
def fd(h:a s=.ok (.int i,s))(b:0<j/\j<1073741824):oD a (cI j) s=.ok (.int<|i/j,s):=c_ h J<|gc b
def md(h:a s=.ok (.int i,s))(b:0<j):oM a (cI j) s=.ok (.int<|i % j,s):=c_ h J<|gc b
def ad(h:b s=.ok (.int j,s)):oA (cI i) b s=.ok (.int<|i+j,s):=c_ J h J
def AZ{l:List b}{n:Nat}(hl:Hq l=n)(e:0<n):∃x∈l,atT l (i % (n:Int))=U x:=by
 have d:0<=i % n:=BG _ (by lia)
 have c:i % n<n:=GS _ (by lia)
 unfold atT;rw[b0 d,b0<|by rw[hl];exact c]
 have a:(i % n).toNat<Hq l:=by lia
 exact⟨l[(i % n).toNat],wX a,dP a⟩
def vP{n:Nat}(hl:Hq ls=n)(d:0<n):∃r∈ls,fL (.lst<|af ls) (.int<|i % (n:Int))=U (.str r):=by
 obtain⟨t,c,b⟩:=AZ (l:=af ls) (by rw[bQ];exact hl) d
 obtain⟨r,a,rfl⟩:=iC.mp c;exact⟨r,a,b⟩
def vQ(i:Int):∃c∈zj,fL (.str zj) (.int<|i % 3)=U (.str [c]):=by
 obtain⟨c,b,a⟩:=AZ (l:=zj) J (by decide)
 exact⟨c,b,by show(atT zj _).map _=_;rw[show atT zj (i % 3)=U c from a];rfl⟩
def Oc(i:Int):∃d∈JW,strN [.int<|1+i % 5]=U (.str [d]):=by
 obtain h|h|h|h|h:i % 5=0\/i % 5=1\/i % 5=2\/i % 5=3\/i % 5=4:=by lia
 .rw[h];exact⟨49,by decide,J⟩
 .rw[h];exact⟨50,by decide,J⟩
 .rw[h];exact⟨51,by decide,J⟩
 .rw[h];exact⟨52,by decide,J⟩
 .rw[h];exact⟨53,by decide,J⟩
def ur(a b d:Nat):List Tx:=[[],[],[114,111,119,32,d,58,32],[108,97,115,116,58,32],[47,a,47,58,32],[110,111,116,32,47,a,47,58,32],[102,114,111,109,32,47,a,47,32,116,111,32,47,b,47,58,32],[102,114,111,109,32,114,111,119,32,d,32,116,111,32,47,b,47,58,32],
 [115,111,111,110,32,49,32,47,a,47,58,32],[47,94,36,47,58,32],[110,111,116,32,108,97,115,116,58,32],[102,114,111,109,32,47,a,47,32,116,111,32,114,111,119,32,d,58,32]]
def IsC(C:Tx):Prop:=∃a∈zj,∃b∈zj,∃d∈JW,C∈ur a b d
def Od(c:Int):∃C,IsC C/\∀m,cN (n+1) 62 [.int c] m=.ok (.str C,m):=by
 obtain⟨a,f,l⟩:=vQ c;obtain⟨b,e,k⟩:=vQ _;obtain⟨d,hd,j⟩:=Oc _;obtain⟨C,g,h⟩:=vP (ls:=ur a b d) (n:=12) J (by decide)
 refine⟨C,⟨a,f,b,e,d,hd,g⟩,λm=>?_⟩;rw[wI _ 62 J];refine sEq J J J<|bS (c_ J (md J<|by decide) l)<|bS (c_ J (md (fd J<|by decide)<|by decide) k)<|bS (cT (az (ad<|md (fd J<|by decide)<|by decide) J) j) ?_
 exact bS J<|bS J<|bS J<|bR (c_ J (md (fd J<|by decide)<|by decide) h) J
def uu(a:Nat)(w:Tx):List Tx:=[[100,114,111,112],[112,114,105,110,116],[100,111,110,101],[115,97,121,32,34]++(w++[34]),[115,119,97,112,32,47,a,47,32,34]++(w++[34]),
 [115,119,97,112,32,101,118,101,114,121,32,47,a,47,32,34]++(w.take 1++[34]),[106,111,105,110,32,50],[106,111,105,110,32,51],[112,105,108,101,32,115],[112,105,108,101,32,115,32,50],
 [98,114,105,110,103,32,115],[112,105,108,101,32,116,32,49],[98,114,105,110,103,32,116],[97,100,100,32,49,32,50],[115,119,97,112,32,47,a,43,47,32,34,34],[100,114,111,112]]
def Wk(D:Tx):Prop:=∃a∈zj,∃w∈qM,D∈uu a w
def Oe(c:Int):∃D,Wk D/\∀m,cN (n+1) 63 [.int c] m=.ok (.str D,m):=by
 obtain⟨a,g,h⟩:=vQ c;obtain⟨w,b,f⟩:=vP (ls:=qM) J (by decide)
 obtain⟨D,d,e⟩:=vP (ls:=uu a w) (n:=16) J (by decide)
 refine⟨D,⟨a,g,w,b,d⟩,λm=>?_⟩;rw[wI _ 63 J];refine sEq J J J<|bS (c_ J (md J<|by decide) h)<|bS (c_ J (md (fd J<|by decide)<|by decide) f) ?_
 refine bS (t:=.lst<|af<|(uu a w).take 5) ?_<|bS (t:=.lst<|af<|(uu a w).take 10) ?_<|bS ?_<|bR (c_ J (md (fd J<|by decide)<|by decide) e) J
 all_goals
  unfold qM at b;simp only[bM,kE,hQ]at b;rcases b with rfl|rfl|rfl|rfl|rfl<;>rfl
def shf:Tx->Bool:=λa=>decide<|a∈([[115],[116]]:List Tx)
def clean(n:Nat)(l:Tx):Bool:=decide (Hq l<=n)&&!decide (10∈l)
def DD.good:DD->Bool
 |.say l=>clean 3 l
 |.swap e p l=>clean 3 l&&decide (least p=1)&&(!e ||clean 1 l)
 |.pile a _=>shf a
 |.bring a=>shf a
 |.go a=>decide<|a=[109]
 |.add v w=>decide (v=1)&&decide (w=2)
 |_=>O
def qL.rJ:qL->Bool
 |.one c _=>decide<|c∈zj
 |.emp=>O
def RP.rJ:RP->Bool
 |.like p=>p.rJ
 |_=>O
def PC.rJ:PC->Bool
 |.soon _ p=>p.rJ
 |.ft x y=>x.rJ&&y.rJ
 |.rp x=>x.rJ
 |_=>O
def CD.rJ:CD->Bool
 |.no x=>x.rJ
 |.pc x=>x.rJ
 |_=>O
def LN.good:LN->Bool
 |.mark a=>decide<|a=[109]
 |.bare x=>x.good
 |.full c x=>c.rJ&&x.good
def VO:Tx:=[103,111,32,109]
def rk(g:Bool)(r:Tx)(l:LN):Bool:=decide (Hq r<=60)&&!decide (10∈r)&&!decide (r=JX)&&(l.good&&l.ms&&l.name.isNone&&(g ||l.i_.isNone))
def RK(g:Bool)(r:Tx):Prop:=∃l,Rd r l/\l.name=Y/\(Hq r<=60/\10∉r)/\l.good=O/\(g=Zb->l.i_=Y)/\r≠JX
def RK.of(h:rk g r l=O)(R:l.ms=O->Rd r l):RK g r:=by
 simp only[rk,cL,w_,zE,du,lx,PY]at h;exact⟨l,R h.2.1.1.2,h.2.1.2,⟨h.1.1.1,h.1.1.2⟩,h.2.1.1.1,λz=>h.2.2.resolve_left<|by rw[z];decide,h.1.2⟩
def VP:List Tx:=[]::JY.tail.map (·.1)
def xT:List Tx:=vN.map (·.1)
def Of:zj.all (λa=>zj.all λb=>JW.all λd=>(ur a b d).all λC=>VP.contains C)=O:=by decide +kernel
def Og:zj.all (λa=>qM.all λw=>(uu a w).all λD=>xT.contains D&&!decide (D=VO))=O:=by decide +kernel
def J4:vN.all (λq=>rk (decide<|q.1=VO) q.1<|.bare q.2)=O:=by decide +kernel
def J5:JY.tail.all (λp=>vN.all λq=>rk (decide<|q.1=VO) (p.1++q.1)<|.full p.2 q.2)=O:=by decide +kernel
def ends:List Tx:=AW.map (·.1)
def Oh:AW.all (λq=>rk Zb ([101,110,100,58,32]++q.1)<|.full .fin q.2)=O:=by decide +kernel
def Dp:∀q∈vN++AW,Hq q.1∈N8:=by decide +kernel
def IsC.mem{C:Tx}(h:IsC C):C∈VP:=by
 obtain⟨a,e,b,c,d,hd,h⟩:=h
 have:=Of
 simp only[fJ]at this;exact zw.mp<|this a e b c d hd C h
def Wk.mem(h:Wk D):D∈xT/\D≠VO:=by
 obtain⟨a,c,w,b,h⟩:=h
 have:=Og
 simp only[fJ,cL]at this;obtain⟨e,d⟩:=this a c w b D h;exact⟨zw.mp e,by simpa using d⟩
def J7{C D:Tx}(a:C∈VP)(hd:D∈xT):RK (decide<|D=VO)<|C++D:=by
 obtain⟨q,h,rfl⟩:=iC.mp hd;rcases bM.mp a with rfl|a
 .exact .of (fJ.mp J4 q h) λz=>Dk (q:=(q.1,.bare _)) (eG _<|iC.mpr ⟨q,h,J⟩) z
 .obtain⟨p,b,rfl⟩:=iC.mp a
  exact .of (fJ.mp (fJ.mp J5 p b) q h)<|vO (List.mem_of_mem_tail b) (rM _ h)<|Dp q<|rM _ h
def VQ(h:E∈ends):RK Zb<|[101,110,100,58,32]++E:=by
 obtain⟨q,a,rfl⟩:=iC.mp h;exact .of (fJ.mp Oh q a)<|vO (d_ ..) (ku _ a)<|Dp q<|ku _ a
theorem uw:∀rs:List Tx,(af rs).all dq=O
 |[]=>J
 |_::rs=>uw rs
theorem any_rows(w:Tx):∀rs:List Tx,((af rs).any λy=>eqT y<|.str w)=decide (w∈rs)
 |[]=>J
 |r::rs=>by
  show(decide _ ||(af rs).any λy=>eqT y _)=_;rw[any_rows w rs];by_cases h:r=w
  .rw[b7 h,h,b7<|d_ ..];rfl
  .rw[cq h]
   exact decide_eq_decide.mpr ⟨eG _,λz=>(bM.mp z).resolve_left λe=>h e.symm⟩
def ð(h:s.r[i]?=U (U<|.ol<|af rs)):D.aZ (Je O i<|cS w) s=.ok (!decide (w∈rs),s):=by
 apply eF;unfold Je Á;rw[h];show C0 O i _ s=_;show Res.bind (bu _) _=_;rw[h];show Res.bind (bu<|Mx _ _) _=_;rw[show Mx _ _=U _ by
  show gd _ _=_;rw[gc ⟨J,uw rs⟩,any_rows]]
 rfl
structure PG(mr k:Bool)(rs:List Tx)(ls:List LN):Prop where
 p:∃ps:List (Tx×LN),rs=ps.map ma/\ls=ps.map ot/\∀q∈ps,Rd q.1 q.2
 n:names ls=if k then[[109]]else[]
 f:∀r∈rs,Hq r<=60/\10∉r
 g:∀x∈ls,x.good=O
 go:∀x∈ls,∀a,x.i_=U a->a=[109]/\mr=O
 i:decide (JX∈rs)=k
section
variable{mr k:Bool}{rs:List Tx}{A:Option C}
theorem PG.ps(P:∃ps:List (Tx×LN),rs=ps.map ma/\ls=ps.map ot/\∀q∈ps,Rd q.1 q.2)(h:Rd r l):∃ps:List (Tx×LN),rs++[r]=ps.map ma/\ls++[l]=ps.map ot/\∀q∈ps,Rd q.1 q.2:=by
 obtain⟨ps,rfl,rfl,b⟩:=P;exact⟨ps++[(r,l)],by rw[gf];rfl,by rw[gf];rfl,λq a=>(eW.mp a).elim (b q) λz=>by rw[dj.mp z];exact h⟩
def PG.add(P:PG mr k rs ls)(h:Rd r l)(d:r≠JX)(c:l.name=Y)(j:Hq r<=60/\10∉r)(e:l.good=O)(m:∀a,l.i_=U a->a=[109]/\mr=O):PG mr k (rs++[r])<|ls++[l] where
 p:=PG.ps P.p h
 n:=by
  show(ls++[l]).filterMap LN.name=_;rw[sI,GF c,List.filterMap_nil,b9];exact P.n
 f:=λx b=>(eW.mp b).elim (P.f x) λz=>by rw[dj.mp z];exact j
 g:=λx b=>(eW.mp b).elim (P.g x) λz=>by rw[dj.mp z];exact e
 go:=λx b=>(eW.mp b).elim (P.go x) λz=>by rw[dj.mp z];exact m
 i:=by
  rw[<- P.i];refine decide_eq_decide.mpr ⟨λz=>(eW.mp z).resolve_right λz=>?_,rM _⟩;exact dy (dj.mp z).symm d
theorem PG.mark(P:PG mr Zb rs ls):PG mr O (rs++[JX])<|ls++[.mark [109]] where
 p:=PG.ps P.p (Dk (q:=(JX,.mark _)) (d_ ..) J)
 n:=by
  show(ls++[LN.mark _]).filterMap LN.name=_;rw[sI,show ls.filterMap LN.name=[]from P.n];rfl
 f:=λx b=>(eW.mp b).elim (P.f x) λz=>by rw[dj.mp z];decide
 g:=λx b=>(eW.mp b).elim (P.g x) λz=>by rw[dj.mp z];rfl
 go:=λx b=>(eW.mp b).elim (P.go x) λz a h=>by rw[dj.mp z]at h;cases h
 i:=b7 (ku _<|dj.mpr J)
def ñ{x:LN}(e:x.good=O)(h:x.i_=U a):a=[109]:=by
 cases x with
 |mark b=>cases h
 |bare d=>cases d<;>first|(cases h;done)|(cases h;exact bh e)
 |full c d=>cases d<;>first|(cases h;done)|(cases h;exact bh (kF.mp e).2)
abbrev sP(A:Option C)(mr:Bool)(rs:List Tx)(x:Option C):S:=⟨[A,sv<|.bl mr,U<|.ol<|af rs,x],[]⟩
def qR(j:Int):D.aZ (oE (oM zD<|cI 13)<|cI j) (sP A mr rs<|px c)=.ok (decide<|c % 13=j,sP A mr rs<|px c):=eF<|pE (md J<|by decide) J<|yN ..
def Fo(P:PG mr k rs ls)(hl:Hq rs<=30)(R:c % 13=5->mr=O):∃r l,VD (cN<|n+1) (sP A mr rs<|px c)=.ok (.nx,sP A mr (rs++[r])<|px c)/\PG mr (k ||decide (c % 13=5)) (rs++[r]) (ls++[l]):=by
 have hz:(af rs).length<1000000:=by rw[bQ];lia
 have Oi:∀{a:FE}{r:Tx},a (sP A mr rs<|px c)=.ok (.str r,sP A mr rs _)->gO 2 a _=.ok (.nx,sP A mr _ _):=λ{a r} h=>by
  have:=AR (i:=2) J h J hz
  rw[this];have e:af (rs++[r])=af rs++[.str r]:=by simp
  show _=Res.ok (Out.nx,(⟨[A,sv _,U _,px c],[]⟩:S));rw[e];rfl
 by_cases hm:c % 13=5/\k=Zb
 .obtain⟨H,rfl⟩:=hm
  refine⟨JX,.mark [109],AO (kq (x:=O) (by rw[qR,b7 H])<|by rw[ð J,P.i];rfl)<|Oi J,?_⟩
  rw[b7 H];exact P.mark
 .have hk:(k ||decide (c % 13=5))=k:=by
   cases k with
   |true=>rfl
   |false=>rw[cq λz=>hm ⟨z,J⟩];rfl
  rw[hk];have v:gM (D.aZ<|oE (oM zD<|cI 13)<|cI 5) (D.aZ<|Je O 2<|cS JX) (sP A mr rs<|px c)=.ok (Zb,sP A mr rs<|px c):=by
   rw[kq (qR 5)<|ð J,P.i]
   cases k with
   |true=>simp
   |false=>rw[cq λz=>hm ⟨z,J⟩];rfl
  obtain⟨C,G,N⟩:=Od n _;obtain⟨B,L,M⟩:=Oe n _;have F:ai _ [] (k1<|oD zD<|cI 13) _=.ok (.str C,sP A mr rs<|px c):=cE (az (fd J<|by decide) J)<|N []
  have I:ai _ [] (k1<|oD zD<|cI 7020) _=.ok (.str B,sP A mr rs<|px c):=cE (az (fd J<|by decide) J)<|M []
  have cat:∀{a b:Tx},(a++b).length<=60->jo .Add (.str a) (.str b)=U _:=λ{a b} h=>gc (by rw[bU]at h;lia)
  have o:gM _ (D.tB zB) _=.ok (decide _&&mr,sP A mr rs<|px c):=kq (qR 6)<|sy J;by_cases h6:c % 13=6/\mr=O
  .obtain⟨l,m,j,d,f,p,g⟩:=J7 G.mem<|show VO∈xT by decide
   refine⟨C++VO,l,se v<|AO (by rw[o,b7 h6.1,h6.2];rfl)<|Oi<|c_ F J<|cat d.1,P.add m g j d f λa h=>⟨ñ f h,h6.2⟩⟩
  have o:gM (D.aZ<|oE (oM zD<|cI 13)<|cI 6) (D.tB zB) (sP A mr rs<|px c)=.ok (Zb,sP A mr rs<|px c):=by
   rw[o]
   congr 2
   cases mr with
   |false=>simp
   |true=>rw[cq λz=>h6 ⟨z,J⟩];rfl
  by_cases h7:c % 13=7
  .obtain⟨E,K,Q⟩:=vP (ls:=ends) J (by decide)
   obtain⟨l,m,j,d,f,p,g⟩:=VQ K;refine⟨[101,110,100,58,32]++E,l,se v<|se o<|AO (by rw[qR,b7 h7])<|Oi<|c_ J (c_ J (md (fd J<|by decide)<|by decide) Q)<|cat d.1,P.add m g j d f λa h=>by rw[p J]at h;cases h⟩
  .obtain⟨u,q⟩:=L.mem
   obtain⟨l,m,j,d,f,p,g⟩:=J7 G.mem u;refine⟨C++B,l,se v<|se o<|se (by rw[qR,cq h7])<|Oi<|c_ F I<|cat d.1,P.add m g j d f λa h=>by rw[p<|cq q]at h;cases h⟩
end
theorem k_{a:Type}(v:a->T)(p:a->Bool):∀{l:List a},(∀x∈l,∃b1 b2 b3,g (v x) b=U b1/\c ⟨b1,m⟩=.ok (p x,⟨b2,m⟩)/\e ⟨b2,m⟩=.ok (v x,⟨b3,m⟩))->bA g c e b (l.map v) m=.ok ((l.filter p).map v,m)
 |[],_=>J
 |x::l,h=>by
  obtain⟨b1,b2,b3,n,k,j⟩:=h x<|d_ ..;rw[gj,bA,n];apply dF;rw[k];apply dF;have d:=k_ v p λy i=>h y<|eG _ i;cases f:p x with
  |true=>
   rw[b0 J,j];apply dF;rw[d,GG f];rfl
  |false=>rw[bt e_,d,GH<|by rw[f];exact e_]
theorem nu:∀l:List Tx,strsOf (af l)=U l
 |[]=>J
 |a::l=>by
  show(strsOf _).map _=_;rw[nu l];rfl
theorem qS:∀l:List Tx,fQ [] l=l.flatten
 |[]=>J
 |[a]=>by simp[fQ]
 |a::b::r=>by
  show a++[]++fQ [] _=_;rw[qS _,b9];rfl
def join_eq(h:Hq l.flatten<=1000000):joinM [] [.lst<|af l]=U (.str l.flatten):=by
 show(strsOf _).bind _=_;rw[nu];show gd _ _=_;rw[gc<|by simpa using h,qS]
abbrev aH(cs:Ee):FR:=cs.map T.int
def Fp(cs:Ee):Bool:=cs.any λc=>decide<|c % 13=5
def ne_nil:∀l:Ee,aI .NotEq (.lst<|aH l) (.lst [])=U (.bl<|!l.isEmpty)
 |[]=>J
 |_::_=>J
theorem Dq:∀cs:Ee,(!(cs.filter λc=>decide<|c % 13=5).isEmpty)=Fp cs
 |[]=>J
 |c::cs=>by
  have a:=Dq cs;unfold Fp at a ⊢;rw[List.filter_cons,rN];cases h:decide (c % 13=5)with
  |true=>rfl
  |false=>rw[sN];exact a
theorem vR:∀cs:Ee,aB (aH cs)=O
 |[]=>J
 |_::cs=>by show(O&&aB _)=O;rw[vR cs];rfl
def nlT:T->T
 |.str l=>.str<|l++[10]
 |t=>t
theorem Dr(n:Nat){A:Option C}:∀(cs:Ee)(k:Bool)(rs:List Tx)(ls:List LN)(x:Option C),PG mr k rs ls->Hq rs+Hq cs<=30->(∀c∈cs,c % 13=5->mr=O)->∃ò a x',bg (setG 3) (VD<|cN<|n+1) (aH cs) (sP A mr rs x)=.ok (.nx,sP A mr ò x')/\PG mr (k ||Fp cs) ò a/\ò.length=Hq rs+Hq cs
 |[],k,rs,ls,x,P,_,_=>⟨rs,ls,x,J,by rw[show Fp []=Zb from J,PZ];exact P,J⟩
 |c::cs,k,rs,ls,x,P,hl,b=>by
  rw[dU]at hl;obtain⟨r,l,e,i⟩:=Fo n P (by lia)<|b c<|d_ ..
  obtain⟨ò,a,x',g,f,h⟩:=Dr n cs _ _ _ _ i (by rw[bU,h_];lia) λd hd=>b d<|eG _ hd
  refine⟨ò,a,x',cQ J e g,?_,by rw[h,bU,h_,dU];lia⟩
  rw[Bool.or_assoc]at f;exact f
theorem qT:∀{rs:List Tx}{k:Nat},(∀r∈rs,Hq r<=k)->(flat rs).length<=Hq rs*(k+1)
 |[],_,_=>dO _
 |r::rs,k,h=>by
  have b:=qT λx a=>h x<|eG _ a
  have:=h r<|d_ ..
  show((r++[10])++flat rs).length<=_;rw[bU,bU,h_,dU]
  lia
def Oj(hl:Hq cs<=30):∃rs ls,PG (Fp cs) (Fp cs) rs ls/\rs.length=Hq cs/\∀m,cN (n+2) 64 [.lst<|aH cs] m=.ok (.str<|flat rs,m):=by
 obtain⟨rs,ls,x,e,P,hr⟩:=Dr n cs Zb [] [] Y ⟨⟨[],J,J,λ_ h=>nomatch h⟩,J,(λ_ h=>nomatch h),(λ_ h=>nomatch h),(λ_ h=>nomatch h),J⟩ (by show 0+_<=_;lia) λc d h=>Po.mpr ⟨c,d,b7 h⟩
 have hr:=hr.trans<|zl _;refine⟨rs,ls,P,hr,λm=>?_⟩;rw[wI _ 64 J];have g:(flat rs).length<=1000000:=cJ (qT λr h=>(P.f r h).1) (by lia)
 have i:bo (aI .NotEq) (eO<|cY (nK zA) 2 [] (setG 1) (D.aZ<|oE (oM zB<|cI 13)<|cI 5) zB) (aV dm a_) ⟨[FH<|aH cs,Y,Y,Y],[]⟩=.ok (.bl<|Fp cs,⟨[FH<|aH cs,Y,Y,Y],[]⟩):=by
  refine pE (Ru J (by rw[bQ];lia) J<|k_ T.int (λc=>decide<|c % 13=5) λc d=>?_) J ?_
  .exact⟨[Y,sv _],[Y,sv _],[Y,sv _],J,eF<|pE (md J<|by decide) J<|yN ..,J⟩
  .rw[ne_nil]
   exact dv (λb=>U _)<|Dq cs
 refine fS (ì<|vR cs) (jq (s':=⟨[sv _,sv _,sv _,x],[]⟩) J (seq1 (eS i)<|seq1 J<|seq1 (oO J e)<|jN<|Lx J (az (qK<|um J (by rw[bQ];lia) ?_) J)<|join_eq g) J) J
 rw[show af (rs.map λl=>l++[10])=(af rs).map nlT by simp[nlT]]
 refine k8 λt ht=>?_;obtain⟨r,a,rfl⟩:=iC.mp ht;exact⟨[Y,sv _],[Y,sv _],J,c_ J J<|gc<|by have:=(P.f r a).1;show Hq r+1<=_;lia⟩
def PG.read(P:PG k k rs ls)(hl:Hq rs<=24)(n:Nat) :cN (n+14) 57 [.str<|flat rs] m=.ok (.obj 0 [.lst<|aN ls],m):=by
 have c:(flat rs).length<=100000:=cJ (qT λr h=>(P.f r h).1) (by lia)
 refine Dm n P.p hl ?_ (λx b a h=>?_) (λr h=>(P.f r h).2) c
 .rw[P.n]
  cases k<;>decide
 .obtain⟨rfl,hk⟩:=P.go x b a h
  rw[P.n,hk];decide
def last_eq:cN (n+14) 57 [.str [108,97,115,116,58,32,100,114,111,112,10]] m=.ok (.obj 0 [.lst<|aN [.full (.pc .last) .drop]],m):=
 Dm n (rs:=[[108,97,115,116,58,32,100,114,111,112]]) ⟨[([108,97,115,116,58,32]++[100,114,111,112],.full _ .drop)],J,J,λq c=>by rw[dj.mp c];exact vO (p:=([108,97,115,116,58,32],.pc .last)) (q:=([100,114,111,112],.drop)) (eG _<|d_ ..) (rM _<|rM _<|d_ ..) (by decide) J⟩ (by decide) (by decide) (λx b a h=>by rw[dj.mp b]at h;cases h) (by decide) (by decide)
def VR:Tx:=[97,98,99,32,98,49,32]
theorem J8:∀(ts:FR)(A:Option C)(a:Int)(w:Tx)(x:Option C),(∀c∈w,c∈VR)->Hq w+Hq ts<=100->∃g b x',bg (setG 3) è ts ⟨[A,px a,tl w,x],[]⟩=.ok (.nx,⟨[A,px g,tl b,x'],[]⟩)/\(∀c∈b,c∈VR)/\b.length=Hq w+Hq ts
 |[],A,a,w,x,h,_=>⟨a,w,x,J,h,J⟩
 |t::ts,A,a,w,x,h,hl=>by
  rw[dU]at hl;obtain⟨d,k,f⟩:=AZ (l:=VR) J (by decide)
  have f:fL (.str VR) (.int<|a % 7)=U (.str [d]):=by show(atT VR _).map _=_;rw[show atT VR (a % 7)=U d from f];rfl
  obtain⟨g,b,x',e,q1,q2⟩:=J8 ts A _ _ _ (λz hz=>by
   rcases eW.mp hz with hz|hz
   .exact h z hz
   .rw[dj.mp hz];exact k) (by rw[bU,h_];lia)
  refine⟨g,b,x',cQ J (seq1 (eS<|c_ J (c_ J (md J<|by decide) f)<|gc<|by rw[h_];lia)<|eS<|fd J<|by decide) e,q1,?_⟩
  rw[q2,bU,h_,dU];lia
structure TX(k:Nat)(r:Tx):Prop where
 l:Hq r<=k
 n:10∉r
def A0(c:Int):∃w,TX 6 w/\∀m,cN (n+1) 65 [.int c] m=.ok (.str w,m):=by
 obtain⟨b,w,a,e,q1,q2⟩:=J8 (mF 0 (c % 7).toNat) _ _ [] Y (λ_ h=>nomatch h) (by unfold mF;rw[bQ];simp;lia)
 have d:Hq w=(c % 7).toNat:=by rw[q2];unfold mF;rw[bQ];simp
 refine⟨w,⟨by lia,λz=>?_⟩,λm=>?_⟩
 .have:=q1 10 z
  revert this;decide
 .rw[wI _ 65 J]
  exact fS J (jq J (seq1 (eS<|md (fd J<|by decide)<|by decide)<|seq1 J<|seq1 (oO (VG (az (md J<|by decide) J)<|gc<|by lia) e) J) J) J
end K64
namespace K64
variable(n:Nat)
structure HK(α:Type) where
 at_:Nat
 o:List α
 w:List α
section
variable{t:Type}{R R' P:List t}{p q nn st:Nat}
def Wf(n:Nat):Nat->List (HK t)->Prop
 |p,[]=>p<=n
 |p,h::hs=>p<=h.at_/\Wf n (h.at_+Hq h.o) hs
abbrev sl(R:List t)(a b:Nat):List t:=(R.drop a).take<|b-a
def lay(R:List t)(q:Nat):Nat->List (HK t)->List t
 |p,[]=>sl R p q
 |p,h::hs=>sl R p h.at_++(h.w++lay R q (h.at_+Hq h.o) hs)
def Mt(R:List t)(hs:List<|HK t):Prop:=∀h∈hs,sl R h.at_ (h.at_+Hq h.o)=h.o
theorem Wf.le:∀{hs:List<|HK t}{p:Nat},Wf nn p hs->p<=nn
 |[],_,h=>h
 |_::_,_,h=>cJ h.1<|cJ (bH ..) h.2.le
theorem Wf.snoc:∀{hs:List<|HK t}{p:Nat},Wf h.at_ p hs->h.at_+Hq h.o<=nn->Wf nn p (hs++[h])
 |[],_,a,b=>⟨a,b⟩
 |_::_,_,a,b=>⟨a.1,a.2.snoc b⟩
theorem Wf.mono:∀{hs:List<|HK t}{p:Nat},Wf nn p hs->nn<=q->Wf q p hs
 |[],_,a,b=>cJ a b
 |_::_,_,a,b=>⟨a.1,a.2.mono b⟩
theorem yP:∀{hs:List<|HK t}{p:Nat},lay R q p (hs++[h])=lay R h.at_ p hs++(h.w++sl R (h.at_+Hq h.o) q)
 |[],_=>J
 |g::hs,p=>by
  show sl R p g.at_++(g.w++lay R q _ (hs++[h]))=(sl R p g.at_++(g.w++lay R h.at_ _ hs))++_;rw[yP,fG,fG]
def J9(e:a<=b)(d:b<=c):sl R a b++sl R b c=sl R a c:=by
 unfold sl;rw[show c-a=(b-a)+(c-b) by lia,List.take_add,GI,show a+(b-a)=b by lia]
theorem Dt:∀{hs:List<|HK t}{p:Nat},Wf st p hs->st<=q->lay R q p hs=lay R st p hs++sl R st q
 |[],p,a,b=>(J9 a b).symm
 |g::hs,p,a,b=>by
  show sl R p g.at_++(g.w++lay R q _ hs)=(sl R p g.at_++(g.w++lay R st _ hs))++_;rw[Dt a.2 b,fG,fG]
theorem Du(h:Hq R=Hq R'):∀{hs:List<|HK t}{p:Nat},(lay R q p hs).length=(lay R' q p hs).length
 |[],p=>by show(sl R p q).length=(sl R' p q).length;simp[h]
 |g::hs,p=>by
  show(sl R p g.at_++(g.w++lay R q _ hs)).length=(sl R' p g.at_++(g.w++lay R' q _ hs)).length;rw[bU,bU,Du h];simp[h]
theorem Dv{P:t->Prop}(a:∀x∈R,P x):∀{hs:List<|HK t}{p:Nat},(∀h∈hs,∀x∈h.w,P x)->∀x∈lay R q p hs,P x
 |[],p,_,x,h=>a x<|zx<|sJ h
 |g::hs,p,k,x,h=>by
  rcases eW.mp h with h|h
  .exact a x<|zx<|sJ h
  .rcases eW.mp h with h|h
   .exact k g (d_ ..) x h
   .exact Dv a (λh b=>k h<|eG _ b) x h
def bk:Nat->Nat->List (HK t)->List (HK t)
 |_,_,[]=>[]
 |q,p,h::hs=>⟨q+(h.at_-p),h.w,h.o⟩::bk (q+(h.at_-p)+Hq h.w) (h.at_+Hq h.o) hs
def A1{A B:List t}(h:k=Hq A+Hq B):sl (A++(B++C)) A.length k=B:=by
 unfold sl;rw[GJ<|bP _,Bw,uJ,h,show Hq A+Hq B-Hq A=Hq B by lia,GK<|bP _,List.take_length]
def J_(d:a<=b)(c:b<=Hq R):(sl R a b).length=b-a:=by simp;lia
theorem Ry(n:Hq R=nn):∀{hs:List<|HK t}{P:List t}{p q:Nat},Wf nn p hs->Mt R hs->Hq P=q->Wf (P++lay R nn p hs).length q (bk q p hs)/\Mt (P++lay R nn p hs) (bk q p hs)/\lay (P++lay R nn p hs) (P++lay R nn p hs).length q (bk q p hs)=sl R p nn
 |[],P,p,q,a,b,c=>by
  refine⟨by show q<=_;rw[bU];lia,(λ_ h=>nomatch h),?_⟩
  show sl _ q _=_;rw[<- c,bU]
  have:=A1 (C:=[]) (k:=Hq P+(sl R p nn).length) J
  rw[b9]at this;exact this
 |h::hs,P,p,q,a,b,c=>by
  have s:=a.2.le;have e:(sl R p h.at_).length=h.at_-p:=J_ a.1 (by lia)
  have eq:P++lay R nn p (h::hs)=(P++(sl R p h.at_++h.w))++lay R nn (h.at_+Hq h.o) hs:=by
   show P++(sl R p h.at_++(h.w++lay R nn _ hs))=_;rw[fG,fG]
  have hl:(P++(sl R p h.at_++h.w)).length=q+(h.at_-p)+Hq h.w:=by
   rw[bU,bU,c];lia
  obtain⟨j,i,f⟩:=Ry n a.2 (λg d=>b g<|eG _ d) hl;rw[<- eq]at j i f;have r:=b h<|d_ ..;have m:sl (P++lay R nn p (h::hs)) q (q+(h.at_-p))=sl R p h.at_:=by
   rw[<- c];exact A1 (by rw[e])
  have s2:sl (P++lay R nn p (h::hs)) (q+(h.at_-p)) (q+(h.at_-p)+Hq h.w)=h.w:=by
   have:P++lay R nn p (h::hs)=(P++sl R p h.at_)++(h.w++lay R nn (h.at_+Hq h.o) hs):=by
    show P++(sl R p h.at_++(h.w++lay R nn _ hs))=_;rw[fG]
   rw[this,<- show(P++sl R p h.at_).length=q+(h.at_-p) by rw[bU,e,c]]
   exact A1 J
  refine⟨⟨bH ..,j⟩,λg d=>?_,?_⟩
  .rcases bM.mp d with rfl|d
   .exact s2
   .exact i g d
  .show sl _ q _++(h.o++lay _ _ _ _)=_
   have l:=J9 (R:=R) (bH h.at_ h.o.length) s;rw[r]at l;rw[m,f,l,J9 a.1<|by lia]
def Rz(d:a<=c)(b:c<=Hq R):sl (R.take c++X) a c=sl R a c:=by
 unfold sl;rw[GJ<|by rw[kB];lia,GK<|by rw[hU,kB];lia,PF,GL,Bl]
def put[DecidableEq t](R:List t):List (HK t)->Option (List t)
 |[]=>U R
 |h::hs=>(put R hs).bind λX=>if sl X h.at_ (h.at_+Hq h.o)=h.o then U (X.take h.at_++(h.w++X.drop (h.at_+Hq h.o)))else Y
theorem kW[DecidableEq t](c:Hq R=nn):∀{hs:List<|HK t}{p:Nat},Wf nn p hs->Mt R hs->put R hs=U (R.take p++lay R nn p hs)
 |[],p,a,_=>by
  show U R=U (R.take p++(R.drop p).take _);rw[Bv (l:=R.drop p)<|by rw[hU];lia,uL]
 |h::hs,p,a,b=>by
  have j:=a.2.le;have e:=b h<|d_ ..;have i:(R.take<|h.at_+Hq h.o).length=h.at_+Hq h.o:=by rw[kB];lia
  unfold put;rw[kW c a.2 λg d=>b g<|eG _ d];have f:=(Rz (X:=lay R nn (h.at_+Hq h.o) hs) (bH h.at_ h.o.length)<|by lia).trans e
  show(if _ then _ else _)=_
  rw[b0 f,GJ<|by lia,wY<|by lia,GK<|by lia,GL,Bo<|bH ..]
  show U _=U (R.take p++(sl R p h.at_++_));rw[<- fG<|R.take p]
  congr 2
  unfold sl;rw[<- PF]
  conv=>lhs;rw[<- uL p<|R.take h.at_,GL,Bo a.1]
theorem A2[DecidableEq t](e:Hq R=nn):∀{hs:List<|HK t}{p:Nat},Wf nn p hs->¬ Mt R hs->put R hs=Y
 |[],p,a,b=>dy (λ_ h=>nomatch h) b
 |h::hs,p,a,b=>by
  have f:=a.2.le;unfold put;by_cases c:Mt R hs
  .rw[kW e a.2 c]
   refine bt λz=>b λg d=>?_;rcases bM.mp d with rfl|d
   .exact(Rz (bH ..)<|by lia).symm.trans z
   .exact c g d
  .rw[A2 e a.2 c];rfl
end
end K64
namespace K64
open D
variable(n:Nat)
def EO(k L:Nat)(es:Ee):Prop:=∀(i:Nat)(e:Int),es[i]?=U e->e=-1\/((i:Int)+k<=e/\e<=L)
def EO.get(h:EO k L es)(a:p<Hq es):es.getD p 0=-1\/((p:Int)+k<=es.getD p 0/\es.getD p 0<=L):=h p _ (by rw[uK,dP a];rfl)
theorem EO.set{k L p:Nat}(h:EO k L es)(d:(p:Int)+k<=e)(c:e<=L):EO k L<|es.set p e:=λi x b=>by
 by_cases z:p=i
 .subst z
  have:=List.getElem?_set (l:=es) (i:=p) (j:=p) (a:=e)
  rw[this]at b;split at b
  .split at b
   .cases b;exact .inr ⟨d,c⟩
   .cases b
  .exact h p x b
 .rw[e9 z]at b
  exact h i x b
def ó(h:p<Hq l):BX (.lst<|aH l) (.int (p:Nat))=U (.int<|l.getD p 0):=by
 show atT _ p=_;rw[qJ<|by rw[bQ];exact h,eX,uK,dP h];rfl
def ixC(h:p<Hq l):fL (.str l) (.int (p:Nat))=U (.str [l.getD p 0]):=by
 show(atT l p).map _=_;rw[qJ h,uK,dP h];rfl
theorem rep1(t:T):∀n:Nat,(cK n [t]).flatten=cK n t
 |0=>J
 |n+1=>by rw[uI,zp,rep1 t n];rfl
def Ol(h:k<=100001):Io (.lst [.int<|-1]) (.int (k:Nat))=U (aH<|cK k<|-1):=by
 have e:Io (.lst [.int<|-1]) (.int k)=U (cK (k:Int).toNat _).flatten:=gc ⟨by lia,by lia,by show 1*_<=_;lia⟩
 rw[e,xh,rep1,aH,Gx]
abbrev RA(c:Nat)(p:Bool):T:=.tup [.str [c],.bl Zb,.str [if p then 43 else 49]]
def EW(c:Nat)(p:Bool)(row:B1)(b es:Ee)(a v8:Option C):S:=⟨[sv<|RA c p,tl row,FH<|aH b,tl [c],sv<|.bl Zb,sv<|.bl p,U<|.ol<|aH es,a,v8],[]⟩
section
variable{row:B1}
def pk6(a:q<Hq es)(h:b (EW c pl row y es F v8)=.ok (.int (q:Nat),EW c pl row y es F v8)):xU 6 b (EW c pl row y es F v8)=.ok (.int<|es.getD q 0,EW c pl row y es F v8):=by
 show Res.bind _ _=_;rw[h];show Res.bind (bu<|BX _<|.int q) _=_;rw[ó a];rfl
def abo(a:p<Hq es):Lu 6 (vF 7) (vF 8) (EW c pl row y es (px (p:Nat))<|px e)=.ok (.nx,EW c pl row y (es.set p e) (px (p:Nat))<|px e):=by
 show eL 6 _ _ _=_;show Res.bind (bu<|gd (0<=(p:Int)/\(p:Int)<((aH es).length))<|(aH es).set (p:Int).toNat _) _=_;rw[gc ⟨by lia,by rw[bQ];lia⟩]
 show Res.ok (Out.nx,iT _ 6<|.ol<|(es.map T.int).set (p:Int).toNat _)=_;rw[<- List.map_set];rfl
def Dw(he:Hq es=Hq row+1)(d:p<Hq row)(E:EO 1 row.length es)(b:x=-1\/((p:Int)+1<=x/\x<=Hq row)):W (bj (aZ<|bo (aI .Gt) (vF 8)<|xU 6<|vF 7) (Lu 6 (vF 7)<|vF 8) aM<|EW c pl row y es (px (p:Nat))<|px x) λq=>q.1=.nx/\∃a F v8,EO 1 row.length a/\a.length=Hq row+1/\q.2=EW c pl row y a F v8:=by
 refine NZ<|W.of (eF<|c_ J (pk6 (by lia) J)<|AQ _ _) ⟨λh=>?_,λh=>⟨_,J,J,es,_,_,E,he,J⟩⟩
 refine W.of (abo<|by lia) ⟨J,_,_,_,?_,by rw[fF];exact he,J⟩
 have:=E.get (p:=p) (by lia)
 exact E.set (by lia) (by lia)
def Om(hr:Hq row<=100000):E4 [.int<|(Hq row:Int)-1,.int<|-1,.int<|-1]=U ((cU row.length).map λk=>T.int<|((Hq row:Int)-1)-(k:Nat)):=by
 have e:((Hq row:Int)-1+1).toNat=Hq row:=by lia
 show gd _ _=_;rw[gc ⟨J,J,by lia,by lia⟩,e]
def o2r{s s1 s2:S}(h:a s=.ok (t,s1))(c:b s1=.ok (u,s2))(k:g t u=U v):o2 g a b s=.ok (v,s2):=by
 unfold o2;rw[h];apply dF;show Res.bind _ _=_;rw[c];apply dF;show Res.bind _ _=_;rw[k];rfl
def abp{c:FT}(h:c s=.ok (Zb,s1))(k:b s1=q):ZA c a b s=q:=by unfold ZA;rw[h];exact k
def Ka(h:fl s=.ok (ts,s1)):iJ i fl s=.ok (.nx,iT s1 i<|.ol ts):=by unfold iJ;rw[h];rfl
def bOw{G:T×FX->Prop}(h:fl s=.ok (ts,s1))(k:WB B (iT s1 i<|.ol ts) G):WB (ah (iJ i fl) B) s G:=kg<|W.of (Ka h) ⟨J,k⟩
def lh:aB (aH cs)=O:=vR cs
def nU{f:Fn}{P:T->Prop}(h:aB ts=O)(k:W (f ts []) λp=>noOwn p.1=O/\P p.1):∃t,P t/\∀m,aL f ts m=.ok (t,m):=
 let⟨⟨t,_⟩,e,h1,h2⟩:=k
 ⟨t,h2,λ_=>fS h e h1⟩
def vS(l:Hq y=Hq row+1)(B:EO 0 row.length y)(hr:Hq row<=100000):∃t,(∃es,EO 1 row.length es/\es.length=Hq row+1/\t=.lst (aH es))/\∀m,cN (n+2) 23 [RA c pl,.str row,.lst<|aH y] m=.ok (t,m):=by
 rw[wI _ 23 J];have g:cN (n+1) 17 [RA c pl] []=.ok (.bl Zb,[]):=by
  cases pl<;>rfl
 have f:cN (n+1) 18 [RA c pl] []=.ok (.bl pl,[]):=by
  cases pl<;>rfl
 refine nU (by show(O&&(O&&(aB _&&O)))=O;rw[lh];rfl)<|gR J<|bS J<|bS J<|bS (cE J f)<|bOw (abp (sy<|cE J g)<|o2r J J<|by rw[bQ,l,Ol<|by lia])<|kg<|yM<|W.of (a:=((cU row.length).map λk=>T.int<|(Hq row-1)-(k:Nat),EW c pl row y (cK (Hq row+1)<|-1) Y Y)) ?_ ?_
 . show Res.bind (bu<|E4 [.int<|row.length-1,.int _,.int _]) _=_;rw[Om hr];rfl
 refine(ß (I:=λs=>∃es F v8,EO 1 row.length es/\es.length=Hq row+1/\s=EW c pl row y es F v8) (λt ht s o=>?_) ⟨_,_,_,λi e h=>?_,wU,J⟩).mono λq j=>⟨j.1,?_⟩
 .obtain⟨es,F,v8,E,d,rfl⟩:=o
  obtain⟨k,hk,rfl⟩:=iC.mp ht;have hk:=wR.mp hk;obtain⟨p,r⟩:∃p,p=Hq row-1-k:=⟨_,J⟩;rw[show(Hq row-1)-k=(p:Int) by lia]
  have w:=B.get (p:=p+1) (by lia)
  have v:=E.get (p:=p+1) (by lia)
  refine⟨_,J,NZ<|W.of (eF<|c_ (c_ (c_ J J<|ixC<|by lia) J J) J J) ⟨λ_=>?_,λ_=>⟨_,J,J,es,_,_,E,d,J⟩⟩⟩
  refine wS (c_ J J<|ó<|by lia)<|sf<|NZ<|W.of (kq (sy J)<|eF<|c_ (pk6 (by lia) J) J<|AQ _ _) ⟨λ_=>W.of (eS<|pk6 (by lia) J) ⟨J,Dw d (by lia) E<|by lia⟩,λ_=>⟨_,J,J,Dw d (by lia) E<|by lia⟩⟩
 .rw[zo]at h
  split at h
  .cases h;exact .inl J
  .cases h
 .obtain⟨es,F,v8,E,d,e⟩:=j.2
  rw[e];exact NY J ⟨lh,es,E,d,J⟩
end
def pA(n d j:Nat):iW n d (U ((j:Nat):Int))=min j n:=by
 unfold iW;dsimp only;rw[bt<|by lia,xh]
def qU(l:List a)(j:Nat):bJ l Y (U ((j:Nat):Int))=l.take j:=by
 unfold bJ;have c:iW l.length 0 Y=0:=J;have b:=pA l.length l.length j;rw[c,zu,PH]
 lia
def vU(l:List a)(i j:Nat):bJ l (U ((i:Nat):Int)) (U ((j:Nat):Int))=sl l i j:=by
 unfold bJ sl;rw[pA,pA];by_cases h:i<=Hq l
 .rw[Bo h,PH,hU]
  lia
 .rw[wY<|by lia,wY<|by lia];simp
def gH(l:List a)(i:Nat):bJ l (U ((i:Nat):Int)) Y=l.drop i:=by
 unfold bJ;rw[pA];by_cases h:i<=Hq l
 .rw[Bo h,Bv<|by rw[hU];exact bP _]
 .rw[wY<|by lia,wY<|by lia];simp
def ô{c:FG}{b B:FS}{G:T×FX->Prop}{I:S->Prop}(h:src s=.ok (ts,s1))(f:I s1)(st:∀t∈ts,∀s,I s->∃r,c t s.r=U r/\W (b ⟨r,s.m⟩) λp=>(p.1=.nx/\I p.2)\/∃t,p.1=.rt t/\G (t,p.2.m))(k:∀s,I s->WB B s G):WB (ah (dM src c b) B) s G:=by
 have go:∀{ts:FR}{s:S},(∀t∈ts,∀s,I s->∃r,c t s.r=U r/\W (b ⟨r,s.m⟩) λp=>(p.1=.nx/\I p.2)\/∃t,p.1=.rt t/\G (t,p.2.m))->I s->W (bg c b ts s) λp=>(p.1=.nx/\I p.2)\/∃t,p.1=.rt t/\G (t,p.2.m):=λ{ts}=>by
  induction ts with
  |nil=>exact λ_ h=>⟨_,J,.inl ⟨J,h⟩⟩
  |cons t ts d=>
   intro s k h;obtain⟨r,i,⟨o,s1⟩,g,a⟩:=k t (d_ ..) s h;rw[bg,i];refine W.bind<|W.of J ?_;show W _ _;rw[g];rcases a with⟨rfl,a⟩|⟨u,rfl,a⟩
   .exact d (λt ht=>k t<|eG _ ht) a
   .exact⟨_,J,.inr ⟨u,J,a⟩⟩
 obtain⟨⟨o,s2⟩,e,q⟩:=go st f;show W (Res.bind _ _) _;rw[oO h e];rcases q with⟨rfl,q⟩|⟨u,rfl,q⟩
 .exact k s2 q
 .exact⟨_,J,u,J,q⟩
theorem EO.take(h:EO k L es):EO k L<|es.take j:=λi e a=>by
 rw[List.getElem?_take]at a;split at a
 .exact h i e a
 .cases a
def EsT(p:qL)(row:B1)(t:T):Prop:=∃es,EO (least p) row.length es/\es.length<=Hq row+1/\t=.lst (aH es)
def o1r(h:a s=.ok (t,s1))(k:g t=U v):o1 g a s=.ok (v,s1):=by
 unfold o1;rw[h];apply dF;show Res.bind _ _=_;rw[k];rfl
def qV:mF 0 n=aH ((cU n).map λi:Nat=>(i:Int)):=by
 unfold mF aH;rw[j5];exact wV λk _=>dv T.int<|P5 _
def nV(hr:Hq row<=100000):∃t,EsT p row t/\∀m,cN (n+3) 21 [p.val,.str row] m=.ok (t,m):=by
 rw[wI _ 21 J];have r:cN (n+2) 22 [.str row,.bl Zb] []=.ok (.lst<|aH<|(cU<|row.length+1).map λi:Nat=>i,[]):=by
  rw[wI _ 22 J];refine sEq J J lh<|bN J<|bR (qK ?_) J;refine o1r (c_ J J J) ?_;rw[show E3 (.int<|row.length+1)=U _ from(gc ⟨by lia,by lia⟩).trans<|by rw[show(Hq row+1:Int).toNat=Hq row+1 by lia],qV]
 have k:EO 0 row.length<|(cU<|row.length+1).map λi:Nat=>i:=λi e b=>by
  rw[eX]at b;obtain⟨j,g,rfl⟩:=bZ.mp b;obtain⟨f,d⟩:=dw.mp g;rw[kD]at f;rw[List.getElem_range]at d;exact .inr ⟨by lia,by lia⟩
 cases p with
 |one c pl=>
  obtain⟨t,⟨es,E,b,rfl⟩,o⟩:=vS n (by simp) k hr
  refine nU J<|gR J<|bS (cE J r)<|kg<|W.of (a:=(Out.nx,⟨[sv (qL.one c pl).val,tl row,FH _,sv<|RA c pl],[]⟩)) ?_ ⟨J,bR J ⟨lh,es,E,uG b,J⟩⟩;exact oO J<|cQ J (eS<|cE J<|o []) J
 |emp=>
  have l:cN (n+2) 22 [.str row,.bl O] []=.ok (.lst<|aH<|cK row.length (-1)++[(Hq row:Int)],[]):=by
   rw[wI _ 22 J];refine sEq J J lh<|bY J<|bR (pE (t:=.lst<|aH<|cK row.length<|-1) (pE J J ?_) J ?_) J
   .have e:Mw (.lst [.int<|-1]) (.int row.length)=U (.lst (cK (Hq row:Int).toNat _).flatten):=gc ⟨by lia,by lia,by show 1*_<=_;lia⟩
    show Mw (.lst [.int<|-1]) (.int row.length)=_;rw[e,xh,rep1,aH,Gx]
   .refine(gc<|by simp;lia).trans ?_
    rw[aH,aH,gf];rfl
  refine nU J<|gR J<|bS (cE J l)<|kg<|W.of J ⟨J,bR (t:=.lst<|aH<|(cK row.length (-1)++[(Hq row:Int)]).take 1) ?_ ⟨lh,_,EO.take λi e b=>?_,?_,J⟩⟩
  .have q:=qU (aH<|cK row.length (-1)++[(Hq row:Int)]) 1
   rw[<- sH]at q;exact dv (λz=>Res.ok (T.lst z,_)) q
  .rw[List.getElem?_append]at b
   split at b
   .rw[zo]at b
    split at b
    .cases b;exact .inl J
    .cases b
   .rename_i h
    have:=dw.mp b
    obtain⟨f,d⟩:=this;simp at f d;exact .inr ⟨by show i+(0)<=e;lia,by lia⟩
  .simp
def TX.mono{l:Tx}(h:TX k l)(q:k<=j):TX j l:=⟨cJ h.l q,h.n⟩
def TX.cat{l w:Tx}(h:TX k l)(q:TX j w):TX (k+j)<|l++w:=⟨by rw[bU];exact Pb h.l q.l,λz=>(eW.mp z).elim h.n q.n⟩
theorem TX.take{l:Tx}(h:TX k l):TX k<|l.take j:=⟨cJ (List.length_take_le' ..) h.l,λz=>h.n<|sJ z⟩
theorem TX.drop{l:Tx}(h:TX k l):TX k<|l.drop j:=⟨by rw[hU];exact cJ (Nat.sub_le ..) h.l,λz=>h.n<|zx z⟩
section
variable{p:qL}
def yQ{k:Nat}(d:a s=.ok (.str l,s))(c:b s=.ok (.str w,s))(h:(l++w).length<=1000000):oA a b s=.ok (.str<|l++w,s):=pE d c<|gc<|by rw[bU]at h;exact h
def cDE(h:fl s=.ok (ts,s))(k:g (ts++ds) s.m=.ok (t,s.m)):ai g ds fl s=.ok (t,s):=nT h k
def neI(x y:Int):aI .NotEq (.int x) (.int y)=U (.bl<|!decide (x=y)):=J
def StT(p:qL)(row:B1)(t:T):Prop:=t=.non\/∃b e:Nat,t=.tup [.int b,.int e]/\b+least p<=e/\e<=Hq row
def qW(hr:Hq row<=100000):∃t,StT p row t/\∀m,cN (n+4) 19 [p.val,.str row,.int 0] m=.ok (t,m):=by
 rw[wI _ 19 J];obtain⟨t,⟨es,E,c,rfl⟩,f⟩:=nV n (p:=p) hr;have d:aB [p.val,.str row,.int 0]=O:=by cases p<;>rfl
 have hl:Hq es<=100001:=by lia
 refine nU d<|gR J<|bS (cE J<|f [])<|ô (ts:=aH<|(cU es.length).map λi:Nat=>i) (I:=λs=>∃x,s=⟨[sv p.val,sv _,sv _,sv _,x],[]⟩) (VG (az J<|az (cT J<|by show U _=_;rw[bQ]) J) ?_) ⟨_,J⟩ (λt ht s b=>?_) λs b=>?_
 .refine(gc ⟨by decide,by decide,by lia,by lia⟩).trans ?_
  rw[<- qV,show((Hq es:Int)-0).toNat=Hq es by lia]
 .obtain⟨x,rfl⟩:=b
  obtain⟨k,hk,rfl⟩:=iC.mp ht;obtain⟨i,a,rfl⟩:=iC.mp hk;have a:=wR.mp a;refine⟨[sv p.val,sv _,sv _,sv _,px i],J,NZ<|W.of (eF<|c_ (c_ J J<|ó a) J<|neI ..) ⟨λh=>?_,λ_=>⟨_,J,.inl ⟨J,_,J⟩⟩⟩⟩;obtain⟨e,c⟩:∃e:Nat,es.getD i 0=e:=⟨(es.getD i 0).toNat,by have:=E.get a;lia⟩
  refine W.of (jN<|cT (az J<|az (c_ J J<|(ó a).trans<|by rw[c]) J)<|kh ..)<|.inr ⟨_,J,J,.inr ⟨i,e,J,?_,?_⟩⟩
  all_goals have:=E.get a;lia
 . exact bR J ⟨J,.inl J⟩
def Kc(hr:Hq row<=100000):∃b,∀m,cN (n+5) 20 [p.val,.str row] m=.ok (.bl b,m):=by
 obtain⟨t,h,c⟩:=qW n (p:=p) hr;have a:aB [p.val,.str row]=O:=by cases p<;>rfl
 rw[wI _ 20 J];rcases h with rfl|⟨b,e,rfl,_⟩
 .exact⟨Zb,λm=>sEq a J J<|bR (pE (cDE J<|c []) J J) J⟩
 .exact⟨O,λm=>sEq a J J<|bR (pE (cDE J<|c []) J J) J⟩
def Kd(i:least p=1)(hl:TX k l)(c:TX (j+1) w)(hz:k+j<=99990):∃t,(∃a,t=.str a/\TX (k+j) a)/\∀m,cN (n+5) 27 [.str l,p.val,.str w] m=.ok (t,m):=by
 have z:=hl.l;have g:=c.l;obtain⟨t,h,f⟩:=qW n (p:=p) (row:=l) (by lia)
 rw[wI _ 27 J];have d:aB [.str l,p.val,.str w]=O:=by cases p<;>rfl
 refine nU d<|gR J<|bS (cDE J<|f []) ?_;rcases h with rfl|⟨b,e,rfl,q,o⟩
 .exact bY J<|bR J ⟨J,l,J,hl.mono<|by lia⟩
 .refine bN J<|bR (yQ (k:=0) (yQ (k:=0) (zh J J J<|by show U _=_;rw[qU]) J ?_) (zh J J J<|by show U _=_;rw[gH]) ?_) ⟨J,_,J,?_,?_⟩
  .rw[bU,kB];lia
  .rw[bU,bU,kB,hU];lia
  .rw[bU,bU,kB,hU];lia
  .exact((hl.take.cat c).cat hl.drop).n
def EV(l w:Tx)(p:qL)(es:Ee)(ps:List Tx)(k q:Nat):S:=⟨[tl l,sv p.val,tl w,FH<|aH es,U<|.ol<|af ps,px (k:Nat),px (q:Nat)],[]⟩
theorem qX(E:EO 1 l.length es)(he:Hq es<=Hq l+1)(hl:TX 100000 l)(c:TX 1 w):∀(d k q f:Nat)(ps:List Tx),Hq es<=q+d->d<f->k<=q->k<=Hq l->Hq ps<=k->TX k ps.flatten->W (bW (aZ<|bo (aI .Lt) (vF 6)<|aV bG<|k1 zD) á f<|EV l w p es ps k q) λz=>z.1=.nx/\∃k q ps,z.2=EV l w p es ps k q/\k<=Hq l/\TX k ps.flatten
 |d,k,q,0,ps,_,h,_,_,_,_=>dy h<|Nat.not_lt_zero _
 |d,k,q,f+1,ps,F,D,C,o,r,i=>by
  have v:aV bG (k1 zD) (EV l w p es ps k q)=.ok (.int es.length,EV l w p es ps k q):=cT J (by show U _=_;rw[bQ])
  have g:aZ (bo _ (vF 6) _) _=.ok (decide<|q<Hq es,EV l w p es ps k q):=eF<|pE J v<|(ê ..).trans<|dv (λb=>U _)<|decide_eq_decide.mpr<|by lia
  by_cases hq:q<Hq es
  .rw[b7 hq]at g
   obtain⟨d,rfl⟩:∃e,d=e+1:=⟨d-1,by lia⟩
   have m:=ó hq;have Eq:=E.get hq;refine VI g<|NZ<|W.of (eF<|c_ (c_ J J m) J<|yN ..) ⟨λz=>?_,λz=>?_⟩
   .exact⟨_,J,J,qX E he hl c d k _ f ps (by lia) (by lia) (by lia) o r i⟩
   .have z:=of_decide_eq_false z
    obtain⟨e,s⟩:∃e:Nat,es.getD q 0=e:=⟨(es.getD q 0).toNat,by lia⟩
    rw[s]at Eq m;have B:=hl.l;have A:=c.l;refine sf<|W.of (AR J (yQ (k:=0) (zh J J J<|by show U _=_;rw[vU]) J ?_) J<|by rw[bQ];lia) ⟨J,?_⟩
    .rw[bU,kB];lia
    .refine wS (pE (t:=.lst _) J J m)<|W.of (a:=(Out.nx,EV l w p es _ e e)) ?_ ⟨J,qX E he hl c d e e f (ps++[sl l k q++w]) (by lia) (by lia) (bP _) (by lia) ?_ ⟨?_,?_⟩⟩
     .have j:af ps++[T.str<|sl l k q++w]=af (ps++[sl l k q++w]):=by simp
      show Res.ok (Out.nx,(⟨[sv _,sv p.val,sv _,sv _,U _,px e,px e],[]⟩:S))=_;rw[j];rfl
     .rw[bU,h_];lia
     .have:=i.l
      rw[PJ,bU,PK,bU,kB];lia
     .rw[PJ,PK]
      exact λy=>(eW.mp y).elim i.n λy=>(eW.mp y).elim hl.drop.take.n c.n
  .rw[cq hq]at g
   exact abj g ⟨J,k,q,ps,J,o,i⟩
def Ke(g:least p=1)(hl:TX k l)(hk:k<=100000)(f:TX 1 w):∃t,(∃a,t=.str a/\TX k a)/\∀m,cN (n+4) 28 [.str l,p.val,.str w] m=.ok (t,m):=by
 have z:=hl.l;obtain⟨t,⟨es,E,j,rfl⟩,o⟩:=nV n (row:=l) (by lia)
 rw[g]at E;rw[wI _ 28 J];have d:aB [.str l,p.val,.str w]=O:=by cases p<;>rfl
 refine nU d (gR J (bS (cE J<|o []) (bOw J (bS J (bS J (kg ((qX E j (hl.mono hk) f es.length 0 0 many [] (by lia) (by lia) (bP _) (dO _) (bP _) ⟨bP _,λh=>nomatch h⟩).mono λq b=>⟨b.1,?_⟩)))))))
 obtain⟨_,k2,q2,ps,e,s,c⟩:=b;rw[e];have r:=c.l;have i:Hq ps.flatten<=1000000:=by lia
 refine NY (c_ (u:=.str _) (Lx J J<|join_eq i) (zh J J J<|by show U _=_;rw[gH])<|gc ?_) ⟨J,_,J,?_,?_⟩
 . rw[hU];lia
 .rw[bU,hU];lia
 .exact(c.cat hl.drop).n
end
def Fq(l:Tx):List Tx:=(aP 32 l).filter λw=>!decide (w=[])
theorem qY(c:Nat):∀l:Tx,(aP c l).length<=Hq l+1
 |[]=>bP _
 |d::l=>by
  have a:=qY c l;unfold aP;split
  .rw[dU,dU];lia
  .split
   .rename_i p r e
    rw[e]at a;rw[dU]at a ⊢;rw[dU];lia
   . show 1<=_;lia
theorem split_le:∀{l:Tx},∀w∈aP c l,Hq w<=Hq l/\∀d∈w,d∈l
 |[],w,h=>by rw[dj.mp h];exact⟨bP _,λ_ h=>nomatch h⟩
 |d::l,w,h=>by
  have b:=λw=>split_le (c:=c) (l:=l) w;have up:∀{w:Tx},(Hq w<=Hq l/\∀d∈w,d∈l)->Hq w<=(d::l).length/\∀e∈w,e∈d::l:=λ{w} h=>⟨cJ h.1<|bH ..,λe a=>eG _<|h.2 e a⟩;unfold aP at h;split at h
  .rcases bM.mp h with z|z
   .rw[z];exact⟨dO _,λ_ h=>nomatch h⟩
   .exact up<|b w z
  .split at h
   .rename_i p r e
    rw[e]at b;rcases bM.mp h with z|z
    .have q:=b p<|d_ ..
     rw[z];exact⟨g_ q.1 1,λe a=>(bM.mp a).elim (λy=>by rw[y];exact d_ ..) λy=>eG _<|q.2 e y⟩
    .exact up<|b w<|eG _ z
   .rw[dj.mp h]
    exact⟨sD ..,λe a=>by rw[dj.mp a];exact d_ ..⟩
def VS(h:TX k l)(a:w∈Fq l):TX k w:=by
 obtain⟨c,b⟩:=split_le w (Gp.mp a).1;exact⟨cJ c h.l,λz=>h.n<|b _ z⟩
def Kf(hl:Hq l<=100000):cN (n+1) 29 [.str l] m=.ok (.lst<|af<|Fq l,m):=by
 rw[wI _ 29 J];have e:splitM l [.str [32]]=U _:=gc hl;refine sEq J J (aY _)<|bR (Ru (Rt (Lx J J e) J) ?_ J<|k_ T.str _ λw _=>⟨_,_,_,J,J,J⟩) J;rw[bQ];have:=qY 32 l;lia
def vV(l:Tx)(i:Nat):T:=if(Fq l).length<i then .non else .str ((Fq l).getD (i-1) [])
def ixW(b:1<=i)(a:i<=Hq ls):fL (.lst<|af ls) (.int ((i:Nat)-1:Int))=U (.str<|ls.getD (i-1) []):=by
 show atT _ _=_;rw[show(i-1)=((i-1:Nat):Int) by lia,qJ<|by rw[bQ];lia,eX,uK,dP<|by lia]
 rfl
def qZ(hl:Hq l<=100000)(a:1<=i):cN (n+2) 30 [.str l,.int (i:Nat)] m=.ok (vV l i,m):=by
 rw[wI _ 30 J];refine sEq J J (by unfold vV;split<;>rfl)<|bS (cE J<|Kf n hl) ?_
 have e:aZ (bo (aI .Gt) zB<|aV bG<|k1 zC) ⟨[tl l,px (i:Nat),FH<|af<|Fq l],[]⟩=.ok (decide<|(Fq l).length<i,⟨[tl l,px i,FH<|af<|Fq l],[]⟩):=by
  refine eF<|c_ J (cT J<|by show U (T.int ((af _).length))=_;rw[bQ]) ?_
  exact dv (λb=>U _)<|decide_eq_decide.mpr<|by lia
 unfold vV;by_cases h:(Fq l).length<i
 .rw[b0 h]
  rw[b7 h]at e;exact bY e<|bR J J
 .rw[bt h]
  rw[cq h]at e;exact bN e<|bR (c_ J J<|ixW a<|by lia) J
def Kg(h:TX k l)(a:1<=i):vV l i=.non\/∃w,vV l i=.str w/\TX k w:=by
 by_cases z:(Fq l).length<i
 .exact .inl<|b0 z
 .refine .inr ⟨_,bt z,VS h ?_⟩
  rw[uK,dP<|by lia]
  exact wX ..
end K64
namespace K64
open D PySem PySem.NumText
variable(n:Nat)
def Oo(h:Di Fg l=O):AllDigits l:=λc a=>by
 have:=bh<|fJ.mp h c a
 simp only[Fg,bM,kE,hQ]at this;rcases this with rfl|rfl|rfl|rfl|rfl|rfl|rfl|rfl|rfl|rfl<;>exact⟨by decide,by decide⟩
theorem RB:∀(n:Nat)(cs:Tx),Hq cs=n->AllDigits cs->digitsVal cs<10^n
 |0,cs,h,_=>by rw[GN h];decide
 |n+1,cs,h,hd=>by
  rcases BA cs with e|⟨a,c,e⟩
  .rw[e]at h;cases h
  .rw[BB]at e
   subst e;rw[bU,h_]at h;have d:=RB n a (by lia) λx b=>hd x<|rM _ b
   have f:=hd c (by simp)
   rw[digitsVal_snoc]
   lia
def NmO(t:T):Prop:=t=.non\/∃i:Int,t=.int i/\i.natAbs<10^60
def õ(h:AllDigits d)(hl:¬ (60:Int)<(Hq d:Nat)):digitsVal d<10^60:=fU (RB _ _ J h)<|Nat.pow_le_pow_right (by decide)<|by lia
def vW(hl:Hq l<=100000):∃t,NmO t/\∀m,cN (n+2) 31 [.str l] m=.ok (t,m):=by
 rw[wI _ 31 J];obtain⟨F,d⟩:∃F,F=if pre [45] l then bJ l (U 1) Y else l:=⟨_,J⟩
 have hB:Hq F<=100000:=by
  rw[d];split
  .exact cJ (by rw[show bJ l (U 1) Y=l.drop 1 from gH l 1,hU];exact Nat.sub_le ..) hl
  .exact hl
 have o:rG (tB<|oG Lr zA<|k1<|cS [45]) (fK zA (dD zI) je) zA ⟨[tl l,Y],[]⟩=.ok (.str F,⟨[tl l,Y],[]⟩):=by
  unfold rG;rw[sy<|Lx J J J,d];show(if pre _ l then _ else _)=_
  cases pre _ l<;>rfl
 have f:j9 (aZ<|oE zB<|cS []) (j9 (aZ<|bo _ (aV bG<|k1 zB)<|cI 60)<|eM<|tB<|ai _ []<|k2 zB<|cS Fg) ⟨[tl l,tl F],[]⟩=.ok (decide _ ||(decide ((60:Int)<Hq F) || !Di Fg F),⟨[sv _,sv _],[]⟩):=
  AS (eF<|c_ J J<|sj F [])<|AS (eF<|c_ J J<|AQ _ _)<|VJ<|sy<|cE J<|AV n hB
 refine nU J<|gR J<|bS o ?_;cases hk:(decide (F=[]) ||(decide ((60:Int)<Hq F) || !Di Fg F))with
 |true=>
  rw[hk]at f;exact bY f<|bR J ⟨J,.inl J⟩
 |false=>
  rw[hk]at f;simp only[BE,lx,Bool.not_eq_false']at hk;obtain⟨h,k,j⟩:=hk;have hd:=Oo j;have g:=õ hd k;refine bN f ?_;cases c:pre _ l with
  |false=>
   have e:F=l:=by rw[d,c];rfl
   subst e;refine bR (t:=.int ((digitsVal F))) (cT J ?_) ⟨J,.inr ⟨_,J,g⟩⟩;show(o5 _).bind _=_;rw[intText_digits hd h<|by show Hq F<=4300;lia]
   exact gc (by lia)
  |true=>
   have e:F=l.drop 1:=by rw[d,c];exact gH l 1
   cases l with
   |nil=>cases c
   |cons a r=>
    have i:a=45:=by
     have:=(kF.mp<|c).2
     have:=eq_of_beq this
     injection this
    have e:=e;subst e;refine bR (t:=.int<|-((digitsVal F))) (cT J ?_) ⟨J,.inr ⟨_,J,by rw[Int.natAbs_neg];exact g⟩⟩
    show(o5 _).bind _=_;rw[intText_neg (by rw[i]) hd h<|by show(a::F).length<=4300;rw[dU];lia]
    exact gc (by rw[dU];lia)
def Kh:kR (n:Int)=(Nat.toDigits 10 n).map tJ:=by
 show(Nat.repr n).toList.map tJ=_;rw[Nat.toList_repr]
def Kl{n:Nat}:10∉kR (n:Int):=λh=>by
 rw[Kh]at h;obtain⟨c,a,e⟩:=iC.mp h
 have:=Nat.isDigit_of_mem_toDigits (by decide) (by decide) a
 have:=(Char.isDigit_iff_toNat.mp this).1
 lia
def Km{n k:Nat}(hk:0<k)(h:n<10^k):(kR (n:Int)).length<=k:=by
 rw[Kh,bQ];exact(Nat.length_toDigits_le_iff (by decide) hk).mpr h
def VT:kR (Int.negSucc n)=45::kR ((n+1:Nat):Int):=by
 show(("-" ++ Nat.repr _)).toList.map tJ=_;rw[String.toList_append];rfl
def txI(hk:0<k)(h:i.natAbs<10^k):TX (k+1)<|kR i:=by
 cases i with
 |ofNat n=>exact⟨cJ (Km hk h)<|bH ..,Kl⟩
 |negSucc n=>
  rw[VT];exact⟨g_ (Km hk h) 1,λz=>(bM.mp z).elim (by decide) Kl⟩
def ö(b:c<=900000)(h:i.natAbs<=c*10^60):strN [.int i]=U (.str<|kR i)/\TX 67 (kR i):=by
 have a:i.natAbs<10^66:=rL h<|rL (wQ _ b)<|by decide
 have hl:=txI (by decide) a
 refine⟨gc ⟨?_,cJ hl.l<|by decide⟩,hl⟩
 by_cases hz:i.natAbs=0
 .rw[hz];decide
 .exact(Nat.log2_lt hz).mpr<|Gj a<|by decide
end K64
namespace K64
open D
variable(n:Nat){m:List _root_.D.Ob}
section
variable{m:FX}
def Kn(h:a s=.ok (.own k,s1))(b:s1.m[k]?=U ob)(d:iY M.P.tab ob.c f=U j)(e:ob.fs[j]?=sv t):aA M.P.tab f a s=.ok (t,s1):=by
 unfold aA;rw[h];refine Eq.trans (Ù _ _) ?_;show Res.bind _ _=_;rw[b];show Res.bind (bu<|(iY M.P.tab ob.c f).bind _) _=_;rw[d];show Res.bind (bu<|ob.fs[j]?) _=_;rw[e];rfl
def ux(h:m[kb]?=U ⟨nb,[.od ks ts]⟩):kX nb m (.own kb)=U (kb,ks,ts):=by
 have e:vq nb m (.own kb)=U (kb,.od ks ts):=by
  show(m[kb]?).bind _=_;rw[h];exact b0 J
 unfold kX;rw[e];rfl
def RC(h:m[kb]?=U ⟨nb,[.ol ts]⟩):Ar nb m (.own kb)=U (kb,ts):=by
 have e:vq nb m (.own kb)=U (kb,.ol ts):=by
  show(m[kb]?).bind _=_;rw[h];exact b0 J
 unfold Ar;rw[e];rfl
def RD(c:o s=.ok (.own kb,s))(b:s.m[kb]?=U ⟨nb,[.ol ts]⟩)(d:a s=.ok (t,s))(hz:Hq ts<1000000):gW nb o a s=.ok (.nx,⟨s.r,s.m.set kb ⟨nb,[.ol<|ts++[t]]⟩⟩):=by
 unfold gW;rw[c];apply dF;show Res.bind _ _=_;rw[RC b];apply dF;show Res.bind _ _=_;rw[d];apply dF;show Res.bind _ _=_;rw[RC b];apply dF;show Res.bind _ _=_;rw[gc hz];rfl
def Oq(c:o s=.ok (.own kb,s))(e:b s=.ok (t,s))(hd:d s=.ok (u,s))(hk:jF t=U ky)(a:s.m[kb]?=U ⟨nb,[.od ks ts]⟩):r9 nb o b d s=.ok ((fV ks ts ky).getD u,s):=by
 unfold r9;rw[c];apply dF;show Res.bind _ _=_;rw[ux a];apply dF;show Res.bind _ _=_;rw[e];apply dF;show Res.bind _ _=_;rw[hd];apply dF;show Res.bind _ _=_;rw[ux a];show Res.bind _ _=_;rw[hk];rfl
def Fv(c:a s=.ok (u,s1))(d:o s1=.ok (.own kb,s1))(f:b s1=.ok (t,s1))(hk:jF t=U ky)(e:s1.m[kb]?=U ⟨nb,[.od ks ts]⟩)(hs:Hq ks<1000000):oN nb o b a s=.ok (.nx,⟨s1.r,s1.m.set kb ⟨nb,[.od (bx ks ts ky u).1 (bx ks ts ky u).2]⟩⟩):=by
 unfold oN;rw[c];apply dF;show Res.bind _ _=_;rw[d];apply dF;show Res.bind _ _=_;rw[f];apply dF;show Res.bind _ _=_;rw[ux e];apply dF;show Res.bind _ _=_;rw[hk];show Res.bind _ _=_;rw[gc hs];rfl
def VU(b:a s=.ok (t,s))(c:o s=.ok (.own kb,s))(hk:jF t=U ky)(d:s.m[kb]?=U ⟨nb,[.od ks ts]⟩):aZ (yl nb neg a o) s=.ok (if neg then !decide (ky∈ks)else decide (ky∈ks),s):=by
 apply eF;unfold yl;rw[b];apply dF;show Res.bind _ _=_;rw[c];apply dF;show Res.bind _ _=_;rw[ux d];show Res.bind _ _=_;rw[hk];rfl
def VV(a:o s=.ok (.own kb,s))(e:b s=.ok (t,s))(hk:jF t=U ky)(c:s.m[kb]?=U ⟨nb,[.od ks ts]⟩)(d:fV ks ts ky=U u):As nb o b s=.ok (u,s):=by
 unfold As;rw[a];apply dF;show Res.bind _ _=_;rw[e];apply dF;show Res.bind _ _=_;rw[ux c];show Res.bind _ _=_;rw[hk];show Res.bind (bu<|fV ks ts ky) _=_;rw[d];rfl
end
structure DI(P:Ky->Prop)(Q:T->Prop)(n:Nat)(ks:List Ky)(ts:FR):Prop where
 len:Hq ks=Hq ts
 le:Hq ks<=n
 p:∀k∈ks,P k
 q:∀t∈ts,Q t
theorem get_mem:∀{ks:List Ky}{ts:FR}{x:Ky},Hq ks=Hq ts->x∈ks->∃t,fV ks ts x=U t
 |[],_,_,_,h=>by cases h
 |q::ks,[],_,h,_=>by cases h
 |q::ks,t::ts,x,h,a=>by
  rw[fV];by_cases e:q=x
  .rw[b0 e];exact⟨t,J⟩
  .rw[bt e]
   rcases bM.mp a with z|z
   .exact dy z.symm e
   .exact get_mem (uH.inj h) z
theorem A3:∀{ks:List Ky}{ts:FR}{x:Ky}{t:T},fV ks ts x=U t->t∈ts
 |[],_,_,_,h=>by cases h
 |_::_,[],_,_,h=>by cases h
 |q::ks,u::ts,x,t,h=>by
  rw[fV]at h;split at h
  .cases h;exact d_ ..
  .exact eG _<|A3 h
section
variable{P d:Ky->Prop}{Q j:T->Prop}
def DI.nil:DI P Q 0 [] []:=⟨J,bP _,(λ_ h=>nomatch h),λ_ h=>nomatch h⟩
def DI.mono(D:DI P Q nn ks ts)(h:nn<=n')(b:∀k,P k->d k)(a:∀t,Q t->j t):DI d j n' ks ts:=⟨D.len,cJ D.le h,λk z=>b k<|D.p k z,λt z=>a t<|D.q t z⟩
def DI.at_(D:DI P Q nn ks ts)(h:k∈ks):∃t,fV ks ts k=U t/\Q t:=let⟨t,e⟩:=get_mem D.len h;⟨t,e,D.q t<|A3 e⟩
def DI.get(D:DI P Q nn ks ts)(h:Q u):Q<|(fV ks ts k).getD u:=by
 cases e:fV ks ts k with
 |none=>exact h
 |some t=>exact D.q t<|A3 e
def vX(h:k∈ks):(bx ks ts k u).1=ks:=by unfold bx;rw[b0 h]
def ja(h:k∉ks):bx ks ts k u=(ks++[k],ts++[u]):=by unfold bx;rw[bt h]
def vY:k∈(bx ks ts k u).1:=by
 by_cases h:k∈ks
 .rw[vX h];exact h
 .rw[ja h];exact ku _<|dj.mpr J
def DI.put(D:DI P Q nn ks ts)(b:P k)(c:Q u):DI P Q (nn+1) (bx ks ts k u).1 (bx ks ts k u).2:=by
 by_cases h:k∈ks
 .unfold bx
  rw[b0 h];refine⟨by rw[bQ,wW,<- D.len,Bl],cJ D.le<|bH ..,D.p,λt ht=>?_⟩
  obtain⟨p,b,rfl⟩:=iC.mp ht;show Q _
  split
  .exact c
  .exact D.q _ (Br b).2
 .rw[ja h]
  refine⟨by rw[bU,bU,D.len];rfl,by rw[bU];exact g_ D.le 1,λx a=>?_,λx a=>?_⟩
  .rcases eW.mp a with z|z
   .exact D.p x z
   .rw[dj.mp z];exact b
  .rcases eW.mp a with z|z
   .exact D.q x z
   .rw[dj.mp z];exact c
end
inductive Ev where
 |want (i:Int)|take (i:Nat)|meet (i:Int) (b:Bool)|give (l:Tx)|over|noo (i:Int)|fin
def Ev.val:Ev->T
 |.want i=>.tup [.str [119,97,110,116],.int i]
 |.take i=>.tup [.str [116,97,107,101],.int (i:Nat)]
 |.meet i b=>.tup [.str [109,101,101,116],.int i,.bl b]
 |.give l=>.tup [.str zg,.str l]
 |.over=>.tup [.str [111,118,101,114]]
 |.noo i=>.tup [.str [110,111,110,101],.int i]
 |.fin=>.tup [.str [101,110,100]]
structure KF where
 R:FX
 m0:Ob
 ln:List LN
 bm:T
 uk:List Ky
 uv:FR
 tk:Nat
 tr:T
 mt:Nat
structure KC where
 ps:Nat
 hand:T
 hr:Nat
 wt:Bool
 sk:List Ky
 sw:FR
 ks:List Ky
 zs:FR
 no:FR
 lg:List Ev
def iP(w:Nat)(f:KF)(c:KC):Ob:=⟨26,[.val<|.lst<|aN f.ln,.val f.bm,.val<|.own<|w+1,.val f.tr,.val<|.int (c.ps:Nat),.val<|.own f.mt,.val<|.int (f.tk:Nat),.val c.hand,.val<|.int (c.hr:Nat),.val<|.own<|w+4,.val<|.own<|w+5,.val<|.own<|w+6,.val<|.own<|w+7,.val<|.bl c.wt]⟩
abbrev dB(ks:List Ky)(ts:FR):Ob:=⟨M.bc,[.od ks ts]⟩
abbrev lB(ts:FR):Ob:=⟨M.bc,[.ol ts]⟩
def tlO(w:Nat)(f:KF):Ob:=⟨25,[.val<|.lst<|f.ln.map LN.cond,.val<|.own<|w+2]⟩
def yR(w:Nat)(f:KF)(jj:FX)(c:KC):FX:=iP w f c::tlO w f::dB f.uk f.uv::f.m0::dB c.sk c.sw::dB c.ks c.zs::lB c.no::lB (c.lg.map Ev.val)::jj
def st(w:Nat)(f:KF)(jj:FX)(c:KC):FX:=f.R++yR w f jj c
section
variable{w i j nn:Nat}{f f':KF}{jj v:FX}{c c':KC}{r:FC}
def cA(h:Hq f.R=w)(i:Nat):(st w f jj c)[w+i]?=(yR w f jj c)[i]?:=by
 unfold st;rw[iB<|by lia,h,Pc]
def iy(h:Hq f.R=w)(i:Nat):(st w f jj c).set (w+i) x=f.R++(yR w f jj c).set i x:=by
 unfold st;rw[BC _ _<|by lia,h,Pc]
abbrev sW(w:Nat)(r:FC)(f:KF)(jj:FX)(c:KC):S:=⟨FU w::r,st w f jj c⟩
def c9(h:Hq f.R=w)(a:iY M.P.tab 26 j=U nn)(b:(iP w f c).fs[nn]?=sv t):aA M.P.tab j zA (sW w r f jj c)=.ok (t,sW w r f jj c):=Kn J (cA h 0) a b
def kr(h:Hq f.R=w)(d:a (sW w r f jj c)=.ok (t,sW w r f jj c))(b:gE M.P.tab j (.val t) (iP w f c)=U (iP w f' c'))(e:f.R++(yR w f jj c).set 0 (iP w f' c')=st w f' jj c'):aQ M.P.tab j zA a (sW w r f jj c)=.ok (.nx,sW w r f' jj c'):=by
 unfold aQ;rw[d];show Res.bind (bu _) _=_;rw[show(st w f jj c)[w]?=U _ from cA h 0];show Res.bind (bu<|gE M.P.tab j _ _) _=_;rw[b];show Res.ok (Out.nx,(⟨sv _::r,(st w f jj c).set (w+0) _⟩:S))=_;rw[iy h,e]
def Ko(h:Hq f.R=w)(d:iY M.P.tab 26 j=U nn)(g:(iP w f c).fs[nn]?=sv (.int k))(b:(⟨26,(iP w f c).fs.set nn<|.val<|.int<|k+1⟩:Ob)=iP w f' c')(e:f.R++(yR w f jj c).set 0 (iP w f' c')=st w f' jj c'):Au M.P.tab j jg zA zI (sW w r f jj c)=.ok (.nx,sW w r f' jj c'):=by
 have i:(st w f jj c)[w]?=U _:=cA h 0;have a:jh M.P.tab j (st w f jj c) (.own w)=U (w,iP w f c,nn,.val<|.int k):=by
  show((st w f jj c)[w]?).bind _=_;rw[i];show(iY M.P.tab 26 j).bind _=_;rw[d];show((iP w f c).fs[nn]?).map _=_;rw[g];rfl
 show Res.bind (bu _) _=_;rw[a];apply dF;show Res.bind (bu _) _=_;rw[a];show Res.bind _ _=_;show Res.ok (Out.nx,(⟨sv _::r,(st w f jj c).set (w+0) _⟩:S))=_;rw[iy h,show(iP w f c).c=26 from J,b,e]
def q_(h:Hq f.R=w)(b:a (sW w r f jj c)=.ok (ev.val,sW w r f jj c))(z:Hq c.lg<1000000):gW M.bc (aA M.P.tab 29 zA) a (sW w r f jj c)=.ok (.nx,sW w r f jj {c with lg:=c.lg++[ev]}):=by
 refine(RD (c9 h J J) (cA h 7) b<|by rw[bQ];exact z).trans ?_
 rw[show⟨M.bc,[.ol<|c.lg.map Ev.val++[ev.val]]⟩=lB ((c.lg++[ev]).map Ev.val) by rw[gf];rfl]
 show Res.ok _=_;rw[iy h];rfl
def fX(h:Hq f.R=w)(b:fl (sW w r f jj c)=.ok (ts,sW w r f jj c))(a:aj k (.own w::ts) (st w f jj c)=.ok (t,m')):aR (aJ (aD [(26,k)] aj) zA fl) (sW w r f jj c)=.ok (.nx,⟨FU w::r,m'⟩):=by
 unfold aR;rw[Dh J (cA h 0) J b a];rfl
def vZ(q:Nat)(h:Hq f.R=w)(z:Hq c.lg<1000000):cN (q+1) 98 [.own w] (st w f jj c)=.ok (.non,st w f jj {c with wt:=O,lg:=c.lg++[.want<|f.tk+1]}):=by
 rw[wI _ 98 J];refine yL J (seq1 (q_ h (cT (az J<|az (c_ (c9 h J J) J J) J)<|kh ..) z)<|kr h (c':={c with wt:=O,lg:=c.lg++[.want _]}) J J J) J
def l_(q:Nat)(h:Hq f.R=w)(z:Hq c.lg<1000000):cN (q+1) 106 [.own w,.str l] (st w f jj c)=.ok (.non,st w f jj {c with lg:=c.lg++[.give l]}):=by
 rw[wI _ 106 J];exact yL J (q_ h (cT (az J<|az J J)<|kh ..) z) J
def Dy(q:Nat)(h:Hq f.R=w)(z:Hq c.lg<1000000):cN (q+1) 105 [.own w] (st w f jj c)=.ok (.non,st w f jj {c with lg:=c.lg++[.noo<|f.tk+1]}):=by
 rw[wI _ 105 J];exact yL J (q_ h (cT (az J<|az (c_ (c9 h J J) J J) J)<|kh ..) z) J
abbrev KC.rest(c:KC)(f:KF):KC:={c with hand:=.non,hr:=0,ps:=0,wt:=O,lg:=c.lg++[.over]++[.want<|f.tk+1]}
def Dz(q:Nat)(h:Hq f.R=w)(z:Hq c.lg+1<1000000):cN (q+2) 107 [.own w] (st w f jj c)=.ok (.non,st w f jj<|c.rest f):=by
 rw[wI _ 107 J];exact yL J (seq1 (q_ h J<|Nat.lt_of_succ_lt z)<|seq1 (kr h (c':={c with hand:=.non,lg:=c.lg++[.over]}) J J J)<|seq1 (kr h (c':={c with hand:=.non,hr:=0,lg:=c.lg++[.over]}) J J J)<|seq1 (kr h (c':={c with hand:=.non,hr:=0,ps:=0,lg:=c.lg++[.over]}) J J J)<|fX h J<|vZ q h<|by rw[bU];exact z) J
def v_(q:Nat)(h:Hq f.R=w)(a:c.hand=.str l)(z:Hq c.lg+2<1000000):cN (q+3) 108 [.own w] (st w f jj c)=.ok (.non,st w f jj<|KC.rest {c with lg:=c.lg++[.give l]} f):=by
 rw[wI _ 108 J];exact yL J (seq1 (fX h (az (c9 h J<|dv (λx=>U _) a) J)<|l_ _ h<|by lia)<|fX h J<|Dz q h<|by rw[bU];exact z) J
end
def Ev.WC:Ev->Option Nat
 |.take i=>U i
 |_=>BD
def takes(l:List Ev):B1:=l.filterMap Ev.WC
def gives(l:List Ev):List Tx:=l.filterMap λe=>match e with
 |.give l=>U l
 |_=>BD
def pC(l:List Ev):Nat:=((gives l).map λl=>Hq l+1).sum
def szE:T->Nat
 |.tup<|.str l::_=>Hq l+1
 |_=>0
def sA:T->Nat
 |.lst ts=>(ts.map szE).sum
 |_=>0
def rf(sw:FR):Nat:=(sw.map sA).sum
def hB(tk b:Nat):Nat:=7*tk+2*b+3
def ø(tk b:Nat)(t:T):Prop:=t=.non\/∃l,t=.str l/\TX (hB tk b) l
abbrev yS(p:Tx×Nat):T:=.tup [.str p.1,.int (p.2:Nat)]
def Th(tk b:Nat)(t:T):Prop:=∃a:List (Tx×Nat),t=.lst (a.map yS)/\a.length<=b/\∀p∈a,TX (hB tk b) p.1
def VW(tk b:Nat)(k:Ky):Prop:=∃x,k=.s x/\TX (hB tk b) x
def ZO(b:Nat)(t:T):Prop:=∃z:Int,t=.int z/\z.natAbs<=b*10^60
def Fl(c:KC):Prop:=∀l w,c.hand=.str l->vV l 1=.str w->Ky.s w∈c.ks
structure In(X N tk b:Nat)(c:KC):Prop where
 ps:c.ps<=N
 hd:ø tk b c.hand
 wh:c.wt=O\/∃l,c.hand=.str l
 sh:DI (λ_=>True) (Th tk b) b c.sk c.sw
 su:DI (VW tk b) (ZO b) b c.ks c.zs
 no:Hq c.no<=b/\aB c.no=O
 lg:Hq c.lg<=(b+9)*(b+9)+2
 gv:∀l,Ev.give l∈c.lg->TX (hB tk b+70) l
 tks:takes c.lg=gz 1 tk
 n1:2*Hq c.ks<=b+1
 n2:Fl c\/2*Hq c.ks<=b
 wq:c.wt=O->2*Hq c.ks<=b/\c.lg.length<=(b+9)*(b+9)
 nd:c.sk.Nodup
 sz:pC c.lg+rf c.sw<=b*(hB tk b+1)+X
structure Is(X N tk b:Nat)(c:KC):Prop where
 i:In X N tk b c
 sl:Hq c.lg<=(b+9)*(b+9)+1
def mf(a b:List Ev):pC (a++b)=pC a+pC b:=by
 unfold pC gives;rw[sI,gf,zy]
def iQ(e:tk<=c)(d:b<=a):hB tk b<=hB c a:=by unfold hB;lia
section
variable{c c':KC}
def ø.up(h:ø tk b t):ø tk (b+1) t:=h.imp id λ⟨l,e,x⟩=>⟨l,e,x.mono<|iQ (bP _)<|bH ..⟩
def Th.le{d c:Nat}(h:Th tk b t)(g:tk<=d)(a:b<=c):Th d c t:=let⟨th,e,x,y⟩:=h;⟨th,e,cJ x a,λp f=>(y p f).mono<|iQ g a⟩
def Th.up(h:Th tk b t):Th tk (b+1) t:=h.le (bP _)<|bH ..
def VW.le{c a:Nat}(h:VW tk b k)(f:tk<=c)(d:b<=a):VW c a k:=let⟨x,e,y⟩:=h;⟨x,e,y.mono<|iQ f d⟩
def ZO.up(h:ZO b t):ZO (b+1) t:=let⟨z,e,h⟩:=h;⟨z,e,cJ h<|wQ _<|bH ..⟩
def In.ES(I:In X N tk b c):DI (λ_=>True) (Th tk<|b+1) (b+1) c.sk c.sw:=I.sh.mono (bH ..) (λ_ h=>h) λ_ h=>h.up
def In.su1(I:In X N tk b c):DI (VW tk<|b+1) (ZO<|b+1) (b+1) c.ks c.zs:=I.su.mono (bH ..) (λ_ h=>h.le (bP _)<|bH ..) λ_ h=>h.up
def DA(h:x<=b*(hB tk b+1)+X)(k:y<=x+(hB tk b+1)):y<=(b+1)*(hB tk (b+1)+1)+X:=by
 have:=Bq (b+1)<|g_ (iQ (tk:=tk) (bP _)<|bH b 1) 1
 lia
def Ou(b k:Nat)(h:k<=b+6):(b+9)*(b+9)+2+k<=(b+1+9)*(b+1+9):=by
 have:(b+1+9)*(b+1+9)=(b+9)*(b+9)+(b+9)+(b+9)+1:=by
  rw[Pd];lia
 lia
def In.z(I:In X N tk b c)(a:b<=300):Hq c.lg+1000<1000000:=by
 have:=sE (show b+9<=309 by lia)<|show b+9<=309 by lia
 have:=I.lg
 lia
def In.lgs(I:In X N tk b c)(hl:c'.lg=c.lg++es)(e:Hq es<=b+6)(d:∀l,Ev.give l∈es->TX (hB tk (b+1)+70) l)(a:takes es=[]):Hq c'.lg<=(b+1+9)*(b+1+9)/\(∀l,Ev.give l∈c'.lg->TX (hB tk (b+1)+70) l)/\takes c'.lg=gz 1 tk:=by
 rw[hl];refine⟨?_,λl h=>?_,?_⟩
 .rw[bU]
  exact cJ (g_ I.lg _)<|Ou b _ e
 .exact(eW.mp h).elim (λh=>(I.gv l h).mono<|g_ (iQ (bP _)<|bH ..) _)<|d l
 .show(c.lg++es).filterMap Ev.WC=_
  rw[sI,show es.filterMap Ev.WC=[]from a,b9];exact I.tks
def In.go(I:In X N tk b c)(es:List Ev)(e:c'.ps<=N)(g:ø tk (b+1) c'.hand)(d:c'.wt=O\/∃l,c'.hand=.str l)(hs:DI (λ_=>True) (Th tk<|b+1) (b+1) c'.sk c'.sw/\c'.sk.Nodup)(hk:c'.ks=c.ks)(hz:c'.zs=c.zs)(f:c'.no=c.no)(hl:c'.lg=c.lg++es)(j:Hq es<=b+6)(i:∀l,Ev.give l∈es->TX (hB tk (b+1)+70) l)(h:takes es=[])(a:pC es+rf c'.sw<=rf c.sw+(hB tk b+1)):Is X N tk (b+1) c':=by
 obtain⟨a1,a2,a3⟩:=I.lgs hl j i h;have n1:=I.n1;exact⟨⟨e,g,d,hs.1,by rw[hk,hz];exact I.su1,by rw[f];exact⟨cJ I.no.1<|bH ..,I.no.2⟩,cJ a1<|bH ..,a2,a3,by lia,.inr<|by rw[hk];exact n1,λz=>⟨by rw[hk];exact n1,a1⟩,hs.2,DA I.sz<|by rw[hl,mf];lia⟩,cJ a1<|bH ..⟩
theorem In.up(I:In X N tk b c):Is X N tk (b+1) c:=I.go [] I.ps I.hd.up I.wh ⟨I.ES,I.nd⟩ J J J (b9 _).symm (dO _) (λ_ h=>nomatch h) J (by show 0+_<=_;lia)
theorem Is.le(I:Is X N tk b c)(h:b<=d):Is X N tk d c:=by
 obtain⟨k,rfl⟩:=Nat.le.dest h
 induction k with
 |zero=>exact I
 |succ k a=>exact(a<|bH ..).i.up
end
def Rs(X w:Nat)(f:KF)(jj:FX)(N b:Nat)(p:T×FX):Prop:=p.1=.non/\∃c,p.2=st w f jj c/\Is X N f.tk b c
def Rs.of(h:Is X N f.tk b c):Rs X w f jj N b (.non,st w f jj c):=⟨J,c,J,h⟩
def oQ(h:Hq f.R=w)(d:fl (sW w r f jj c)=.ok (ts,sW w r f jj c))(a:W (aj k (.own w::ts)<|st w f jj c)<|Rs X w f jj N b):W (aR (aJ (aD [(26,k)] aj) zA fl)<|sW w r f jj c) λp=>p.1=.nx/\Rs X w f jj N b (.non,p.2.m):=by
 obtain⟨⟨t,j⟩,e,_,c',i,g⟩:=a;exact W.of (fX h d e) ⟨J,J,c',i,g⟩
theorem Rs.rest(I:In X N f.tk b c)(h:Hq f.R=w):Is X N f.tk (b+1)<|c.rest f:=I.go [.over,.want<|f.tk+1] (dO _) (.inl J) (.inl J) ⟨I.ES,I.nd⟩ J J J (by simp) (by show 2<=_;lia) (λl h=>by simp at h) J (by show 0+_<=_;lia)
def Ov(I:In X N f.tk b c)(h:Hq f.R=w)(a:b<=300/\f.tk<=12):W (cN (n+2) 107 [.own w]<|st w f jj c)<|Rs X w f jj N<|b+1:=W.of (Dz n h<|by have:=I.z a.1;lia)<|Rs.of<|Rs.rest I h
def wa(I:In X N f.tk b c)(a:c.hand=.str l):Is X N f.tk (b+1)<|KC.rest {c with lg:=c.lg++[.give l]} f:=by
 refine I.go [.give l,.over,.want<|f.tk+1] (dO _) (.inl J) (.inl J) ⟨I.ES,I.nd⟩ J J J (by simp) (by show 3<=_;lia) (λd h=>?_) J ?_
 all_goals rcases I.hd with e|⟨l2,e,x⟩<;>rw[a]at e<;>cases e
 .simp at h
  rw[h];exact x.mono (by unfold hB;lia)
 .show(Hq l+1+0)+rf c.sw<=_
  have:=x.l
  lia
def DB(I:In X N f.tk b c)(h:Hq f.R=w)(d:b<=300/\f.tk<=12)(a:c.hand=.str l):W (cN (n+3) 108 [.own w]<|st w f jj c)<|Rs X w f jj N<|b+1:=W.of (v_ n h a<|by have:=I.z d.1;lia)<|Rs.of<|wa I a
def Ow(I:In X N f.tk b c)(h:Hq f.R=w)(a:b<=300/\f.tk<=12)(hl:TX (hB f.tk b) l):W (cN (n+1) 106 [.own w,.str l]<|st w f jj c)<|Rs X w f jj N<|b+1:=W.of (l_ n h<|by have:=I.z a.1;lia)<|Rs.of<|I.go _ I.ps I.hd.up I.wh ⟨I.ES,I.nd⟩ J J J J (by show 1<=_;lia) (λd h=>by simp at h;rw[h];exact hl.mono<|by unfold hB;lia) J<|by show(Hq l+1+0)+rf c.sw<=_;have:=hl.l;lia
def Ox(I:In X N f.tk b c)(h:Hq f.R=w)(a:b<=300/\f.tk<=12):W (cN (n+1) 98 [.own w]<|st w f jj c)<|Rs X w f jj N<|b+1:=W.of (vZ n h<|by have:=I.z a.1;lia)<|Rs.of<|I.go _ I.ps I.hd.up (.inl J) ⟨I.ES,I.nd⟩ J J J J (by show 1<=_;lia) (λd h=>by simp at h) J<|by show 0+_<=_;lia
def mh(g:a->c)(l:List a)(lo b:Dx):bJ (l.map g) lo b=(bJ l lo b).map g:=by
 unfold bJ;rw[bQ,sH,zt]
def rh{x:a}(h:x∈bJ l lo b):x∈l:=zx<|sJ h
def jH{l:List a}:(bJ l lo b).length<=Hq l:=by
 unfold bJ;rw[kB,hU];lia
def rj(h:clean k l=O):TX k l:=by
 unfold clean at h;rw[cL]at h;exact⟨bh h.1,by simpa using h.2⟩
section
variable{f:KF}
def jb(h:Hq f.R=w)(a:c.hand=.str l):aA M.P.tab 24 zA (sW w r f jj c)=.ok (.str l,sW w r f jj c):=c9 h J<|dv (λx=>U _) a
def DC(I:In X N f.tk b c)(a:c.hand=.str l):TX (hB f.tk b) l:=by
 rcases I.hd with e|⟨l2,e,x⟩<;>rw[a]at e<;>cases e
 exact x
def In.swap(I:In X N f.tk b c){a:Tx}(h:TX (hB f.tk b+2) a):Is X N f.tk (b+1) {c with hand:=.str a}:=I.go [] I.ps (.inr ⟨a,J,h.mono<|by unfold hB;lia⟩) (.inr ⟨a,J⟩) ⟨I.ES,I.nd⟩ J J J (b9 _).symm (dO _) (λ_ h=>nomatch h) J (by show 0+_<=_;lia)
def Oz{a:Tx}(d:(DD.swap e p a).good=O)(I:In X N f.tk b c)(h:Hq f.R=w)(o:b<=300/\f.tk<=12)(i:c.hand=.str l):W (cN (n+6) 111 [.own w,(DD.swap e p a).val]<|st w f jj c)<|Rs X w f jj N<|b+1:=by
 have m:=DC I i;have hk:hB f.tk b<=5000:=by unfold hB;lia
 have d:((clean 3 a&&decide _)&&(!e ||clean 1 a))=O:=d;rw[cL,cL]at d;obtain⟨⟨g1,g2⟩,g3⟩:=d;rw[wI _ 111 J];cases e with
 |true=>
  obtain⟨_,⟨g,rfl,x⟩,k⟩:=Ke _ (bh g2) m (by lia)<|rj g3
  exact dS J<|jt J<|W.of (kr h (c':={c with hand:=.str g}) (cE (az (jb h i) J)<|k _) J J) ⟨J,Rs.of<|I.swap<|x.mono<|by lia⟩
 |false=>
  obtain⟨_,⟨g,rfl,x⟩,k⟩:=Kd n (bh g2) m (rj g1) (by lia)
  exact dS J<|b8 J<|W.of (kr h (c':={c with hand:=.str g}) (cE (az (jb h i) J)<|k _) J J) ⟨J,Rs.of<|I.swap x⟩
def OA(I:In X N f.tk b c)(h:Hq f.R=w)(a:b<=300/\f.tk<=12)(d:c.hand=.str l):W (cN (n+4) 112 [.own w,(DD.join v).val]<|st w f jj c)<|Rs X w f jj N<|b+1:=by
 rw[wI _ 112 J];refine dS J<|NZ<|W.of (eF<|pE (c9 h J J) J J) ⟨λ_=>?_,λ_=>?_⟩
 .exact oQ h J<|DB n I h a d
 .exact oQ h J<|Ox _ I h a
def wb(a:List<|Tx×Nat):sA (.lst<|a.map yS)=(a.map λp=>Hq p.1+1).sum:=by
 show((a.map yS).map szE).sum=_;rw[j5];rfl
def OB{a:List<|Tx×Nat}{lo b:Dx}:((bJ a lo b).map λp=>Hq p.1+1).sum<=(a.map λp=>Hq p.1+1).sum:=by
 have d:∀(l:List<|Tx×Nat)(i:Nat),((l.drop i).map λp=>Hq p.1+1).sum<=(l.map λp=>Hq p.1+1).sum:=λl i=>by
  have:=dv List.sum<|dv (zr λp:Tx×Nat=>Hq p.1+1)<|uL i l
  rw[gf,zy]at this
  lia
 have c:∀(l:List<|Tx×Nat)(i:Nat),((l.take i).map λp=>Hq p.1+1).sum<=(l.map λp=>Hq p.1+1).sum:=λl i=>by
  have:=dv List.sum<|dv (zr λp:Tx×Nat=>Hq p.1+1)<|uL i l
  rw[gf,zy]at this
  lia
 exact cJ (c _ _)<|d _ _
def Kp(h:ks.Nodup):(bx ks ts k u).1.Nodup:=by
 by_cases z:k∈ks
 .rw[vX z];exact h
 .rw[ja z]
  exact By.mpr ⟨h,by simp,λa d b c e=>z<|by rw[dj.mp c]at e;rw[<- e];exact d⟩
theorem DE:∀{ks:List Ky}{ts:FR},k∉ks->Hq ks=Hq ts->((ks.zip ts).map λp=>sA<|if p.1=k then u else p.2).sum=rf ts
 |[],[],_,_=>J
 |q::ks,t::ts,h,e=>by
  have a:=DE (k:=k) (u:=u) (λz=>h<|eG _ z)<|uH.inj e;show sA (if q=k then u else t)+((ks.zip ts).map λp=>sA _).sum=sA t+rf ts
  rw[bt λz=>h<|by rw[z];exact d_ ..,a]
theorem yT:∀{ks:List Ky}{ts:FR},k∈ks->ks.Nodup->Hq ks=Hq ts->((ks.zip ts).map λp=>sA<|if p.1=k then u else p.2).sum+sA ((fV ks ts k).getD<|.lst [])=rf ts+sA u
 |q::ks,t::ts,h,a,e=>by
  have a:=pO.mp a;show sA _+((ks.zip ts).map λp=>sA _).sum+sA _=sA t+rf ts+sA u
  rw[fV];by_cases z:q=k
  .rw[b0 z,b0 z,DE (by rw[<- z];exact a.1)<|uH.inj e]
   show sA u+rf ts+sA t=_
   lia
  .have b:=yT (k:=k) (u:=u) ((bM.mp h).resolve_left λy=>z y.symm) a.2<|uH.inj e
   rw[bt z]
   lia
def DF(a:ks.Nodup)(e:Hq ks=Hq ts):rf (bx ks ts k u).2+sA ((fV ks ts k).getD<|.lst [])=rf ts+sA u:=by
 by_cases z:k∈ks
 .unfold bx rf
  rw[b0 z];rw[j5];exact yT z a e
 .have:fV ks ts k=Y:=by
   cases g:fV ks ts k with
   |none=>rfl
   |some t=>
    revert g z e;clear a
    induction ks generalizing ts with
    |nil=>intro _ _ g;cases g
    |cons q ks b=>
     intro e z g;cases ts with
     |nil=>cases e
     |cons c ts=>
      rw[fV,bt λy=>z<|by rw[y];exact d_ ..]at g
      exact b (uH.inj e) (λy=>z<|eG _ y) g
  rw[ja z,this];unfold rf;rw[gf,zy];show _+(sA u+0)+0=_
  lia
def A4:Th tk b<|.lst []:=⟨[],J,dO _,λ_ h=>nomatch h⟩
def OC(I:In X N f.tk b c)(h:Hq f.R=w)(L:b<=300/\f.tk<=12)(q:c.hand=.str l):W (cN (n+1) 113 [.own w,(DD.pile x v).val]<|st w f jj c)<|Rs X w f jj N<|b+1:=by
 obtain⟨j,B,G,F⟩:=I.sh.get A4;obtain⟨d,m⟩:∃d,(DD.pile x v).val=.obj 19 [.str x,d]/\(d=.non\/∃i,d=.int i):=by
  cases v with
  |none=>exact⟨_,J,.inl J⟩
  |some i=>exact⟨_,J,.inr ⟨i,J⟩⟩
 obtain⟨C,m⟩:=m;rw[C,wI _ 113 J];have o:=DC I q;obtain⟨D,e⟩:∃D,D=sv (.obj 19 [.str x,d]):=⟨_,J⟩;obtain⟨EI,ķ⟩:∃t2,t2=j++[(l,c.hr)]:=⟨_,J⟩;have ţ:∀{r:FC},aA M.P.tab 26 zA _=.ok (.own _,sW w r f jj c):=c9 h J J;have K:oA (r9 M.bc (aA M.P.tab 26 zA) (aA M.P.tab 13 zB)<|aV dm a_) (aV dm<|k1<|aV df<|k2 (aA M.P.tab 24 zA)<|aA M.P.tab 25 zA) (sW w [D,Y] f jj c)=.ok (.lst<|EI.map yS,sW w [D,Y] f jj c):=by
  refine pE (t:=.lst<|j.map yS) ?_ (cT (az (cT (az (jb h q)<|az (c9 h J J) J)<|kh ..) J) J) ?_
  .rw[<- B]
   exact Oq ţ (by rw[e];rfl) J J<|cA h 4
  .refine(gc<|by simp;lia).trans ?_
   rw[ķ,gf];rfl
 obtain⟨u,E,a,H⟩:∃u,Th f.tk _ u/\sA u<=(EI.map λp=>Hq p.1+1).sum/\rG (aZ<|bo (aI .Is) (aA M.P.tab 12 zB)<|cF .non) zC (fK zC (dD<|dz fh<|aA M.P.tab 12 zB) je) (sW w [D,sv _] f jj c)=.ok (u,sW w [D,sv _] f jj c):=by
  have y:∀p∈EI,TX (hB f.tk<|b+1) _:=λp g=>by
   rw[ķ]at g;rcases eW.mp g with z|z
   .exact(F p z).mono<|iQ (bP _)<|bH ..
   .rw[dj.mp z];exact o.mono<|iQ (bP _)<|bH ..
  have A:Hq EI<=b+1:=by rw[ķ,bU];exact g_ G 1
  rcases m with rfl|⟨i,rfl⟩
  .exact⟨.lst _,⟨EI,J,A,y⟩,uG<|wb EI,by rw[e];rfl⟩
  .refine⟨.lst<|bJ _ (U _) Y,⟨bJ EI _ Y,by rw[mh],cJ jH A,λp g=>y p<|rh g⟩,by rw[mh,wb];exact OB,by rw[e];rfl⟩
 refine dS J ?_;show W (ah _ _<|sW w [sv _,Y] f jj c) _;rw[<- e];refine wS K<|W.of (Fv H (c9 h J J) (by rw[e];rfl) J (cA h 4)<|by have:=I.sh.le;lia) ⟨J,?_⟩
 refine⟨J,{c with sk:=(bx c.sk c.sw _ u).1,sw:=(bx c.sk c.sw _ u).2},iy h 4,?_⟩
 have ps:=DF (u:=u) (k:=.s x) I.nd I.sh.len;rw[B,wb]at ps;refine I.go [] I.ps I.hd.up I.wh ⟨(I.sh.mono (bP _) (λ_ h=>h) λ_ h=>h.up).put trivial E,Kp I.nd⟩ J J J (b9 _).symm (dO _) (λ_ h=>nomatch h) J ?_;show 0+rf _<=rf c.sw+(hB f.tk b+1)
 have:=o.l
 rw[ķ,gf,zy]at a;have a:sA u<=(j.map λp=>Hq p.1+1).sum+(Hq l+1+0):=a
 lia
end
end K64
namespace K64
open D L2
variable(n:Nat)
section
variable{X w N b j nn:Nat}{f:KF}{c c':KC}{a:FE}{l:Tx}{es:List Ev}
abbrev KC.log(c:KC)(es:List Ev):KC:={c with lg:=c.lg++es}
def DG(es fs:List Ev):(c.log es).log fs=c.log (es++fs):=by
 show({c with lg:=(c.lg++es)++fs})=_
 rw[fG]
def DH:c.log []=c:=by
 show({c with lg:=c.lg++[]})=_
 rw[b9]
def Rk(X w:Nat)(f:KF)(jj:FX)(N b:Nat)(ks:List Ky)(p:T×FX):Prop:=p.1=.non/\∃c,p.2=st w f jj c/\Is X N f.tk b c/\c.ks=ks
def Rk.rs(h:Rk X w f jj N b ks p):Rs X w f jj N b p:=let⟨a,c,e,i,_⟩:=h;⟨a,c,e,i⟩
def VX(h:Hq f.R=w)(d:fl (sW w r f jj c)=.ok (ts,sW w r f jj c))(a:W (aj k (.own w::ts)<|st w f jj c)<|Rk X w f jj N b ks):W (aR (aJ (aD [(26,k)] aj) zA fl)<|sW w r f jj c) λp=>p.1=.nx/\Rk X w f jj N b ks (.non,p.2.m):=by
 obtain⟨⟨t,j⟩,e,_,c',i,g⟩:=a;exact W.of (fX h d e) ⟨J,J,c',i,g⟩
def Kq(k:Nat)(es:List Ev):Prop:=∀e∈es,∃l,e=.give l/\TX k l
theorem Kq.tk:∀{es:List Ev},Kq k es->takes es=[]
 |[],_=>J
 |e::es,h=>by
  obtain⟨l,rfl,_⟩:=h e<|d_ ..;exact Kq.tk (es:=es) λe a=>h e<|eG _ a
def Kq.gv(h:Kq k es)(q:k<=j):∀l,Ev.give l∈es->TX j l:=λl hl=>by
 obtain⟨a,e,x⟩:=h _ hl;cases e;exact x.mono q
def In.wk(I:In X N f.tk b c):In (X+d) N f.tk b c:={I with sz:=cJ I.sz (by lia)}
def In.lgE(I:In X N f.tk b c)(h:Kq (hB f.tk b+70) es)(a:Hq es<=b+6)(hz:pC es<=d+(hB f.tk b+1)):Is (X+d) N f.tk (b+1)<|c.log es:=by
 obtain⟨a1,a2,a3⟩:=I.lgs (c':=c.log es) J a (h.gv<|g_ (iQ (bP _)<|bH ..) _) h.tk;have n1:=I.n1;have z:=I.sz;exact⟨⟨I.ps,I.hd.up,I.wh,I.ES,I.su1,⟨cJ I.no.1<|bH ..,I.no.2⟩,cJ a1<|bH ..,a2,a3,cJ n1<|bH ..,.inr n1,λ_=>⟨n1,a1⟩,I.nd,DA (x:=pC c.lg+rf c.sw+d) (by lia)<|by show pC _+rf c.sw<=_;rw[mf];lia⟩,cJ a1<|bH ..⟩
theorem uy:∀a:List<|Tx×Nat,pC (a.map λp=>Ev.give p.1)=(a.map λp=>Hq p.1+1).sum
 |[]=>J
 |p::a=>by
  show(Hq p.1+1)+pC _=_;rw[uy a];rfl
theorem Kq.pC{k:Nat}:∀{es:List Ev},Kq k es->pC es<=Hq es*(k+1)
 |[],_=>dO _
 |e::es,h=>by
  obtain⟨l,rfl,x⟩:=h e<|d_ ..;have b:=Kq.pC (es:=es) λe a=>h e<|eG _ a
  have:=x.l
  show(Hq l+1)+K64.pC es<=_;rw[dU,rK];lia
theorem yU(n:Nat)(h:Hq f.R=w):∀(a:List<|Tx×Nat)(c:KC)(x:Option C),Hq c.lg+Hq a<1000000->∃x',bg (setG 2) (aR<|aJ (aD [(26,106)]<|cN<|n+1) zA<|k1<|oI zC zO) (a.map yS) (sW w [Z,x] f jj c)=.ok (.nx,sW w [Z,x'] f jj<|c.log<|a.map λp=>.give p.1)
 |[],c,x,_=>⟨x,by rw[zq,zq,DH];rfl⟩
 |p::a,c,x,z=>by
  rw[dU]at z;obtain⟨x',e⟩:=yU n h a (c.log [.give _]) _ (by rw[bU];show _+1+_<_;lia)
  rw[DG]at e;exact⟨x',cQ J (fX h J<|l_ n h<|by lia) e⟩
def Kr(I:In X N f.tk b c)(h:Hq f.R=w)(m:b<=300/\f.tk<=12):W (cN (n+2) 114 [.own w,(DD.bring x).val]<|st w f jj c)<|Rk X w f jj N (b+1) c.ks:=by
 obtain⟨d,i,r,o⟩:=I.sh.get A4;rw[wI _ 114 J];obtain⟨Z,g⟩:∃Z,Z=sv (DD.bring x).val:=⟨_,J⟩;obtain⟨q,e⟩:=yU n h d c Y (by have:=I.z m.1;lia)
 refine dS J ?_;show W (ah _ _<|sW w [sv _,Y] f jj c) _;rw[<- g];refine sf<|yM<|W.of (Rt (t:=.lst _) ?_ J)<|W.of e ⟨J,?_⟩
 .rw[<- i]
  exact Oq (c9 h J J) (by rw[g];rfl) J J<|cA h 4
 .have ps:=DF (u:=.lst []) (k:=.s x) I.nd I.sh.len
  rw[i,wb]at ps;have ps:_=rf c.sw+0:=ps;refine W.of (Fv J (c9 h J J) (by rw[g];rfl) J (cA h 4)<|by have:=I.sh.le;lia) ⟨J,J,{c.log _ with sk:=(bx c.sk c.sw _ _).1,sw:=(bx c.sk c.sw _ _).2},iy h 4,?_,J⟩
  have gv:Kq (hB f.tk b+70) _:=λe l=>by
   obtain⟨p,j,rfl⟩:=iC.mp l;exact⟨p.1,J,(o p j).mono<|by lia⟩
  refine I.go _ I.ps I.hd.up I.wh ⟨(I.sh.mono (bP _) (λ_ h=>h) λ_ h=>h.up).put trivial A4,Kp I.nd⟩ J J J J (by rw[bQ];lia) (gv.gv<|g_ (iQ (bP _)<|bH ..) _) gv.tk ?_
  rw[uy];show _+rf _<=rf c.sw+_
  lia
def ù{a b:FE}(h:cc s=.ok (Zb,s)):rG cc a b s=b s:=by unfold rG;rw[h];rfl
def isE(t:T):aI .Is t .non=U (.bl<|mQ t):=by
 show U _=_;cases mQ t<;>rfl
theorem nW:∀{ts:FR},aB ts=O->noOwn t=O->aB (ts++[t])=O
 |[],_,h=>by show(noOwn t&&O)=O;rw[h];rfl
 |u::ts,h,k=>by
  have h:=kF.mp<|h;show(noOwn u&&aB (ts++[t]))=O;rw[h.1,nW h.2 k];rfl
def VY:ZO b<|.int 0:=⟨0,J,dO _⟩
def VZ{i k:Nat}(G:c.wt=Zb)(I:In X N f.tk b c)(h:Hq f.R=w)(hb:b<=300/\f.tk<=12)(m:c.hand=.str l)(H:1<=i)(hk:1<=k)(K:i=1):W (cN (n+3) 116 [.own w,(DD.add i k).val,.int num]<|st w f jj c)<|Rs X w f jj N<|b+1:=by
 have D:=DC I m;have M:hB f.tk b<=5000:=by unfold hB;lia
 have hz:Hq l<=100000:=by have:=D.l;lia
 obtain⟨y,r,S⟩:∃y,NmO y/\∀(Z u v:Option C),rG (aZ<|bo (aI .Is) (vF 4)<|cF .non) (cF .non) (ai _ []<|k1<|vF 4) (sW w [Z,u,v,sv<|vV l k,Y] f jj c)=.ok (y,sW w [Z,u,v,sv<|vV l k,Y] f jj c):=by
  rcases Kg D hk with e|⟨x,e,q⟩
  .rw[e];exact⟨.non,.inl J,λ_ _ _=>J⟩
  .obtain⟨y,r,T⟩:=vW n<|cJ q.l<|by lia
   refine⟨y,r,λZ u v=>?_⟩;rw[e];exact(ù J).trans<|cE J<|T _
 rw[wI _ 116 J];obtain⟨Z,E⟩:∃Z,Z=sv (DD.add i k).val:=⟨_,J⟩;refine dS J ?_;show W (ah _ _<|sW w [sv _,sv _,Y,Y,Y] f jj c) _;rw[<- E];refine wS (cE (az (jb h m)<|az (by rw[E];rfl) J)<|qZ n hz H)<|wS (cE (az (jb h m)<|az (by rw[E];rfl) J)<|qZ n hz hk)<|wS (S Z _ _) ?_
 have Q:j9 (aZ<|bo _ zD<|cF .non) (aZ<|bo _ (vF 5)<|cF .non) _=.ok (mQ _ ||mQ y,sW w [Z,px num,sv<|vV l i,sv<|vV l k,sv y] f jj c):=AS (eF<|c_ J J<|isE _)<|eF<|c_ J J<|isE _;refine NZ<|W.of Q ⟨λ_=>?_,λq=>?_⟩
 .refine W.of (RD (c9 h J J) (cA h 6) (cT (az (c9 h J J)<|az J J)<|kh ..)<|by have:=I.no.1;lia) ⟨J,J,{c with no:=c.no++[.tup [.int f.tk,.int num]]},iy h 6,?_⟩
  have o:=I.up;have a:=o.i;exact⟨⟨a.ps,a.hd,a.wh,a.sh,a.su,⟨by rw[bU];exact g_ I.no.1 1,nW I.no.2 J⟩,a.lg,a.gv,a.tks,a.n1,a.n2,a.wq,a.nd,a.sz⟩,o.sl⟩
 .have q:=q
  rw[BE]at q;rcases Kg D H with e|⟨x,e,A⟩
  .rw[e]at q;cases q.1
  rcases r with rfl|⟨z,rfl,p⟩
  .cases q.2
  rw[e];obtain⟨d,V,j⟩:=I.su.get (k:=.s x) VY;have F:ZO (b+1)<|.int<|d+z:=⟨_,J,by
   rw[rK]
   generalize 10^60=B at p j ⊢
   generalize b*B=Cc at j ⊢
   lia⟩
  refine W.of (Fv (c_ (t:=.int d) (by rw[<- V];exact Oq (c9 h J J) J J J<|cA h 5) J J) (c9 h J J) J J (cA h 5)<|by have:=I.su.le;lia) ⟨J,J,{c with ks:=(bx c.ks c.zs _ _).1,zs:=(bx c.ks c.zs _ _).2},iy h 5,?_⟩
  have o:=I.up;have a:=o.i;have P:Fl {c with ks:=(bx c.ks c.zs _<|.int<|d+z).1,zs:=(bx c.ks c.zs (.s x)<|.int<|d+z).2}:=λL x' a1 a2=>by
   have a1:=a1;rw[m]at a1;cases a1;rw[K,a2]at e;cases e;exact vY
  have n1:2*(bx c.ks c.zs (.s x)<|.int<|d+z).1.length<=b+1+1:=by
   by_cases hm:Ky.s x∈c.ks
   .rw[vX hm];exact a.n1
   .rw[ja hm,bU,h_]
    rcases I.n2 with g|g
    .exact dy (g l x m<|by rw[<- K];exact e) hm
    .lia
  exact⟨⟨a.ps,a.hd,a.wh,a.sh,(I.su.mono (bP _) (λ_ h=>h.le (bP _)<|bH ..) λ_ h=>h.up).put ⟨x,J,A.mono<|iQ (bP _)<|bH ..⟩ F,a.no,a.lg,a.gv,a.tks,n1,.inl P,λz=>(by rw[z]at G;cases G),a.nd,a.sz⟩,o.sl⟩
theorem yV:∀{ks:List Ky},(∀k∈ks,VW tk b k)->∃xs:List Tx,yq ks=U xs/\ks=xs.map Ky.s/\∀x∈xs,TX (hB tk b) x
 |[],_=>⟨[],J,J,λ_ h=>nomatch h⟩
 |k::ks,h=>by
  obtain⟨x,rfl,c⟩:=h k<|d_ ..;obtain⟨xs,f,e,d⟩:=yV λk hk=>h k<|eG _ hk;refine⟨x::xs,?_,by rw[e];rfl,λy a=>?_⟩
  .show(yq ks).map _=_
   rw[f];rfl
  .rcases bM.mp a with rfl|a
   .exact c
   .exact d y a
theorem DJ(n:Nat)(h:Hq f.R=w):∀(xs:List Tx)(c:KC)(x:Option C),(∀y∈xs,Ky.s y∈c.ks/\TX (hB f.tk b) y)->DI (VW f.tk b) (ZO b) b c.ks c.zs->b<=300/\f.tk<=12->Hq c.lg+Hq xs<1000000->∃x' es,bg (setG 1) (Rr<|cN<|n+1) (af xs) (sW w [x] f jj c)=.ok (.nx,sW w [x'] f jj<|c.log es)/\Kq (hB f.tk b+70) es/\es.length=Hq xs
 |[],c,x,_,_,_,_=>⟨x,[],by rw[DH];rfl,(λ_ h=>nomatch h),J⟩
 |y::xs,c,x,i,D,j,z=>by
  rw[dU]at z;obtain⟨a,ty⟩:=i y<|d_ ..;obtain⟨_,g,q,rfl,k⟩:=D.at_ a;obtain⟨A,t1⟩:=ö (cJ j.1<|by decide) k
  have d:TX (hB f.tk b+70)<|(y++[32])++kR q:=((ty.cat ⟨bP _,by decide⟩).cat t1).mono (by show hB f.tk b+1+67<=_;lia)
  have l1:=d.l;have hk:hB f.tk b<=5000:=by unfold hB;lia
  rw[bU]at l1;obtain⟨x',es,e,p,o⟩:=DJ n h xs (c.log [.give _]) _ (λy a=>i y<|eG _ a) D j (by rw[bU];show _+1+_<_;lia)
  rw[DG]at e;have v:oA (oA zB<|cS [32]) (aV strN<|k1<|As M.bc (aA M.P.tab 27 zA) zB) _=.ok (.str _,sW w [tl y] f jj c):=pE (pE J J<|gc<|by have:=ty.l;show Hq y+1<=1000000;lia) (cT (az (VV (kb:=w+5) (c9 h J J) J J (cA h 5) g) J) A)<|gc<|by lia
  refine⟨x',_,cQ J (fX h (az v J)<|l_ n h<|by lia) e,λe m=>?_,by rw[bU,o];exact Gi ..⟩
  rcases eW.mp m with z|z
  .rw[dj.mp z];exact⟨_,J,d⟩
  .exact p e z
def OD(I:In X N f.tk b c)(h:Hq f.R=w)(i:b<=300/\f.tk<=12)(u:Hq c.ks<64/\c.ks.length*(hB f.tk b+71)<=d):W (cN (n+2) 117 [.own w]<|st w f jj c)<|Rk (X+d) w f jj N (b+1) c.ks:=by
 obtain⟨xs,q,k,j⟩:=yV I.su.p;have hk:hB f.tk b<=5000:=by unfold hB;lia
 have hl:Hq c.ks=Hq xs:=by rw[k,bQ]
 have es:Iv c.ks=U (.lst<|af<|qz xs):=by
  unfold Iv;rw[q];exact gc ⟨by lia,fJ.mpr λx m=>b7<|cJ (j x m).l<|by lia⟩
 rw[wI _ 117 J];have o:Iw M.bc (aA M.P.tab 27 zA) (sW w [Y] f jj c)=.ok (.lst<|af<|qz xs,sW w [Y] f jj c):=by
  unfold Iw;rw[c9 h J J];apply dF;show Res.bind _ _=_;rw[ux<|cA h 5];apply dF;show Res.bind _ _=_;rw[es];rfl
 have g:=mZ xs;have lz:=I.z i.1;have s:=I.su.le;obtain⟨r,es,e,g1,g2⟩:=DJ n h _ c Y (λy a=>by
  have a:=g.mem_iff.mp a;exact⟨by rw[k];exact iC.mpr ⟨y,a,J⟩,j y a⟩) I.su i (by rw[g.length_eq];lia)
 exact dS J<|yM<|W.of (Rt o J)<|W.of e ⟨J,J,c.log es,J,I.lgE g1 (by rw[g2,g.length_eq];lia)<|by have:=g1.pC;rw[g2,g.length_eq]at this;lia,J⟩
end
end K64
namespace K64
open D
variable(n:Nat){m:List _root_.D.Ob}
section
variable{f:KF}
def uz(d:DD)(hd:d.atEnd=O)(j:d.good=O)(I:In X N f.tk b c)(h:Hq f.R=w)(g:b<=300/\f.tk<=12)(m:d=.tell->Hq c.ks<64/\c.ks.length*(hB f.tk b+71)<=z):W (cN (n+3) 110 [.own w,d.val]<|st w f jj c)<|Rk (X+z) w f jj N (b+1) c.ks:=by
 rw[wI _ 110 J];cases d with
 |say a=>
  have i:=(rj<|j).mono<|show 3<=hB f.tk b by unfold hB;lia
  exact dS J<|jt J<|VX h J<|W.of (l_ _ h<|by have:=I.z g.1;lia) ⟨J,c.log _,J,I.lgE (λe k=>by rw[dj.mp k];exact⟨a,J,i.mono<|bH ..⟩) (by show 1<=_;lia)<|by show Hq a+1+0<=_;have:=i.l;lia,J⟩
 |bring x=>exact dS J<|b8 J<|jt J<|VX h J<|Kr n I.wk h g
 |tell=>exact dS J<|b8 J<|b8 J<|jt J<|VX h J<|OD n I h g<|m J
 |_=>cases hd
def OE:cN (n+1) 109 [.own w,.obj 12 [.str x],.int num] (st w f jj c)=.ok (.non,st w f jj c):=by
 rw[wI _ 109 J];rfl
def RG(d:DD)(y:c.wt=Zb)(A:d.Fi=O)(m:d.good=O)(D:∀a,d.i_=U a->∃k:Nat,BX f.bm (.str a)=U (.int (k:Nat))/\k<=N)(I:In X N f.tk b c)(h:Hq f.R=w)(g:b<=300/\f.tk<=12)(j:c.hand=.str l):W (cN (n+7) 109 [.own w,d.val,.int num]<|st w f jj c)<|Rs X w f jj N<|b+1:=by
 have q:d.atEnd=O->d≠.tell->W _ (Rs X w f jj N _):=λC B=>(uz (z:=0) (n+3) d C m I h g λz=>dy z B).mono λ_=>Rk.rs;rw[wI _ 109 J];cases d with
 |drop=>exact dS J<|jt J<|oQ h J<|Ov _ I h g
 |print=>exact dS J<|b8 J<|jt J<|oQ h (az (jb h j) J)<|Ow _ I h g<|DC I j
 |done=>exact dS J<|b8 J<|b8 J<|jt J<|oQ h J<|DB _ I h g j
 |swap e p o=>exact dS J<|b8 J<|b8 J<|b8 J<|jt J<|oQ h J<|Oz n m I h g j
 |join v=>exact dS J<|b8 J<|b8 J<|b8 J<|b8 J<|jt J<|oQ h J<|OA _ I h g j
 |pile x v=>
  have e:=OC (x:=x) (v:=v) (n+5) (jj:=jj) I h g j;cases v<;>exact dS J<|b8 J<|b8 J<|b8 J<|b8 J<|b8 J<|jt J<|oQ h J e
 |go x=>
  obtain⟨k,e,hk⟩:=D x J;exact dS J (b8 J (b8 J (b8 J (b8 J (b8 J (b8 J (jt J (W.of (kr h (c':={c with ps:=k}) (pE (c9 h J J) J e) J J) ⟨J,Rs.of (I.go [] hk I.hd.up I.wh ⟨I.ES,I.nd⟩ J J J (b9 _).symm (dO _) (λ_ h=>nomatch h) J<|by show 0+_<=_;lia)⟩))))))))
 |add v s=>
  have m:(decide _&&decide _)=O:=m;rw[cL]at m
  obtain rfl:=bh m.1
  obtain rfl:=bh m.2
  exact dS J<|b8 J<|b8 J<|b8 J<|b8 J<|b8 J<|b8 J<|b8 J<|jt J<|oQ h J<|VZ _ y I h g j (by decide) (by decide) J
 |say o=>exact dS J (b8 J (b8 J (b8 J (b8 J (b8 J (b8 J (b8 J (b8 J (jt J (oQ h J (q J (by intro z;cases z))))))))))))
 |bring x=>exact dS J (b8 J (b8 J (b8 J (b8 J (b8 J (b8 J (b8 J (b8 J (jt J (oQ h J (q J (by intro z;cases z))))))))))))
 |tell=>cases A
end
def LN.dN:LN->Bool
 |.full .fin _=>O
 |_=>Zb
def WX(x:Res b)(Q:b->Prop):Prop:=match x with
 |.ok a=>Q a
 |.exc c fs _=>c=1/\aB fs=O
 |.bad=>False
section
variable{f:d->Res a}{P Q:d->Prop}
def WX.mono(h:WX x Q)(k:∀a,Q a->P a):WX x P:=by
 cases x with
 |ok a=>exact k a h
 |exc=>exact h
 |bad=>exact h
theorem WX.bind(h:WX x λa=>WX (f a) R):WX (x.bind f) R:=by
 cases x with
 |ok a=>exact h
 |exc=>exact h
 |bad=>exact h.elim
def W.e(h:W x Q):WX x Q:=by
 obtain⟨a,rfl,q⟩:=h;exact q
def W.k(h:W x Q):W (IM x) Q:=by
 obtain⟨a,rfl,q⟩:=h;exact⟨a,J,q⟩
def sC{a:d}(h:x=.ok a):IM x=.ok a:=by rw[h];rfl
end
section
variable{A B:FS}{d:Out×S->Prop}{u:T×S->Prop}{G:T×FX->Prop}{o a:FE}{fl:FL}{g:Fn}
def Fw(h:a s=.ok q):wD a s=.ok q:=sC h
def A5(h:WX (A s) λp=>p.1=.nx/\WX (B p.2) d):WX (ah A B s) d:=WX.bind<|h.mono λp a=>by
 obtain⟨e,k⟩:=a;obtain⟨o,s'⟩:=p;cases e;exact k
def abq(h:WX (A s) λp=>∃t,p.1=.rt t/\d p):WX (ah A B s) d:=WX.bind<|h.mono λp a=>by
 obtain⟨t,e,k⟩:=a;obtain⟨o,s'⟩:=p;cases e;exact k
def vOk(h:W (A s) λp=>p.1=.nx/\WX (B p.2) d):WX (ah (m_ A) B s) d:=A5<|W.e<|W.k h
def vE(e:A s=.ok (.nx,s1))(h:WX (B s1) d):WX (ah (m_ A) B s) d:=vOk ⟨_,e,J,h⟩
def OF(e:c s=.ok (O,s'))(h:WX (A s') d):WX (bj (mC c) A B s) d:=WX.bind<|W.e ⟨_,sC e,h⟩
def Ks(e:c s=.ok (Zb,s'))(h:WX (B s') d):WX (bj (mC c) A B s) d:=WX.bind<|W.e ⟨_,sC e,h⟩
def wc{a n:Nat}(h:Hq ts=a)(k:WX (B ⟨ts.map (λt=>sv t)++cK (n-Hq ts) Y,m⟩) λp=>(p.1=.nx/\G (.non,p.2.m))\/∃t,p.1=.rt t/\G (t,p.2.m)):WX (aE a n B ts m) G:=by
 unfold aE;rw[b0 h];refine WX.bind<|k.mono λp b=>?_;rcases b with⟨e,q⟩|⟨t,e,q⟩<;>(rw[e];exact q)
def Ĺ(d:o s=.ok (.own k,s))(f:s.m[k]?=U ob)(h:ob.c=cl)(i:fl s=.ok (ts,s1))(a:WX (g (.own k::ts) s1.m) λq=>u (q.1,⟨s1.r,q.2⟩)):WX (F3 cl g o fl s) u:=by
 have e:rcv cl s.m (.own k)=U ():=by
  show(s.m[k]?).bind _=_;rw[f];exact b0 h
 refine WX.bind<|W.e ⟨_,sC d,?_⟩;dsimp only;rw[e];refine WX.bind<|W.e ⟨_,J,?_⟩;have j:ba (cF<|.own k) fl s=.ok _:=az J i;unfold ai;rw[j];refine WX.bind<|W.e ⟨_,J,?_⟩;dsimp only;rw[b9];cases b:g _ s1.m with
 |ok q=>rw[b]at a;exact a
 |exc c fs s=>rw[b]at a;exact a
 |bad=>rw[b]at a;exact a
def DK(h:WX (a s) λp=>d (.nx,p.2)):WX (aR a s) d:=WX.bind<|h.mono λ_ q=>q
def V0(b:c s=.ok (O,s1))(h:WX (B s1) λq=>q.1=.nx/\WX (bW (mC c) B k q.2) d):WX (bW (mC c) B (k+1) s) d:=by
 refine WX.bind<|W.e ⟨_,sC b,?_⟩;show WX _ d;refine WX.bind<|h.mono λq a=>?_;rw[a.1];exact a.2
def abr(a:c s=.ok (Zb,s1))(h:d (.nx,s1)):WX (bW (mC c) B (k+1) s) d:=WX.bind<|W.e ⟨_,sC a,h⟩
def vR2(h:fl s=.ok ([.int i,.int j],s')):WX (Z5 1 fl s) d:=by
 unfold Z5;rw[h];exact⟨J,J⟩
end
def wd(x:LN):ir M.P.sub [10] x.cond=U (.bl x.dN):=by
 cases x with
 |mark=>rfl
 |bare=>rfl
 |full c d=>cases c with
  |fin=>rfl
  |no=>rfl
  |pc c=>cases c with
   |rp q=>cases q<;>rfl
   |_=>rfl
structure ĺ(bm:T)(N:Nat)(x:LN):Prop where
 ms:x.ms=O
 good:x.good=O
 go:∀a,x.i_=U a->∃k:Nat,BX bm (.str a)=U (.int (k:Nat))/\k<=N
section
variable{X w N b j nn:Nat}{f:KF}{jj:FX}{mk:List Ky}{mv:FR}{x:LN}
def OG(x:LN)(e:c.wt=Zb)(a:ĺ f.bm N x)(he:x.dN=Zb)(I:In X N f.tk b c)(h:Hq f.R=w)(i:b<=300/\f.tk<=12)(g:c.hand=.str l):W (cN (n+7) 109 [.own w,x.ni,.int num]<|st w f jj c)<|Rs X w f jj N<|b+1:=by
 cases x with
 |mark=>exact W.of (OE _)<|Rs.of I.up
 |bare d=>exact RG n d e a.ms a.good a.go I h i g
 |full j d=>
  refine RG n d e ?_ (kF.mp a.good).2 a.go I h i g
  have:=a.ms
  cases j with
  |fin=>cases he
  |_=>exact this
abbrev jX(jj:FX)(mk:List Ky)(mv:FR):FX:=jj++[dB mk mv]
def A6(h:Hq f.R=w):(st w f (jX jj mk mv) c)[w+(Hq jj+8)]?=U (dB mk mv):=by
 rw[cA h];show(jj++[dB mk mv])[Hq jj]?=_;rw[iB<|bP _,nY];rfl
def OH(h:Hq f.R=w){a:List Ky}{b:FR}:(st w f (jX jj mk mv) c).set (w+(Hq jj+8)) (dB a b)=st w f (jX jj a b) c:=by
 rw[iy h];have e:(jj++[dB mk mv]).set jj.length (dB a b)=jj++[dB a b]:=by rw[BC _ _<|bP _,nY];rfl
 show f.R++(_::_::_::_::_::_::_::_::(jj++[dB mk mv]).set jj.length _)=_;rw[e];rfl
theorem Is.meet{i:Int}(d:c.wt=Zb)(I:Is X N f.tk b c):In X N f.tk b<|c.log [.meet i tv]:=by
 have a:=I.i;refine⟨a.ps,a.hd,a.wh,a.sh,a.su,a.no,?_,λl h=>?_,?_,a.n1,a.n2,λz=>(by rw[z]at d;cases d),a.nd,?_⟩
 . rw[bU];exact g_ I.sl 1
 .rcases eW.mp h with h|h
  .exact a.gv l h
  .cases dj.mp h
 .show(c.lg++[_]).filterMap Ev.WC=_
  rw[sI];exact(b9 _).trans a.tks
 .show pC _+rf c.sw<=_
  rw[mf];exact a.sz
abbrev ú(w:Nat)(f:KF)(jj:FX):Prop:=f.mt=w+(Hq jj+8)
def Ku(he:x.dN=O){G:T×FX->Prop}(k:G (.non,st w f jj c)):WX (cN (n+1) 102 [.own w,x.val,.int num]<|st w f jj c) G:=by
 rw[wI _ 102 J];exact wc J<|abq<|OF (vM J<|(wd x).trans<|by rw[he]) ⟨.non,J,.inr ⟨.non,J,k⟩⟩
def Kv(h:Hq f.R=w)(b:ú w f jj){a:FX}:aA M.P.tab 22 zA (sW w r f a c)=.ok (.own<|w+(Hq jj+8),sW w r f a c):=c9 h J (by rw[<- b];rfl)
def Kw(he:x.dN=Zb)(h:Hq f.R=w)(a:ú w f jj)(hk:Ky.i num∈mk){G:T×FX->Prop}:WX (cN (n+1) 102 [.own w,x.val,.int num]<|st w f (jX jj mk mv) c) G:=by
 rw[wI _ 102 J];exact wc J<|A5<|Ks (vM J<|(wd x).trans<|by rw[he]) ⟨J,A5<|OF ((VU J (Kv h a) J<|A6 h).trans<|by rw[bt e_,b7 hk])<|vR2<|az (c9 h J J) J⟩
def Kz(a:c.wt=Zb)(j:ĺ f.bm N x)(he:x.dN=Zb)(h:Hq f.R=w)(d:ú w f jj)(hk:Ky.i num∉mk)(hl:Hq mk<1000)(ht:BX f.tr (.int<|num-1)=U (.bl tv))(I:Is X N f.tk b c)(g:b<=300/\f.tk<=12)(m:c.hand=.str l):WX (cN (n+8) 102 [.own w,x.val,.int num]<|st w f (jX jj mk mv) c)<|Rs X w f (jX jj (mk++[.i num])<|mv++[.bl O]) N<|b+1:=by
 rw[wI _ 102 J];refine wc J<|A5<|Ks (vM J<|(wd x).trans<|by rw[he]) ⟨J,A5<|Ks ((VU J (Kv h d) J<|A6 h).trans<|by rw[bt e_,cq hk]) ⟨J,?_⟩⟩
 refine vE (s1:=sW w _ f _ c) ((Fv J (Kv h d) J J (A6 h)<|Gj hl<|by decide).trans<|by rw[ja hk];exact dv (λz=>Res.ok (Out.nx,(⟨_,z⟩:S)))<|OH h) ?_
 refine vE (eS<|pE (c9 h J J) J ht) ?_;refine vE (q_ (ev:=.meet num tv) h (cT (az J<|az J<|az J J)<|AY ..)<|by have:=I.i.z g.1;lia) ?_
 cases tv with
 |false=>exact Ks J<|.inl ⟨J,J,_,J,(Is.meet a I).up⟩
 |true=>
  have e:=OG (num:=num) (jj:=jX jj (mk++[.i num])<|mv++[.bl O]) n x (c:=c.log [.meet num O]) a j he (Is.meet a I) h g m;exact OF J<|W.e<|W.k<|(oQ h J e).mono λp q=>.inl q
end
def ixP{a:Type}(g:a->T){y:List a}(h:p<Hq y):BX (.lst<|y.map g) (.int<|((p+1:Nat):Int)-1)=U (g y[p]):=by
 show atT _ _=_;rw[show(((p+1:Nat))-1)=(p:Int) by lia,qJ<|by rw[bQ];exact h,eX,dP h];rfl
structure LI(X:Nat)(f:KF)(C b:Nat)(c:KC)(mk lf:List Ky):Prop where
 i:Is X f.ln.length f.tk b c
 bc:b+Hq lf+1<=C
 ml:Hq mk+Hq lf<=500
 lk:∀(i:Nat)(h:i<Hq f.ln),f.ln[i].dN=Zb->Ky.i ((i+1:Nat):Int)∈mk\/Ky.i ((i+1:Nat):Int)∈lf
def KA(N:Nat)(lf:List Ky)(p:Nat):Nat:=Hq lf*(N+2)+(N-p)
structure FO(w:Nat)(f:KF):Prop where
 R:Hq f.R=w
 L:∀x∈f.ln,ĺ f.bm f.ln.length x
 n:Hq f.ln<=24
def LO(X w:Nat)(f:KF)(jj:FX)(C b:Nat)(lf:List Ky)(p:Nat)(q:T×FX):Prop:=∃a c g,q.2=st w f (jX jj c g) a/\((a.wt=O/\Is X f.ln.length f.tk C a)\/(a.wt=Zb/\∃e d,LI X f C e a c d/\KA f.ln.length d a.ps<KA f.ln.length lf p))
section
variable{X w b j C nn:Nat}
def KD(F:FO w f)(s:ú w f jj)(ht:f.tr=.lst (bs.map T.bl))(û:Hq bs=Hq f.ln)(h:c.wt=Zb)(H:C<=300/\f.tk<=12)(I:LI X f C b c mk lf):WX (cN (n+9) 101 [.own w]<|st w f (jX jj mk mv) c)<|LO X w f jj C b lf c.ps:=by
 have v:b<=300/\f.tk<=12:=⟨by have:=I.bc;lia,H.2⟩
 obtain⟨l,m⟩:∃l,c.hand=.str l:=I.i.i.wh.resolve_left (by rw[h];exact e_)
 rw[wI _ 101 J];have p:∀{r:List _}{c:KC}{jj:FX},aA M.P.tab 21 zA _=.ok (.int c.ps,sW w r f jj c):=c9 F.R J J;have Ģ:∀{r:List _}{c:KC}{jj:FX},aA M.P.tab 0 zA _=.ok (.lst _,sW w r f jj c):=c9 F.R J J;have d:aZ (oE _<|aV bG<|k1 _) _=.ok (decide<|c.ps=Hq f.ln,sW w [] f (jX jj mk mv) c):=eF<|pE p (cT (az Ģ J)<|by show U _=_;rw[bQ])<|(yN ..).trans<|dv (λb=>U _)<|decide_eq_decide.mpr<|by lia
 by_cases hp:c.ps=Hq f.ln
 .rw[b7 hp]at d
  exact wc J<|OF d<|W.e<|W.k<|W.of (fX F.R J<|v_ _ F.R m<|by have:=I.i.i.z v.1;lia)<|.inl ⟨J,_,mk,mv,J,.inl ⟨J,(wa I.i.i m).le<|by have:=I.bc;lia⟩⟩
 .rw[cq hp]at d
  have g:c.ps<Hq f.ln:=by have:=I.i.i.ps;lia
  refine wc J<|Ks d<|vE (s1:=sW w [] f _ {c with ps:=c.ps+1}) (Ko F.R J J J J)<|DK<|Ĺ J (cA F.R 0) J (az (Fw<|pE Ģ (c_ p J J)<|ixP LN.val g)<|az (Fw p) J) ?_
  have A:Is X f.ln.length f.tk b {c with ps:=c.ps+1}:=⟨⟨g,I.i.i.hd,I.i.i.wh,I.i.i.sh,I.i.i.su,I.i.i.no,I.i.i.lg,I.i.i.gv,I.i.i.tks,I.i.i.n1,I.i.i.n2,I.i.i.wq,I.i.i.nd,I.i.i.sz⟩,I.i.sl⟩
  have E:=F.L _<|wX g;by_cases a:f.ln[c.ps].dN=O
  .refine Ku _ a<|.inl ⟨J,{c with ps:=c.ps+1},mk,mv,J,.inr ⟨h,b,lf,⟨A,I.bc,I.ml,I.lk⟩,?_⟩⟩
   show Hq lf*(Hq f.ln+2)+(Hq f.ln-(c.ps+1))<Hq lf*(Hq f.ln+2)+(Hq f.ln-c.ps)
   lia
  .have a:=by simpa using a
   by_cases hk:Ky.i ((c.ps+1))∈mk
   .exact Kw _ a F.R s hk
   .refine(Kz (c:={c with ps:=c.ps+1}) n h E a F.R s hk (by have:=I.ml;lia) (by rw[ht];exact ixP T.bl<|by lia) A v m).mono λq G=>.inl ⟨J,?_⟩
    obtain⟨_,c',e,i⟩:=G;have x:=(I.lk c.ps g a).resolve_left hk;have el:=List.length_erase_of_mem x;have B:=List.length_pos_of_mem x;refine⟨c',_,_,e,?_⟩;cases Ĥ:c'.wt with
    |true=>exact .inl ⟨J,i.le<|by have:=I.bc;lia⟩
    |false=>
     refine .inr ⟨J,b+1,lf.erase<|Ky.i ((c.ps+1:Nat)),⟨i,by have:=I.bc;lia,by rw[bU,h_];have:=I.ml;lia,λk j o=>?_⟩,?_⟩
     .by_cases z:k=c.ps
      .subst z;exact .inl<|ku _<|dj.mpr J
      .rcases I.lk k j o with q|q
       .exact .inl<|rM _ q
       .exact .inr<|(List.mem_erase_of_ne λy=>z<|by injection y with y;lia).mpr q
     .unfold KA
      obtain⟨k,hk⟩:∃k,Hq lf=k+1:=⟨Hq lf-1,by lia⟩
      rw[el,hk,rK]
      lia
def RH(F:FO w f):eM (D.tB<|aA M.P.tab 30 zA) (sW w r f jj c)=.ok (!c.wt,sW w r f jj c):=by
 unfold eM D.tB;rw[c9 F.R J J];rfl
theorem DM(n:Nat)(F:FO w f)(l:ú w f jj)(ht:f.tr=.lst (bs.map T.bl))(û:Hq bs=Hq f.ln)(m:C<=300/\f.tk<=12):∀(e:Nat){b:Nat}{c:KC}{mk lf:List Ky}{mv:FR},c.wt=Zb->LI X f C b c mk lf->KA f.ln.length lf c.ps+2<=e->WX (bW (mC<|eM<|D.tB<|aA M.P.tab 30 zA) (aR<|F3 26 (cN (n+9) 101) zA a_) e<|sW w [y,B] f (jX jj mk mv) c) λz=>z.1=.nx/\∃c' a h,z.2=sW w [y,B] f (jX jj a h) c'/\c'.wt=O/\Is X f.ln.length f.tk C c'
 |0,b,c,mk,lf,mv,i,I,s=>by lia
 |e+1,b,c,mk,lf,mv,i,I,s=>by
  have d:=RH F (r:=[y,B]) (c:=c) (jj:=jX jj mk mv);rw[i]at d;refine V0 d<|DK<|Ĺ J (cA F.R 0) J J<|(KD n F l ht û i m I).mono λq j=>⟨J,?_⟩;obtain⟨t,v⟩:=q;obtain⟨c',a,h,rfl,j⟩:=j;rcases j with⟨g,o⟩|⟨g,x,p,u,o⟩
  .obtain⟨e,rfl⟩:∃k,e=k+1:=⟨e-1,by lia⟩
   have d:=RH F (r:=[y,B]) (c:=c') (jj:=jX jj a h);rw[g]at d;exact abr d ⟨J,c',a,h,J,g,o⟩
  .exact DM n F l ht û m e g u (by lia)
end
section
variable{X w b j C N tk nn:Nat}{c c':KC}{l x h':Tx}
abbrev KC.tkn(c:KC)(i:Nat)(h':Tx):KC:={c with lg:=c.lg++[.take i],hand:=.str h',hr:=c.hr+1,wt:=Zb}
theorem Is.take(I:Is X N tk b c)(g:c.wt=O)(f:TX (hB (tk+1) b) h'):Is X N (tk+1) b<|c.tkn (tk+1) h':=by
 have a:=I.i;obtain⟨q1,d⟩:=a.wq g;have le:tk<=tk+1:=bH ..;have hs:=a.sz;have j:=Bq b<|g_ (iQ (b:=b) le<|bP _) 1;have e:(c.lg++[Ev.take<|tk+1]).length<=(b+9)*(b+9)+1:=by rw[bU];exact g_ d 1
 refine⟨⟨a.ps,.inr ⟨h',J,f⟩,.inr ⟨h',J⟩,a.sh.mono (bP _) (λ_ h=>h) λ_ h=>h.le le<|bP _,a.su.mono (bP _) (λ_ h=>h.le le<|bP _) λ_ h=>h,a.no,cJ e<|wN _,λl h=>?_,?_,a.n1,.inr q1,(λz=>by cases z),a.nd,by show pC _+rf c.sw<=_;rw[mf];show pC c.lg+0+_<=_;lia⟩,e⟩
 .rcases eW.mp h with h|h
  .exact(a.gv l h).mono<|g_ (iQ le<|bP _) _
  .cases dj.mp h
 .show(c.lg++[_]).filterMap Ev.WC=_
  rw[sI,show c.lg.filterMap Ev.WC=_ from a.tks,List.range'_concat,Nat.one_mul,Gi 1 tk];rfl
def ü(h:Hq f.R=w):aQ M.P.tab 22 zA (mX M.bc) (sW w r f jj c)=.ok (.nx,sW w r {f with mt:=w+(Hq jj+8)} (jX jj [] []) c):=by
 have e:st w f jj c++[dB [] []]=st w f (jX jj [] []) c:=by
  unfold st;rw[fG];rfl
 have el:(st w f jj c).length=w+(Hq jj+8):=by
  unfold st;rw[bU,h];rfl
 show Res.bind (bu _) _=_;rw[e,show(st w f _ c)[w]?=U _ from cA h 0,el];show Res.ok (Out.nx,(⟨sv _::r,(st w f _ c).set (w+0) _⟩:S))=_;rw[iy h];rfl
def LfO(f:KF)(lf:List Ky):Prop:=∀(i:Nat)(h:i<Hq f.ln),f.ln[i].dN=Zb->Ky.i ((i+1:Nat):Int)∈lf
def we(F:FO w f)(û:Hq bs=Hq f.ln)(d:TX 6 x)(I:Is X f.ln.length f.tk b c)(o:c.wt=O)(W:1<=b)(hl:LfO f lf)(j:b+Hq lf+1<=C)(A:C<=300)(Q:f.tk+1<=12):WX (cN (n+10) 100 [.own w,.str x,.lst<|bs.map T.bl]<|st w f jj c) λp=>∃K mt c',p.2=st w {f with tk:=f.tk+1,tr:=.lst (bs.map T.bl),mt:=mt} K c'/\c'.wt=O/\Is X f.ln.length (f.tk+1) C c':=by
 obtain⟨h',g,v⟩:∃h',TX (hB (f.tk+1) b) h'/\∀(f:KF)(lg:List Ev)(r:List _),Hq f.R=w->rG (aZ<|bo (aI .Is) (aA M.P.tab 24 zA)<|cF .non) zB (oA (oA _<|cS [32]) zB) (sW w (tl x::r) f jj {c with lg:=lg})=.ok (.str h',sW w (tl x::r) f jj _):=by
  have q2:=I.i.hd;have hk:hB (f.tk+1) b<=5000:=by unfold hB;lia
  have q:hB (f.tk+1) b=hB f.tk b+7:=by unfold hB;lia
  rcases q2 with e|⟨l,e,y⟩
  .refine⟨x,d.mono<|by lia,λf lg r h=>?_⟩
   unfold rG;rw[eF<|pE (c9 h J<|dv (λx=>U _) e) J J];rfl
  .have V:=y.l
   have S:=d.l;have m:=(y.cat (⟨bP _,by decide⟩:TX 1 [32])).cat d
   refine⟨(l++[32])++x,m.mono<|by lia,λf lg r h=>?_⟩
   have j:aZ (bo (aI .Is) _<|cF .non) _=.ok (Zb,sW w (tl x::r) f jj _):=eF<|pE (jb (c:={c with lg:=lg}) h e) J J
   rw[ù j];refine(yQ (k:=0) (yQ (k:=0) (jb h e) J ?_) J ?_)
   .rw[bU];show Hq l+1<=_;lia
   .rw[bU,bU];show Hq l+1+_<=_;lia
 have h:=F.R;have lz:=I.i.z<|by lia
 rw[wI _ 100 J];refine wc J ?_;refine vE (s1:=sW w _ {f with tk:=f.tk+1} jj c) (Ko h J J J J) ?_
 refine vE (q_ (ev:=.take _) h (cT (az J<|az (c9 h J J) J)<|kh ..)<|by lia) ?_
 refine vE (kr h (c':={c with lg:=c.lg++[.take _],hand:=.str h'}) (v _ _ _ h) J J) ?_
 refine vE (Ko h (c':={c with lg:=c.lg++[.take _],hand:=.str h',hr:=c.hr+1}) J J J J) ?_
 refine vE (kr (f':={f with tk:=f.tk+1,tr:=.lst _}) h J J J) ?_
 refine vE (ü h) ?_
 refine vE (kr (c':=c.tkn _ h') h J J J) ?_
 refine(DM (f:={f with tk:=f.tk+1,tr:=.lst _,mt:=w+(Hq jj+8)}) n ⟨h,F.L,F.n⟩ J J û ⟨A,Q⟩ many J ⟨I.take o g,j,by show 0+Hq lf<=_;lia,λi s z=>.inr<|hl i s z⟩ ?_).mono λz hz=>?_
 .unfold KA many
  have B:Hq lf<=300:=by lia
  have:=sE B<|show Hq f.ln+2<=26 by have:=F.n;lia
  have:=F.n
  lia
 .obtain⟨e,c',a,N,H,G,E⟩:=hz
  exact .inl ⟨e,jX jj a N,w+(Hq jj+8),c',by rw[H],G,E⟩
end
theorem ý{I:Nat->FX->Prop}{R:T->Prop}:∀{ts:FR}{i:Nat}{m:FX},(∀t∈ts,∀i m,i<N->I i m->∃b1,a t r=U b1/\W (e ⟨b1,m⟩) λp=>R p.1/\I (i+1) p.2.m)->i+Hq ts<=N->I i m->W (bA a eZ e r ts m) λp=>(∀t∈p.1,R t)/\I (i+Hq ts) p.2
 |[],i,m,_,_,h=>⟨_,J,(λ_ z=>nomatch z),h⟩
 |t::ts,i,m,k,f,h=>by
  rw[dU]at f;obtain⟨b1,o,p,n,c,j⟩:=k t (d_ ..) i m (by lia) h
  obtain⟨q,l,b,g⟩:=ý (λt ht=>k t<|eG _ ht) (by lia) j
  refine⟨(p.1::q.1,q.2),?_,λu d=>?_,by rw[dU,show i+(Hq ts+1)=i+1+Hq ts by lia];exact g⟩
  .rw[bA,o]
   show Res.bind (e _) _=_;rw[n];show Res.bind (bA a eZ e r ts _) _=_;rw[l];rfl
  .rcases bM.mp d with z|z
   .rw[z];exact c
   .exact b u z
def þ(t:T):Prop:=∃b,t=.bl b
def nm:qL->Tx
 |.one c p=>c::if p then[43]else[]
 |.emp=>[94,36]
def OI(h:p.rJ=O) :cN (n+5) 13 [p.val] m=.ok (.str<|nm p,m):=by
 cases p with
 |one c p=>
  have h:=bh h;unfold zj at h;simp only[bM,kE,hQ]at h;rcases h with rfl|rfl|rfl<;>cases p<;>kernel_rfl
 |emp=>kernel_rfl
abbrev mj(x:Tx)(k:Nat):Ob:=⟨24,[.val<|.str x,.val<|.int ((k+1:Nat):Int),.val<|.own<|2*k+1]⟩
structure RO(rows:List Tx)(cc:Nat)(R:FX):Prop where
 len:Hq R=2*Hq rows
 at_:∀(k:Nat)(h:k<Hq rows),R[2*k]?=U (mj rows[k] k)/\∃ks ts,R[2*k+1]?=U (dB ks ts)/\DI (λ_=>True) þ cc ks ts
 tx:∀x∈rows,TX 6 x
abbrev KF.up(f:KF)(R:FX)(uk:List Ky)(uv:FR):KF:={f with R:=R,uk:=uk,uv:=uv}
structure TO(rows:List Tx)(w cc:Nat)(f:KF):Prop where
 ro:RO rows cc f.R
 w:w=2*Hq rows
 up:DI (λ_=>True) þ cc f.uk f.uv
def TB(rows:List Tx)(w cc:Nat)(f:KF)(jj:FX)(c:KC)(q:T×FX):Prop:=∃b R uk uv,q=(.bl b,st w (f.up R uk uv) jj c)/\TO rows w cc (f.up R uk uv)
section
variable{w cc k:Nat}{p:qL}
def TO.Rw(I:TO rows w cc f):Hq f.R=w:=I.ro.len.trans I.w.symm
theorem TO.mono{c:Nat}(I:TO rows w cc f)(h:cc<=c):TO rows w c f:=⟨⟨I.ro.len,λk hk=>let⟨a,ks,ts,b,d⟩:=I.ro.at_ k hk;⟨a,ks,ts,b,d.mono h (λ_ h=>h) λ_ h=>h⟩,I.ro.tx⟩,I.w,I.up.mono h (λ_ h=>h) λ_ h=>h⟩
theorem TB.mono{a:Nat}(h:TB rows w cc f jj c q)(k:cc<=a):TB rows w a f jj c q:=let⟨b,R,uk,uv,e,i⟩:=h;⟨b,R,uk,uv,e,i.mono k⟩
def OJ(h:k<Hq f.R):(st w f jj c)[k]?=f.R[k]?:=j4 h
def ÿ(h:k<Hq f.R):(st w f jj c).set k x=st w (f.up (f.R.set k x) f.uk f.uv) jj c:=PM _ _ h
def j1(I:TO rows w cc f)(hk:k<Hq rows)(a:o s=.ok (.own<|2*k,s))(hs:s.m=st w f jj c)(b:iY M.P.tab 24 i=U j)(d:(mj rows[k] k).fs[j]?=sv t):aA M.P.tab i o s=.ok (t,s):=Kn a (by rw[hs,OJ<|by rw[I.ro.len];lia];exact(I.ro.at_ k hk).1) b d
def RO.put(I:RO rows cc R)(hk:k<Hq rows)(D:DI (λ_=>True) þ (cc+1) ks ts):RO rows (cc+1)<|R.set (2*k+1)<|dB ks ts:=by
 refine⟨by rw[fF];exact I.len,λj a=>⟨?_,?_⟩,I.tx⟩
 .rw[e9<|by lia];exact(I.at_ j a).1
 .by_cases z:j=k
  .subst z
   exact⟨ks,ts,f9<|by rw[I.len];lia,D⟩
  .obtain⟨_,b,c,e,d⟩:=I.at_ j a
   exact⟨b,c,by rw[e9<|by lia];exact e,d.mono (bH ..) (λ_ h=>h) λ_ h=>h⟩
def KG(I:TO rows w cc f)(hk:k<Hq rows)(x:p.rJ=O)(A:cc<900000):W (cN (n+6) 92 [.own<|2*k,p.val]<|st w f jj c)<|TB rows w (cc+1) f jj c:=by
 obtain⟨_,ks,ts,z,D⟩:=I.ro.at_ k hk;obtain⟨b,y⟩:=Kc n (row:=rows[k]) (by have:=(I.ro.tx _<|wX hk).l;lia)
 have i:(st w f jj c)[2*k+1]?=U _:=(OJ<|by rw[I.ro.len];lia).trans z
 have d:∀{r:FC},aA M.P.tab 15 zA _=.ok (.own _,⟨sv _::r,st w f jj c⟩):=j1 I hk J J J J;rw[wI _ 92 J];refine gR J<|bS (cE J<|OI n x) ?_;have e:=VU (neg:=O) (a:=vF 2) (s:=⟨[sv _,sv p.val,tl<|nm p],st w f jj c⟩) J d J i;by_cases hm:Ky.s (nm p)∈ks
 .rw[b7 hm]at e
  obtain⟨_,g,m,rfl⟩:=D.at_ hm;exact bN e<|bR (VV d J J i g) ⟨m,f.R,f.uk,f.uv,J,I.mono<|bH ..⟩
 .rw[cq hm]at e
  have v:=D.put (k:=.s<|nm p) trivial ⟨b,J⟩;obtain⟨_,g,m,rfl⟩:=v.at_ vY;have ro:=I.ro.put hk v;have q:TO rows w _<|f.up _ f.uk f.uv:=⟨ro,I.w,I.up.mono (bH ..) (λ_ h=>h) λ_ h=>h⟩;refine kg<|jt e<|W.of ((Fv (cE (az J<|az (j1 I hk J J J J) J)<|y _) d J J i<|rL D.le<|by lia).trans<|by rw[ÿ<|by rw[I.ro.len];lia]) ⟨J,?_⟩
  refine bR (VV (j1 q hk J J J J) J J ?_ g) ⟨m,_,_,_,J,q⟩;exact(OJ<|by rw[ro.len];lia).trans<|f9<|by rw[I.ro.len];lia
end
abbrev bO(j:Nat):T:=.own<|2*j
def cM(h:fl s=.ok (ts,s))(k:g ts s.m=.ok (t,m')):ai g [] fl s=.ok (t,⟨s.r,m'⟩):=nT h (by rw[b9];exact k)
def KI(I:TO rows w cc f)(hk:k<Hq rows):(st w f jj c)[2*k]?=U (mj rows[k] k):=(OJ<|by rw[I.ro.len];lia).trans (I.ro.at_ k hk).1
def TB.of(I:TO rows w cc f):TB rows w cc f jj c (.bl b,st w f jj c):=⟨b,f.R,f.uk,f.uv,J,I⟩
def rm(q:RP)(a:q.rJ=O)(I:TO rows w cc f)(hk:k<Hq rows)(b:cc<900000):W (cN (n+7) 25 [q.val,bO k]<|st w f jj c)<|TB rows w (cc+1) f jj c:=by
 rw[wI _ 25 J];cases q with
 |row v=>exact gR J<|bY J<|bR (pE J (j1 I hk J J J J)<|yN ..)<|TB.of<|I.mono<|bH ..
 |like p=>
  obtain⟨⟨u,d⟩,e,q⟩:=KG n I hk a b;exact gR J<|bN J<|bY J<|NY (mE J (KI I hk) J J e) q
def RI(I:TO rows w cc f):(st w f jj c)[w+2]?=U (dB f.uk f.uv):=cA I.Rw 2
def KJ(I:TO rows w cc f):aA M.P.tab 17 zA ⟨sv (.own<|w+1)::r,st w f jj c⟩=.ok (.own<|w+2,⟨sv (.own<|w+1)::r,st w f jj c⟩):=Kn J (cA I.Rw 1) J J
def KL(I:TO rows w cc f)(e:cc<900000)(d:a s=.ok (.bl b,⟨[sv<|.own<|w+1,px i,sv b1,sv b2],st w f jj c⟩)):∃uk uv,oN M.bc (aA M.P.tab 17 zA) zB a s=.ok (.nx,⟨[sv<|.own<|w+1,px i,sv b1,sv b2],st w (f.up f.R uk uv) jj c⟩)/\TO rows w (cc+1) (f.up f.R uk uv):=by
 refine⟨(bx f.uk f.uv _ _).1,(bx f.uk f.uv (.i i) _).2,(Fv d (KJ I) J J (RI I)<|rL I.up.le<|by lia).trans ?_,⟨(I.mono<|bH ..).ro,I.w,I.up.put trivial ⟨b,J⟩⟩⟩
 rw[iy I.Rw];rfl
def A7{x y:RP}(G:x.rJ=O)(F:y.rJ=O)(I:TO rows w cc f)(hk:k<Hq rows)(Q:cc+5<900000):W (cN (n+8) 96 [.own<|w+1,.int i,(PC.ft x y).val,bO k]<|st w f jj c)<|TB rows w (cc+3) f jj c:=by
 rw[wI _ 96 J];obtain⟨g,L⟩:=I.up.get ⟨Zb,J⟩;have z:=Oq (b:=vF 1) (d:=cF<|.bl Zb) (s:=⟨[sv _,px i,sv (PC.ft x y).val,sv<|bO k],st w f jj c⟩) (KJ I) J J J<|RI I;rw[L]at z;cases g with
 |true=>
  obtain⟨⟨u,E⟩,e,b,l,uk,uv,B,h⟩:=rm n y F I hk (by lia)
  cases B;have Ļ:ai _ [] (k2 (aA M.P.tab 7 zC) zD) ⟨[sv<|.own<|w+1,px i,sv (PC.ft x y).val,sv _],st w f jj c⟩=.ok _:=cM J e;obtain⟨r,q,A,C⟩:=KL h (by lia)<|N2 Ļ
  exact gR J<|bHt (sy z)<|kg<|W.of A ⟨J,bR J ⟨O,_,_,_,J,C.mono<|by lia⟩⟩
 |false=>
  obtain⟨⟨u,E⟩,e,b,l,uk,uv,B,h⟩:=rm n x G I hk (by lia)
  cases B;have K:eM (D.tB<|ai (cN (n+7) 25) []<|k2 (aA M.P.tab 6 zC) zD) ⟨[sv<|.own<|w+1,px i,sv (PC.ft x y).val,sv<|bO k],st w f jj c⟩=.ok (!b,⟨[sv<|.own<|w+1,px i,sv (PC.ft x y).val,sv<|bO k],st w (f.up l uk uv) jj c⟩):=by
   unfold eM D.tB;rw[cM J e];rfl
  refine gR J<|bN (sy z)<|bBr<|W.of K ⟨λ_=>bR J ⟨Zb,_,_,_,J,h.mono<|by lia⟩,λ_=>?_⟩
  have H:∃b,∀m,cN (n+7) 26 [y.val,.int ((k+1))] m=.ok (.bl b,m):=by
   rw[wI _ 26 J];cases y with
   |row v=>exact⟨_,λm=>sEq J J J<|bR J J⟩
   |like p=>exact⟨Zb,λm=>sEq (by cases p<;>rfl) J J<|bR J J⟩
  obtain⟨b2,A⟩:=H;obtain⟨r,q,N,C⟩:=KL h (by lia) (a:=oz<|ai _ []<|k2 (aA M.P.tab 7 zC)<|aA M.P.tab 3 zD) (s:=⟨[sv _,sv _,sv (PC.ft x y).val,sv _],st w _ jj c⟩)<|N2<|cE (az J<|az (j1 h hk J J J J) J)<|A _
  exact kg<|W.of N ⟨J,bR J ⟨O,_,_,_,J,C.mono<|by lia⟩⟩
def KN:∀{us:FR},(∀t∈us,þ t)->∃b,ya [.lst us]=U (.bl b):=λ{us} h=>by
 have:∃bs:Fs,us=bs.map T.bl:=by
  induction us with
  |nil=>exact⟨[],J⟩
  |cons t us a=>
   obtain⟨b,rfl⟩:=h t<|d_ ..;obtain⟨bs,rfl⟩:=a λt ht=>h t<|eG _ ht;exact⟨b::bs,J⟩
 obtain⟨bs,rfl⟩:=this;refine⟨bs.any id,?_⟩;have e:=jZ (λb=>b) bs;rw[List.map_id']at e;show(boolsOf _).map _=_;rw[e];rfl
def OL(r:p.rJ=O)(I:TO rows w cc f)(hB:∀j∈B,j<Hq rows)(hl:Hq B<=12)(G:cc+20<900000):W (cN (n+7) 95 [.own<|w+1,pl,(PC.soon v p).val,t,.lst<|B.map bO]<|st w f jj c)<|TB rows w (cc+13) f jj c:=by
 rw[wI _ 95 J];have hs:Yq (.lst<|bJ (B.map bO) Y<|U v)=U ((bJ B Y<|U v).map bO):=by rw[mh];rfl
 have H:((bJ B Y<|U v).map bO).length<=12:=by rw[bQ];exact cJ jH hl
 refine gR J<|bN J<|bN J<|bN J<|bY J<|Û<|aaM<|Ú<|aaP<|Þ<|W.of (Rt (zh J J J J) hs) ⟨by show((bJ B Y _).map bO).length<=_;lia,?_⟩
 refine(ý (R:=þ) (N:=12) (I:=λi m=>∃R uk uv,m=st w (f.up R uk uv) jj c/\TO rows w (cc+i) (f.up R uk uv)) (i:=0) (λt ht i m F z=>?_) (by lia) ⟨f.R,f.uk,f.uv,J,I⟩).mono λq o=>?_
 .obtain⟨R,uk,uv,rfl,l⟩:=z
  obtain⟨j,a,rfl⟩:=iC.mp ht;have a:=hB j<|rh a;obtain⟨⟨u,E⟩,e,b,D,g,d,C,h⟩:=KG _ l a r (by lia)
  cases C;exact⟨[Y,sv _,sv _],J,W.of (mE J (KI l a) J J e) ⟨⟨b,J⟩,D,g,d,J,h⟩⟩
 .obtain⟨A,R,uk,uv,e,h⟩:=o
  obtain⟨b,s⟩:=KN A;exact⟨_,J,.bl b,s,b,R,uk,uv,by rw[e],h.mono<|by lia⟩
section
variable{rows:List Tx}{w cc k tk b q:Nat}{f:KF}{jj m:FX}{c:KC}{p:qL}{a:FE}{t u pl bm:T}{B:B1}{i:Int}{ln:List LN}{lf:List Ky}
def yW(x:PC)(a:x.rJ=O)(I:TO rows w cc f)(hk:k<Hq rows)(hB:∀j∈B,j<Hq rows)(hl:Hq B<=12)(d:cc+20<900000):W (cN (n+9) 95 [.own<|w+1,.int i,x.val,bO k,.lst<|B.map bO]<|st w f jj c)<|TB rows w (cc+13) f jj c:=by
 cases x with
 |last=>
  rw[wI _ 95 J];exact gR J<|bN J<|bN J<|bY J<|bR J<|TB.of<|I.mono<|bH ..
 |soon v p=>exact OL _ a I hB hl d
 |ft x y=>
  have a:(x.rJ&&y.rJ)=O:=a;rw[cL]at a;obtain⟨⟨u,b⟩,e,z⟩:=A7 n a.1 a.2 I hk (by lia)
  rw[wI _ 95 J];exact gR J<|bN J<|bY J<|NY (mE J (cA I.Rw 1) J J e)<|z.mono<|by lia
 |rp x=>
  obtain⟨⟨u,b⟩,e,z⟩:=rm _ x a I hk (by lia)
  rw[wI _ 95 J];have z:TB rows w (cc+13) f jj c _:=z.mono (by lia)
  cases x with
  |row v=>exact gR J<|bN J<|bN J<|bN J<|bN J<|NY (cM J e) z
  |like p=>exact gR J<|bN J<|bN J<|bN J<|bN J<|NY (cM J e) z
def rn(a:v=.obj 3 []\/v=.obj 10 [])(I:TO rows w cc f):W (cN (n+9) 95 [.own<|w+1,.int i,v,bO k,.lst<|B.map bO]<|st w f jj c)<|TB rows w (cc+13) f jj c:=by
 have e:cN (n+8) 25 [v,bO k] (st w f jj c)=.ok (.bl O,st w f jj c):=by
  rw[wI _ 25 J];rcases a with rfl|rfl<;>rfl
 rw[wI _ 95 J];rcases a with rfl|rfl<;>exact gR J<|bN J<|bN J<|bN J<|bN J<|bR (cE J e)<|TB.of<|I.mono<|bH ..
def KO(x:LN)(a:x.good=O)(I:TO rows w cc f)(hk:k<Hq rows)(hB:∀j∈B,j<Hq rows)(hl:Hq B<=12)(g:cc+20<900000):W (cN (n+10) 95 [.own<|w+1,.int i,x.cond,bO k,.lst<|B.map bO]<|st w f jj c)<|TB rows w (cc+13) f jj c:=by
 cases x with
 |mark=>exact rn _ (.inl J) I
 |bare=>exact rn _ (.inl J) I
 |full h d=>
  have a:=(kF.mp<|a).1;cases h with
  |fin=>exact rn _ (.inr J) I
  |pc y=>exact yW _ y a I hk hB hl g
  |no y=>
   obtain⟨⟨u,o⟩,e,b,R,uk,uv,l,m⟩:=yW n y a I hk hB hl g;cases l;show W _ _;rw[wI _ 95 J];exact gR J<|bY J<|NY (N2<|mE J (cA I.Rw 1) J J e) ⟨!b,R,uk,uv,J,m⟩
theorem DN(n:Nat)(hk:k<Hq rows)(hB:∀j∈B,j<Hq rows)(hl:Hq B<=12):∀(L:List LN)(i:Int)(bs:Fs)(cc:Nat)(f:KF)(u v:Option C),(∀x∈L,x.good=O)->TO rows w cc f->cc+13*Hq L<800000->Hq bs+Hq L<1000 ->
  W (bg (bw [4,5]) (gO 3<|aJ (aD [(25,95)]<|cN<|n+10) zA<|ba (vF 4)<|k3 (vF 5) zB zC) (eU i<|L.map LN.cond) ⟨[sv<|.own<|w+1,sv<|bO k,FH<|B.map bO,U<|.ol<|bs.map T.bl,u,v],st w f jj c⟩) λp=>p.1=.nx/\∃(u v:Option C)(Ö:Fs)(R:FX)(uk:List Ky)(uv:FR),p.2=⟨[sv<|.own<|w+1,sv<|bO k,FH<|B.map bO,U<|.ol<|Ö.map T.bl,u,v],st w (f.up R uk uv) jj c⟩/\Ö.length=Hq bs+Hq L/\TO rows w (cc+13*Hq L) (f.up R uk uv)
 |[],i,bs,cc,f,u,v,_,I,_,_=>⟨_,J,J,u,v,bs,f.R,f.uk,f.uv,J,J,I⟩
 |x::L,i,bs,cc,f,u,v,l,I,s,z=>by
  rw[dU]at s z;obtain⟨⟨t,m1⟩,e,b,R,uk,uv,A,E⟩:=KO n x (l x<|d_ ..) I hk hB hl (by lia)
  cases A;have g:=DN n hk hB hl L (i+1) (bs++[b]) _ _ (px i) (sv x.cond) (λy r=>l y<|eG _ r) E (by lia) (by simp;lia)
  rw[gf]at g;refine JP J<|W.of (AR J (mE J (cA I.Rw 1) J J e) J<|by rw[bQ];lia) ⟨J,g.mono λp h=>⟨h.1,?_⟩⟩
  obtain⟨_,o,m,Ö,D,d,a,q2,q,q4⟩:=h;exact⟨o,m,Ö,D,d,a,q2,by rw[q,bU,h_,dU];lia,by rw[dU,show cc+13*(Hq L+1)=cc+13+13*Hq L by lia];exact q4⟩
def OM(hk:k<Hq rows)(hB:∀j∈B,j<Hq rows)(hl:Hq B<=12)(d:∀x∈f.ln,x.good=O)(i:Hq f.ln<=24)(I:TO rows w cc f)(l:cc+400<800000):W (cN (n+11) 94 [.own<|w+1,bO k,.lst<|B.map bO]<|st w f jj c) λp=>∃(bs:Fs)(R:FX)(uk:List Ky)(uv:FR),p=(.lst<|bs.map T.bl,st w (f.up R uk uv) jj c)/\bs.length=Hq f.ln/\TO rows w (cc+312) (f.up R uk uv):=by
 rw[wI _ 94 J];refine gR J<|kg<|W.of J ⟨J,kg<|yM<|W.of (a:=(eU 0 _,⟨[sv<|.own<|w+1,sv<|bO k,FH<|B.map bO,U<|.ol [],Y,Y],st w f jj c⟩)) ?_<|(DN n hk hB hl f.ln 0 [] cc f Y Y d I (by lia) (by show 0+_<_;lia)).mono λp b=>⟨b.1,?_⟩⟩
 .unfold jf
  rw[Kn J (cA I.Rw 1) J J];rfl
 .obtain⟨_,u,v,bs,R,uk,uv,e,h,g⟩:=b
  rw[e];exact NY J ⟨bs,R,uk,uv,J,by rw[h];exact zl _,g.mono<|by lia⟩
def WK(rows:List Tx)(ln:List LN)(bm:T)(w tk cc b:Nat)(m:FX):Prop:=∃f jj c,m=st w f jj c/\f.ln=ln/\f.bm=bm/\f.tk=tk/\FO w f/\TO rows w cc f/\Is 0 ln.length tk b c/\c.wt=O
def V1(F:FO w f)(I:TO rows w cc f)(A:Is 0 f.ln.length f.tk b c)(E:f.tk+1<=12)(l:c.wt=O)(hk:k<Hq rows)(hB:∀j∈B,j<Hq rows)(hl:Hq B<=12)(y:LfO f lf)(q:1<=b)(d:b+Hq lf+1<=300)(o:cc+400<800000):WX (cN (n+12) 99 [.own w,bO k,.lst<|B.map bO]<|st w f jj c) λp=>∃f' g c',p.2=st w f' g c'/\f'.ln=f.ln/\f'.bm=f.bm/\f'.tk=f.tk+1/\FO w f'/\TO rows w (cc+312) f'/\Is 0 f.ln.length (f.tk+1) (b+Hq lf+1) c'/\c'.wt=O:=by
 obtain⟨⟨t,m1⟩,e,bs,R,uk,uv,v,r,a⟩:=OM n hk hB hl (λx i=>(F.L x i).good) F.n I o;cases v;have D:FO w _:=⟨a.Rw,F.L,F.n⟩;have h:=we (jj:=jj) (n+1) D r (I.ro.tx _<|wX hk) A l q y (bP _) d E;have s:k2 (wD<|aA M.P.tab 14 zB) (wD<|aJ (aD [(25,94)] _) (aA M.P.tab 19 zA)<|k2 zB zC) ⟨[sv _,sv _,sv _],st w f jj c⟩=.ok _:=az (Fw<|j1 I hk J J J J)<|az (Fw<|Dh (c9 F.R J J) (cA F.R 1) J J e) J;rw[wI _ 99 J];refine wc J ?_;apply DK;refine Ĺ J (cA F.R 0) J s ?_;refine WX.mono h λp m=>.inl ⟨J,?_⟩;obtain⟨g,mt,c',u,Ĥ,z⟩:=m;exact⟨_,g,c',u,J,J,J,⟨a.Rw,F.L,F.n⟩,⟨a.ro,a.w,a.up⟩,z,Ĥ⟩
def ON(hk:k<Hq rows)(hB:∀j∈B,j<Hq rows)(hl:Hq B<=12)(l:∀(i:Nat)(h:i<Hq ln),ln[i].dN=Zb->Ky.i ((i+1:Nat):Int)∈lf)(g:1<=b)(a:b+Hq lf+1<=300)(e:cc+400<800000)(q:tk+1<=12)(K:WK rows ln bm w tk cc b m):WX (cN (n+12) 99 [.own w,bO k,.lst<|B.map bO] m) λp=>WK rows ln bm w (tk+1) (cc+312) (b+Hq lf+1) p.2:=by
 obtain⟨f,jj,c,rfl,rfl,rfl,rfl,F,I,o,d⟩:=K;exact V1 n F I o q d hk hB hl l g a e
end
def yX(L:List LN):Nat:=(L.filter LN.dN).length
theorem ny(n:Nat)(h:Hq f.R=w)(ht:f.tk<=12)(k:B<=300):∀(L:List LN)(X b:Nat)(c:KC)(v:Option C),(∀y∈L,y.ms=O/\y.good=O/\(y.dN=O->Hq c.ks<64/\c.ks.length*(hB f.tk B+71)<=z))->In X N f.tk b c->b+Hq L<=B->W (bg (setG 1) (JO<|cN<|n+3) (aN L)<|sW w [v] f jj c) λp=>p.1=.nx/\∃(g:Option C)(c':KC),p.2=sW w [g] f jj c'/\In (X+z*yX L) N f.tk (b+Hq L) c'
 |[],X,b,c,v,_,I,_=>⟨_,J,J,v,c,J,I⟩
 |x::L,X,b,c,v,q,I,u=>by
  rw[dU]at u;obtain⟨E,A,m⟩:=q x<|d_ ..;have l:D.tB (dz _<|aA M.P.tab 1 zB) _=.ok (x.dN,sW w [sv x.val] f jj c):=vM J<|wd x;by_cases a:x.dN=O
  .have s:yX (x::L)=yX L+1:=by unfold yX;rw[GG a];rfl
   obtain⟨d,rfl⟩:∃d,x=.full .fin d:=by
    cases x with
    |full H d=>cases H with
     |fin=>exact⟨d,J⟩
     |_=>cases a
    |_=>cases a
   have m:=m J;obtain⟨⟨t,K⟩,e,G,c',F,i,hk⟩:=uz n d E (kF.mp<|show(CD.fin.rJ&&d.good)=O from A).2 I h ⟨by lia,ht⟩ λ_=>⟨m.1,cJ (Bq _<|g_ (iQ (bP _)<|by lia) _) m.2⟩
   cases F;refine JP J<|jt l<|W.of (fX h J e) ⟨J,(ny n h ht k L _ _ c' _ (λy o=>by rw[hk];exact q y<|eG _ o) i.i<|by lia).mono λp j=>⟨j.1,?_⟩⟩
   obtain⟨_,g,c2,e,i⟩:=j;exact⟨g,c2,e,by rw[dU,show b+(Hq L+1)=b+1+Hq L by lia,s,Pd,show X+(z*yX L+z)=X+z+z*yX L by lia];exact i⟩
  .have a:=by simpa using a
   have s:yX (x::L)=yX L:=by unfold yX;rw[GH<|by rw[a];exact e_]
   rw[a]at l;refine JP J<|b8 l ⟨_,J,J,(ny n h ht k L X _ c _ (λy o=>q y<|eG _ o) I.up.i<|by lia).mono λp j=>⟨j.1,?_⟩⟩
   obtain⟨_,g,c',e,i⟩:=j;exact⟨g,c',e,by rw[dU,show b+(Hq L+1)=b+1+Hq L by lia,s];exact i⟩
def Fx(F:FO w f)(hn:Hq f.ln<=10)(ht:f.tk<=12)(I:In X f.ln.length f.tk b c)(K:b+14<=300)(A:(Hq c.ks<64/\c.ks.length*(hB f.tk (b+14)+71)<=z)\/∀y∈f.ln,y.dN=Zb):W (cN (n+4) 104 [.own w]<|st w f jj c) λp=>p.1=.non/\∃c',p.2=st w f jj c'/\In (X+z*yX f.ln) f.ln.length f.tk (b+14) c':=by
 have h:=F.R;rw[wI _ 104 J];have j:∀(c:KC)(d:Nat),In X f.ln.length f.tk d c->d+11<=b+14->((Hq c.ks<64/\c.ks.length*(hB f.tk _+71)<=z)\/∀y∈f.ln,y.dN=Zb)->W (ah (gW M.bc _<|aV df<|k1<|cS [101,110,100]) (dM (nK<|aA M.P.tab 0 zA) (setG 1)<|JO<|cN<|n+3)<|sW w [Y] f jj c) λp=>p.1=.nx/\∃c',p.2.m=st w f jj c'/\In _ f.ln.length f.tk (b+14) c':=λc d I FQ A=>by
  have Q:Is X f.ln.length f.tk _<|c.log [.fin]:=I.go _ I.ps I.hd.up I.wh ⟨I.ES,I.nd⟩ J J J J (by show 1<=_;lia) (λl h=>by cases dj.mp h) J (by show 0+_<=_;lia)
  refine sf<|W.of (q_ h J<|by have:=I.z ?_<;>lia) ⟨J,yM<|W.of (Rt (c9 h J J) J)<|(ny n h ht K f.ln X _ (c.log _) Y (λy E=>⟨(F.L y E).ms,(F.L y E).good,λz=>A.resolve_right λq=>by rw[q y E]at z;cases z⟩) Q.i<|by lia).mono λp o=>⟨o.1,?_⟩⟩
  obtain⟨_,v',c',e,i⟩:=o;obtain⟨k,hk⟩:∃k,b+14=(d+1+Hq f.ln)+k:=⟨b+14-(d+1+Hq f.ln),by lia⟩
  refine⟨c',by rw[e],?_⟩
  rw[hk];cases k with
  |zero=>exact i
  |succ k=>exact(i.up.le<|by lia).i
 have fin:∀{s:S}{B:FS},(W (B s) λp=>p.1=.nx/\∃c',p.2.m=st w f jj c'/\In _ f.ln.length f.tk _ c')->W (B s) λp=>p.1=.nx/\(T.non,p.2.m).1=.non/\∃c',(T.non,p.2.m).2=st w f jj c'/\In (X+z*yX f.ln) f.ln.length f.tk (b+14) c':=λh=>h.mono λp o=>⟨o.1,J,o.2⟩;have H:=(I.go (c':=c.log [.noo<|f.tk+1]) _ I.ps I.hd.up I.wh ⟨I.ES,I.nd⟩ J J J J (by show 1<=_;lia) (λl h=>by cases dj.mp h) J<|by show 0+_<=_;lia).i
 refine dS J<|sf<|W.of (fX h J<|Dy _ h<|by have:=I.z ?_<;>lia) ⟨J,?_⟩
 rcases I.hd with v|⟨l,v,_⟩
 .have G:aZ (bo (aI .IsNot) (aA M.P.tab 24 zA)<|cF .non) _=.ok (Zb,sW w [Y] f jj<|c.log [.noo<|f.tk+1]):=eF<|pE (c9 h J<|dv (λx=>U _) v) J J
  exact sf<|b8 G ⟨_,J,J,fin<|j _ _ H (by lia) A⟩
 .have G:aZ (bo (aI .IsNot) _<|cF .non) _=.ok (O,sW w [Y] f jj<|c.log [.noo<|f.tk+1]):=eF<|pE (jb (c:=c.log _) h v) J J
  have Z:=H.z<|by lia
  have g:=(wa H v).i;have V:=g.z<|by lia
  have N:=(g.go (c':=(KC.rest {c.log [.noo<|f.tk+1]with lg:=(c.log [.noo<|f.tk+1]).lg++[.give l]} f).log [.noo<|f.tk+1]) _ g.ps g.hd.up g.wh ⟨g.ES,g.nd⟩ J J J J (by show 1<=_;lia) (λl h=>by cases dj.mp h) J<|by show 0+_<=_;lia).i
  exact sf<|jt G<|sf<|W.of (fX h J<|v_ n h v<|by lia) ⟨J,W.of (fX h J<|Dy _ h<|by lia) ⟨J,fin<|j _ _ N (by lia) A⟩⟩
def NkO(N:Nat)(t:T):Prop:=∃k:Nat,t=.int (k:Nat)/\k<=N
theorem wg:∀(xs:List LN)(j:Nat)(ks:List Ky)(ts:FR)(u v:Option C)(b:Nat),DI (λ_=>True) (NkO N) b ks ts->b+Hq xs<=500->j+Hq xs<=N+1->∃c d g f,bg (bw [2,3]) â (eU (j:Nat)<|aN xs) ⟨[R,U<|.od ks ts,u,v],[]⟩=.ok (.nx,⟨[R,U<|.od c d,g,f],[]⟩)/\DI (λ_=>True) (NkO N) (b+Hq xs) c d/\(∀k∈ks,k∈c)/\∀a∈names xs,Ky.s a∈c
 |[],j,ks,ts,u,v,b,I,_,_=>⟨ks,ts,u,v,J,I,λ_ h=>h,λ_ h=>nomatch h⟩
 |x::xs,j,ks,ts,u,v,b,I,w,r=>by
  rw[dU]at w r;have hs:bw [2,3] (.tup [.int j,x.val]) [R,U<|.od ks ts,u,v]=U [R,U _,px j,sv x.val]:=J;have l:D.tB (dz _<|aA M.P.tab 2 zD) ⟨[R,U _,px j,sv x.val],[]⟩=.ok (x.name.isSome,⟨[R,U<|.od ks ts,px j,sv x.val],[]⟩):=sy<|F4 J<|J1 x;cases i:x.name with
  |none=>
   rw[i]at l;have en:names _=names xs:=GF i;rw[en];obtain⟨c,d,g,f,e,p,m,o⟩:=wg xs (j+1) ks ts (px j) _ (b+1) (I.mono (bH ..) (λ_ h=>h) λ_ h=>h) (by lia) (by lia)
   exact⟨c,d,g,f,cQ hs (se l J) e,by rw[dU,show b+(Hq xs+1)=b+1+Hq xs by lia];exact p,m,o⟩
  |some a=>
   have ex:=uq i;subst ex;obtain⟨c,d,g,f,e,p,m,o⟩:=wg xs (j+1) _ _ (px j) _ _ (I.put trivial ⟨j,J,by lia⟩) (by lia) (by lia)
   have q:Lu 1 (aA M.P.tab 9<|aA M.P.tab 2 zD) zC ⟨[R,U<|.od ks ts,px j,sv (LN.mark a).val],[]⟩=.ok (.nx,⟨[R,U<|.od (bx ks ts (.s a)<|.int j).1 (bx ks ts (.s a)<|.int j).2,px j,sv (LN.mark a).val],[]⟩):=by
    show Res.bind _ _=_;rw[gc<|rL I.le<|by lia];rfl
   refine⟨c,d,g,f,cQ hs (AO l q) e,by rw[dU,show b+(Hq xs+1)=b+1+Hq xs by lia];exact p,λk hk=>m k ?_,λy n=>?_⟩
   .by_cases z:Ky.s a∈ks
    .rw[vX z];exact hk
    .rw[ja z];exact rM _ hk
   .rcases bM.mp n with rfl|n
    .exact m _ vY
    .exact o y n
theorem lj:∀{ts:FR},(∀t∈ts,noOwn t=O)->aB ts=O
 |[],_=>J
 |t::ts,h=>by
  show(noOwn t&&aB ts)=O;rw[h t<|d_ ..,lj λu a=>h u<|eG _ a];rfl
def OO(hl:Hq L<=24):∃ks ts,DI (λ_=>True) (NkO L.length) 24 ks ts/\(∀a∈names L,Ky.s a∈ks)/\∀m,cN (n+1) 33 [.lst<|aN L] m=.ok (.f_ ks ts,m):=by
 rw[wI _ 33 J];obtain⟨ks,ts,u,v,e,b,_,c⟩:=wg (N:=Hq L) L 1 [] [] Y Y 0 DI.nil (by lia) (by lia)
 refine⟨ks,ts,b.mono (by lia) (λ_ h=>h) λ_ h=>h,c,λm=>?_⟩
 exact fS (ì<|c8 L) (jq J (seq1 J<|seq1 (oO J e) J) J)<|lj λt ht=>by
  obtain⟨k,rfl,_⟩:=b.q t ht;rfl
section
variable{m:FX}
def yY{a:Type}{m:List a}{x:a}:(m++[x])[Hq m]?=U x:=by
 rw[iB<|bP _,nY];rfl
def yZ{a:Type}{m:List a}{x y:a}:(m++[x]).set m.length y=m++[y]:=by
 rw[BC _ _<|bP _,nY];rfl
def KP{a:Type}{m:List a}{k:Nat}{ob x:a}(h:m[k]?=U ob):(m++[x])[k]?=U ob:=by
 rw[j4 (dw.mp h).1];exact h
def KQ(c:a ⟨FU m.length::r,m++[ob]⟩=.ok (t,⟨FU m.length::r,m++[ob]⟩))(b:gE M.P.tab f (.val t) ob=U nP):aQ M.P.tab f zA a ⟨FU m.length::r,m++[ob]⟩=.ok (.nx,⟨FU m.length::r,m++[nP]⟩):=by
 unfold aQ;rw[c];show Res.bind (bu _) _=_;rw[yY];show Res.bind (bu<|gE M.P.tab f _ ob) _=_;rw[b];show Res.ok _=_;rw[yZ]
def RJ(a:gE M.P.tab f (.val<|.own<|m.length+1) ob=U nP):aQ M.P.tab f zA (mX M.bc) ⟨FU m.length::r,m++[ob]⟩=.ok (.nx,⟨FU m.length::r,m++[nP,dB [] []]⟩):=by
 show Res.bind (bu _) _=_;rw[KP yY,bU];show Res.bind (bu<|gE M.P.tab f (.val<|.own<|m.length+1) ob) _=_;rw[a];have e:(m++[ob]++[dB [] []]).set m.length nP=m++[nP,dB [] []]:=by
  rw[PM _ _<|by simp,yZ,fG];rfl
 exact dv (λz=>Res.ok (Out.nx,(⟨_,z⟩:S))) e
def KR(a:Hq m=2*i):cN (n+1) 91 [.own m.length,.str x,.int ((i+1:Nat):Int)] (m++[⟨24,[]⟩])=.ok (.non,m++[mj x i,dB [] []]):=by
 rw[wI _ 91 J];exact yL J (seq1 (KQ J J)<|seq1 (KQ J J)<|RJ<|by rw[a];rfl) J
def rq:Nat->List Tx->FX
 |_,[]=>[]
 |i,x::l=>mj x i::dB [] []::rq (i+1) l
theorem wj:∀(i:Nat)(l:List Tx),(rq i l).length=2*Hq l
 |_,[]=>J
 |i,x::l=>by
  show(rq _ l).length+1+1=2*(Hq l+1);rw[wj _ l];lia
theorem KS:∀(l:List Tx)(i k:Nat)(row:Tx),l[k]?=U row->(rq i l)[2*k]?=U (mj row<|i+k)/\(rq i l)[2*k+1]?=U (dB [] [])
 |[],_,_,_,h=>by simp at h
 |x::l,i,0,row,h=>by
  simp at h;subst h;exact⟨J,J⟩
 |x::l,i,k+1,row,h=>by
  obtain⟨a,b⟩:=KS l _ k row (by simpa using h)
  rw[show i+1+k=i+(k+1) by lia]at a
  exact⟨a,b⟩
theorem DO(n:Nat):∀(l:List Tx)(i:Nat)(m:FX),Hq m=2*i->bA (bw [1,2]) eZ (kL 24 (cN (n+1) 91)<|k2 zC zB) [Y,Y,Y] (eU ((i+1:Nat):Int)<|af l) m=.ok ((gz i l.length).map bO,m++rq i l)
 |[],i,m,_=>by
  rw[show rq i []=[]from J,b9];rfl
 |x::l,i,m,a=>by
  have b:=DO n l (i+1) (m++[mj x i,dB [] []]) (by simp;lia)
  show bA _ _ _ _ (eU _<|T.str x::af l) m=_;rw[eU];have e:kL 24 _ (k2 zC zB) ⟨[Y,px ((i+1:Nat)),sv _],m⟩=.ok (.own m.length,⟨[Y,px ((i+1)),sv _],m++[mj x i,dB [] []]⟩):=VF (s':=⟨[Y,px ((i+1)),sv _],m⟩) J<|KR n a;show Res.bind (kL _ _ _ ⟨[Y,px ((i+1:Nat)),sv _],m⟩) _=_;rw[e];show Res.bind (bA _ _ _ _ (eU (((i+1+1:Nat))) _) _) _=_;rw[b];show Res.ok _=_;rw[dU,PN,a,fG];rfl
def OP(hl:Hq rows<=1000):cN (n+2) 24 [.lst<|af rows] []=.ok (.lst<|(gz 0 rows.length).map bO,rq 0 rows):=by
 rw[wI _ 24 J];have b:∀(i:Int)(l:FR),(eU i l).length=Hq l:=λi l=>by
  induction l generalizing i with
  |nil=>rfl
  |cons t l a=>exact dv (· + 1)<|a _
 exact jq J (jN<|qK<|um J (by rw[b,bQ];lia)<|DO n rows 0 [] J) J
end
section
variable{m Z Z':FX}{L:List LN}{t bm:T}
theorem y_:∀(L:List LN)(m:FX),bA (setG 1) eZ (aA M.P.tab 1 zB) [Y,Y] (aN L) m=.ok (L.map LN.cond,m)
 |[],_=>J
 |q::L,m=>WA J J<|y_ L m
def za(hl:Hq L<=1000):cN (n+1) 93 [.own m.length,.lst<|aN L] (m++[⟨25,[]⟩])=.ok (.non,m++[⟨25,[.val<|.lst<|L.map LN.cond,.val<|.own<|m.length+1]⟩,dB [] []]):=by
 rw[wI _ 93 J];obtain⟨a,b⟩:∃a:Ob,a=⟨25,[]⟩:=⟨_,J⟩;rw[<- b];have c:eO (cY (nK zB) 2 [] _ eZ _) ⟨FU m.length::[FH _],m++[a]⟩=.ok _:=qK<|um (s1:=⟨sv _::[sv _],m++[a]⟩) J (by rw[bQ];lia)<|y_ L _
 exact yL J (seq1 (KQ c<|by rw[b];rfl)<|RJ J) J
def DP{a:Type}{m Z:List a}{x:a}:(m++x::Z)[Hq m]?=U x:=by
 rw[iB<|bP _,nY];rfl
def OQ{a:Type}{m Z:List a}{x y:a}:(m++x::Z).set m.length y=m++y::Z:=by
 rw[BC _ _<|bP _,nY];rfl
def Ā(c:a ⟨FU m.length::r,m++ob::Z⟩=.ok (t,⟨FU m.length::r,m++ob::Z'⟩))(b:gE M.P.tab f (.val t) ob=U nP):aQ M.P.tab f zA a ⟨FU m.length::r,m++ob::Z⟩=.ok (.nx,⟨FU m.length::r,m++nP::Z'⟩):=by
 unfold aQ;rw[c];show Res.bind (bu _) _=_;rw[DP];show Res.bind (bu<|gE M.P.tab f _ ob) _=_;rw[b];exact dv (λz=>Res.ok (Out.nx,(⟨sv _::r,z⟩:S))) OQ
def RM(a:iY M.P.tab ob.c f=U j)(b:ob.fs[j]?=sv t):aA M.P.tab f zA ⟨FU m.length::r,m++ob::Z⟩=.ok (t,⟨FU m.length::r,m++ob::Z⟩):=Kn J DP a b
def RN:(Res.ok (T.own (m++ob::Z).length,(⟨FU m.length::r,m++ob::Z++[⟨M.bc,[c]⟩]⟩:S)):Res<|T×S)=.ok (.own<|m.length+1+Hq Z,⟨FU m.length::r,m++ob::(Z++[⟨M.bc,[c]⟩])⟩):=by
 rw[fG,bU,dU,show Hq m+(Hq Z+1)=Hq m+1+Hq Z by lia];rfl
def KU:mX M.bc ⟨FU m.length::r,m++ob::Z⟩=.ok (.own<|m.length+1+Hq Z,⟨FU m.length::r,m++ob::(Z++[dB [] []])⟩):=RN
def RQ:xW M.bc (kc a_) ⟨FU m.length::r,m++ob::Z⟩=.ok (.own<|m.length+1+Hq Z,⟨FU m.length::r,m++ob::(Z++[lB []])⟩):=RN
def Ly(m:FX)(L:List LN)(bm:T):KF:=⟨m,dB [] [],L,bm,[],[],0,.lst [],Hq m+3⟩
def kc0:KC:=⟨0,.non,0,Zb,[],[],[],[],[],[]⟩
def WE:KC:=⟨0,.non,0,O,[],[],[],[],[],[.want 1]⟩
abbrev wO(m:FX)(L:List LN)(bm:T)(k:Nat):Ob:=⟨26,(iP m.length (Ly m L bm) kc0).fs.take k⟩
def gY(c:a ⟨FU m.length::r,m++wO m L bm k::Z⟩=.ok (t,⟨FU m.length::r,m++wO m L bm k::Z'⟩))(b:gE M.P.tab f (.val t) (wO m L bm k)=U (wO m L bm<|k+1))(h:W (B ⟨FU m.length::r,m++wO m L bm (k+1)::Z'⟩) Q):W (ah (aQ M.P.tab f zA a) B ⟨FU m.length::r,m++wO m L bm k::Z⟩) Q:=sf<|W.of (Ā c b) ⟨J,h⟩
def zb(hl:Hq L<=24)(d:cN (n+1) 33 [.lst<|aN L] (m++[wO m L bm 1])=.ok (bm,m++[wO m L bm 1])):cN (n+2) 97 [.own m.length,.obj 0 [.lst<|aN L]] (m++[⟨26,[]⟩])=.ok (.non,st m.length (Ly m L bm) [] WE):=by
 refine W.eq ?_;rw[wI _ 97 J];obtain⟨pg,c⟩:∃pg:T,pg=.obj 0 [.lst<|aN L]:=⟨_,J⟩;rw[<- c];obtain⟨tT,b⟩:∃tT:Ob,tT=⟨25,[.val<|.lst<|L.map LN.cond,.val<|.own<|m.length+2]⟩:=⟨_,J⟩;refine dS J ?_;show W (ah _ _ ⟨sv _::[sv pg],m++wO m L bm 0::[]⟩) _;refine gY (by rw[c];rfl) J ?_
 refine gY (cM (az (RM J J) J) d) J ?_;refine gY (Z':=[tT,dB [] []]) ?_ J ?_
 .obtain⟨a,hB⟩:∃a:Ob,a=wO m L bm 2:=⟨_,J⟩
  have g:k1 (aA M.P.tab 0 zA) ⟨FU m.length::[sv pg],m++a::[]⟩=.ok ([.lst<|aN L],⟨FU m.length::[sv pg],m++a::[]⟩):=by rw[hB];exact az (RM J J) J
  rw[<- hB];refine Eq.trans (dv (λx=>Res.bind x _) g) ?_;apply dF;have q:=za n (m:=m++[a])<|cJ hl<|by decide
  rw[q];show Res.ok _=_;rw[bU,fG,b];rfl
 refine gY J J<|gY J J<|gY KU J<|gY J J<|gY J J<|gY J J<|gY KU J<|gY KU J ?_;refine gY RQ J<|gY RQ J<|gY J J ?_;have e:m++wO m L bm 14::[tT,dB [] [],dB [] [],dB [] [],dB [] [],lB [],lB []]=st m.length (Ly m L bm) [] kc0:=by rw[b];rfl
 show W (aR _ ⟨sv _::[sv pg],m++wO m L bm 14::[tT,dB [] [],dB [] [],dB [] [],dB [] [],lB [],lB []]⟩) _;rw[e];exact W.of (fX J J<|vZ n J<|by decide) ⟨J,J⟩
end
section
variable{B:FS}{f:Fn}{m:FX}{G:T×FX->Prop}
def ā(h:d t s.r=U r)(k:WX (B ⟨r,s.m⟩) λp=>p.1=.nx/\WX (bg d B ts p.2) j):WX (bg d B (t::ts) s) j:=by
 rw[bg,h];refine WX.bind<|W.e ⟨_,J,WX.bind<|k.mono λp a=>?_⟩;obtain⟨o,b⟩:=p;obtain⟨rfl,a⟩:=a;exact a
def abt(h:src s=.ok (ts,s1))(k:WX (bg d B ts s1) j):WX (dM (pe src) d B s) j:=WX.bind<|W.e ⟨_,sC h,k⟩
def RS(h:aB ts=O)(k:WX (f ts []) λp=>noOwn p.1=O/\G (p.1,m)):WX (aL f ts m) G:=by
 unfold aL;rw[b0 h];cases a:f ts []with
 |ok q=>
  rw[a]at k;show WX (if noOwn _=O then _ else _) _
  rw[b0 k.1];exact k.2
 |exc c fs s=>
  rw[a]at k;show WX (if aB fs=O then _ else _) _
  rw[b0 k.2];exact k
 |bad=>rw[a]at k;exact k.elim
end
def wG:List LN->Nat->List Ky
 |[],_=>[]
 |x::l,i=>if x.dN then wG l (i+1)else .i ((i+1:Nat):Int)::wG l (i+1)
theorem KW:∀(l:List LN)(i j:Nat)(h:j<Hq l),l[j].dN=Zb->Ky.i ((i+j+1:Nat):Int)∈wG l i
 |x::l,i,0,h,a=>by
  have a:x.dN=Zb:=a;unfold wG;rw[bt<|by rw[a];exact e_]
  exact d_ ..
 |x::l,i,j+1,h,a=>by
  have b:=KW l (i+1) j (Nat.lt_of_succ_lt_succ h) a;rw[show i+1+j+1=i+(j+1)+1 by lia]at b
  unfold wG;split
  .exact b
  .exact eG _ b
theorem wm:∀(l:List LN)(i:Nat),(wG l i).length<=Hq l/\((∀y∈l,y.dN=Zb)\/(wG l i).length+1<=Hq l)
 |[],_=>⟨bP _,.inl λ_ h=>nomatch h⟩
 |x::l,i=>by
  obtain⟨b,c⟩:=wm l _;unfold wG;split
  . exact⟨cJ b<|bH ..,.inr<|g_ b 1⟩
  .rename_i h
   refine⟨g_ b 1,c.imp (λq y a=>?_) λq=>g_ q 1⟩;rcases bM.mp a with rfl|a
   .simpa using h
   .exact q y a
theorem KY:∀(l:List LN)(i:Nat),(wG l i).length+yX l=Hq l
 |[],_=>J
 |x::l,i=>by
  have a:=KY l<|i+1;unfold yX at a;unfold wG yX;cases h:x.dN with
  |true=>rw[GG h,dU,dU];lia
  |false=>rw[bt e_,GH<|by rw[h];exact e_,dU,dU];lia
section
variable{bm P t0:T}{m:FX}
def Ă(K:WK rows ln bm w tk cc b m):∃f c,m[w]?=U (iP w f c):=by
 obtain⟨f,a,c,rfl,_,_,_,F,_⟩:=K;exact⟨f,c,cA F.R 0⟩
def zc(a:i<=12)(b:q<=10):i*(q+1)<=132:=sE a<|show q+1<=11 by lia
theorem DQ(n:Nat)(hr:Hq rows<=12)(l:(wG ln 0).length=q)(g:q<=10):∀(d i:Nat)(m:FX)(u v:Option C),i+d=Hq rows->WK rows ln bm w i (312*i) (1+i*(q+1)) m->WX (bg (bw [4,5]) (aR<|F3 26 (cN (n+12) 99) zD<|k2 (wD<|vF 5)<|wD<|fK zC (dD<|vF 4) je) (eU ((i+1:Nat):Int)<|(gz i d).map bO) ⟨[sv P,sv t0,FH<|(gz 0 rows.length).map bO,sv<|.own w,u,v],m⟩) λp=>p.1=.nx/\∃u v m',p.2=⟨[sv P,sv t0,FH<|(gz 0 rows.length).map bO,sv<|.own w,u,v],m'⟩/\WK rows ln bm w rows.length (312*Hq rows) (1+Hq rows*(q+1)) m'
 |0,i,m,u,v,h,K=>by
  have e:i=Hq rows:=by lia
  subst e;exact⟨J,u,v,m,J,K⟩
 |d+1,i,m,u,v,h,K=>by
  obtain⟨f,c,A⟩:=Ă K;have E:=zc (show i<=12 by lia) g
  have tk:=ON n (k:=i) (B:=(gz 0 rows.length).drop<|i+1) (by lia) (λj o=>by
   have:=List.mem_range'.mp<|zx o
   lia) (by rw[hU,PQ];lia) (λj o z=>by
   have:=KW ln 0 j o z
   rw[zl]at this;exact this) (by lia) (by lia) (by lia) (by lia) K
  have D:1+i*(q+1)+(wG ln 0).length+1=1+(i+1)*(q+1):=by rw[rK];lia
  rw[D]at tk;refine ā J<|DK<|Ĺ J A J (az (Fw J)<|az (Fw<|zh J J J<|by show U _=_;rw[gH,zt]) J)<|tk.mono λp s=>⟨J,?_⟩
  exact DQ n hr l g d _ _ _ _ (by lia) s
theorem RT:∀(lg:List Ev)(m:FX),bA (setG 1) (aZ<|oE (oI zB zO)<|cS zg) (oI zB zI) [Y,Y] (lg.map Ev.val) m=.ok (af<|gives lg,m)
 |[],_=>J
 |e::lg,m=>by
  have a:=RT lg m;rw[gj];apply dF;cases e with
  |give l=>
   have c:aZ (oE (oI zB zO)<|cS zg) ⟨[Y,sv (Ev.give l).val],m⟩=.ok (O,⟨[Y,sv _],m⟩):=J;have d:oI zB zI ⟨[Y,sv (Ev.give l).val],m⟩=.ok _:=J;show Res.bind (aZ _ ⟨[Y,sv _],m⟩) _=_;rw[c];apply dF;rw[b0 J];apply dF;rw[a];rfl
  |_=>
   refine Eq.trans (b:=bA _ _ _ _ _ m) ?_ (by rw[a];rfl)
   rfl
theorem DR:∀lg:List Ev,aB (lg.map Ev.val)=O
 |[]=>J
 |e::lg=>by
  show(noOwn e.val&&aB _)=O;rw[DR lg];cases e<;>rfl
def KZ(hl:Hq lg<=1000000):cN (n+1) 32 [.lst<|lg.map Ev.val] m=.ok (.lst<|af<|gives lg,m):=by
 rw[wI _ 32 J];exact fS (ì<|DR lg) (jq J (jN<|qK<|um J (by rw[bQ];exact hl)<|RT lg []) J)<|aY _
end
abbrev jn(rows:List Tx):Tx:=fQ [10] rows
def fT(rows:List Tx):Bool:=rows.getLast? == U []
def gJ(rows:List Tx)(e:Bool):Tx:=if rows=[]then[]else if(e ||fT rows)=O then jn rows++[10]else jn rows
def Ct(t:Tx)(rows:List Tx)(e:Bool):Prop:=(e=O/\aP 10 t=rows++[[]])\/(e=Zb/\aP 10 t=rows/\rows≠[]/\fT rows=Zb)
def fD(a b:Tx)(r:List Tx):jn (a::b::r)=a++10::jn (b::r):=by
 show a++[10]++fQ _ _=_;rw[fG];rfl
def jI:∀t:Tx,aP 10 t≠[]
 |[]=>by exact sL _ _
 |d::t=>by
  rw[aP];split
  .exact sL _ _
  .split<;>exact sL _ _
theorem rA:∀{rows:List Tx},rows≠[]->(∀r∈rows,10∉r)->aP 10 (jn rows)=rows
 |[a],_,h=>kQ<|h a<|d_ ..
 |a::b::r,_,h=>by
  rw[fD,k9<|h a<|d_ ..,rA (sL _ _) λx c=>h x<|eG _ c]
theorem wo:∀{rows:List Tx},rows≠[]->jn (rows++[[]])=jn rows++[10]
 |[a],_=>by show a++[10]++[]=_;rw[b9];rfl
 |a::b::r,_=>by
  show jn (a::b::(r++[[]]))=_;rw[fD,fD,show b::(r++[[]])=(b::r)++[[]]from J,wo<|sL _ _,fG];rfl
theorem zd:∀t:Tx,jn (aP 10 t)=t
 |[]=>J
 |d::t=>by
  have a:=zd t;have ne:=jI t;rw[aP];cases e:aP 10 t with
  |nil=>exact dy e ne
  |cons p r=>
   rw[e]at a;split
   .rename_i h
    rw[fD,a,h];rfl
   .show jn _=_
    cases r with
    |nil=>exact dv _ a
    |cons b r=>
     exact dv _ a
section
variable{t:Tx}{rows d:List Tx}{e e':Bool}
def fY(xs:List Tx)(x:Tx):fT (xs++[x])=decide (x=[]):=by
 unfold fT;rw[List.getLast?_concat];cases x<;>rfl
def Ct.uniq(h:Ct t rows e)(k:Ct t d e'):rows=d/\e=e':=by
 rcases h with⟨rfl,h⟩|⟨rfl,h,b,a⟩<;>rcases k with⟨rfl,k⟩|⟨rfl,k,k1,k2⟩<;>rw[h]at k
 .exact⟨List.append_cancel_right k,J⟩
 .rw[<- k,fY]at k2;cases k2
 .rw[k,fY]at a;cases a
 .exact⟨k,J⟩
theorem Ct.gJ(h:Ct t rows e):gJ rows e=t:=by
 have j:=zd t;unfold K64.gJ;rcases h with⟨rfl,h⟩|⟨rfl,h,b,a⟩
 .rw[h]at j
  by_cases z:rows=[]
  .subst z
   rw[b0 J,<- j];rfl
  .rw[bt z,GR,b0 J,<- wo z,j]
 .rw[h]at j
  rw[bt b,a,bt<|by decide,j]
def eT(rows:List Tx)(e:Bool):Bool:=decide (rows=[]) ||(e ||fT rows)
def lq(h:∀r∈rows,10∉r)(e:Bool):Ct (gJ rows e) rows<|eT rows e:=by
 unfold K64.gJ eT;by_cases z:rows=[]
 .subst z
  exact .inl ⟨J,J⟩
 .rw[bt z,cq z]
  cases k:(e ||fT rows)with
  |true=>
   rw[<- wo z];exact .inl ⟨J,rA (by simp) λr hr=>(eW.mp hr).elim (h r) λq=>by rw[dj.mp q];exact λh=>nomatch h⟩
  |false=>
   exact .inr ⟨J,rA z h,z,(BE.mp k).2⟩
theorem A8:∀{rows:List Tx}{k:Nat},(∀r∈rows,Hq r<=k)->(jn rows).length<=Hq rows*(k+1)
 |[],_,_=>dO _
 |[a],k,h=>by
  have:=h a<|d_ ..
  show Hq a<=1*(k+1)
  lia
 |a::b::r,k,h=>by
  have d:=A8 λx c=>h x<|eG _ c
  have:=h a<|d_ ..
  rw[fD,bU,dU,dU]
  lia
def pD(h:rows≠[]):∃x,fL (.lst<|af rows) (.int<|-1)=U (.str x)/\decide (x=[])=fT rows:=by
 rcases BA rows with z|⟨xs,x,z⟩
 .exact dy z h
 .rw[BB]at z
  subst z;refine⟨x,?_,(fY xs x).symm⟩;show atT _ (-1)=_;rw[af,gf];exact lZ _ _
def rB(h:Ct t rows e)(hz:Hq t<=100000):cN (n+1) 1 [.str t] m=.ok (.tup [.lst<|af rows,.bl e],m):=by
 rw[wI _ 1 J];have i:splitM t [.str [10]]=U _:=gc hz;obtain⟨x,g,f⟩:=pD<|jI t;have a:aZ (oE (oI zB<|dz fh zI)<|cS []) ⟨[tl t,FH<|af<|aP 10 t],[]⟩=.ok (fT<|aP 10 t,⟨[tl t,FH<|af<|aP 10 t],[]⟩):=by
  rw[<- f];exact eF<|pE (pE J (F4 J AU) g) J<|sj x []
 have b:=aY rows;refine sEq J J (by show(aB _&&O)=O;rw[b];rfl)<|bS (Lx J J i) ?_
 rcases h with⟨rfl,h⟩|⟨rfl,h,j,c⟩
 .rw[h]at a ⊢
  rw[fY]at a;have d:bJ (af<|rows++[[]]) Y (U<|-1)=af rows:=by
   rw[af,gf];exact qQ _ _
  exact bY a<|bR (cT (az (zh J J J<|by show U _=_;rw[d]) J)<|kh ..) J
 .rw[h]at a ⊢
  rw[c]at a;exact bN a<|bR (cT (az J J)<|kh ..) J
end
section
variable{rows a:List Tx}{e:Bool}
theorem K1:∀rows:List Tx,(rows.map (·.length)).sum+Hq rows*1<=(jn rows).length+1
 |[]=>dO _
 |[a]=>by simp[fQ]
 |a::b::r=>by
  have c:=K1<|b::r;rw[fD];simp only[bU,dU,gj,Pp]at c ⊢
  lia
def A9(h:(jn rows).length<=900000):joinM [10] [.lst<|af rows]=U (.str<|jn rows):=by
 show(strsOf _).bind _=_;rw[nu];exact gc<|cJ (K1 rows)<|by lia
def len0(rows:List Tx):decide (((af rows).length:Int)=0)=decide (rows=[]):=decide_eq_decide.mpr (by
 rw[bQ];exact⟨λz=>GN<|by lia,λz=>by rw[z];rfl⟩)
def abu(h:c s=.ok (O,s)):j9 c d s=.ok (O,s):=by unfold j9;rw[h];rfl
def uA(hz:(jn rows).length<=500000):cN (n+1) 2 [.lst<|af rows,.bl e] m=.ok (.str<|gJ rows e,m):=by
 rw[wI _ 2 J];have b:=by show(aB (af rows)&&O)=O;rw[aY];rfl
 have a:aZ (oE (aV bG<|k1 zA) zO) ⟨[FH<|af rows,sv<|.bl e,Y],[]⟩=.ok (decide<|rows=[],⟨[FH<|af rows,sv<|.bl e,Y],[]⟩):=by
  rw[<- len0];exact eF<|pE J J<|yN ..
 unfold gJ;refine sEq b J J ?_;by_cases z:rows=[]
 .rw[b7 z]at a
  rw[b0 z];exact bY a<|bR J J
 .rw[cq z]at a
  rw[bt z];obtain⟨x,d,c⟩:=pD z;refine bN a<|bS (Lx J J<|A9<|by lia) ?_
  have hd:j9 (D.tB zB) (aZ<|oE (oI zA<|dz fh zI)<|cS []) ⟨[FH<|af rows,sv<|.bl e,tl<|jn rows],[]⟩=.ok (e ||fT rows,⟨[FH<|af rows,sv<|.bl e,tl<|jn rows],[]⟩):=by
   rw[<- c];exact AS (sy J)<|eF<|pE (pE J (F4 J AU) d) J<|sj x []
  cases k:(e ||fT rows)with
  |true=>
   rw[k]at hd;exact bY hd<|bR (yQ (k:=0) J J<|by rw[bU];show _+1<=_;lia) J
  |false=>
   rw[k]at hd;exact bN hd<|bR J J
def WM(rows:List Tx):aI .NotEq (.lst<|af rows) (.lst [])=U (.bl<|!decide (rows=[])):=by
 cases rows<;>rfl
def lr(hz:(jn rows).length<=500000):cN (n+1) 69 [.lst<|af rows,.bl e] m=.ok (.str<|gJ rows e,m):=by
 rw[wI _ 69 J];have b:=by show(aB (af rows)&&O)=O;rw[aY];rfl
 refine sEq b J J<|bS (Lx J J<|A9<|by lia) ?_
 have a:aZ (bo _ zA<|aV dm a_) ⟨[FH<|af rows,sv<|.bl e,tl<|jn rows],[]⟩=.ok _:=eF<|pE J J<|WM rows;unfold gJ;by_cases z:rows=[]
 .rw[b7 z]at a
  rw[b0 z,show jn rows=[] by rw[z];rfl]at *
  exact bN (VH a)<|bR J J
 .rw[cq z]at a
  rw[bt z];obtain⟨x,d,c⟩:=pD z;have hd:gM (aZ<|bo (aI .NotEq) zA<|aV dm a_) (j9 (D.tB zB)<|aZ<|oE (oI zA<|dz fh zI)<|cS []) ⟨[FH<|af rows,sv<|.bl e,tl<|jn rows],[]⟩=.ok (e ||fT rows,⟨[FH<|af rows,sv<|.bl e,tl<|jn rows],[]⟩):=by
   rw[<- c];exact kq a<|AS (sy J)<|eF<|pE (pE J (F4 J AU) d) J<|sj x []
  cases k:(e ||fT rows)with
  |true=>
   rw[k]at hd;exact bY hd<|bR (yQ (k:=0) J J<|by rw[bU];show _+1<=_;lia) J
  |false=>
   rw[k]at hd;exact bN hd<|bR J J
def pF(h:Ct t rows e)(hz:Hq t<=100000):cN (n+1) 68 [.str t] m=.ok (.tup [.lst<|af rows,.bl e],m):=by
 rw[wI _ 68 J];have c:=aY rows;refine sEq J J (by show(aB _&&O)=O;rw[c];rfl) ?_
 by_cases z:t=[]
 .subst z
  obtain⟨rfl,rfl⟩:=h.uniq<|show Ct [] [] O from .inl ⟨J,J⟩;exact bY J<|bR (cT (az J<|az J J)<|kh ..) J
 .refine bN (eF<|pE J J<|(sj ..).trans<|by rw[cq z]) ?_
  have j:splitM t [.str [10]]=U _:=gc hz;obtain⟨x,i,g⟩:=pD<|jI t;have a:aZ (oE (oI zB<|dz fh zI)<|cS []) ⟨[tl t,FH<|af<|aP 10 t],[]⟩=.ok (fT<|aP 10 t,⟨[tl t,FH<|af<|aP 10 t],[]⟩):=by
   rw[<- g];exact eF<|pE (pE J (F4 J AU) i) J<|sj x []
  refine bS (Lx J J j) ?_;rcases h with⟨rfl,h⟩|⟨rfl,h,k,d⟩
  .rw[h]at a ⊢
   rw[fY]at a;have f:bJ (af<|rows++[[]]) Y (U<|-1)=af rows:=by
    rw[af,gf];exact qQ _ _
   exact bY a<|bR (cT (az (zh J J J<|by show U _=_;rw[f]) J)<|kh ..) J
  .rw[h]at a ⊢
   rw[d]at a;exact bN a<|bR (cT (az J J)<|kh ..) J
abbrev WG(rows:List Tx)(e:Bool):T:=.tup [.int (Hq rows:Nat),.bl e]
def size_eq(h:Ct t rows e)(hz:Hq t<=100000):cN (n+2) 36 [.str t] m=.ok (WG rows e,m):=by
 rw[wI _ 36 J];refine sEq J J J<|bS (cE J<|rB n h hz)<|bR (cT (az (cT (az (pE J J J) J) ?_)<|az (pE J J J) J)<|kh ..) J;show U _=_;rw[bQ]
end
theorem wu:∀{xs:List Tx}{x:Tx},xs≠[]->jn (xs++[x])=jn xs++10::x
 |[a],x,_=>fD a x []
 |a::b::r,x,_=>by
  show jn (a::b::(r++[x]))=_;rw[fD,fD,show b::(r++[x])=(b::r)++[x]from J,wu<|sL _ _,fG];rfl
def V2(h:rows≠[])(b:∀r∈rows,10∉r):(jn rows=[]/\fT rows=O)\/(jn rows≠[]/\∃d,atT (jn rows) (-1)=U d/\decide (d=10)=fT rows):=by
 rcases BA rows with z|⟨xs,x,z⟩
 .exact dy z h
 rw[BB]at z;subst z;have a:=b x (by simp)
 rw[fY];rcases BA x with z|⟨y,d,z⟩
 .subst z
  by_cases k:xs=[]
  .subst k;exact .inl ⟨J,J⟩
  .rw[wu k]
   exact .inr ⟨by simp,10,lZ _ _,J⟩
 .rw[BB]at z
  subst z;have hd:decide (d=10)=decide (y++[d]=[]):=by
   rw[cq λe=>a<|by rw[e];simp,cq<|by simp]
  by_cases k:xs=[]
  .subst k
   exact .inr ⟨by show y++[d]≠[];simp,d,lZ y d,hd⟩
  .rw[wu k]
   refine .inr ⟨by simp,d,?_,hd⟩
   rw[show jn xs++10::(y++[d])=(jn xs++10::y)++[d] by simp]
   exact lZ _ _
theorem DS(n:Nat):∀cs:Ee,∃v:List Tx,Hq v=Hq cs/\(∀w∈v,TX 6 w)/\∀(m:FX),bA (setG 1) eZ (ai (cN (n+1) 65) []<|k1 zB) [Y,Y] (aH cs) m=.ok (af v,m)
 |[]=>⟨[],J,(λ_ h=>nomatch h),λ_=>J⟩
 |c::cs=>by
  obtain⟨w,b,g⟩:=A0 n c;obtain⟨v,f,e,d⟩:=DS n cs;refine⟨w::v,by rw[dU,dU,f],λx a=>?_,λm=>WA J (cE J<|g m)<|d m⟩
  rcases bM.mp a with rfl|a
  .exact b
  .exact e x a
def OR(hl:Hq cs<=30):∃v:List Tx,Hq v=Hq cs/\(∀w∈v,TX 6 w)/\∀m,cN (n+2) 66 [.lst<|aH cs,.bl e] m=.ok (.str<|gJ v e,m):=by
 obtain⟨v,f,g,i⟩:=DS n cs;refine⟨v,f,g,λm=>?_⟩;rw[wI _ 66 J];have j:(jn v).length<=1000:=cJ (A8 λr hr=>(g r hr).l) (by lia)
 refine sEq (by show(aB _&&O)=O;rw[lh];rfl) J J<|bS (Lx J (az (Ru J (by rw[bQ];lia) J<|i _) J)<|A9<|by lia) ?_
 have a:aZ (bo _ zA<|aV dm a_) ⟨[FH<|aH cs,sv<|.bl e,tl<|jn v],[]⟩=.ok (!decide (v=[]),⟨[sv _,sv _,sv _],[]⟩):=eF<|pE J J<|(ne_nil cs).trans<|by
  cases cs with
  |nil=>rw[GN f];rfl
  |cons c cs=>cases v with
   |nil=>cases f
   |cons=>rfl
 unfold gJ;by_cases z:v=[]
 .rw[b7 z]at a
  rw[b0 z,show jn v=[] by rw[z];rfl]at *
  exact bN (VH a)<|bR J J
 .rw[cq z]at a
  rw[bt z];have hd:gM (aZ<|bo (aI .NotEq) zA<|aV dm a_) (j9 (D.tB zB)<|j9 (aZ<|oE zC<|cS [])<|aZ<|oE (oI zC<|dz fh zI)<|cS [10]) ⟨[FH<|aH cs,sv<|.bl e,tl<|jn v],[]⟩=.ok (e ||fT v,⟨[FH<|aH cs,sv<|.bl e,tl<|jn v],[]⟩):=by
   refine kq a<|AS (sy J) ?_;rcases V2 z λr hr=>(g r hr).n with⟨q1,q2⟩|⟨q1,d,q2,h⟩
   .rw[q2]
    exact abu<|eF<|pE J J<|(sj ..).trans<|by rw[b7 q1]
   .rw[<- h]
    refine(Wz (eF<|pE J J<|(sj ..).trans<|by rw[cq q1])<|eF<|pE (t:=.str [d]) (pE J (F4 J AU) ?_) J<|(sj ..).trans ?_)
    .show(atT _ _).map _=_
     rw[q2];rfl
    .exact dv (λb=>U _)<|decide_eq_decide.mpr<|by simp
  cases k:(e ||fT v)with
  |true=>
   rw[k]at hd;exact bY hd<|bR (yQ (k:=0) J J<|by rw[bU];show _+1<=_;lia) J
  |false=>
   rw[k]at hd;exact bN hd<|bR J J
def pG(ns:Ee)(k:Nat):∃c:Int,∀m,cN (n+1) 61 [.scr ns,.int (k:Nat)] m=.ok (.int c,m):=by
 rw[wI _ 61 J];have a:∀m,aZ (bo _ zB<|aV bG<|k1 zA) ⟨[sv<|.scr ns,px (k:Nat)],m⟩=.ok (decide<|k<Hq ns,⟨[sv _,px k],m⟩):=λm=>eF<|pE J J<|(ê ..).trans<|dv (λb=>U _)<|decide_eq_decide.mpr<|by lia
 by_cases h:k<Hq ns
 .rw[b7 h]at a
  refine⟨ns[k],λm=>sEq J J J<|bY (a [])<|bR (pE J J ?_) J⟩;show(atT ns k).map _=_;rw[qJ h,dP h];rfl
 .rw[cq h]at a
  exact⟨0,λm=>sEq J J J<|bN (a [])<|bR J J⟩
section
variable{s:S}
def RV(a:s.m[w]?=U ob)(b:iY M.P.tab ob.c f=U j)(d:ob.fs[j]?=U c):jh M.P.tab f s.m (.own w)=U (w,ob,j,c):=by
 show(s.m[w]?).bind _=_;rw[a];show(iY M.P.tab ob.c f).bind _=_;rw[b];show(ob.fs[j]?).map _=_;rw[d];rfl
def fx1(h:a s=.ok (.own w,s))(b:s.m[w]?=U ob)(d:iY M.P.tab ob.c f=U j)(g:ob.fs[j]?=sv (.own kb))(i:s.m[kb]?=U ⟨M.bc,[c]⟩)(hz:UA c=U u):i7 M.bc M.P.tab f a s=.ok (u,⟨s.r,(s.m.set kb ⟨M.bc,[]⟩).set w ⟨ob.c,ob.fs.set j<|.val u⟩⟩):=by
 have e:vq M.bc s.m (.own kb)=U (kb,c):=by
  show(s.m[kb]?).bind _=_;rw[i];show(if M.bc=M.bc then U _ else Y)=_
  rw[b0 J]
 unfold i7;rw[h];apply dF;show Res.bind _ _=_;rw[RV b d g];apply dF;dsimp only;rw[e];dsimp only;rw[hz];rfl
def fx2(h:a s=.ok (.own w,s))(d:s.m[w]?=U ob)(e:iY M.P.tab ob.c f=U j)(g:ob.fs[j]?=sv u)(b:vq M.bc s.m u=Y):i7 M.bc M.P.tab f a s=.ok (u,s):=by
 unfold i7;rw[h];apply dF;show Res.bind _ _=_;rw[RV d e g];apply dF;dsimp only;rw[b]
end
structure LgO(n:Nat)(lg:List Ev):Prop where
 tk:takes lg=gz 1 n
 gv:∀l∈gives lg,TX 3000 l
 le:Hq lg<=100000
 sz:pC lg<=99000
def K2(h:l∈gives lg):Ev.give l∈lg:=by
 obtain⟨e,b,a⟩:=Eb.mp h;cases e<;>first|(cases a;done)|(cases a;exact b)
structure PO(ln:List LN):Prop where
 n:Hq ln<=10
 x:∀x∈ln,x.ms=O/\x.good=O/\∀a,x.i_=U a->a∈names ln
def ă(h:Hq f.R=w)(e:∀m',vF 3 (⟨s3,m'⟩:S)=.ok (.own w,⟨s3,m'⟩))(hl:Hq c.lg<=1000000):∃m',ba (ai (cN (n+1) 32) []<|k1<|i7 M.bc M.P.tab 29 zD) (k3 (i7 M.bc M.P.tab 27 zD) (i7 M.bc M.P.tab 28 zD)<|i7 M.bc M.P.tab 29 zD) ⟨s3,st w f jj c⟩=.ok ([.lst<|af<|gives c.lg,.f_ c.ks c.zs,.lst c.no,.lst<|c.lg.map Ev.val],⟨s3,m'⟩):=by
 obtain⟨m3,d⟩:∃m3,m3=st w f jj c:=⟨_,J⟩;have m:m3[w]?=U (iP w f c):=by rw[d];exact cA h 0
 have b5:m3[w+5]?=U (dB c.ks c.zs):=by rw[d];exact cA h 5
 have b6:m3[w+6]?=U (lB c.no):=by rw[d];exact cA h 6
 have x:m3[w+7]?=U (lB<|c.lg.map Ev.val):=by rw[d];exact cA h 7
 rw[<- d];have a:=(dw.mp m).1;have l:=fx1 (f:=29) (e m3) m J J x J;obtain⟨m4,ļ⟩:∃m4,m4=(m3.set (w+7) ⟨M.bc,[]⟩).set w ⟨(iP w f c).c,(iP w f c).fs.set 12<|.val<|.lst<|c.lg.map Ev.val⟩:=⟨_,J⟩;have l:i7 M.bc M.P.tab 29 zD ⟨s3,m3⟩=.ok (.lst<|c.lg.map Ev.val,⟨s3,m4⟩):=by rw[ļ];exact l
 have r:m4[w]?=U ⟨(iP w f c).c,(iP w f c).fs.set 12<|.val<|.lst<|c.lg.map Ev.val⟩:=by rw[ļ];exact f9 (by rw[fF];exact a)
 have b4:∀{k ob},k≠w->k≠w+7->m3[k]?=U ob->m4[k]?=U ob:=λt s h=>by
  rw[ļ,e9<|e7 t,e9<|e7 s];exact h
 have i:=fx1 (f:=27) (e m4) r J J (b4 (by lia) (by lia) b5) J
 obtain⟨m5,Ľ⟩:∃m5,m5=(m4.set (w+5) ⟨M.bc,[]⟩).set w ⟨(iP w f c).c,((iP w f c).fs.set 12<|.val<|.lst<|c.lg.map Ev.val).set 10<|.val<|.f_ c.ks c.zs⟩:=⟨_,J⟩;have i:i7 M.bc M.P.tab 27 zD ⟨s3,m4⟩=.ok (.f_ c.ks c.zs,⟨s3,m5⟩):=by rw[Ľ];exact i
 have l4:Hq m4=Hq m3:=by rw[ļ,fF,fF]
 have q:m5[w]?=U ⟨(iP w f c).c,((iP w f c).fs.set 12<|.val<|.lst<|c.lg.map Ev.val).set 10<|.val<|.f_ c.ks c.zs⟩:=by rw[Ľ];exact f9 (by rw[fF,l4];exact a)
 have v:m5[w+6]?=U (lB c.no):=by
  rw[Ľ,e9<|by lia,e9<|by lia]
  exact b4 (by lia) (by lia) b6
 have g:=fx1 (f:=28) (e m5) q J J v J;obtain⟨m6,b⟩:∃m6,m6=(m5.set (w+6) ⟨M.bc,[]⟩).set w ⟨(iP w f c).c,(((iP w f c).fs.set 12<|.val<|.lst<|c.lg.map Ev.val).set 10<|.val<|.f_ c.ks c.zs).set 11<|.val<|.lst c.no⟩:=⟨_,J⟩;have g:i7 M.bc M.P.tab 28 zD ⟨s3,m5⟩=.ok (.lst c.no,⟨s3,m6⟩):=by rw[b];exact g
 have l5:Hq m5=Hq m3:=by rw[Ľ,fF,fF,l4]
 have p:m6[w]?=U ⟨(iP w f c).c,(((iP w f c).fs.set 12<|.val<|.lst<|c.lg.map Ev.val).set 10<|.val<|.f_ c.ks c.zs).set 11<|.val<|.lst c.no⟩:=by rw[b];exact f9 (by rw[fF,l5];exact a)
 have o:i7 M.bc M.P.tab 29 zD ⟨s3,m6⟩=.ok _:=fx2 (e m6) p J J J;have xg:ai _ [] (k1 _) ⟨s3,m3⟩=.ok _:=nT (s':=⟨s3,m4⟩) (az l J) (by exact KZ n hl)
 exact⟨m6,az xg<|az i<|az g<|az o J⟩
def abv(a b c d:T):df [a,b,c,d]=U (.tup [a,b,c,d]):=gc (by show 4<=1000;decide)
def OS(P:PO ln)(ct:Ct t rows e)(ht:Hq t<=100000)(hr:Hq rows<=12)(A:∀r∈rows,TX 6 r):WX (cN (n+13) 34 [.obj 0 [.lst<|aN ln],.str t] m) λq=>∃lg ks ts no,q=(.tup [.lst<|af<|gives lg,.f_ ks ts,.lst no,.lst<|lg.map Ev.val],m)/\LgO rows.length lg:=by
 obtain⟨nk,nt,D1,H,en⟩:=OO _ (L:=ln) (by have:=P.n;lia)
 obtain⟨bm,C⟩:∃bm,bm=T.f_ nk nt:=⟨_,J⟩;obtain⟨w,B⟩:∃w,w=(rq 0 rows).length:=⟨_,J⟩;have E:=B.trans<|wj ..;obtain⟨PT,Z⟩:∃PT,PT=T.obj 0 [.lst<|aN ln]:=⟨_,J⟩;have LA:aB [PT,.str t]=O:=by
  rw[Z];show((aB _&&O)&&(O&&O))=O;rw[c8];rfl
 have M:∀x∈ln,ĺ bm ln.length x:=λx A=>⟨(P.x x A).1,(P.x x A).2.1,λa ha=>by
  obtain⟨_,g,k,rfl,hk⟩:=D1.at_<|H a<|(P.x x A).2.2 a ha;exact⟨k,by rw[C];exact g,hk⟩⟩
 have FO0:FO w<|Ly (rq 0 rows) ln bm:=⟨B.symm,M,by have:=P.n;show Hq ln<=24;lia⟩
 have V:TO rows w 0<|Ly (rq 0 rows) ln bm:=⟨⟨wj ..,λk hk=>by
  have q:=KS rows 0 k rows[k]<|dP hk;rw[zl]at q;exact⟨q.1,[],[],q.2,DI.nil⟩,A⟩,E,DI.nil⟩
 have Is0:Is 0 ln.length 0 1 WE:=⟨⟨dO _,.inl J,.inl J,DI.nil.mono (dO _) (λ_ h=>h) λ_ h=>h,DI.nil.mono (dO _) (λ_ h=>h) λ_ h=>h,⟨dO _,J⟩,by decide,λl h=>by(cases dj.mp h),J,dO _,.inr<|dO _,λ_=>⟨dO _,by decide⟩,List.nodup_nil,by decide⟩,by decide⟩
 have K0:WK rows ln bm w 0 (312*0) (1+0*((wG ln 0).length+1)) _:=⟨_,[],WE,J,J,J,J,FO0,V,by rw[Nat.zero_mul];exact Is0,J⟩
 have hq:=cJ (wm ln 0).1 P.n;rw[<- Z,wI _ 34 J];obtain⟨j,D⟩:∃j,j=sv (.lst<|(gz 0 rows.length).map bO):=⟨_,J⟩;have ec:ai (cN (n+12) 1) [] (k1 zB) ⟨[sv PT,tl t,Y,Y,Y,Y],[]⟩=.ok (.tup [.lst<|af rows,.bl e],⟨[sv PT,tl t,Y,Y,Y,Y],[]⟩):=cE J<|rB (n+11) ct ht;have er:ai (cN (n+12) 24) [] (k1<|oI (ai (cN (n+12) 1) []<|k1 zB) zO) ⟨[sv PT,tl t,Y,Y,Y,Y],[]⟩=.ok (.lst<|(gz 0 rows.length).map bO,⟨[sv PT,tl t,Y,Y,Y,Y],rq 0 rows⟩):=cM (az (pE ec J J) J)<|OP (n+10)<|by lia
 have eN:=by
  have wi:=zb (n+10) (m:=rq 0 rows) (L:=ln) (bm:=bm) (by have:=P.n;lia) (by rw[C];exact en _)
  rw[<- B,<- Z]at wi
  have:=VF (g:=cN (n+12) 97) (s:=⟨[sv PT,tl t,j,Y,Y,Y],rq 0 rows⟩) (fl:=k1 zA) J (by show cN (n+12) _ (T.own (rq 0 rows).length::_) _=_;rw[<- B];exact wi)
  rw[B.symm]at this;exact this
 refine RS LA<|wc J ?_;refine vE (s1:=⟨[sv PT,tl t,j,Y,Y,Y],rq 0 rows⟩) ((eS er).trans<|by rw[D];rfl) ?_
 refine vE (eS eN) ?_;rw[D];have go:=DQ (P:=PT) (t0:=.str t) (n) hr J hq rows.length 0 _ Y Y (zl _) K0;refine A5<|abt J<|go.mono λp hp=>⟨hp.1,?_⟩;obtain⟨_,u,v,m2,e2,K⟩:=hp;rw[e2];obtain⟨f,jj,c,rfl,rfl,rfl,BK,F,I,X,hwt⟩:=K;obtain⟨b,hb⟩:∃b,b=1+Hq rows*((wG f.ln 0).length+1):=⟨_,J⟩;rw[<- hb,<- BK]at X;have Ws:=zc hr hq;obtain⟨q,Um⟩:∃q,q=(wG f.ln 0).length:=⟨_,J⟩;have hbq:b<=13+12*q:=by
  have:=wQ ((wG f.ln 0).length+1) hr
  rw[Um];lia
 have Q:f.tk<=12:=by rw[BK];exact hr
 have hk:Hq c.ks<=7+6*q:=by have:=X.i.n1;lia
 have hH:hB f.tk (b+14)<=141+24*q:=by unfold hB;lia
 have h6:(Hq c.ks<64/\c.ks.length*(hB f.tk (b+14)+71)<=(7+6*q)*(212+24*q))\/∀y∈f.ln,y.dN=Zb:=by
  rcases(wm f.ln 0).2 with z|z
  .exact .inr z
  .have:=P.n
   exact .inl ⟨by lia,sE hk<|by lia⟩
 obtain⟨⟨t3,m3⟩,e3,G,d,V3,o⟩:=Fx (n+8) F P.n Q X.i (by lia) h6
 cases G;cases V3;refine vE (s1:=⟨[sv PT,tl t,FH<|(gz 0 rows.length).map bO,sv<|.own w,u,v],st w f jj d⟩) ?_ ?_
 .unfold aR
  rw[Dh J (cA F.R 0) J J e3];rfl
 .have lz:=o.z (by lia)
  obtain⟨m6,e6⟩:=ă (c:=d) (n+11) F.R (s3:=[sv PT,tl t,FH<|(gz 0 rows.length).map bO,sv<|.own w,u,v]) (λ_=>J) (by lia)
  refine W.e<|W.k<|W.of (jN<|cT e6<|abv ..)<|.inr ⟨_,J,?_,d.lg,d.ks,d.zs,d.no,J,by rw[<- BK];exact o.tks,λl hl=>(o.gv l<|K2 hl).mono<|by lia,?_,?_⟩
  .show(aB (af<|gives d.lg)&&(aB d.zs&&(aB d.no&&(aB (d.lg.map Ev.val)&&O))))=O
   rw[aY,DR,o.no.2,lj λt ht=>by
    obtain⟨z,rfl,_⟩:=o.su.q t ht;rfl];rfl
  .have:=o.lg
   have:=sE (show b+14+9<=309 by lia)<|show b+14+9<=309 by lia
   lia
  .have hs:=o.sz
   have Ww:=KY f.ln 0;have h1:=sE (show b+14<=27+12*q by lia)<|show hB f.tk (b+14)+1<=142+24*q by lia
   have h2:=Bq ((7+6*q)*(212+24*q))<|show yX f.ln<=10-q by have:=P.n;lia
   have N:∀q:Fin 11,(27+12*q.1)*(142+24*q.1)+(7+6*q.1)*(212+24*q.1)*(10-q.1)<=99000:=by decide
   have N:=N ⟨q,by lia⟩
   dsimp only at N
   lia
abbrev HT:=HK Tx
def dI(h:HT):T:=.tup [.int (h.at_:Nat),.lst<|af h.o,.lst<|af h.w]
def hk(R:List Tx):List Ev->List HT->Nat->Nat->List Tx->List HT
 |[],hs,_,_,_=>hs
 |.take i::es,hs,s,_,g=>hk R es hs s i g
 |.give l::es,hs,s,k,g=>hk R es hs s k<|g++[l]
 |.over::es,hs,s,k,g=>hk R es (if g=sl R s k then hs else hs++[⟨s,sl R s k,g⟩]) k k []
 |_::es,hs,s,k,g=>hk R es hs s k g
theorem DT:∀a b:List Tx,iH (af a) (af b)=decide (a=b)
 |[],[]=>J
 |[],_::_=>J
 |_::_,[]=>J
 |x::a,y::b=>by
  show(decide _&&iH _ _)=_;rw[DT a b];by_cases h:x=y<;>by_cases k:a=b<;>simp[k]
theorem mw{n:Nat}:∀a b:List Tx,all2 (shape n) (af a) (af b)=O
 |[],_=>by cases n<;>rfl
 |_::_,[]=>by cases n<;>rfl
 |x::a,y::b=>by
  show(shape n _ _&&all2 _ _ _)=O;rw[mw a b];cases n<;>rfl
def neR(a b:List Tx):aI .NotEq (.lst<|af a) (.lst<|af b)=U (.bl<|!decide (a=b)):=by
 show gd (all2 _ _ _=O) (T.bl<|!iH _ _)=_;rw[gc<|mw a b,DT]
def HS(A:Option C)(R:List Tx)(hs:List HT)(s k:Nat)(g:List Tx)(x:Option C):S:=⟨[A,FH<|af R,U<|.ol<|hs.map dI,px (s:Nat),px (k:Nat),U<|.ol<|af g,x],[]⟩
section
variable{A x:Option C}
theorem uB:∀(es:List Ev)(hs:List HT)(s k:Nat)(g:List Tx)(x:Option C),Hq hs+Hq es<900000->Hq g+Hq es<900000->∃s' k' g' x',bg (setG 6) JM (es.map Ev.val) (HS A R hs s k g x)=.ok (.nx,HS A R (hk R es hs s k g) s' k' g' x')
 |[],hs,s,k,g,x,_,_=>⟨s,k,g,x,J⟩
 |e::es,hs,s,k,g,x,j,h=>by
  rw[dU]at j h;have step:∀{hs':List HT}{s' k':Nat}{g':List Tx}{x':Option C},JM _=.ok _->(∃s2 k2 g2 d,bg _ JM _ (HS A R hs' s' k' g' x')=.ok (.nx,HS A R (hk R es hs' s' k' g') s2 k2 g2 d))->hk R es hs' s' k' g'=hk R _ hs s k g->∃s2 k2 g2 d,bg (setG 6) JM ((e::es).map Ev.val) (HS A R hs s k g x)=.ok (.nx,HS A R (hk R (e::es) hs s k g) s2 k2 g2 d):=λ{hs' s' k' g' x'} a b c=>by
   obtain⟨s2,k2,g2,d,b⟩:=b;rw[c]at b;exact⟨s2,k2,g2,d,cQ J a b⟩
  cases e with
  |take i=>exact step (AO (eF J)<|eS (s':=HS A R hs s k g _) J) (uB es hs s i g _ (by lia)<|by lia) J
  |give l=>
   refine step (x':=sv (Ev.give l).val) (se (eF J)<|AO (eF J)<|(AR J J J<|by rw[bQ];lia).trans ?_) (uB es hs s k _ _ (by lia)<|by rw[bU,h_];lia) J
   have e:af g++[T.str l]=af (g++[l]):=by simp
   rw[e];rfl
  |over=>
   have m:bo _ (vF 5) (fK zB (dD zD)<|dD<|vF 4) (HS A R hs s k g<|sv Ev.over.val)=.ok (.bl<|!decide (g=sl R s k),⟨[A,sv _,U _,px s,px k,sv _,sv Ev.over.val],[]⟩):=c_ J (zh J J J<|by show U _=_;rw[vU];simp[af,sH,zt])<|neR ..
   have f:aZ (bo (aI .NotEq) (vF 5)<|fK zB (dD zD)<|dD<|vF 4) (HS A R hs s k g<|sv Ev.over.val)=.ok (!decide (g=sl R s k),⟨[A,FH<|af R,U<|.ol<|hs.map dI,px s,px k,FH<|af g,sv Ev.over.val],[]⟩):=by unfold aZ;rw[m];rfl
   by_cases z:g=sl R s k
   .rw[b7 z]at f
    exact step (se (eF J)<|se (eF J)<|AO (eF J)<|seq1 (se f J)<|seq1 (eS J) J) (uB es hs k k [] _ (by lia)<|by show 0+_<_;lia) (by rw[hk,b0 z])
   .rw[cq z]at f
    refine step (hs':=hs++[⟨s,sl R s k,g⟩]) (x':=sv Ev.over.val) (se (eF J)<|se (eF J)<|AO (eF J)<|seq1 (AO f<|AR (t:=dI ⟨s,sl R s k,g⟩) J (cT (az J<|az (zh J J J<|by show U (T.lst<|bJ ..)=_;rw[vU];simp[af,sH,zt])<|az J J)<|AY ..) J<|by rw[bQ];lia)<|seq1 (eS J) ?_) (uB es _ k k [] _ (by rw[bU,h_];lia)<|by show 0+_<_;lia) (by rw[hk,bt z])
    have e:hs.map dI++[dI ⟨s,sl R s k,g⟩]=(hs++[(⟨s,sl R s k,g⟩:HT)]).map dI:=by simp
    rw[e];rfl
  |_=>exact step (se (eF J)<|se (eF J)<|se (eF J) J) (uB es hs s k g _ (by lia)<|by lia) J
theorem rC:∀hs:List HT,aB (hs.map dI)=O
 |[]=>J
 |h::hs=>by
  show((O&&(aB _&&(aB _&&O)))&&aB _)=O;rw[aY,aY,rC hs];rfl
def K3(hl:Hq lg<=100000):cN (n+1) 37 [.lst<|lg.map Ev.val,.lst<|af R] m=.ok (.lst<|(hk R (lg++[.over]) [] 0 0 []).map dI,m):=by
 rw[wI _ 37 J];obtain⟨s,k,g,x,e⟩:=uB (lg++[.over]) [] 0 0 [] Y (by rw[bU];show 0+(_+1)<_;lia) (by rw[bU];show 0+(_+1)<_;lia)
 rw[gf]at e;have a:jo .Add (.lst<|lg.map Ev.val) (.lst [Ev.over.val])=U _:=gc (by rw[bQ];show _+1<=_;lia)
 refine fS (by show(aB _&&(aB _&&O))=O;rw[DR,aY];rfl) (jq J (seq1 (Ka J)<|seq1 (eS J)<|seq1 (eS J)<|seq1 (Ka J)<|seq1 (oO (Rt (pE J J a) J) e) J) J)<|rC _
end
section
variable{R g G:List Tx}{hs:List HT}{s k nn:Nat}{P:Tx->Prop}
structure HO(R:List Tx)(P:Tx->Prop)(hs:List HT)(s:Nat)(G:List Tx):Prop where
 wf:Wf s 0 hs
 ly:lay R s 0 hs=G
 mt:Mt R hs
 tx:∀h∈hs,∀x∈h.w,P x
def HO.step(I:HO R P hs s G)(b:s<=k)(d:k<=Hq R)(c:∀x∈g,P x):HO R P (if g=sl R s k then hs else hs++[⟨s,sl R s k,g⟩]) k<|G++g:=by
 have hl:=J_ b d;split
 .rename_i e
  exact⟨I.wf.mono b,by rw[Dt I.wf b,I.ly,<- e],I.mt,I.tx⟩
 .refine⟨Wf.snoc I.wf<|by lia,?_,λh a=>?_,λh a=>?_⟩
  .rw[yP]
   show lay R s 0 hs++(g++sl R _ k)=_;rw[I.ly,hl,show s+(k-s)=k by lia,show sl R k k=[] by simp,b9]
  .rcases eW.mp a with z|z
   .exact I.mt h z
   .rw[dj.mp z]
    show sl R s _=sl R s k;rw[hl,show s+(k-s)=k by lia]
  .rcases eW.mp a with z|z
   .exact I.tx h z
   .rw[dj.mp z];exact c
theorem nX:∀(es:List Ev)(hs:List HT)(s k:Nat)(g G:List Tx),HO R P hs s G->s<=k->k<=Hq R->takes es=gz (k+1) (Hq R-k)->(∀x∈g,P x)->(∀x∈gives es,P x)->HO R P (hk R (es++[.over]) hs s k g) R.length (G++(g++gives es))
 |[],hs,s,k,g,G,I,d,b,ht,a,_=>by
  have ht:=ht
  have:=dv Bs ht
  rw[PQ]at this;have e:k=Hq R:=by
   have:0=Hq R-k:=this
   lia
  have:=I.step d b a
  rw[show gives []=[]from J,b9];show HO R P _ R.length _
  rw[<- e];exact this
 |.take i::es,hs,s,k,g,G,I,d,b,ht,a,c=>by
  have ht:=ht;cases n:Hq R-k with
  |zero=>rw[n]at ht;cases ht
  |succ j=>
   rw[n]at ht;injection ht with e1 e2
   subst e1;exact nX es hs s _ g G I (by lia) (by lia) (by rw[show Hq R-(k+1)=j by lia];exact e2) a c
 |.give l::es,hs,s,k,g,G,I,d,b,ht,a,c=>by
  have f:=nX es hs s k _ G I d b ht (λx m=>(eW.mp m).elim (a x) λz=>by rw[dj.mp z];exact c l<|d_ ..) λx m=>c x<|eG _ m
  rw[fG g]at f;exact f
 |.over::es,hs,s,k,g,G,I,d,b,ht,a,c=>by
  have f:=nX es _ k k [] _ (I.step d b a) (bP _) b ht (λ_ h=>nomatch h) c;rw[fG]at f;exact f
 |.want _::es,hs,s,k,g,G,I,d,b,ht,a,c=>nX es hs s k g G I d b ht a c
 |.meet _ _::es,hs,s,k,g,G,I,d,b,ht,a,c=>nX es hs s k g G I d b ht a c
 |.noo _::es,hs,s,k,g,G,I,d,b,ht,a,c=>nX es hs s k g G I d b ht a c
 |.fin::es,hs,s,k,g,G,I,d,b,ht,a,c=>nX es hs s k g G I d b ht a c
def ik(rows:List Tx):Nat:=(rows.map λl=>Hq l+1).sum
def wsum(hs:List HT):Nat:=(hs.map λh=>ik h.w).sum
def j3(a b:List Tx):ik (a++b)=ik a+ik b:=by unfold ik;rw[gf,zy]
def K4(R:List Tx)(i:Nat):ik (R.drop i)<=ik R:=by
 have:=dv ik<|uL i R
 rw[j3]at this
 lia
def DU(R:List Tx):Hq R<=ik R:=by
 induction R with
 |nil=>exact bP _
 |cons a R b=>show Hq R+1<=(Hq a+1)+ik R;lia
theorem nz:∀rows:List Tx,(jn rows).length<=ik rows
 |[]=>bP _
 |[a]=>by show Hq a<=(Hq a+1)+0;lia
 |a::b::r=>by
  have c:=nz<|b::r;rw[fD,bU,dU];show _<=(Hq a+1)+ik (b::r)
  lia
def jc(rows:List Tx)(e:Bool):(gJ rows e).length<=ik rows+1:=by
 have:=nz rows
 unfold gJ;split
 .exact dO _
 .split
  .rw[bU];exact g_ this 1
  .lia
theorem DV{n:Nat}:∀{hs:List HT}{p q:Nat},Wf n p hs->ik (lay R q p hs)<=ik (R.drop p)+wsum hs
 |[],p,q,_=>by
  have:=dv ik<|uL (q-p)<|R.drop p
  rw[j3]at this;show ik ((R.drop p).take _)<=_+0
  lia
 |h::hs,p,q,w=>by
  have a:=DV (q:=q) w.2;show ik (sl R p h.at_++(h.w++lay R q _ hs))<=ik _+(ik h.w+wsum hs);rw[j3,j3];have e:=dv ik<|uL (h.at_-p)<|R.drop p;rw[j3,GI,show p+(h.at_-p)=h.at_ by have:=w.1;lia]at e
  have d:=K4 (R.drop h.at_) h.o.length;rw[GI]at d;show ik _+_<=_
  lia
theorem gZ:∀(es:List Ev)(hs:List HT)(s k:Nat)(g:List Tx),wsum (hk R es hs s k g)<=wsum hs+ik g+pC es
 |[],hs,_,_,g=>by show wsum hs<=_;lia
 |.over::es,hs,s,k,g=>by
  have a:=gZ es (if g=sl R s k then hs else hs++[⟨s,sl R s k,g⟩]) k k []
  have e:wsum (if g=sl R s k then hs else hs++[⟨s,sl R s k,g⟩])<=wsum hs+ik g:=by
   split
   .lia
   .unfold wsum
    rw[gf,zy];exact bP _
  show wsum (hk R es _ k k [])<=wsum hs+ik g+pC es
  have:ik []=0:=J
  lia
 |.give l::es,hs,s,k,g=>by
  have a:=gZ es hs s k<|g++[l];rw[j3]at a;show wsum (hk R es hs s k _)<=wsum hs+ik g+((Hq l+1)+pC es)
  have:ik [l]=Hq l+1+0:=J
  lia
 |.take i::es,hs,s,k,g=>gZ es hs s i g
 |.want _::es,hs,s,k,g=>gZ es hs s k g
 |.meet _ _::es,hs,s,k,g=>gZ es hs s k g
 |.noo _::es,hs,s,k,g=>gZ es hs s k g
 |.fin::es,hs,s,k,g=>gZ es hs s k g
structure PL where
 n:Nat
 e:Bool
 n':Nat
 e':Bool
 hs:List HT
def PL.val(p:PL):T:=.tup [.tup [.int (p.n:Nat),.bl p.e],.tup [.int (p.n':Nat),.bl p.e'],.lst<|p.hs.map dI]
structure RY(p:PL)(R:List Tx)(e:Bool):Prop where
 n:p.n=Hq R
 en:p.e=e
 wf:Wf p.n 0 p.hs
 mt:Mt R p.hs
 n':p.n'=(lay R p.n 0 p.hs).length
 e':p.e'=eT (lay R p.n 0 p.hs) e
 tx:∀h∈p.hs,∀x∈h.w,TX 3000 x
 wz:wsum p.hs<=99000
 le:p.n<=12/\p.hs.length<=100001
theorem rD:∀(es:List Ev)(hs:List HT)(s k:Nat)(g:List Tx),(hk R es hs s k g).length<=Hq hs+Hq es
 |[],hs,_,_,_=>bP _
 |e::es,hs,s,k,g=>by
  cases e with
  |over=>
   have:=rD es (if g=sl R s k then hs else hs++[⟨s,sl R s k,g⟩]) k k []
   refine cJ this ?_;rw[dU];split
   .lia
   .rw[bU,h_];lia
  |take i=>exact cJ (rD es hs s i g) (by rw[dU];lia)
  |give l=>exact cJ (rD es hs s k _) (by rw[dU];lia)
  |_=>exact cJ (rD es hs s k g) (by rw[dU];lia)
end
section
variable{a:FE}{fl:FL}{g:Fn}{j:T×S->Prop}{d:Out×S->Prop}
def Ą(d:fl s=.ok (ts,s1))(a:WX (g ts s1.m) λq=>j (q.1,⟨s1.r,q.2⟩)):WX (ai g [] fl s) j:=by
 unfold ai;rw[d];refine WX.bind<|W.e ⟨_,J,?_⟩;dsimp only;rw[b9];cases b:g ts s1.m with
 |ok q=>rw[b]at a;exact a
 |exc c fs s=>rw[b]at a;exact a
 |bad=>rw[b]at a;exact a
def abx(h:WX (a s) λp=>d (.nx,iT p.2 i<|.val p.1)):WX (aG i a s) d:=WX.bind<|h.mono λ_ q=>q
end
def gI(p:PL):noOwn p.val=O:=by
 show((O&&(O&&O))&&((O&&(O&&O))&&(aB _&&O)))=O;rw[rC];rfl
section
variable{m:FX}
def OT(P:PO ln)(ct:Ct t rows e)(ht:Hq t<=1000)(hr:Hq rows<=12)(o:∀r∈rows,TX 6 r):WX (cN (n+14) 35 [.obj 0 [.lst<|aN ln],.str t] m) λq=>∃p:PL,q=(p.val,m)/\RY p rows e:=by
 obtain⟨PT,g⟩:∃PT,PT=T.obj 0 [.lst<|aN ln]:=⟨_,J⟩;have w:aB [PT,.str t]=O:=by
  rw[g];show((aB _&&O)&&(O&&O))=O;rw[c8];rfl
 have b:Hq t<=100000:=cJ ht (by decide)
 have wk:=OS (m:=[]) n P ct b hr o;rw[<- g]at wk;rw[<- g,wI _ 35 J];refine RS w<|wc J<|A5<|abx<|Ą J<|wk.mono λq s=>⟨J,?_⟩;obtain⟨lg,ks,ts,no,rfl,L⟩:=s;obtain⟨a,f⟩:∃a,a=T.tup [.lst<|af<|gives lg,.f_ ks ts,.lst no,.lst<|lg.map Ev.val]:=⟨_,J⟩;have l:fL a (.int 0)=U (.lst<|af<|gives lg):=by rw[f];rfl
 have j:fL a (.int 3)=U (.lst<|lg.map Ev.val):=by rw[f];rfl
 rw[<- f];have i:∀{r:FC},ai _ [] (k1 zB) ⟨sv PT::tl t::r,[]⟩=.ok _:=cE J<|rB (n+12) ct b;have hs:=L.sz;have z:=nz<|gives lg;have y:=jc (gives lg) e;have hz:ik _<=99000:=hs;have ą:=lq (λr hr=>(L.gv r hr).n) e;refine vE (eS<|pE i J J) ?_;refine vE (s1:=⟨[sv PT,sv _,sv a,sv _,sv _],[]⟩) (eS<|cE (az (pE J J l)<|az (pE i J J) J)<|uA _<|by lia) ?_
 have v:ai _ [] (k2 (oI zC<|cI 3) zD) ⟨[sv PT,tl t,sv a,FH<|af rows,tl<|gJ (gives lg) e],[]⟩=.ok _:=cE (az (pE J J j)<|az J J)<|K3 (n+12) L.le;have H:=nX lg [] 0 0 [] [] ⟨bP _,by show(rows.drop 0).take 0=[];rw[Bu],(λ_ h=>nomatch h),λ_ h=>nomatch h⟩ (bP _) (dO _) L.tk (λ_ h=>nomatch h) L.gv
 rw[uJ,uJ]at H;have d:=gZ (R:=rows) (lg++[.over]) [] 0 0 [];have c:=rD (R:=rows) (lg++[.over]) [] 0 0 [];rw[mf]at d;have d:wsum _<=0+0+(pC lg+0):=d;rw[bU]at c;have c:(hk rows _ [] 0 0 []).length<=0+(Hq lg+1):=c;have x:=L.le;refine W.e<|W.k<|W.of (jN<|cT (az (cE J<|size_eq _ ct b)<|az (cE J<|size_eq _ ą<|by lia)<|az v J)<|AY ..)<|.inr ⟨_,J,?_,⟨Hq rows,e,(gives lg).length,eT _ e,hk rows _ [] 0 0 []⟩,J,⟨J,J,H.wf,H.mt,by rw[H.ly],by show _=eT _ e;rw[H.ly],H.tx,by lia,hr,by lia⟩⟩
 exact gI ⟨Hq rows,e,(gives lg).length,eT _ e,hk rows _ [] 0 0 []⟩
end
section
variable{R g:List Tx}{p:PL}{m:FX}
abbrev made(p:PL)(R:List Tx):List Tx:=lay R R.length 0 p.hs
def slR(R:List Tx)(i j:Nat)(d:a s=.ok (.lst<|af R,s))(hl:lo s=.ok (U ((i:Nat):Int),s))(c:b s=.ok (U ((j:Nat):Int),s)):fK a lo b s=.ok (.lst<|af<|sl R i j,s):=zh d hl c (by show U _=_;rw[vU];simp[zt])
def OU{t:T}(h:a s=.ok (t,s))(k:MP t=U ts):oJ a s=.ok (ts,s):=by
 unfold oJ;rw[h];apply dF;rw[k];rfl
def K5(h:a s=.ok (.int i,s)):dD a s=.ok (U i,s):=by unfold dD;rw[h];rfl
theorem DW{A x4 x5 x6:Option C}:∀(hs:List HT)(q:Nat)(a:List Tx)(x4 x5 x6:Option C),Hq a+(lay R R.length q hs).length<=900000->∃d pre g f e,bg (bw [4,5,6]) ã (hs.map dI) ⟨[A,FH<|af R,U<|.ol<|af a,px (q:Nat),x4,x5,x6],[]⟩=.ok (.nx,⟨[A,FH<|af R,U<|.ol<|af<|a++pre,px ((d:Nat):Int),g,f,e],[]⟩)/\pre++sl R d R.length=lay R R.length q hs
 |[],q,a,x4,x5,x6,_=>⟨q,[],x4,x5,x6,by rw[b9];rfl,J⟩
 |h::hs,q,a,x4,x5,x6,hz=>by
  have el:lay R R.length q (h::hs)=sl R q h.at_++(h.w++lay R R.length _ hs):=J;rw[el,bU,bU]at hz;obtain⟨d,pre,g,f,e,i,k⟩:=DW (A:=A) (x4:=x4) (x5:=x5) (x6:=x6) hs (h.at_+Hq h.o) (a++(sl R q h.at_++h.w)) (px h.at_) _ _ (by rw[bU,bU];lia)
  refine⟨d,(sl R q h.at_++h.w)++pre,g,f,e,?_,by rw[fG,k,el,fG]⟩
  obtain⟨b,c⟩:∃b:S,b=⟨[A,FH<|af R,U<|.ol<|af a,px q,px h.at_,FH<|af h.o,FH<|af h.w],[]⟩:=⟨_,J⟩;have ex:Jd 2 (oA (fK zB (dD zD)<|dD<|vF 4)<|vF 6) b=.ok (.nx,⟨[A,FH<|af R,U<|.ol<|af<|a++(sl R q h.at_++h.w),px q,px h.at_,FH<|af h.o,FH<|af h.w],[]⟩):=by
   have j:oA (fK zB (dD zD)<|dD<|vF 4) (vF 6) b=.ok (.lst<|af<|sl R q h.at_++h.w,b):=by
    rw[c];refine pE (slR R q h.at_ J J J) J<|(gc<|by rw[bQ,bQ];lia).trans ?_
    rw[af,af,af,gf]
   unfold Jd;rw[show b.r[2]?=U _ by rw[c];rfl]
   apply dF;rw[j];apply dF;rw[show b.r[2]?=U _ by rw[c];rfl]
   show Res.bind (bu<|gd _ ()) _=_;rw[gc<|by rw[bQ,bQ,bU];lia]
   show Res.ok _=_;rw[c,show af a++af _=af (a++(sl R q h.at_++h.w)) by simp];rfl
  rw[fG]at i;refine cQ (r:=b.r) (by rw[c];rfl) (seq1 (by rw[show⟨b.r,_⟩=b by rw[c]];exact ex)<|eS (s':=⟨[A,sv _,U _,px q,px h.at_,sv _,sv _],[]⟩)<|pE J (cT J<|by show U _=_;rw[bQ]) J) i
def K6(R:List Tx)(q:Nat):sl R q R.length=R.drop q:=Bv (by rw[hU];exact bP _)
def ze(p:PL)(hz:ik (made p R)<=99900):cN (n+2) 39 [p.val,.lst<|af R] m=.ok (.str<|gJ (made p R) p.e',m):=by
 have hl:=DU<|made p R;have l:=nz<|made p R;rw[wI _ 39 J];obtain⟨P,e⟩:∃P,P=p.val:=⟨_,J⟩;have h:fL P (.int 2)=U (.lst<|p.hs.map dI):=by rw[e];rfl
 have i:fL P (.int 1)=U (.tup [.int p.n',.bl p.e']):=by rw[e];rfl
 obtain⟨a,pre,d,c,b,g,f⟩:=DW (x4:=Y) (x5:=Y) (x6:=Y) p.hs 0 [] Y Y Y (by show 0+(made p R).length<=_;lia)
 have j:(lay R R.length 0 p.hs).length<=900000:=by lia
 have k:oA zC (fK zB (dD zD) je) ⟨[sv P,FH<|af R,U<|.ol<|af pre,px (a:Nat),d,c,b],[]⟩=.ok (.lst<|af<|made p R,⟨[sv P,FH<|af R,FH<|af pre,px a,d,c,b],[]⟩):=by
  refine c_ (u:=.lst<|af<|sl R a R.length) J (zh J J J<|by show U _=_;rw[gH,K6];simp[zt]) ?_
  rw[<- f,bU]at j;refine(gc<|by rw[bQ,bQ];lia).trans ?_
  rw[show made p R=pre++sl R a R.length from f.symm];simp[af]
 rw[<- e];refine fS (by rw[e];show(noOwn p.val&&(aB _&&O))=O;rw[gI,aY];rfl) (jq J (seq1 (Ka J)<|seq1 (eS J)<|seq1 (oO ?_ g)<|jN<|nT (az k<|az (pE (pE J J i) J J) J)<|uA n<|by lia) J) J
 exact OU (pE J J h) J
def V4(R:List Tx)(hs:List HT):Bool:=!hs.any λh=>!decide (sl R h.at_ (h.at_+Hq h.o)=h.o)
def pH:V4 R hs=O ↔ Mt R hs:=by
 unfold V4 Mt;simp
def ki(p:PL)(R:List Tx)(e:Bool):Bool:=(decide (Hq R=p.n)&&(e == p.e))&&(V4 R p.hs&&(decide ((made p R).length=p.n')&&(eT (made p R) p.e' == p.e')))
def DX(a b:Nat)(c d:Bool):aI .NotEq (.tup [.int (a:Nat),.bl c]) (.tup [.int (b:Nat),.bl d])=U (.bl<|!(decide (a=b)&&(c == d))):=by
 show U (T.bl<|!(decide (a=(b:Int))&&((c == d)&&O)))=_;rw[sO,show decide (a=(b:Int))=decide (a=b)from decide_eq_decide.mpr<|by lia]
def K7(a b:Nat)(c d:Bool):aI .Eq (.tup [.int (a:Nat),.bl c]) (.tup [.int (b:Nat),.bl d])=U (.bl<|decide (a=b)&&(c == d)):=by
 show U (T.bl<|decide (a=(b:Int))&&((c == d)&&O))=_;rw[sO,show decide (a=(b:Int))=decide (a=b)from decide_eq_decide.mpr<|by lia]
theorem K8:∀(hs:List HT)(m:FX),bA (bw [1,2,3]) eZ (bo (aI .NotEq) (fK (vF 4) (dD zB)<|dD<|oA zB<|aV bG<|k1 zC) zC) [Y,Y,Y,Y,FH<|af R] (hs.map dI) m=.ok (hs.map λh=>T.bl<|!decide (sl R h.at_ (h.at_+Hq h.o)=h.o),m)
 |[],_=>J
 |h::hs,m=>by
  refine WA J (pE (slR R h.at_ _ J J<|K5<|pE J (cT J<|by show U _=_;rw[bQ]) J) J<|neR ..)<|K8 hs m
def pI(p:PL)(ct:Ct t R e)(ht:Hq t<=100000)(hl:Hq p.hs<=200000)(hz:ik (made p R)<=99900)(j:∀r∈made p R,10∉r):cN (n+3) 38 [p.val,.str t] m=.ok (.bl<|ki p R e,m):=by
 rw[wI _ 38 J];obtain⟨P,a⟩:∃P,P=p.val:=⟨_,J⟩;have i:fL P (.int 0)=U (.tup [.int p.n,.bl p.e]):=by rw[a];rfl
 have g:fL P (.int 1)=U (.tup [.int p.n',.bl p.e']):=by rw[a];rfl
 have f:fL P (.int 2)=U (.lst<|p.hs.map dI):=by rw[a];rfl
 have d:aB [P,.str t]=O:=by rw[a];show(noOwn p.val&&(O&&O))=O;rw[gI];rfl
 rw[<- a];refine sEq d J J<|bS (pE (cE J<|rB _ ct ht) J J) ?_;have b:aZ (bo _ (ai _ []<|k1 zB)<|oI zA zO) ⟨[sv P,tl t,FH<|af R],[]⟩=.ok _:=eF<|pE (cE J<|size_eq n ct ht) (pE J J i)<|DX ..;unfold ki;cases k:(decide (Hq R=p.n)&&(e == p.e))with
 |false=>
  rw[k]at b;exact bY b<|bR J J
 |true=>
  rw[k]at b;refine bN b ?_;have c:D.tB (aV ya<|k1<|eO<|cY (oJ<|oI zA<|cI 2) 4 [2] (bw [1,2,3]) eZ<|bo (aI .NotEq) (fK (vF 4) (dD zB)<|dD<|oA zB<|aV bG<|k1 zC) zC) ⟨[sv P,tl t,FH<|af R],[]⟩=.ok (!V4 R p.hs,⟨[sv P,tl t,FH<|af R],[]⟩):=by
   refine sy<|cT (az (Ru (OU (pE J J f) J) (by rw[bQ];lia) J<|K8 p.hs []) J) ?_
   show(boolsOf _).map _=_;rw[jZ];show U (T.bl _)=_;rw[Gw];unfold V4;rw[Bool.not_not];rfl
  cases k2:V4 R p.hs with
  |false=>
   rw[k2]at c;exact bY c<|bR J J
  |true=>
   rw[k2]at c;have ą:=lq j p.e';have l:=jc (made p R) p.e';refine bN c<|bR (pE (cE (az (cE J<|by rw[a];exact ze n p hz) J)<|size_eq n ą<|by lia) (pE J J g)<|K7 ..) ?_
   rw[wZ,wZ]
end
section
variable{R:List Tx}{p:PL}{t:Tx}{e:Bool}{m:FX}
structure BP(p:PL)(R:List Tx)(t:Tx)(e:Bool):Prop where
 ct:Ct t R e
 ht:Hq t<=100000
 hl:Hq p.hs<=200000
 hz:ik (made p R)<=99900
 no:∀r∈made p R,10∉r
def DY(B:BP p R t e):eM (D.tB<|ai (cN (n+3) 38) []<|k2 zA zB) (⟨[sv p.val,tl t],[]⟩:S)=.ok (!ki p R e,⟨[sv p.val,tl t],[]⟩):=VJ<|sy<|cE J<|pI n p B.ct B.ht B.hl B.hz B.no
def my:aB [p.val,.str t]=O:=by show(noOwn p.val&&(O&&O))=O;rw[gI];rfl
def DZ(B:BP p R t e)(h:ki p R e=O):cN (n+4) 40 [p.val,.str t] m=.ok (.str<|gJ (made p R) p.e',m):=by
 have a:=DY n B;rw[h]at a;rw[wI _ 40 J];refine fS my (jq J (seq1 (se (sC a) J)<|sC<|jN<|cE (az J<|az (pE (cE J<|rB _ B.ct B.ht) J J) J)<|ze _ p B.hz) J) J
def Ć(h:aB ts=O)(hl:Hq ts=b)(k:B ⟨ts.map (λt=>sv t)++cK (a-Hq ts) Y,[]⟩=.exc c fs s0)(d:aB fs=O):aL (aE b a B) ts m=.exc c fs ⟨s0.r,m⟩:=by
 unfold aL aE;rw[b0 h,b0 hl,k];exact b0 d
def aby{A B:FS}(h:A s=.exc c fs s1):ah A B s=.exc c fs s1:=by unfold ah;rw[h];rfl
def OV(B:BP p R t e)(h:ki p R e=Zb):∃r,cN (n+4) 40 [p.val,.str t] m=.exc 0 [] ⟨r,m⟩:=by
 have a:=DY n B;rw[h]at a;rw[wI _ 40 J];exact⟨[sv p.val,sv _],Ć (s0:=⟨[sv p.val,sv _],[]⟩) my J (aby<|AO (sC a) J) J⟩
def A_(B:BP p R t e)(h:ki p R e=Zb):cN (n+5) 74 [p.val,.str t] m=.ok (.bl O,m):=by
 obtain⟨r,f⟩:=OV n B h;rw[wI _ 74 J];refine sEq my J J<|bS J<|kg<|W.of (a:=(Out.nx,⟨[sv p.val,tl t,FH [.bl O,.bl O,.bl Zb,.bl Zb,.bl Zb,.bl Zb,.bl Zb,.bl Zb,.bl Zb],Y],[]⟩)) ?_ ⟨J,bR J J⟩;have d:ai (cN (n+4) 40) [] (pe<|k2 zA zB) ⟨[sv p.val,tl t,FH [],Y],[]⟩=.exc 0 [] ⟨[sv p.val,tl t,FH [],Y],[]⟩:=by
  show(match cN _ 40 [p.val,.str t] []with|.ok q=>_|.bad=>_|.exc c fs b=>_)=_
  rw[f]
 refine Eq.trans (dv (λx=>match x with|.ok p=>Res.ok (Out.nx,p.2)|.exc c _ b=>Ĭ 3 2 M.kb c b|.bad=>.bad) d) ?_
 rfl
theorem D0{A:Option C}{n:Nat}:∀(hs:List HT)(q p:Nat)(a:List HT)(x y z:Option C),Wf n p hs->Hq a+Hq hs<=300000->∃k x' c b,bg (bw [3,4,5]) ä (hs.map dI) ⟨[A,U<|.ol<|a.map dI,px<|(q:Int)-(p:Int),x,y,z],[]⟩=.ok (.nx,⟨[A,U<|.ol<|(a++bk q p hs).map dI,px k,x',c,b],[]⟩)
 |[],q,p,a,x,y,z,_,_=>⟨_,x,y,z,by rw[bk,b9];rfl⟩
 |h::hs,q,p,a,x,y,z,wf,hl=>by
  rw[dU]at hl;obtain⟨g,d⟩:∃g:HT,g=⟨q+(h.at_-p),h.w,h.o⟩:=⟨_,J⟩;obtain⟨k,x',c,b,e⟩:=D0 hs _ _ (a++[g]) (px h.at_) _ _ wf.2 (by rw[bU,h_];lia)
  refine⟨k,x',c,b,?_⟩;have m:bk q p (h::hs)=g::bk (q+(h.at_-p)+Hq h.w) (h.at_+Hq h.o) hs:=by rw[d];rfl
  rw[fG]at e;rw[m];have v:h.at_+(q-p)=((q+(h.at_-p):Nat):Int):=by have:=wf.1;lia
  have j:(q-p)+(Hq h.w-Hq h.o)=((q+(h.at_-p)+Hq h.w:Nat))-((h.at_+Hq h.o:Nat):Int):=by lia
  rw[<- j]at e;have lo:∀{s:S}{i:Nat}{l:List Tx},vF i s=.ok (.lst _,s)->aV bG (k1 _) s=.ok (.int l.length,s):=λ{s i l} h=>cT (az h J) (by show U (T.int (af l).length)=_;rw[bQ])
  refine cQ J (seq1 (s':=⟨[A,U<|.ol<|(a++[g]).map dI,px<|q-p,px h.at_,FH<|af h.o,FH<|af h.w],[]⟩) ?_ ?_) e
  .refine(AR (t:=dI g) J (cT (ts:=[.int ((q+(h.at_-p):Nat)),.lst _,.lst _]) (az (pE J J<|by rw[<- v];rfl)<|az (cT J J)<|az (cT J J) J)<|by rw[d];exact AY ..) J<|by rw[bQ];lia).trans ?_
   have B:a.map dI++[dI g]=(a++[g]).map dI:=by simp
   rw[B];rfl
  .have f:bo (jo .Sub) (aV bG<|k1<|vF 5) (aV bG<|k1<|vF 4) ⟨[A,U<|.ol<|(a++[g]).map dI,px<|(q:Int)-(p:Int),px (h.at_:Nat),FH<|af h.o,FH<|af h.w],[]⟩=.ok (.int<|h.w.length-Hq h.o,⟨[A,U _,px<|q-p,px h.at_,sv _,sv _],[]⟩):=pE (lo J) (lo J) J
   unfold zY;refine Eq.trans (dv (λx=>Res.bind x _) f) ?_;rfl
def ER(p:PL):PL:=⟨p.n',p.e',p.n,p.e,bk 0 0 p.hs⟩
def back_eq(wf:Wf k 0 p.hs)(hl:Hq p.hs<=200000):cN (n+1) 41 [p.val] m=.ok ((ER p).val,m):=by
 rw[wI _ 41 J];obtain⟨P,a⟩:∃P,P=p.val:=⟨_,J⟩;have h:fL P (.int 0)=U (.tup [.int p.n,.bl p.e]):=by rw[a];rfl
 have g:fL P (.int 1)=U (.tup [.int p.n',.bl p.e']):=by rw[a];rfl
 have f:fL P (.int 2)=U (.lst<|p.hs.map dI):=by rw[a];rfl
 obtain⟨k,d,c,b,e⟩:=D0 p.hs 0 0 [] Y Y Y wf (by show 0+_<=_;lia)
 rw[<- a];refine fS (by rw[a];show(noOwn p.val&&O)=O;rw[gI];rfl) (jq J (seq1 (Ka J)<|seq1 (eS J)<|seq1 (oO (OU (pE J J f) J) e)<|jN<|cT (az (pE J J g)<|az (pE J J h)<|az J J)<|AY ..) J)<|gI _
end
section
variable{m:FX}
def wx(v:List Tx)(h:HT):List Tx:=v.take h.at_++(h.w++v.drop (h.at_+Hq h.o))
def pr:List HT->List Tx->Option (List Tx)
 |[],v=>U v
 |h::hs,v=>if sl v h.at_ (h.at_+Hq h.o)=h.o then pr hs (wx v h)else Y
theorem D3:∀{L:List HT}{h:HT}{v:List Tx},pr (L++[h]) v=(pr L v).bind λX=>if sl X h.at_ (h.at_+Hq h.o)=h.o then U (wx X h)else Y
 |[],h,v=>J
 |g::L,h,v=>by
  show(if _ then pr _ _ else Y)=(if _ then pr L _ else Y).bind _
  split
  .exact D3
  .rfl
theorem Ba(R:List Tx):∀hs:List HT,put R hs=pr hs.reverse R
 |[]=>J
 |h::hs=>by
  rw[Gz,D3,<- Ba R hs];rfl
def K9(v:List Tx)(h:HT):(wx v h).length<=Hq v+Hq h.w:=by
 unfold wx;rw[bU,bU,kB,hU];lia
def eA(d:a s=.ok (.lst<|af x,s))(c:b s=.ok (.lst<|af y,s))(hz:Hq x+Hq y<=1000000):oA a b s=.ok (.lst<|af<|x++y,s):=pE d c<|(gc<|by rw[bQ,bQ];exact hz).trans<|by simp[af]
def uC(d:a s=.ok (.lst<|af x,s))(c:b s=.ok (U ((i:Nat):Int),s)):fK a je b s=.ok (.lst<|af<|x.take i,s):=zh d J c (by show U _=_;rw[qU];simp[af])
def uD(c:a s=.ok (.lst<|af x,s))(b:lo s=.ok (U ((i:Nat):Int),s)):fK a lo je s=.ok (.lst<|af<|x.drop i,s):=zh c b J (by show U _=_;rw[gH];simp[af])
def jO(b:a s=.ok (.lst<|af x,s)):aV bG (k1 a) s=.ok (.int (Hq x:Nat),s):=cT (az b J) (by show U _=_;rw[bQ])
def atLen(d:a s=.ok (.int (i:Nat),s))(c:b s=.ok (.lst<|af x,s)):oA a (aV bG<|k1 b) s=.ok (.int ((i+Hq x:Nat):Int),s):=pE d (jO c) J
def V5{u t:T}(h:g t s.r=U r)(a:b ⟨r,s.m⟩=.ok (.rt u,s1)):bg g b (t::ts) s=.ok (.rt u,s1):=by
 unfold bg;rw[h];apply dF;rw[a];rfl
def K_{t:T}(h:aB ts=O)(k:B ⟨ts.map (λt=>sv t)++cK (a-Hq ts) Y,[]⟩=.ok (.rt t,s'))(ht:noOwn t=O):aL (aE ts.length a B) ts m=.ok (t,m):=fS h (jq J k J) ht
def V6{t:T}(h:a s=.ok (t,s1))(k:b t s1.r=U r):oF b a s=.ok (.nx,⟨r,s1.m⟩):=by
 unfold oF;rw[h];apply dF;rw[k];rfl
def V7(L:List HT):Nat:=(L.map λh=>Hq h.w).sum
theorem D4:∀(L:List HT)(v:List Tx)(c b ć:Option C),Hq v+V7 L<=400000->(∃X g f a,pr L v=U X/\bg (bw [8,9,10]) JN (L.map dI) ⟨[a0,a1,a2,a3,a4,a5,FH<|af v,x7,c,b,ć],[]⟩=.ok (.nx,⟨[a0,a1,a2,a3,a4,a5,FH<|af X,x7,g,f,a],[]⟩))\/(pr L v=Y/\∃s',bg (bw [8,9,10]) JN (L.map dI) ⟨[a0,a1,a2,a3,a4,a5,FH<|af v,x7,c,b,ć],[]⟩=.ok (.rt .non,s'))
 |[],v,c,b,ć,_=>.inl ⟨v,c,b,ć,J,J⟩
 |h::L,v,c,b,ć,hz=>by
  have hz:Hq v+(Hq h.w+V7 L)<=400000:=hz;obtain⟨s,hs⟩:∃s:S,s=⟨[a0,a1,a2,a3,a4,a5,FH<|af v,x7,px h.at_,FH<|af h.o,FH<|af h.w],[]⟩:=⟨_,J⟩;have j:vF 6 s=.ok (.lst<|af v,s):=by rw[hs];rfl
  have d:vF 8 s=.ok (.int h.at_,s):=by rw[hs];rfl
  have i:vF 9 s=.ok (.lst<|af h.o,s):=by rw[hs];rfl
  have k:vF 10 s=.ok (.lst<|af h.w,s):=by rw[hs];rfl
  have e:=eF<|pE (slR v h.at_ _ j (K5 d)<|K5<|atLen d i) i<|neR ..;by_cases z:sl v h.at_ (h.at_+Hq h.o)=h.o
  .rw[b7 z]at e
   have hl:=K9 v h;have st:JN s=.ok (.nx,⟨[a0,a1,a2,a3,a4,a5,FH<|af<|wx v h,x7,px h.at_,FH<|af h.o,FH<|af h.w],[]⟩):=by
    have l1:(v.take h.at_).length<=Hq v:=by rw[kB];lia
    have l2:(v.drop<|h.at_+Hq h.o).length<=Hq v:=by rw[hU];lia
    have l:=eA (eA (uC j<|K5 d) k<|by lia) (uD j<|K5<|atLen d i) (by rw[bU];lia)
    rw[fG]at l;exact seq1 (okN e)<|(eS l).trans<|by rw[hs];rfl
   have m:pr (h::L) v=pr L _:=b0 z;rw[m];rcases D4 L (wx v h) (px h.at_) _ _ (by lia)with⟨X,g,f,a,q1,q2⟩|⟨q1,s',q2⟩
   .exact .inl ⟨X,g,f,a,q1,cQ (r:=s.r) (by rw[hs];rfl) (by rw[show⟨s.r,_⟩=s by rw[hs]];exact st) q2⟩
   .exact .inr ⟨q1,s',cQ (r:=s.r) (by rw[hs];rfl) (by rw[show⟨s.r,_⟩=s by rw[hs]];exact st) q2⟩
  .rw[cq z]at e
   refine .inr ⟨bt z,s,?_⟩;have st:JN s=.ok _:=NX<|AO e<|jN J;exact V5 (r:=s.r) (by rw[hs];rfl) (by rw[show⟨s.r,_⟩=s by rw[hs]];exact st)
def jP(p:PL)(R:List Tx)(e:Bool):Option Tx:=if(decide (Hq R=p.n)&&(e == p.e))=O then(put R p.hs).bind λX=>if(eT X p.e' == p.e')=O then U (gJ X p.e')else Y else Y
def Fy:Option Tx->T
 |some t=>.str t
 |none=>.non
def V8(hs:List HT):V7 hs<=wsum hs:=by
 induction hs with
 |nil=>exact bP _
 |cons h hs a=>
  have:=DU h.w
  show Hq h.w+V7 hs<=ik h.w+wsum hs
  lia
def OW(hs:List HT):V7 hs.reverse=V7 hs:=by unfold V7;rw[PU,List.sum_reverse]
def OX(p:PL)(ct:Ct t R e)(ht:Hq t<=100000)(A:Hq R+wsum p.hs<=400000)(hz:Hq R=p.n->∀X,put R p.hs=U X->ik X<=99900/\∀r∈X,10∉r):cN (n+2) 73 [p.val,.str t] m=.ok (Fy<|jP p R e,m):=by
 rw[wI _ 73 J];obtain⟨Q,o⟩:∃Q,Q=T.lst (p.hs.map dI):=⟨_,J⟩;have y:=V8 p.hs;have f:noOwn (Fy<|jP p R e)=O:=by cases jP p R e<;>rfl
 obtain⟨s2,c⟩:∃s:S,s=⟨[sv p.val,tl t,Y,sv<|.tup [.int p.n,.bl p.e],sv<|.tup [.int p.n',.bl p.e'],sv Q,FH<|af R,sv<|.bl e,Y,Y,Y],[]⟩:=⟨_,J⟩;have a:aZ (bo (aI .NotEq) zD<|aV df<|k2 (aV bG<|k1<|vF 6)<|vF 7) s2=.ok (!(decide (Hq R=p.n)&&(e == p.e)),s2):=by
  rw[c];refine eF<|pE J (cT (az (jO J)<|az J J)<|kh ..)<|(DX ..).trans ?_;rw[decide_eq_decide.mpr eq_comm,Bool.beq_comm]
 have start:∀{B:FS}{q:Res _},B s2=q->ah (oF (bw [3,4,5]) zA) (ah (oF (bw [6,7])<|ai _ []<|k1 zB) B) ⟨[sv p.val,tl t,Y,Y,Y,Y,Y,Y,Y,Y,Y],[]⟩=q:=λ{B q} h=>seq1 (by rw[o];rfl)<|seq1 ((V6 (cE (s:=⟨[sv p.val,sv _,Y,sv<|.tup [.int p.n,.bl p.e],sv<|.tup [.int p.n',.bl p.e'],sv Q,Y,Y,Y,Y,Y],[]⟩) J<|pF n ct ht) J).trans<|by rw[c];rfl) h
 have fin:∀{v:T}{s':S}{B:FS},B s2=.ok (.rt v,s')->Fy _=v->aL (aE 2 11 _) _ m=.ok (Fy _,m):=λ{v s' B} h k=>by
  rw[k]at f ⊢;exact K_ my (start h) f
 cases k:(decide (Hq R=p.n)&&(e == p.e))with
 |false=>
  rw[k]at a;exact fin (NX<|AO a<|jN J) (by unfold jP;rw[k];rfl)
 |true=>
  rw[k]at a;have g:o1 Ip (vF 5) s2=.ok (p.hs.reverse.map dI,s2):=by
   rw[c];refine o1r J ?_;rw[o,PU];rfl
  rcases D4 p.hs.reverse R Y Y Y (by rw[OW];lia)with⟨X,l,j,b,q1,q2⟩|⟨q1,s',q2⟩
  .rw[<- c]at q2
   rw[<- Ba]at q1;obtain⟨z,x⟩:=hz (bh (kF.mp k).1) X q1;have D:=nz X;have C:=jc X p.e';have ą:=lq x p.e';obtain⟨d,i⟩:∃s:S,s=⟨[sv p.val,tl t,tl<|gJ X p.e',sv<|.tup [.int p.n,.bl p.e],sv<|.tup [.int p.n',.bl p.e'],sv Q,FH<|af X,sv<|.bl e,l,j,b],[]⟩:=⟨_,J⟩;have w:aG 2 (ai _ []<|k2 (vF 6)<|oI (vF 4) zI) ⟨[sv p.val,tl t,Y,sv<|.tup [.int (p.n:Nat),.bl p.e],sv<|.tup [.int (p.n':Nat),.bl p.e'],sv Q,FH<|af X,sv<|.bl e,l,j,b],[]⟩=.ok (.nx,d):=(eS<|cE (az J<|az (pE J J J) J)<|lr n<|by lia).trans (by rw[i];rfl)
   have ľ:aZ (bo (aI .NotEq) (oI (ai (cN (n+1) 68) []<|k1 zC) zI)<|oI (vF 4) zI) d=.ok (!(eT X p.e' == p.e'),d):=by
    rw[i];exact eF<|pE (pE (cE J<|pF n ą<|by lia) J J) (pE J J J) J
   cases k3:(eT X p.e' == p.e')with
   |true=>
    rw[k3]at ľ;exact fin (seq1 (okN a)<|seq1 (oO g q2)<|seq1 w<|seq1 (okN ľ)<|jN<|by rw[i];rfl) (by unfold jP;rw[k,q1];show Fy (if(eT X p.e' == p.e')=O then _ else _)=_;rw[k3];rfl)
   |false=>
    rw[k3]at ľ;exact fin (seq1 (okN a)<|seq1 (oO g q2)<|seq1 w<|NX<|AO ľ<|jN J) (by unfold jP;rw[k,q1];show Fy (if(eT X p.e' == p.e')=O then _ else _)=_;rw[k3];rfl)
  .rw[<- c]at q2
   rw[<- Ba]at q1;exact fin (seq1 (okN a)<|NX<|oO g q2) (by unfold jP;rw[k,q1];rfl)
end
open PySem PyProof.Rows in
def RZ(ns:Ee)(lo hi:Nat):(ee ns (U (lo:Int)) (U (hi:Int)) 2).length<=(hi-lo+1)/2:=by
 refine cJ (List.length_filterMap_le ..) ?_;have e:fE (U lo) (U hi) (U 2) ns.length=(max 0<|min (lo:Int) ns.length,max 0<|min (hi:Int) ns.length,2):=by
  have a1:¬ (lo:Int)<0:=by lia
  have a2:¬ (hi:Int)<0:=by lia
  have a3:(2:Int) > 0:=by decide
  unfold fE;simp only[Option.getD_some,bt a1,bt a2,b0 a3]
 show(xH (max 0<|min lo ns.length) (max 0<|min hi ns.length) 2).length<=_;unfold xH;rw[bQ,kD]
 split<;>lia
section
variable{m:FX}
def mulM(k:Int)(c:Int):Int:=c*k % 2147483647
theorem Bb(k:Int)(hk:-(2^64)<k/\k<2^64):∀(cs:Ee)(m:FX),bA (setG 1) eZ (oM (bo (jo .Mult) zB<|cI k)<|cI 2147483647) [Y,Y] (aH cs) m=.ok (aH<|cs.map<|mulM k,m)
 |[],_=>J
 |c::cs,m=>WA J (md (pE (t:=.int c) J J<|gc<|.inl<|.inr hk)<|by decide)<|Bb k hk cs m
def La(ns:Ee):∃(k:Bool)(rs:List Tx)(ls:List LN)(d:List Tx)(e:Bool),PG k k rs ls/\rs.length<=10/\d.length<=12/\(∀w∈d,TX 6 w)/\∀m,cN (n+3) 67 [.scr ns] m=.ok (.tup [.str<|flat rs,.str<|gJ d e],m):=by
 have l:=RZ ns 1 21;have j:=RZ ns 2 26;obtain⟨c1,Ļ⟩:∃c,c=(ee ns (U 1) (U 21) 2).map (mulM 69621):=⟨_,J⟩;obtain⟨c2,ī⟩:∃c,c=(ee ns (U 2) (U 26) 2).map (mulM 48271):=⟨_,J⟩;have l1:Hq c1<=10:=by rw[Ļ,bQ];exact l
 have l2:Hq c2<=12:=by rw[ī,bQ];exact j
 obtain⟨c0,q⟩:=pG _ ns 0;obtain⟨rs,ls,P,hr,p⟩:=Oj n (cs:=c1) (by lia)
 obtain⟨d,r,g,o⟩:=OR n (cs:=c2) (by lia)
 refine⟨_,rs,ls,d,decide<|0<c0 % 3,P,by lia,by lia,g,λm=>?_⟩
 rw[wI _ 67 J];have f:∀(lo b:Nat){s:S},vF 0 s=.ok (.scr ns,s)->AA 2 zA (dD<|cI lo) (dD<|cI b) s=.ok (.lst<|aH<|ee ns (U lo) (U b) 2,s):=λlo b {s} h=>by
  refine Eq.trans (dv (λx=>Res.bind x _) h) ?_;apply dF;apply dF;apply dF;show Res.bind (bu<|Nl 2 (U lo) (U b) _) _=_;rw[show Nl 2 (U lo) (U b) (.scr ns)=U (.lst<|aH<|ee ns (U lo) (U b) 2)from gc<|by decide];rfl
 refine sEq J J J<|bS (Ru (Rt (f 1 21 J) J) (by rw[bQ];lia) J<|by rw[Ļ];exact Bb 69621 (by decide) _ _)<|bS (Ru (Rt (f 2 26 J) J) (by rw[bQ];lia) J<|by rw[ī];exact Bb 48271 (by decide) _ _)<|bR (cT (az (cE J<|p _)<|az (cE (az J<|az (pE (md (cE J<|q _)<|by decide) J<|AQ ..) J)<|o _) J)<|kh ..) J
theorem Lb{n:Nat}:∀(L:List HT)(a:List Tx)(e d c:Option C),Hq a=n->(∀y∈a,TX 6 y)->(∀h∈L,h.at_+Hq h.o<=n/\∀x∈h.o,TX 6 x)->n<=100->∃X k j i,Hq X=n/\(∀x∈X,TX 6 x)/\bg (bw [4,5,6]) é (L.map dI) ⟨[a0,a1,a2,FH<|af a,e,d,c],[]⟩=.ok (.nx,⟨[a0,a1,a2,FH<|af X,k,j,i],[]⟩)
 |[],a,e,d,c,l,f,_,_=>⟨a,e,d,c,l,f,J⟩
 |h::L,a,e,d,c,l,f,t,A=>by
  obtain⟨k1,k2⟩:=t h<|d_ ..;obtain⟨s,hs⟩:∃s:S,s=⟨[a0,a1,a2,FH<|af a,px h.at_,FH<|af h.o,FH<|af h.w],[]⟩:=⟨_,J⟩;have q:vF 3 s=.ok (.lst<|af a,s):=by rw[hs];rfl
  have p:vF 4 s=.ok (.int h.at_,s):=by rw[hs];rfl
  have m:vF 5 s=.ok (.lst<|af h.o,s):=by rw[hs];rfl
  have l1:(a.take h.at_).length=h.at_:=by rw[kB];lia
  have l2:(a.drop<|h.at_+Hq h.o).length=n-(h.at_+Hq h.o):=by rw[hU,l]
  have D:=eA (eA (uC q<|K5 p) m<|by lia) (uD q<|K5<|atLen p m) (by rw[bU];lia)
  obtain⟨X,k,j,i,z,v,u⟩:=Lb L ((a.take h.at_++h.o)++a.drop (h.at_+Hq h.o)) (px h.at_) _ _ (by rw[bU,bU];lia) (λy b=>by
   rcases eW.mp b with b|b
   .rcases eW.mp b with b|b
    .exact f y<|sJ b
    .exact k2 y b
   .exact f y<|zx b) (λg B=>t g<|eG _ B) A
  exact⟨X,k,j,i,z,v,cQ (r:=s.r) (by rw[hs];rfl) (by rw[show⟨s.r,_⟩=s by rw[hs]];exact(eS D).trans<|by rw[hs];rfl) u⟩
theorem zf(n:Nat)(b:Int):∀(L:B1),(∀k∈L,k<1000)->∃a:List Tx,Hq a=Hq L/\(∀w∈a,TX 6 w)/\∀m,bA (setG 1) eZ (ai (cN (n+1) 65) []<|k1<|oM (oD zC<|oA zB zI)<|cI 1000003) [Y,Y,px b] (L.map λk=>T.int ((k:Nat):Int)) m=.ok (af a,m)
 |[],_=>⟨[],J,(λ_ h=>nomatch h),λ_=>J⟩
 |k::L,hk=>by
  obtain⟨w,d,j⟩:=A0 n<|b/(k+1) % 1000003;obtain⟨a,g,f,e⟩:=zf n b L λk h=>hk k<|eG _ h;refine⟨w::a,by rw[dU,dU,g],λx c=>?_,λm=>WA J (cE (az (md (pE (t:=.int b) J (pE (t:=.int (k)) J J J)<|gc ?_)<|by decide) J)<|j m)<|e m⟩
  .rcases bM.mp c with rfl|c
   .exact d
   .exact f x c
  .have:=hk k<|d_ ..
   lia
def V9{hs:List HT}(q:Hq R<=100)(p:∀h∈hs,h.at_+Hq h.o<=Hq R/\∀x∈h.o,TX 6 x):∃X:List Tx,Hq X=Hq R/\(∀x∈X,TX 6 x)/\∀m,cN (n+2) 71 [.lst<|af R,.lst<|hs.map dI,.int c] m=.ok (.lst<|af X,m):=by
 obtain⟨j,a,l,r⟩:=zf n c (cU R.length) λk hk=>by have:=wR.mp hk;lia
 rw[kD]at a;obtain⟨X,e,d,b,i,g,f⟩:=Lb hs j Y Y Y a l p q;refine⟨X,i,g,λm=>?_⟩;rw[wI _ 71 J];refine fS (by show(aB _&&(aB _&&O))=O;rw[aY,rC];rfl) (jq J (seq1 (eS<|Ru (VG (az (jO J) J) ?_) (by rw[bQ,kD];lia) J<|r _)<|seq1 (oO J f)<|jN J) J)<|aY X
 refine(gc<|by lia).trans ?_
 rw[qV,aH,j5];rfl
end
section
variable{hs:List HT}{m:FX}
def iR(d:a s=.ok (.lst<|af x,s))(hl:lo s=.ok (i,s))(c:b s=.ok (j,s)):fK a lo b s=.ok (.lst<|af<|bJ x i j,s):=zh d hl c (by show U _=_;rw[mh])
def RW(k:Nat)(Z:List Tx):Prop:=Hq Z<=k/\∀z∈Z,TX 6 z
def RW.cut(h:RW k Z):RW k<|bJ Z i j:=⟨cJ jH h.1,λz hz=>h.2 z<|rh hz⟩
def RW.cat(h:RW k a)(q:RW j Z):RW (k+j)<|a++Z:=⟨by rw[bU];exact Pb h.1 q.1,λz hz=>(eW.mp hz).elim (h.2 z)<|q.2 z⟩
def RW.one(h:TX 6 w):RW 1 [w]:=⟨bP _,λz hz=>by rw[dj.mp hz];exact h⟩
theorem RW.jn{Z:List Tx}(h:RW 30 Z):(jn Z).length<=500000:=by
 have:=A8 λr hr=>(h.2 r hr).l
 have:=h.1
 lia
def pJ(h:a s=.ok (.str w,s)):aV dm (k1 a) s=.ok (.lst<|af [w],s):=cT (az h J) J
def Ld(ns:Ee)(a:RW 12 R)(hh:∀h∈hs,h.at_+Hq h.o<=Hq R/\∀x∈h.o,TX 6 x):∃t,(∃(Z:List Tx)(b:Bool),t=.str (gJ Z b)/\RW 30 Z)/\∀m,cN (n+3) 72 [.lst<|af R,.bl e,.lst<|hs.map dI,.scr ns] m=.ok (t,m):=by
 obtain⟨c0,e0⟩:=pG _ ns 0;obtain⟨K,e3⟩:=pG _ ns 3;obtain⟨d,D⟩:∃w,w=c0/3 % 8:=⟨_,J⟩;obtain⟨c,hc⟩:∃c,c=K*48271 % 2147483647:=⟨_,J⟩;obtain⟨sp,W⟩:∃s:Int,s=c/50021 % (if(Hq R:Int) > 1 then(Hq R:Int)else 1):=⟨_,J⟩
 have l12:=a.1;have mx:0<(if(Hq R:Int) > 1 then(Hq R:Int)else 1):=by split<;>lia
 have sp0:0<=sp:=by rw[W];exact BG _ (by lia)
 obtain⟨w,E,ew⟩:=A0 (n+1) c;obtain⟨X,x1,x2,ex⟩:=V9 n (by lia) hh
 have F:RW 12 X:=⟨by lia,x2⟩
 have V:aB [.lst<|af R,.bl e,.lst<|hs.map dI,.scr ns]=O:=by show(aB (af R)&&(O&&(aB (hs.map dI)&&O)))=O;rw[aY,rC];rfl
 obtain⟨H,hH⟩:∃H,H=T.lst (hs.map dI):=⟨_,J⟩;rw[<- hH]at V ex ⊢;obtain⟨s,hs⟩:∃s:S,s=⟨[FH<|af R,sv<|.bl e,sv H,sv<|.scr ns,px d,px c,px sp],[]⟩:=⟨_,J⟩;have f:vF 0 s=.ok (.lst<|af R,s):=by rw[hs];rfl
 have g:vF 1 s=.ok (.bl e,s):=by rw[hs];rfl
 have v2:vF 2 s=.ok (H,s):=by rw[hs];rfl
 have v4:vF 4 s=.ok (.int d,s):=by rw[hs];rfl
 have P:vF 5 s=.ok (.int c,s):=by rw[hs];rfl
 have N:vF 6 s=.ok (.int sp,s):=by rw[hs];rfl
 have l:∀k:Int,aZ (oE (vF 4)<|cI k) s=.ok (decide<|d=k,s):=λk=>eF<|pE v4 J<|yN ..;have q:aZ (bo (aI .NotEq) zA<|aV dm a_) s=.ok (!decide (R=[]),s):=eF<|pE f J<|WM R;have Ĉ:ai (cN (n+2) 65) [] (k1<|vF 5) s=.ok (.str w,s):=cE (az P J)<|ew _;have m1:dD (dz fh zI) s=.ok (U<|-1,s):=K5<|F4 J AU;have m2:dD (dz fh<|cI 2) s=.ok (U<|-2,s):=K5<|F4 J J;have fin:∀{L M:FE}{Z:List Tx}{b:Bool},L s=.ok (.lst<|af Z,s)->M s=.ok (.bl b,s)->RW 30 Z->WB (aC<|ai (cN (n+2) 69) []<|k2 L M) s λp=>noOwn p.1=O/\∃(Z:List Tx)(b:Bool),p.1=.str (gJ Z b)/\RW 30 Z:=λ{L M Z b} F hE Q=>bR (cE (az F<|az hE J)<|lr (n+1) Q.jn) ⟨J,Z,b,J,Q⟩;have big:∀{k:Nat}{Z:List Tx},RW k Z->k<=30->RW 30 Z:=λh k=>⟨cJ h.1 k,h.2⟩;have I:TX 6 []:=⟨dO _,λh=>nomatch h⟩;rw[wI _ 72 J];refine nU V<|gR J<|bS (t:=.int d) ?_<|bS (t:=.int c) ?_<|bS (t:=.int sp) ?_ ?_
 .rw[D]
  exact md (fd (cE J<|e0 _)<|by decide) (by decide)
 .rw[hc]
  exact md (pE (cE J<|e3 _) J<|gc<|.inl<|.inr<|by decide) (by decide)
 .rw[W]
  exact pE (fd J<|by decide) (cT (az J<|az (jO J) J) J)<|gc mx
 show WB _ ⟨[FH<|af R,sv<|.bl e,sv H,sv<|.scr ns,px d,px c,px sp],[]⟩ _;rw[<- hs];have C:=l 0;by_cases z0:d=0
 .rw[b7 z0]at C
  exact bY C<|fin (cE (az f<|az v2<|az P J)<|ex _) g<|big F<|by decide
 rw[cq z0]at C;refine bN C ?_;have B:=kq (l 1) q;cases g1:(decide (d=1)&&!decide (R=[]))with
 |true=>
  rw[g1]at B;refine bY B<|fin (eA (eA (iR f J<|K5 N) (pJ Ĉ) ?_) (iR f (K5<|pE N J J) J) ?_) g<|big ((a.cut.cat<|RW.one E).cat a.cut)<|by decide
  .have:=(a.cut (i:=Y) (j:=U sp)).1
   show _+1<=_
   lia
  .have:=((a.cut (i:=Y) (j:=U sp)).cat<|RW.one E).1
   have:=(a.cut (i:=U<|sp+1) (j:=Y)).1
   lia
 |false=>
 rw[g1]at B;refine bN B ?_;have A:=kq (l 2) q;cases g2:(decide (d=2)&&!decide (R=[]))with
 |true=>
  rw[g2]at A;refine bY A<|fin (eA (iR f J m1) (pJ J) ?_) g<|big (a.cut.cat<|RW.one I)<|by decide
  have:=(a.cut (i:=Y) (j:=U<|-1)).1
  show _+1<=_
  lia
 |false=>
 rw[g2]at A;refine bN A ?_;have G:aZ (bo (aI .Gt) (aV bG<|k1 zA) zI) s=.ok (decide<|(1:Int)<Hq R,s):=eF<|pE (jO f) J<|AQ ..;have z:=kq (l 3) G;cases g3:(decide (d=3)&&decide ((1:Int)<Hq R))with
 |true=>
  rw[g3]at z;refine bY z<|fin (eA (eA (iR f J m2) (pJ J) ?_) (iR f m1 J) ?_) g<|big ((a.cut.cat<|RW.one I).cat a.cut)<|by decide
  .have:=(a.cut (i:=Y) (j:=U<|-2)).1
   show _+1<=_
   lia
  .have:=((a.cut (i:=Y) (j:=U<|-2)).cat<|RW.one I).1
   have:=(a.cut (i:=U<|-1) (j:=Y)).1
   lia
 |false=>
 rw[g3]at z;refine bN z ?_;have y:=l 4;by_cases z4:d=4
 .rw[b7 z4]at y
  exact bY y<|fin (eA f (pJ Ĉ)<|by show _+1<=_;lia) g<|big (a.cat<|RW.one E)<|by decide
 rw[cq z4]at y;refine bN y ?_;have v:=l 5;by_cases z5:d=5
 .rw[b7 z5]at v
  exact bY v<|fin (iR f J m1) g<|big a.cut<|by decide
 rw[cq z5]at v;refine bN v ?_;have r:=l 6;by_cases z6:d=6
 .rw[b7 z6]at r
  exact bY r<|fin f (N2 g)<|big a<|by decide
 rw[cq z6]at r;exact bN r<|fin f g<|big a<|by decide
end
def PG.po(P:PG k k rs ls)(hl:Hq rs<=10):PO ls:=by
 obtain⟨ps,rfl,rfl,c⟩:=P.p;rw[bQ]at hl;refine⟨by rw[bQ];lia,λx b=>⟨?_,P.g x b,λa h=>?_⟩⟩
 .obtain⟨q,h,rfl⟩:=iC.mp b
  exact(c q h).2
 .obtain⟨rfl,hk⟩:=P.go x b a h
  rw[P.n,hk];exact dj.mpr J
def OY:PO [LN.full (.pc .last) .drop]:=⟨by decide,λx b=>by
 rw[dj.mp b];exact⟨J,J,λa h=>by cases h⟩⟩
section
variable{e e':Bool}
def Bc(P:PO ln)(ct:Ct t rows e)(ht:Hq t<=1000)(hr:Hq rows<=12)(a:∀r∈rows,TX 6 r):∃u,(u=.non\/∃p:PL,u=p.val/\RY p rows e)/\∀m,cN (n+15) 70 [.obj 0 [.lst<|aN ln],.str t] m=.ok (u,m):=by
 have q:=OT (m:=[]) n P ct ht hr a;obtain⟨PT,d⟩:∃PT,PT=T.obj 0 [.lst<|aN ln]:=⟨_,J⟩;have i:aB [PT,.str t]=O:=by
  rw[d];show((aB _&&O)&&(O&&O))=O;rw[c8];rfl
 rw[<- d]at q ⊢;rw[wI _ 70 J];have go:∀{u:T}{mm:FX},noOwn u=O->yu 2 1 _ ⟨[sv PT,tl t,sv .non],[]⟩=.ok (.nx,⟨[sv PT,tl t,sv u],mm⟩)->∀m,aL (aE 2 3<|ah (aG 2<|cF .non)<|ah (yu 2 1<|ai (cN (n+14) 35) []<|pe<|k2 zA zB)<|aC zC) _ m=.ok _:=λ{u mm} f h m=>fS i (jq J (seq1 (eS J)<|seq1 h J) J) f;cases a:cN _ 35 _ []with
 |ok q1=>
  rw[a]at q;obtain⟨p,rfl,g⟩:=q;refine⟨p.val,.inr ⟨p,J,g⟩,go (mm:=[]) (gI p) ?_⟩;have b:ai _ [] (pe<|k2 zA zB) ⟨[sv PT,tl t,sv .non],[]⟩=.ok _:=cE J a;refine Eq.trans (dv (λx=>match x with|.ok p=>Res.ok (Out.nx,iT p.2 2<|.val p.1)|.exc c _ s'=>if c=1 then .ok (.nx,iT s' 2<|.val .non)else .bad|.bad=>.bad) b) ?_
  rfl
 |exc c fs s'=>
  rw[a]at q;obtain⟨rfl,_⟩:=q;refine⟨.non,.inl J,go (mm:=s'.m) J ?_⟩;have b:ai (cN (n+14) 35) [] (pe<|k2 zA zB) ⟨[sv PT,tl t,sv .non],[]⟩=.exc 1 fs ⟨[sv PT,tl t,sv .non],s'.m⟩:=by
   show(match cN _ 35 [PT,.str t] []with|.ok q=>_|.bad=>_|.exc c fs s'=>_)=_
   rw[a]
  refine Eq.trans (dv (λx=>match x with|.ok p=>Res.ok (Out.nx,iT p.2 2<|.val p.1)|.exc c _ s'=>if c=1 then .ok (.nx,iT s' 2<|.val .non)else .bad|.bad=>.bad) b) ?_
  exact b0 J
 |bad=>rw[a]at q;exact q.elim
def OZ(ct:Ct t R e):eT R e=e:=by
 rcases ct with⟨rfl,_⟩|⟨rfl,_,b,a⟩
 .unfold eT
  rw[GR,P4]
 .unfold eT
  rw[cq b,a];rfl
def Le(X:List Tx)(e:Bool):eT X (eT X e)=eT X e:=by
 unfold eT;cases decide (X=[])<;>cases e<;>cases fT X<;>rfl
def Lf(P:RY p rows e):jP p R e'=if ki p R e'=O then U (gJ (made p R) p.e')else Y:=by
 unfold jP ki;cases k:(decide (Hq R=p.n)&&(e' == p.e))with
 |false=>rfl
 |true=>
  have a:=bh (kF.mp k).1;have b:made p R=lay R p.n 0 p.hs:=by show lay R R.length 0 p.hs=_;rw[a]
  have hl:(made p R).length=p.n':=by rw[b,P.n',Du (R':=rows)<|by rw[a,P.n]]
  rw[b7 hl,wZ];cases g:V4 R p.hs with
  |true=>
   rw[kW a P.wf<|pH.mp g,Bu,<- b];rfl
  |false=>
   rw[A2 a P.wf λz=>by rw[pH.mpr z]at g;cases g];rfl
def mz{n:Nat}(a:Hq R=n):made p R=lay R n 0 p.hs:=by show lay R R.length 0 p.hs=_;rw[a]
def D5(h:ki p R e=O):Hq R=p.n/\e=p.e/\Mt R p.hs/\(made p R).length=p.n'/\eT (made p R) p.e'=p.e':=by
 unfold ki at h;simp only[cL]at h;obtain⟨⟨f,d⟩,c,b,a⟩:=h;exact⟨bh f,eq_of_beq d,pH.mp c,bh b,eq_of_beq a⟩
def Lg(f:Hq R=p.n)(d:e=p.e)(c:Mt R p.hs)(b:(made p R).length=p.n')(a:eT (made p R) p.e'=p.e'):ki p R e=O:=by
 unfold ki;rw[b7 f,pH.mpr c,b7 b,a,d,kl,kl];rfl
def Lh(P:RY p rows e):ki p rows e=O:=Lg P.n.symm P.en.symm P.mt (by rw[mz P.n.symm,P.n']) (by rw[mz P.n.symm,P.e',Le])
def Wa(P:RY p rows e)(b:∀r∈rows,TX 6 r):∀h∈p.hs,∀x∈h.o,TX 6 x:=λh c x a=>by
 rw[<- P.mt h c]at a;exact b x<|zx<|sJ a
theorem Wf.R0{n:Nat}:∀{hs:List HT}{q:Nat},Wf n q hs->∀h∈hs,h.at_+Hq h.o<=n
 |g::hs,q,w,h,a=>by
  rcases bM.mp a with rfl|a
  .exact w.2.le
  .exact Wf.R0 w.2 h a
def Bd(h:RW k R):ik R<=7*k:=by
 have:∀R:List Tx,(∀z∈R,TX 6 z)->ik R<=7*Hq R:=λR h=>by
  induction R with
  |nil=>exact bP _
  |cons a R b=>
   have:=b λz hz=>h z<|eG _ hz
   have:=(h a<|d_ ..).l
   show Hq a+1+ik R<=7*(Hq R+1)
   lia
 have:=this R h.2
 have:=h.1
 lia
def RY.bp(P:RY p rows e)(a:RW 30 R)(ct:Ct t R e'):BP p R t e':=by
 have d:=Bd a;have hz:ik (made p R)<=99900:=by
  have:=DV (R:=R) (q:=Hq R) P.wf
  rw[zu]at this
  have:=P.wz
  show ik _<=_
  lia
 have ht:Hq t<=100000:=by
  rw[<- ct.gJ];exact cJ (jc R e') (by lia)
 exact⟨ct,ht,cJ P.le.2<|by decide,hz,Dv (λr hr=>(a.2 r hr).n) λh c x b=>(P.tx h c x b).n⟩
end
theorem D6{n:Nat}:∀a:List HT,all2 (shape<|n+3) (a.map dI) (a.map dI)=O
 |[]=>J
 |h::a=>by
  show((O&&(all2 _ _ _&&(all2 _ _ _&&O)))&&all2 _ _ _)=O;rw[mw,mw,D6 a];rfl
def Li(p:PL):shape 5 p.val p.val=O:=by
 show((O&&(O&&O))&&((O&&(O&&O))&&(all2 _ _ _&&O)))=O;rw[D6];rfl
def ĉ(p:PL):aI .NotEq p.val p.val=U (.bl Zb):=by
 show gd _ _=_;rw[gc<|Li p,qb];rfl
def Ċ(p:PL):aI .Eq p.val p.val=U (.bl O):=by
 show gd _ _=_;rw[gc<|Li p,qb]
def D7(h:a s=.ok (.bl O,s))(c:b s=.ok (t,s)):ow a b s=.ok (t,s):=by
 unfold ow;rw[h];exact c
theorem Lj:∀(hs:List HT)(q p:Nat),(bk q p hs).length=Hq hs
 |[],_,_=>J
 |h::hs,q,p=>dv (· + 1)<|Lj hs _ _
theorem D8:∀(hs:List HT)(m:FX),bA (bw [1,2,3]) eZ (aV df<|k3 zB (aV kj<|k1 zC)<|aV kj<|k1 zD) [Y,Y,Y,Y] (hs.map dI) m=.ok (hs.map dI,m)
 |[],_=>J
 |h::hs,m=>WA J (cT (az J<|az (cT J J)<|az (cT J J) J)<|AY ..)<|D8 hs m
def turned(P:RY p rows e)(B:BP p R t' e')(h:ki p R e'=O):ki (ER p) (made p R) (eT (made p R) p.e')=O/\made (ER p) (made p R)=R/\(gJ R (ER p).e'=t'):=by
 obtain⟨a,c,g,f,d⟩:=D5 h;obtain⟨b1,b2,b3⟩:=Ry (P:=[]) (q:=0) a P.wf g J;rw[uJ,<- mz a]at b1 b2 b3;have b:made (ER p) (made p R)=R:=by
  show lay _ _ 0 (bk 0 0 p.hs)=R;rw[b3,<- a,K6,zu]
 refine⟨Lg f d b2 (by rw[b];exact a)<|by rw[b];show eT R p.e=p.e;rw[<- c];exact OZ B.ct,b,?_⟩
 show gJ R p.e=t';rw[<- c];exact B.ct.gJ
def abz(a b:Tx):aI .NotEq (.str a) (.str b)=U (.bl<|!decide (a=b)):=J
def Wb(ns:Ee):cN (n+16) 75 [.scr ns] []=.ok (.bl O,[]):=by
 obtain⟨k,rs,ls,c,b,PR,Ķ,l,ċ,es⟩:=La _ ns;obtain⟨c0,e0⟩:=pG _ ns 0;have E:RW 12 c:=⟨l,ċ⟩;have y:=λw hw=>(ċ w hw).n;have wl:=Bd E;rw[wI _ 75 J];refine sEq J J J<|kg<|W.of (V6 (cE J<|es _) J) ⟨J,?_⟩;have G:aZ (oE (oM (oD (ai (cN (n+15) 61) []<|k2 zA zO)<|cI 3)<|cI 16)<|cI 3) ⟨[sv<|.scr ns,Y,Y,Y,Y,Y,Y,Y,tl<|flat rs,tl<|gJ c b,Y,Y],[]⟩=.ok _:=eF<|pE (md (fd (cE J<|e0 _)<|by decide)<|by decide) J<|yN ..
 obtain⟨ln,lt,b1,V,Č,N⟩:∃(ln:List LN)(lt:Tx)(b1:Bool),PO ln/\(∀m,cN (n+15) 57 [.str lt] m=.ok (.obj 0 [.lst<|aN ln],m))/\bj (aZ<|oE (oM (oD (ai (cN (n+15) 61) []<|k2 zA zO)<|cI 3)<|cI 16)<|cI 3) (ah (aG 8<|cS [108,97,115,116,58,32,100,114,111,112,10])<|aG 9<|ai (cN (n+15) 69) []<|k2 (oI (ai (cN (n+15) 68) []<|k1<|vF 9) zO)<|cF<|.bl Zb) aM ⟨[sv<|.scr ns,Y,Y,Y,Y,Y,Y,Y,tl<|flat rs,tl<|gJ c b,Y,Y],[]⟩=.ok (.nx,⟨[sv<|.scr ns,Y,Y,Y,Y,Y,Y,Y,tl lt,tl<|gJ c b1,Y,Y],[]⟩):=by
  cases z:decide (c0/3 % 16=3)with
  |false=>
   rw[z]at G;exact⟨ls,flat rs,b,PR.po Ķ,λm=>PR.read (by lia)<|n+1,se G J⟩
  |true=>
   rw[z]at G;exact⟨_,_,Zb,OY,λm=>last_eq<|n+1,AO G<|seq1 (eS J)<|eS<|cE (az (pE (cE J<|pF (n+14) (lq y b)<|cJ (jc c b)<|by lia) J J)<|az J J)<|lr (n+14)<|cJ (nz c)<|by lia⟩
 refine kg<|W.of N ⟨J,?_⟩;have ct:=lq y b1;have ht:(gJ c b1).length<=1000:=cJ (jc c b1) (by lia)
 obtain⟨t0,q⟩:∃t,t=gJ c b1:=⟨_,J⟩;obtain⟨e1,T⟩:∃e,e=eT c b1:=⟨_,J⟩;rw[<- q,<- T]at ct;rw[<- q]at ht;obtain⟨u,hu,eu⟩:=Bc n V ct ht l ċ;show WB _ ⟨[sv<|.scr ns,Y,Y,Y,Y,Y,Y,Y,tl lt,tl<|gJ c b1,Y,Y],[]⟩ _;rw[<- q];refine bS (cE (az (cE J<|Č _)<|az J J)<|eu _) ?_;rcases hu with rfl|⟨p,rfl,P⟩
 .exact bY J<|bR J J
 obtain⟨Q,f⟩:∃Q,Q=p.val:=⟨_,J⟩;have i0:fL Q (.int 0)=U (.tup [.int p.n,.bl p.e]):=by rw[f];rfl
 have i1:fL Q (.int 1)=U (.tup [.int p.n',.bl p.e']):=by rw[f];rfl
 have i2:fL Q (.int 2)=U (.lst<|p.hs.map dI):=by rw[f];rfl
 have L:mQ Q=Zb:=by rw[f];rfl
 have qn:aI .NotEq Q Q=U (.bl Zb):=by rw[f];exact ĉ p
 have qe:aI .Eq Q Q=U (.bl O):=by rw[f];exact Ċ p
 rw[<- f];refine bN (eF<|pE J J<|(isE Q).trans<|by rw[L]) ?_
 have dX:=P.le;refine bS (t:=Q) (cT (az (pE J J i0)<|az (pE J J i1)<|az (Ru (OU (pE J J i2) J) (by rw[bQ];lia) J<|D8 p.hs _) J)<|by rw[f];exact AY ..) ?_
 refine kg<|W.of (V6 (cE (s:=⟨[sv<|.scr ns,sv Q,sv Q,Y,Y,Y,Y,Y,tl lt,tl t0,Y,Y],[]⟩) J<|pF (n+14) ct<|by lia) J) ⟨J,?_⟩
 have F:∀h∈p.hs,h.at_+Hq h.o<=Hq c/\∀x∈h.o,TX 6 x:=λh F=>⟨by rw[<- P.n];exact P.wf.R0 h F,Wa P ċ h F⟩
 obtain⟨_,⟨Z,b2,rfl,C⟩,eo⟩:=Ld (n+12) ns E F;have Ŀ:=lq (λz hz=>(C.2 z hz).n) b2;obtain⟨d,Ad⟩:∃t,t=gJ Z b2:=⟨_,J⟩;obtain⟨e2,R⟩:∃e,e=eT Z b2:=⟨_,J⟩;rw[<- Ad,<- R]at Ŀ;rw[<- Ad]at eo;have B:=P.bp C Ŀ;refine bS (cE (az J<|az J<|az (pE J J i2)<|az J J)<|eo _) ?_;have el:=OX (n+13) (m:=[]) p Ŀ B.ht (by have:=C.1;have:=P.wz;lia) λM X H=>by
  by_cases g:Mt Z p.hs
  .rw[kW M P.wf g,Bu,uJ,<- mz M]at H
   cases H;exact⟨B.hz,B.no⟩
  .rw[A2 M P.wf g]at H;cases H
 have v:=pI (n+12) (m:=[]) p Ŀ B.ht B.hl B.hz B.no;have D:=by
  have I:=P.bp ⟨cJ l<|by decide,ċ⟩ ct
  have:=pI (n+12) (m:=[]) p ct I.ht I.hl I.hz I.no
  rw[Lh P]at this;exact this
 rw[Lf P]at el;cases r:ki p Z e2 with
 |false=>
  have er:=A_ (n+10) (m:=[]) B r;rw[r]at el v;rw[<- f]at el v er D;refine bS (cE J el)<|bS (cE J v)<|bN (Wz (VE<|sy J)<|Wz (eF<|pE J (pE J J J) J)<|eF<|pE J J qn)<|bY (eF<|pE J J J)<|bR (D7 (cE J er)<|D7 (pE (cE J D) J J)<|pE J J qe) J
 |true=>
  have ed:=DZ (n+11) (m:=[]) B r;obtain⟨q1,q2,q3⟩:=turned P B r;obtain⟨f1,f2,f3,f4,f5⟩:=D5 r;have hpl:=jc (made p Z) p.e';have hbz:=B.hz;have BT:BP (ER p) (made p Z) (gJ (made p Z) p.e')<|eT (made p Z) p.e':=⟨lq B.no p.e',by lia,by show(bk 0 0 p.hs).length<=_;rw[Lj];exact B.hl,by rw[q2];exact cJ (Bd C)<|by decide,by rw[q2];exact λz hz=>(C.2 z hz).n⟩
  have eb:=back_eq (n+14) (m:=[]) P.wf B.hl;have ŀ:=pI (n+12) (m:=[]) (ER p) BT.ct BT.ht BT.hl BT.hz BT.no;have Ł:=DZ (n+11) (m:=[]) BT q1;rw[q1]at ŀ;rw[q2,q3]at Ł;rw[r]at el v;rw[<- f]at el v ed eb;obtain⟨K,hK⟩:∃K,K=(ER p).val:=⟨_,J⟩;rw[<- hK]at eb ŀ Ł;obtain⟨j,A⟩:∃x,x=gJ (made p Z) p.e':=⟨_,J⟩;rw[<- A]at ed ŀ Ł;have el:cN (n+15) 73 [Q,.str d] []=.ok (.str j,[]):=by rw[A];exact el
  refine bS (cE J el)<|bS (cE J v)<|bN (Wz (VE<|sy J)<|Wz (eF<|pE J (pE J J J) J)<|eF<|pE J J qn)<|bN (eF<|pE J J J)<|bS (cE J ed)<|bN (Wz (VE<|sy J)<|eF<|pE J J<|(abz ..).trans<|by rw[b7 J];rfl)<|bS (cE J eb)<|bR (D7 (pE (cE J ŀ) J J)<|D7 (pE (cE J Ł) J<|(sj ..).trans<|by rw[b7 J])<|pE J J qe) J
end K64
namespace K64
open PySem D L2
variable(n:Nat)
set_option maxHeartbeats 0
def O1:∀P,Vz (KH.K P) M Ft It=O:=λP=>by kernel_rfl
def O2:∀P,M.cs.all (NU<|KH.K P)=O:=λP=>by kernel_rfl
def O3:∀P,Ft.map (Ro<|KH.K P)=Ft.map λe=>(Ro (KH.K P) e).map<|Fb e:=λP=>by kernel_rfl
set_option maxHeartbeats 0
def BnL:List Fe->Prop
 |[]=>True
 |e::r=>Bn e/\BnL r
theorem R3:∀{l:List Fe},BnL l->∀e∈l,Bn e
 |e::r,h,x,a=>by
  rcases bM.mp a with z|z
  .rw[z];exact h.1
  .exact R3 h.2 x z
def lz0{P:B2->Prop}(h:P []):∀us:B2,Hq us=0->P us
 |[],_=>h
 |_::_,e=>by cases e
def č{n:Nat}{P:B2->Prop}(h:∀a,∀us:B2,Hq us=n->P (a::us)):∀us:B2,Hq us=n+1->P us
 |[],e=>by cases e
 |a::us,e=>h a us<|uH.inj e
def lz1{P:B2->Prop}(h:∀a,P [a]):∀us:B2,Hq us=1->P us:=č λa=>lz0<|h a
def lz2{P:B2->Prop}(h:∀a b,P [a,b]):∀us:B2,Hq us=2->P us:=č λa=>lz1<|h a
def lz3{P:B2->Prop}(h:∀a b c,P [a,b,c]):∀us:B2,Hq us=3->P us:=č λa=>lz2<|h a
def lz4{P:B2->Prop}(h:∀a b c d,P [a,b,c,d]):∀us:B2,Hq us=4->P us:=č λa=>lz3<|h a
def lz5{P:B2->Prop}(h:∀a b c d e,P [a,b,c,d,e]):∀us:B2,Hq us=5->P us:=č λa=>lz4<|h a
def FA:Bn ⟨Y,"stretch","stretch",top 68,["one","row","start","ends","begin"],["one","row","start"],[],O,[.int 0]⟩:=λ_ _ _ _ _ _ s a o i n e g hd hl=>by
 obtain⟨d,rfl⟩:=PV.mp<|show Hq i=1 from hl;refine⟨λh=>?_,λh=>?_⟩
 .have h:(e++[d]).length=3:=h
  rw[bU]at h;obtain⟨c,b,rfl⟩:∃c b,e=[c,b]:=by
   match e,h with
   |[c,b],_=>exact⟨c,b,J⟩
  exact .of_defaults J g hd J J
 .have h:Hq e=3:=h
  obtain⟨c,b,f,rfl⟩:∃c b f,e=[c,b,f]:=by
   match e,h with
   |[c,b,f],_=>exact⟨c,b,f,J⟩
  exact .of_defaults J g hd J J
def Lk:Bn ⟨Y,"pasted","pasted",top 13,["rows","ended","text"],["rows","ended"],[],O,[.bl O]⟩:=λ_ _ _ _ _ _ s a o g n c f hd hl=>by
 obtain⟨d,rfl⟩:=PV.mp<|show Hq g=1 from hl;refine⟨λh=>?_,λh=>?_⟩
 .have h:(c++[d]).length=2:=h
  rw[bU]at h;obtain⟨b,rfl⟩:∃b,c=[b]:=by
   match c,h with
   |[b],_=>exact⟨b,J⟩
  exact .of_defaults J f hd J J
 .have h:Hq c=2:=h
  obtain⟨b,e,rfl⟩:∃b e,c=[b,e]:=by
   match c,h with
   |[b,e],_=>exact⟨b,e,J⟩
  exact .of_defaults J f hd J J
def bn:∀e∈Ft,Bn e:=R3 (by
 repeat' first|exact trivial|refine And.intro ?_ ?_
 all_goals first|exact λ_ _ _ _ _ _=>lz0 J|exact λ_ _ _ _ _ _=>lz1 λ_=>J|exact λ_ _ _ _ _ _=>lz2 λ_ _=>J|exact λ_ _ _ _ _ _=>lz3 λ_ _ _=>J|exact λ_ _ _ _ _ _=>lz4 λ_ _ _ _=>J|exact λ_ _ _ _ _ _=>lz5 λ_ _ _ _ _=>J|exact FA|exact Lk)
end K64
end
open PySem PySem.W PyProof.Rows
set_option maxRecDepth 100000 in
set_option maxHeartbeats 0 in
theorem PySem.Challenge.cw_rowblade_k64_other_texts_holds : PySem.Challenge.rw_rowblade_k64_other_texts.Holds := by
 w_on
 refine holds_law (by
  unfold OpenLaw.wellSaid OpenRow.wellSaid OpenRow.partSaid looksOpen
  repeat' (with_reducible refine look_both ?_ ?_)
  all_goals decide +kernel) λabG=>?_
 refine holds_open (q:=KH.vw) (loose:=KH.lz) (Xt:=KH.Xt) (XP:=XL KH.vw []) (Yf:=Hook.obs<|kHook KH.K KH.as KH.Wj) (Ya:=Hook.val<|kHook KH.K KH.as KH.Wj) (YP:=Hook.says<|kHook KH.K KH.as KH.Wj) (N:=24144) KH.left (Hook.of<|kHook KH.K KH.as KH.Wj) (Hook.keeps<|kHook KH.K KH.as KH.Wj) (λs e=>xl_of s (Bool.and_eq_true_iff.mp e).1) XL.keeps (by rfl) (by rfl) (by rfl) (λs e=>recFacts_of (Bool.and_eq_true_iff.mp e).2) (by rfl) (by first|assumption|decide +kernel) (by decide +kernel) ⟨J,J,J,J,J,by decide +kernel⟩ ?hw ?hc
 (case hw=>w_witness2)
 k_fill
 refine _root_.D.Ø (l:=PySem.Challenge.rw_rowblade_k64_other_texts) (m:=63) (n:=16) (K:=KH.K) (M:=K64.M) (Ft:=K64.Ft) (It:=K64.It) (i:=75) J (by decide) J ⟨J,by decide,by decide⟩ (λw h a=>PySem.W.kIn_of a) J J J J J (λP=>⟨⟨K64.O1 P,K64.O3 P,K64.bn⟩,K64.O2 P⟩) λns _ _=>⟨[],K64.Wb 0 ns⟩
