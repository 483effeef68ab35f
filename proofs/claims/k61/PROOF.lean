import PyProof.Rows.All
import Wide.All
import OpenK.AllK
import Wide.FinOn
import Lean
import PyProof.EqAt
import PyProof.EqKinds
import PyProof.TupleCall
import PyProof.Rows.EnumRows
import PyProof.EnumMake
import KE.KIntText
import KE.KEqDict
import PyProof.TupleOfGen
import PyProof.CollectIter
import KE.KRevIter
import PyProof.Rows.SortStr
import KE.KDictSum
import PyProof.DictItems
import KE.KPairComp
import PyProof.StrBlock
import KE.IntTextText
import PyProof.ExcInit
import PyProof.ExcClass2
import KE.KTryMore
import PySem.Challenge.RW_rowblade_k61_turns_that_differ
set_option Elab.async false
set_option linter.all false
set_option maxRecDepth 100000
set_option compiler.extract_closed false
noncomputable section
set_option genSizeOf false
set_option bootstrap.genMatcherCode false
local macro_rules|`(def $x $s:optDeclSig $v:declVal)=>do return(←`(noncomputable def $x $s:optDeclSig $v:declVal)).raw.rewriteBottomUp (·.setInfo .none)
local macro_rules|`(abbrev $x $s:optDeclSig $v:declVal)=>do return(←`(noncomputable abbrev $x $s:optDeclSig $v:declVal)).raw.rewriteBottomUp (·.setInfo .none)
open PySem renaming Shared->ag,Value->ar,wpAny_bind->ax,Addr->bp,Expr->cq,sizeLine->cw,model->cx,wpAny->cC,Program->c4,starEach->c5,World->da,wpAny_pure->dv,FuncData->eh,sizeLine_eq->et,Around->ew,Heap->eI,compareOp->eJ,wpAny_mono->eP,mainGlobals->eR,eval->fu,swapsWith->fv,behindInMarks->fA,foldedSetIterable->fC,wpAny_Call_Name_kw->f5,Stmt->f7,treeTable->gg,sliceBounds->gV,Scope->hA,wpAny_execs_nil->hW,mem_of_lookup->hX,wpAny_truthy_bool->h9,codeAny_mono->ih,backTo->ij,sysModules->i1,bootBuiltins->i5,assignEach->jb,OsState->jI,wpAny_passesOwn->kd,attributeBase->ke,wpAny_pyIter_list->kl,codeAny_call_builtin->kv,wpAny_execs_cons->kx,wpAny_holding->lb,cLine->ll,wpAny_call->ma,tupleKind_room_in1->me,wpAny_getItem_str_slice->mn,keywordEach->mq,CmpOp->mx,wpAny_loadPart_at->mI,codeAny->nr,binaryOp->nL,plainObj_wpAny_Assign_Attribute->n6,call_meets->n7,Within->n8,PassesOwn->n9,Params->oa,wpAny_standAt->og,excClassObj->oy,Thread->oC,Operator->o7,ExceptHandler->pv,backToKw->pB,intText?->pW,NameKind->p0,typeIs_str->ql,rawInt->qr,Keyword->qz,wpAny_loadPart'->qB,post_val_or_str->qC,letOwnedTupleGo->q0,Expr->rb,unbindBehindTheSuite->rr,subscripted->ry,tupleKind->r0,standAt->r4,noteFrame->sb,holding->sg,Str->sT,swappedStores->tc,typeLookup->ti,builtinsNs->tj,assign->tq,wpAny_pyIter_enum->ub,valueAt->ui,callerA->uz,GenState->uK,wpAny_lookBehind->vb,setFlight->vi,pastItsLine_dict->vk,getMethod->vl,checkBuiltinCall->vu,wpAny_field->wD,IsRangeIter->w6,importedModules->xa,setAttr->xM,leaving->yy,getItem->yz,wpAny_setField->y8,wpAny_loadPart->zi,sliceRange->zr,isInstance->zQ,atKey->z4,wpAny_getItem_list_slice->BD,slicePick->Em,bindL->E9,bindC->Fo,Model->FD,wpAny_pyNext_range_end->F1,wpAny_pyIter_rangeiter->F2,wpAny_nsSet1->F6,typeOf->G4,seqIndex_neg->G_,relabel->He,isTrue->HC,getAttr->HI,Paired->HV,BindsTo->HY,wpAny_isTrue_Compare1->H9
open PySem.Heap renaming get?_push_of_some->av,lt_size->cv,get?_push_size->c3,get?_update_other->gI,size_push->lx,get?_update_self->mB,get?_none_of_le->n5,SameBut->pk,get?_push_at->si,MadeExcOf->u5,get?_update_ne->CC
open PySem.W.Fast renaming te10110043849684766642->dk
open PySem.Builtin.Str renaming occurrences->ey,strSliceIndices->gs,strKind->hF
open False renaming elim->fE
open Ne renaming symm->f3
open True renaming intro->gL
open ForInStep renaming yield->gN
open PySem.Str renaming ofString->hG,empty->y0
open PySem.F renaming plainAttrs_list->hJ,type_list_append->oP,slot_list_append->oT,slot_dict_get->pb,excBase_ValueError->tw,args_dict_get_3->u2,entry_dict_get->vN
open Array renaming length_toList->hZ,toArray_toList->qd,getElem?_setIfInBounds_ne->sm,toList->xI,getElem?_toList->y6,find?_toList->DX
open PySem.Value renaming none->iq,builtin->o5,type->pa,bool->ra,isStrOf->vx,float->z5,isStrOf_shape->Bm
open PySem.Flow renaming next->ix
open PySem.Builtin.Int renaming intBits->j2
open PySem.Builtin.List renaming listTooLong->ka
open PySem.Builtin.Range renaming rangeSize->kf,small->tJ
open PySem.W renaming looks_pair->kn,segRun_of->kA,piece_app->kS,piecesOf->mM,hideAll->ot,SharedT->ox,segRunT->o4,hideAll_get->pf,boot_heap->pz,findIn->rB,looks_findIn->uj,any_some->uA,of_hideAll->zv,Frag->C1,emptyDict->Ew
open PySem.Obj renaming mapFields->k4,mapSeq->rS,data_mapFields->rX,isFreed_of_fields->Bp
open PySem.StrLaws renaming sliceText->la,subAt_eq->o6
open PyProof.Rows renaming AllBare->n0,subscriptTail->td,envOfC->vr,StrsAre->yB,Subscript_->z6,subscriptTail_builtinR->G5
open Prod renaming fst->n4,snd->o8
open PySem.SeqAt renaming EqAt->oB,RcNeAt->xi,RcAt->Cg
open PySem.Calls renaming callWith_builtin->pd,evalArgs_plain->qb,spliced_cons->rg,Name_function_global->uL,spliced_nil->FU
open PySem.Txt renaming startswith->qs,slice_le->so,endswith->sq,slice->yA
open PySem.Code renaming quiet_builtin->ri,isFrame->y4
open Sum renaming inr->sr,inl->sx
open PySem.SeqAt.RcAt renaming lists_lengths->tf,tuples->xk,lists->y3
open Char renaming toNat->va
open PyProof renaming noPylong_small->vT
open PySem.EntryCells renaming newEntry->wx
open PySem.SeqAt.EqAt renaming str_int->wY,int_str->w1
open PySem.Around renaming under->w8
open PySem.Heap.IsList renaming push->xB
open PySem.Heap.Ns1 renaming of_empty->Bb
def bh:=@of_decide_eq_true
def bt:=@if_pos
def b0:=@if_neg
def b7:=@decide_eq_false
def de:=@decide_eq_true
def dw:=@absurd
def dA:=@congrFun
def eg:=@decide_eq_true_eq
def ej:=@congrArg
def i4:=@or_false
def lp:=@beq_self_eq_true
def n3:=@decide_eq_false_iff_not
def z3:=@funext
def Ep:=@if_true
open Option renaming some->U,none->Y
open Bool renaming true->O,false->ZA
theorem J.{u}{α:Sort u}{a:α}:a=a:=rfl
abbrev Ap:=List<|List Nat
abbrev B1:=List Nat
abbrev B2:=List PySem.Value
abbrev Bi:=List sT
abbrev Bz:=List rb
abbrev BM:=List PySem.Addr
abbrev D2:=Option PySem.Value
abbrev Dx:=Option Int
abbrev Ee:=List Int
abbrev Fh:=List PySem.Stmt
abbrev Fs:=List Bool
namespace Z0
end Z0
open PySem.W renaming Frag->bG,findIn->fQ,keepIn->kK,kia_one->oV,nsIn->qY,emptyDict->tR,kitOne->tU,instObj->vQ,any_some->vR,fnOf->yN,isFn->DA,mroIn->DB,plainGet->vS,hasDictIn->vU,makesIn->vV,exmOne->vW,lookIn->AL,specialIn->AM,takesIn->AN,callWith_K->AO,methodObj->Fw,plainGet_of->Fx,plainOver->Fy,takerIn->FA,Looks->FH,callWith_K0->FI,codeIn->FJ,kitAny->FN,handedIn->OQ,kitx_list->OR,kitx_dict->OS,kitx_own->OT,methodCall_KW->OU,cellsFrom_some->OV,excIn->OW,Dflts->OX
open Nat renaming le_refl->bL,le_trans->c_,le_add_right->bx,zero_le->dz,ne_of_lt->eM,lt_of_lt_of_le->fB,add_le_add_right->gX,sub_self->nH,lt_succ_self->oW,lt_irrefl->qZ,le_of_eq->q_,succ_mul->rf,lt_of_le_of_lt->rh,succ->tW,zero_add->yO,ne_of_gt->DC,le_add_left->DE,mul_le_mul_right->rT,mul_le_mul->rV,le_succ->vX,le_of_not_lt->AQ,sub_lt_sub_left->AR,mul_le_mul_left->AS,le_of_lt->FP,add_comm->FQ,lt_trans->FW,lt_succ_of_lt->FY,min_self->FZ,le_antisymm->F0,eq_of_beq_eq_true->OY,min_eq_left->OZ,add_sub_cancel_left->O0,mul_succ->O1
open Bool renaming and_eq_true->bP,false_ne_true->eU,and_eq_true_iff->kL,false_or->yP,not_eq_true'->yQ,or_eq_true->vY,and_true->AU,or_eq_false_iff->AV,false_and->F3,true_and->F4,or_false->O2,and_false->O3,eq_false_or_eq_true->O4
open Option renaming bind_eq_some_iff->cj,map_eq_some_iff->bW,some->kM,ite_none_right_eq_some->lQ,isSome_iff_exists->AW,none->AX,isSome_map->F7,getD_none->O5,bind_some->O6,isNone_iff_eq_none->O7,map->O8
open List renaming length_map->cH,length_append->cV,mem_cons_self->d_,mem_cons_of_mem->ed,length_cons->ee,mem_cons->bH,size_toArray->ck,append_nil->cJ,replicate->cR,range->df,getElem?_eq_some_iff->dq,mem_singleton->dJ,getElem?_eq_getElem->dM,all_cons->dO,all_eq_true->dP,mem_append->eO,getElem?_map->eQ,length_set->eS,getElem?_set_ne->eV,prefix_rfl->e_,getElem?_set_self->fR,lookup->fS,append->fW,range'->fX,map_cons->f6,map_append->gk,length_singleton->gY,mem_map->gZ,getElem?_append_right->iw,append_assoc->iN,mem_of_getElem?->jf,mem_append_right->ji,getElem?_append_left->jP,lookup_cons->j3,not_mem_nil->j4,map_map->j5,length_drop->kO,mem_append_left->lR,length_range->lS,isEmpty_iff->nI,nodup_cons->oX,any_cons->rj,flatten->rm,zip_cons_cons->rn,length_take->tY,replicate_succ->tZ,getD_eq_getElem?_getD->t_,length_replicate->vZ,filterMap_cons->yR,getElem?_replicate->yS,flatten_cons->yT,map_nil->yU,map->yV,sum_append->yW,cons_ne_nil->yX,mem_range->DF,mem_filterMap->DG,find?_cons->DH,contains_iff_mem->DJ,filterMap_append->DK,mem_of_mem_drop->rW,map_take->v5,map_drop->v9,map_congr_left->v_,drop_zero->wa,length_zip->wb,getElem_mem->wc,of_mem_zip->AY,take_append_drop->AZ,ext_getElem?->A0,prefix_append->A1,nodup_append->A2,elem_iff->A3,drop_of_length_le->A4,mem_of_mem_take->A5,eq_nil_or_concat->A6,concat_eq_append->A7,set_append_right->A8,mem_filter->F8,length->F9,foldl->F_,getElem?_range->Ga,range_succ_eq_map->Gb,all_map->Gd,length_nil->Ge,map_replicate->Gg,drop_eq_getElem_cons->Gh,drop_length->Gi,length_reverse->Gj,getElem?_eq_none->Gk,map_inj_left->Gn,filterMap_cons_none->Gp,filter_cons_of_pos->Gq,filter_cons_of_neg->Gs,eq_nil_of_length_eq_zero->Gu,range'_succ->Gv,getElem?_eq_none_iff->O9,forIn_cons->O_,any_map->Pa,getElem?_toArray->Pb,length_flatten->Pc,any_eq_true->Pd,take_zero->Pe,sum_cons->Ph,take_of_length_le->Pj,map_id->Pk,idxOf?->Pn,findIdx?_eq_some_iff_getElem->Po,zip_nil_right->Pp,reverse_cons->Pq,all_nil->Pu,pairwise_cons->Pw,Pairwise->Px,forall_mem_cons->Py,take_eq_take_iff->Pz,flatten_append->PB,flatten_singleton->PD,set_append_left->PF,length_range'->PH,length_eq_one_iff->PJ
open Int renaming ofNat->j6,toNat_natCast->A9,emod_nonneg->Gw,emod_lt_of_pos->Gx,zero_add->PK
open PyProof.Rows renaming callWith_type1->DL,boot_list->wd,boot_isinstance->Gy,envOfC->Gz,recsOf->PM,drecsOf->PN,boot_enumerate->PQ,boot_str->PU,boot_int->PV
namespace Z1
end Z1
abbrev dG:=List<|PySem.Addr×PySem.Obj
abbrev bB(x:sT):Prop:=(x == ("__debug__":sT))=ZA
abbrev f9(x:sT):Prop:=(x == ("__classdict__":sT))=ZA
theorem abc.{u,v}{d:Type u}{c:Type v}{x:Option d}{f:d→Option c}{b:c}{P:Prop}(k:∀a,x=U a→f a=U b→P)(h:x.bind f=U b):P:=(Option.bind_eq_some_iff.mp h).elim λa q=>k a q.1 q.2
def abE{e γ d:Type}{x:Option<|e×γ}{f:e×γ→Option d}{b:d}{P:Prop}(k:∀a c,x=U (a,c)→f (a,c)=U b→P)(h:x.bind f=U b):P:=(Option.bind_eq_some_iff.mp h).elim λa q=>k _ _ q.1 q.2
def abF{g γ δ e:Type}{x:Option<|g×γ×δ}{f:g×γ×δ→Option e}{b:e}{P:Prop}(k:∀a c d,x=U (a,c,d)→f (a,c,d)=U b→P)(h:x.bind f=U b):P:=(Option.bind_eq_some_iff.mp h).elim λa q=>k _ _ _ q.1 q.2
abbrev Jn:=PySem.Value->PySem.Shared->Prop
abbrev JN:=Unit->PySem.Shared->Prop
abbrev Ki:String:="BaseException.__getattribute__"
abbrev Kj:String:="object.__class__"
open List renaming length->Kk
namespace L2
open PySem PySem.Spec PyProof.Rows
abbrev Key:=Sum Int Str
def oY:Key->ar->Bool
 |.inl k,v=>Value.isInt k v
 |.inr x,v=>vx x v
def Œ(w:da):Key->Int
 |.inl k=>hashInt k
 |.inr x=>hashStr w x
def cW:∀{k:Key}{v:ar},oY k v=O->(∃i t,k=sx i/\v=Value.int i t)\/(∃x t,k=sr x/\v=Value.str x t)
 |.inl i,v,h=>by
  obtain⟨t,e⟩:=Value.isInt_shape h;exact .inl ⟨i,t,J,e⟩
 |.inr x,v,h=>by
  obtain⟨t,e⟩:=Bm h;exact .inr ⟨x,t,J,e⟩
def DM(i:Int)(t:Tok):oY (.inl i) (.int i t)=O:=by simp[oY,Value.isInt]
def DN(x:Str)(t:Tok):oY (.inr x) (.str x t)=O:=by simp[oY,vx]
def RI(a b:Int):decide ((sx a:Key)=sx b)=(a == b):=by
 lia
def RJ(a b:Str):decide ((sr a:Key)=sr b)=decide (a=b):=by
 simp
def RM(a:Int)(b:Str):decide ((sx a:Key)=sr b)=ZA:=b7 (λq=>nomatch q)
def RN(a:Str)(b:Int):decide ((sr a:Key)=sx b)=ZA:=b7 (λq=>nomatch q)
def cu(prog:c4)(w:da):PySem.KeyKind prog w Key where
 is:=oY
 hash:=Œ w
 inj:=λv a b g d=>by
  rcases cW g with⟨i,t,rfl,rfl⟩|⟨x,t,rfl,rfl⟩
  .rcases cW d with⟨j,u,rfl,e⟩|⟨y,u,rfl,e⟩
   .injection e with e1 _;rw[e1]
   .exact nomatch e
  .rcases cW d with⟨j,u,rfl,e⟩|⟨y,u,rfl,e⟩
   .exact nomatch e
   .injection e with e1 _;rw[e1]
 byValue:=λk v h=>by
  rcases cW h with⟨i,t,rfl,rfl⟩|⟨x,t,rfl,rfl⟩<;>rfl
 pyHash:=λc h=>by
  rcases cW c with⟨i,t,rfl,rfl⟩|⟨x,t,rfl,rfl⟩
  .exact wpAny_pyHash_int h
  .exact wpAny_pyHash_str h
 eqBool:=λf c h=>by
  rcases cW f with⟨i,t,rfl,rfl⟩|⟨x,t,rfl,rfl⟩
  .rcases cW c with⟨j,u,rfl,rfl⟩|⟨y,u,rfl,rfl⟩
   .rw[RI]at h;exact wpAny_eqBool_int h
   .rw[RM]at h;exact w1 i t y u _ _ _ _ h
  .rcases cW c with⟨j,u,rfl,rfl⟩|⟨y,u,rfl,rfl⟩
   .rw[RN]at h;exact wY x t j u _ _ _ _ h
   .rw[RJ]at h;exact wpAny_eqBool_str h
 «strs»:=λk x t v h=>by
  rcases cW h with⟨i,u,rfl,e⟩|⟨y,u,rfl,e⟩
  .exact nomatch e
  .injection e with e1 _
   subst e1;cases v<;>rfl
def yY(prog:c4)(w:da)(k:Key)(v:ar):(cu prog w).is k v=oY k v:=J
def we(prog:c4)(w:da)(i:Int)(t:Tok):(cu prog w).is (.inl i) (.int i t)=O:=DM i t
def wg(prog:c4)(w:da)(x:Str)(t:Tok):(cu prog w).is (.inr x) (.str x t)=O:=DN x t
inductive V where
 |non|bl (b:Bool)|int (i:Int)|str (x:Str)|byt (b:Array UInt8)|flt (b:UInt64)|ref (a:bp)|ty (n:String)
 deriving DecidableEq
def RelV:V->ar->Prop
 |.non,u=>u=iq
 |.bl b,u=>u=ra b
 |.int i,u=>∃t,u=Value.int i t
 |.str x,u=>∃t,u=Value.str x t
 |.byt b,u=>∃t,u=Value.bytes b t
 |.flt b,u=>∃t,u=z5 b t
 |.ref a,u=>u=Value.ref a
 |.ty n,u=>u=pa n
abbrev Vals:List V->B2->Prop:=HV RelV
theorem Vals.length(r:Vals xs us):xs.length=us.length:=Paired.length r
theorem Vals.get:∀{xs:List V}{us:B2}{i:Nat}{x:V},Vals xs us->xs[i]?=U x->∃u,us[i]?=U u/\RelV x u
 |_,_,_,_,.nil,e=>by simp at e
 |_,_,0,_,.cons r _,e=>by simp at e;subst e;exact⟨_,J,r⟩
 |_,_,i+1,x,.cons _ t,e=>by
  obtain⟨u,b,a⟩:=Vals.get t (by simpa using e)
  exact⟨u,by simpa using b,a⟩
theorem Vals.set(r:RelV x u):∀{xs:List V}{us:B2}(i:Nat),Vals xs us->Vals (xs.set i x) (us.set i u)
 |_,_,_,.nil=>.nil
 |_,_,0,.cons _ t=>.cons r t
 |_,_,i+1,.cons q t=>.cons q<|Vals.set r i t
theorem Vals.append:∀{xs ys:List V}{us a:B2},Vals xs us->Vals ys a->Vals (xs++ys) (us++a)
 |_,_,_,_,.nil,s=>s
 |_,_,_,_,.cons r t,s=>.cons r<|Vals.append t s
theorem Vals.take:∀{xs:List V}{us:B2}(n:Nat),Vals xs us->Vals (xs.take n) (us.take n)
 |_,_,0,_=>.nil
 |_,_,_+1,.nil=>.nil
 |_,_,n+1,.cons r t=>.cons r<|Vals.take n t
theorem Vals.drop:∀{xs:List V}{us:B2}(n:Nat),Vals xs us->Vals (xs.drop n) (us.drop n)
 |_,_,0,r=>r
 |_,_,_+1,.nil=>.nil
 |_,_,n+1,.cons _ t=>Vals.drop n t
def Vals.none_of:∀{xs:List V}{us:B2}{i:Nat},Vals xs us->xs[i]?=Y->us[i]?=Y:=λ{xs us i} r e=>by
 have b:=r.length;have a:=O9.mp e;exact O9.mpr (by lia)
def gH:Option V->D2->Prop
 |some v,some u=>RelV v u
 |none,none=>True
 |_,_=>False
def KV{a:Type}:List (a×V)->List (a×ar)->Prop:=HV λ(p:a×V) (q:a×ar)=>p.1=q.1/\RelV p.2 q.2
def kV:Key->V
 |.inl i=>.int i
 |.inr x=>.str x
inductive HO where
 |lst (xs:List V)
 |tup (xs:List V)
 |dK (kvs:List<|Key×V)|dT (kvs:List<|List Key×V)
 |set (S:Int->Bool) (n:Nat)
 |ins (C dx:bp) (fs:List<|Str×V)
 |own (x:bp)
 |xd (fs:List<|Str×V)
 |met (f x:bp)
 |lT (lo hi:Int)
 |iy (o:Obj) (u:HO)
 |tbl (ps:Array ar)
 |ext (φ:eI->Prop)
abbrev Hp:=bp->Option HO
def upd(H:Hp)(a:bp)(o:HO):Hp:=λb=>if b=a then U o else H b
def ak:upd H a o a=U o:=by unfold upd;simp
def aq(h:b≠a):upd H a o b=H b:=by unfold upd;rw[b0 h]
def ua:upd (upd H a o) a u=upd H a u:=by
 funext b;unfold upd;split<;>rfl
def Wu{H:Hp}(h:H a=U o)(h':H b=U u)(d:o≠u):a≠b:=by
 intro e;subst e;rw[h]at h';exact d<|kM.inj h'
def aS{H:Hp}(h:H a=U o)(h':H b=Y):a≠b:=by
 lia
section
variable(P:c4)(w:da)
def bQ(H:Hp)(h:eI)(a:bp):HO->Prop
 |.lst xs=>xs.length<=cw/\∃(d:B2)(n:Nat),Vals xs d/\h.get? a=U {cls:=.type "list",data:=.seq d.toArray n}
 |.tup xs=>xs.length<=cw/\∃d:B2,Vals xs d/\IsTup h a d.toArray
 |.dK b=>b.length<=cw/\(a == i1)=ZA/\∃i,KV b i/\h.DictOf (cu P w) a i
 |.dT b=>b.length<=cw/\(a == i1)=ZA/\∃xs:List (List Key×bp×ar),
   HV (λ(p:List Key×V) (q:List Key×bp×ar)=>p.1=q.1/\H q.2.1=U (.tup<|p.1.map kV)/\RelV p.2 q.2.2) b xs /\
   ∃o l r,h.get? a=U o/\o.ExactDict/\o.data=.dict l r/\l.toList=xs.map (entryOfKey<|r0<|cu P w)/\(xs.map (·.1)).Nodup
 |.set S n=>h.SetOf (intKind P w) a S n
 |.ins C e fs=>H e=U (.own a)/\fs.length<=1000/\e≠a/\h.get? a=U (vQ C e) /\
   ∃c,h.Ns1 e c/\(∀f,gH (fs.lookup f)<|c f)/\n8 c (fs.map (·.1))
 |.own _=>∃o,h.get? a=U o
 |.xd fs=>∃c,h.Ns1 a c/\∀f,gH (fs.lookup f)<|c f
 |.lT lo m=>∃t u v,h.get? a=U {cls:=.type "range",data:=.fields #[.int lo t,.int m u,.int 1 v]}
 |.iy o u=>h.get? a=U o/\bQ H h a u
 |.tbl ps=>h.get? a=U {cls:=.none,data:=.fields ps}
 |.met f x=>h.get? a=U (Fw (.ref f)<|.ref x)
 |.ext g=>g h/\(∃o,h.get? a=U o)/\∀k j:eI,g k->(∀o,k.get? a=U o->j.get? a=U o)->g j
def j7(H:Hp)(h:eI):Prop:=∀a o,H a=U o->bQ P w H h a o
end
variable{C a dx f x:bp}{A:ew}{b e o:cq}{h h':eI}{H H':Hp}{ae:dG}{es:Bz}{p pos:Pos}{P:c4}{s:ag}{E:Jn}{w:da}
section
variable{o:HO}
theorem bQ.lt(x:bQ P w H h a o):a<h.objs.size:=by
 cases o with
 |lst xs=>obtain⟨_,_,_,_,e⟩:=x;exact cv e
 |tup xs=>obtain⟨_,_,_,p⟩:=x;exact p.lt
 |dK b=>obtain⟨_,_,_,_,o,_,_,e,_⟩:=x;exact cv e
 |dT b=>obtain⟨_,_,_,_,o,_,_,e,_⟩:=x;exact cv e
 |set S n=>obtain⟨o,_,_,_,e,_⟩:=x;exact cv e
 |ins C dx fs=>obtain⟨_,_,_,e,_⟩:=x;exact cv e
 |own y=>obtain⟨_,e⟩:=x;exact cv e
 |xd fs=>obtain⟨_,⟨_,_,_,e,_⟩,_⟩:=x;exact cv e
 |lT lo d=>obtain⟨_,_,_,e⟩:=x;exact cv e
 |iy ob u=>obtain⟨e,_⟩:=x;exact cv e
 |tbl ps=>exact cv<|x
 |met f y=>exact cv<|x
 |ext c=>obtain⟨_,⟨_,e⟩,_⟩:=x;exact cv e
theorem Paired.RQ{g e:Type}{F G:g->e->Prop}:∀{d:List g}{c:List e},HV F d c->(∀a b,F a b->G a b)->HV G d c
 |_,_,.nil,_=>.nil
 |_,_,.cons r t,f=>.cons (f _ _ r)<|Paired.RQ t f
def bQ.nJ(x:bQ P w H h a o)(k:∀b u,(b=a\/H b=U (.own a))->h.get? b=U u->h'.get? b=U u)
  (B:∀b,H b=U (.own a)->H' b=U (.own a)) (A:∀b xs,H b=U (.tup xs)->H' b=U (.tup xs)):bQ P w H' h' a o:=by
 induction o with
 |lst xs=>obtain⟨z,l,n,r,e⟩:=x;exact⟨z,l,n,r,k _ _ (.inl J) e⟩
 |tup xs=>obtain⟨z,l,r,ob,e,c⟩:=x;exact⟨z,l,r,ob,k _ _ (.inl J) e,c⟩
 |dK j=>obtain⟨z,y,m,r,ob,es,g,e,c⟩:=x;exact⟨z,y,m,r,ob,es,g,k _ _ (.inl J) e,c⟩
 |dT j=>
  obtain⟨z,y,xs,r,ob,es,g,e,c⟩:=x;exact⟨z,y,xs,Paired.RQ r λp q z=>⟨z.1,A _ _ z.2.1,z.2.2⟩,ob,es,g,k _ _ (.inl J) e,c⟩
 |set S n=>obtain⟨ob,es,g,t,e,c⟩:=x;exact⟨ob,es,g,t,k _ _ (.inl J) e,c⟩
 |ins C dx fs=>
  obtain⟨d,z,ne,e,i,⟨od,es,g,D,c⟩,r⟩:=x;exact⟨B _ d,z,ne,k _ _ (.inl J) e,i,⟨od,es,g,k _ _ (.inr d) D,c⟩,r⟩
 |own y=>obtain⟨ob,e⟩:=x;exact⟨ob,k _ _ (.inl J) e⟩
 |xd fs=>obtain⟨i,⟨od,es,g,e,c⟩,r⟩:=x;exact⟨i,⟨od,es,g,k _ _ (.inl J) e,c⟩,r⟩
 |lT lo F=>obtain⟨t,u,v,e⟩:=x;exact⟨t,u,v,k _ _ (.inl J) e⟩
 |iy ob u s=>obtain⟨e,q⟩:=x;exact⟨k _ _ (.inl J) e,s q⟩
 |tbl ps=>
  have e:=x;show h'.get? a=U _;exact k a _ (.inl J) e
 |met f y=>
  have e:=x;show h'.get? a=U _;exact k a _ (.inl J) e
 |ext E=>obtain⟨p,⟨o,e⟩,st⟩:=x;exact⟨st _ _ p λo q=>k _ _ (.inl J) q,⟨o,k _ _ (.inl J) e⟩,st⟩
theorem j7.lt(x:j7 P w H h)(e:H a=U o):a<h.objs.size:=(x a o e).lt
def j7.fresh(x:j7 P w H h)(e:h.objs.size<=a):H a=Y:=by
 cases q:H a with
 |none=>rfl
 |some u=>exact dw (fB (x.lt q) e)<|qZ _
def j7.kept(x:j7 P w H h)(k:∀b u,h.get? b=U u->h'.get? b=U u):j7 P w H h':=λa o e=>
 (x a o e).nJ (λb u _ q=>k b u q) (λ_ q=>q) λ_ _ q=>q
def j7.laid(x:j7 P w H h)(k:∀b u,h.get? b=U u->h'.get? b=U u)(f:h.objs.size<=a)(new:bQ P w (upd H a o) h' a o):j7 P w (upd H a o) h':=λb u e=>by
 have d:=x.fresh f;by_cases hb:b=a
 .subst hb;rw[ak]at e;cases e;exact new
 .rw[aq hb]at e
  exact(x b u e).nJ (λc v _ q=>k c v q) (λc q=>(aq<|aS q d)▸q) λc xs q=>(aq<|aS q d)▸q
end
def Rd(H:Hp)(a:bp)(u:HO):Prop:=H a=U u\/∃o,H a=U (.iy o u)
def Rd.ok(r:Rd H a u)(x:j7 P w H h):bQ P w H h a u:=by
 rcases r with r|⟨o,r⟩
 .exact x a u r
 .obtain⟨_,q⟩:=x a _ r
  exact q
def Wv:Option HO->Prop
 |U<|.lst _=>True
 |U<|.dK _=>True
 |U<|.dT _=>True
 |U<|.set _ _=>True
 |U<|.ins _ _ _=>True
 |U<|.ext _=>True
 |_=>False
section
variable{e:bp}
def j7.write(ok:j7 P w H h)(mu:Wv<|H x)(he:e=x\/H e=U (.own x))(k:∀b u,b≠e->h.get? b=U u->h'.get? b=U u)(g:∃u,h'.get? e=U u)
  (new:bQ P w (upd H x j) h' x j):j7 P w (upd H x j) h':=λb u q=>by
 have Ww:∀c y,H c=U (.own y)->c≠x:=λc y r z=>by subst z;rw[r]at mu;exact mu
 have œ:∀c xs,H c=U (.tup xs)->c≠x:=λc xs r z=>by subst z;rw[r]at mu;exact mu
 by_cases hb:b=x
 .subst hb;rw[ak]at q;lia
 .rw[aq hb]at q
  by_cases hbe:b=e
  .have d:H b=U (.own x):=by
    lia
   rw[q]at d;cases d;obtain⟨v,f⟩:=g;exact⟨v,hbe▸f⟩
  .refine(ok b u q).nJ (λc v a r=>k c v ?_ r) (λc r=>(aq<|Ww c b r)▸r) λc xs r=>(aq<|œ c xs r)▸r
   grind
end
structure Un(fs ex:BM)(H H':Hp)(h h':eI):Prop where
 keep:∀b o,h.get? b=U o->H b=Y->b∉fs->b∉ex->h'.get? b=U o
 slot:∀b o,h.get? b=U o->H b=Y->b∈fs->b∉ex->∃sl,h'.get? b=U {o with slots:=sl}
 free:∀b o,h.get? b=U o->H b=Y->b∉ex->H' b=Y
 there:∀b o,h.get? b=U o->b∉ex->∃o',h'.get? b=U o'
 nK:∀b xs,H b=U (.tup xs)->H' b=U (.tup xs)
 lU:∀b o u,H b=U (.iy o u)->H' b=U (.iy o u)
 nM:∀b ps,H b=U (.tbl ps)->∃more,H' b=U (.tbl<|ps++more)
section
variable{e:bp}{o:HO}
def Un.any(u:Un fs ex H H1 h d){b:bp}(q:h.get? b=U ob)(n:H b=Y)(a:b∉ex):∃sl,d.get? b=U {ob with slots:=sl}:=by
 by_cases hb:b∈fs
 .exact u.slot b ob q n hb a
 .exact⟨ob.slots,u.keep b ob q n hb a⟩
def Un.kept(k:∀b u,h.get? b=U u->h'.get? b=U u):Un fs ex H H h h':=
 ⟨λb ob q _ _ _=>k b ob q,λb ob q _ _ _=>⟨ob.slots,k b ob q⟩,λ_ _ _ n _=>n,λb ob q _=>⟨ob,k b ob q⟩,λ_ _ q=>q,λ_ _ _ q=>q,λ_ ps q=>⟨#[],by rw[q];simp⟩⟩
def Un.refl:Un fs ex H H h h:=Un.kept λ_ _ q=>q
def Un.laid(k:∀b u,h.get? b=U u->h'.get? b=U u)(d:h.objs.size<=a)(c:H a=Y):Un fs ex H (upd H a o) h h' where
 keep:=λb u q _ _ _=>k b u q
 slot:=λb u q _ _ _=>⟨u.slots,k b u q⟩
 free:=λb u q n _=>(aq<|eM<|fB (cv q) d)▸n
 there:=λb u q _=>⟨u,k b u q⟩
 nK:=λb xs q=>(aq<|aS q c)▸q
 lU:=λb u xs q=>(aq<|aS q c)▸q
 nM:=λb ps q=>⟨#[],by rw[aq<|aS q c,q];simp⟩
def Un.write(mu:Wv<|H x)(he:e=x\/H e=U (.own x))(k:∀b u,b≠e->h.get? b=U u->h'.get? b=U u)(f:∃u,h'.get? e=U u):Un fs ex H (upd H x o) h h':=by
 have c:∀b,H b=Y->b≠x:=λb n z=>by subst z;rw[n]at mu;exact mu
 have d:∀b,H b=Y->b≠e:=λb n z=>by
  subst z;rcases he with r|r
  .exact c b n r
  lia
 have a:∀b u,H b=U u->¬ Wv (U u)->b≠x:=λb u q nm z=>by subst z;rw[q]at mu;exact nm mu
 refine⟨λb u q n _ _=>k b u (d b n) q,λb u q n _ _=>⟨u.slots,k b u (d b n) q⟩,λb u q n _=>(aq<|c b n)▸n,λb u q _=>?_,
  λb xs q=>(aq<|a b _ q λz=>z)▸q,λb u xs q=>(aq<|a b _ q λz=>z)▸q,λb ps q=>⟨#[],by rw[aq<|a b _ q λz=>z,q];simp⟩⟩
 by_cases hbe:b=e
 .subst hbe;exact f
 .exact⟨u,k b u hbe q⟩
end
def KW(h:eI)(H:Hp):BM:=(df h.objs.size).filter λa=>(H a).isSome
def uc(h:eI)(H:Hp):eI:=PySem.W.hideAll h<|KW h H
def DO(h:eI)(H:Hp):(uc h H).objs.size=h.objs.size:=PySem.W.hideAll_size ..
def GA{b:bp}{o:Obj}(e:h.get? b=U o)(n:H b=Y):(uc h H).get? b=U o:=
 PySem.W.hideAll_get _ e λa=>by
  have q:=(F8.mp a).2;rw[n]at q;simp at q
def Lb{b:bp}{o:Obj}(e:(uc h H).get? b=U o):h.get? b=U o/\H b=Y:=by
 have e':=PySem.W.of_hideAll _ e;refine⟨e',?_⟩;cases q:H b with
 |none=>rfl
 |some x=>
  have a:b∈KW h H:=F8.mpr ⟨DF.mpr<|cv e',by simp[q]⟩
  have z:(uc h H).get? b=Y:=PySem.W.hideAll_none _ a;rw[z]at e;cases e
def Ld(g h:eI)(L:bp):dG:=(df h.objs.size).filterMap λa=>if a=L\/(g.get? a).isSome=O then Y else(h.get? a).map λo=>(a,o)
def rest(g h:eI)(L d:bp):dG:=(Ld g h L).filter λp=>decide<|p.1≠d
structure Mod(K:bG)(mg:Str->D2)(base:eI):Prop where
 kin:K.In base
 glob:base.Ns eR mg
 blt:∃mb,base.Ns tj mb/\∀x:Str,x ≠ "__name__" -> mb x=i5 x
 nolimit:base.NoLimit
structure Cx where
 prog:c4
 w:da
 K:bG
 mg:Str->D2
 base:eI
 A:ew
 N:Bi
 s₀:ag
 H₀:Hp
 env:Env
 outer:List Env
 stack:List Env
 ex:BM
 fn:Str->Bool
 calm:Bool
 pn:dG
 xe:Jn
def kP(l:List Env):BM:=l.filterMap (·.frame)
abbrev Cx.fs(X:Cx):BM:=kP X.outer
def mX(sc:hA)(x:Str):Prop:=sc.names.lookup x=U .local\/sc.names.lookup x=U .cell\/sc.names.lookup x=U .free
def Loc(sc:hA)(x:Str):Prop:=sc.names.lookup x=U .local\/sc.names.lookup x=U .cell
def Look(env:Env)(h:eI)(m:Str->D2)(x:Str)(u:ar):Prop:=
 (env.kindOf x=U .local/\m x=U u)\/((env.kindOf x=U .cell\/env.kindOf x=U .free)/\∃c,env.cells.lookup x=U c/\h.IsCell c (U u))
structure Cx.Ok(X:Cx):Prop where
 mod:Mod X.K X.mg X.base
 kind:X.env.scope.kind=.function
 glob:X.env.globals=eR
 blt:X.env.builtins=tj
 above:X.s₀.heap.objs.size<=X.env.locals
 inj:∀x y c,X.env.cells.lookup x=U c->X.env.cells.lookup y=U c->x=y
 has:∀x,(X.env.kindOf x=U .cell\/X.env.kindOf x=U .free)->∃c,X.env.cells.lookup x=U c
 cab:∀x c,X.fn x=O->X.env.cells.lookup x=U c->X.s₀.heap.objs.size<=c
 hd:X.calm=O->X.A.handled=Y
 frames:X.A.frames=U X.stack
 stk:X.stack=X.outer\/(X.stack=X.env::X.outer/\X.env.frame=U X.env.locals)
 exf:∀b∈X.ex,b≠X.env.locals/\∀x c,X.env.cells.lookup x=U c->c≠b
 bs:∀b o,X.base.get? b=U o->X.s₀.heap.get? b=U o/\X.H₀ b=Y
 bsz:X.base.objs.size<=X.s₀.heap.objs.size
 noex:∀b o,X.base.get? b=U o->b∉X.ex
 exfs:∀b∈X.ex,b∉X.fs
 lV:X.s₀.heap.FunFrames X.base X.outer
 frf:∀b∈X.fs,X.H₀ b=Y
structure Inv(X:Cx)(ae:dG)(σ:List<|Option V)(H:Hp)(s:ag):Prop where
 ok:X.Ok
 os:s.os=X.s₀.os
 bare:n0 s.gens
 base:Un X.fs X.ex X.H₀ H X.s₀.heap s.heap
 loc:∃m,s.heap.Ns X.env.locals m/\∀(i:Nat)(x:Str)(v:V),X.N[i]?=U x->σ[i]?=U (U v)->mX X.env.scope x->∃u,RelV v u/\Look X.env s.heap m x u
 cell:∀x c,X.env.cells.lookup x=U c->∃v,s.heap.IsCell c v
 free:H X.env.locals=Y
 freeC:∀x c,X.env.cells.lookup x=U c->H c=Y
 pin:∀p∈X.pn++ae,s.heap.get? p.1=U p.2/\H p.1=Y/\p.1≠X.env.locals/\p.1∉X.fs/\∀v,p.2.data≠.cell v
 bz:j7 X.prog X.w H s.heap
 len:σ.length=X.N.length
section
variable{X:Cx}
def Cx.Ok.Ŕ(ok:X.Ok){b:bp}{o:Obj}(e:X.base.get? b=U o):b∉X.fs:=λa=>by
 have:=(ok.lV.mem a).1
 lia
theorem Inv.bs(I:Inv X ae σ H s):∀b o,X.base.get? b=U o->s.heap.get? b=U o/\H b=Y:=λb o e=>
 ⟨I.base.keep b o (I.ok.bs b o e).1 (I.ok.bs b o e).2 (I.ok.Ŕ e)<|I.ok.noex b o e,I.base.free b o (I.ok.bs b o e).1 (I.ok.bs b o e).2<|I.ok.noex b o e⟩
def Inv.bk(I:Inv X ae σ H s):∀b o,X.base.get? b=U o->s.heap.get? b=U o:=λb o e=>(I.bs b o e).1
theorem Inv.mod(I:Inv X ae σ H s):Mod X.K X.mg X.base:=I.ok.mod
def Inv.jg(I:Inv X ae σ H s):X.K.In s.heap:=I.ok.mod.kin.keeps I.bk
theorem Inv.lt(I:Inv X ae σ H s):X.env.locals<s.heap.objs.size:=let⟨_,hn,_⟩:=I.loc;hn.lt
def Inv.sz(I:Inv X ae σ H s):X.s₀.heap.objs.size<=s.heap.objs.size:=c_ I.ok.above<|FP I.lt
def Inv.ŕ(I:Inv X ae σ H s)(h:s.heap.objs.size<=a):a∉X.fs:=λc=>by
 obtain⟨_,o,b,_⟩:=I.ok.lV.mem c;exact dw (fB (cv b)<|c_ I.sz h)<|qZ _
def Inv.Le(I:Inv X ae σ H s):∀x c,X.env.cells.lookup x=U c->c≠X.env.locals:=λx c e z=>by
 obtain⟨v,o,a,hd⟩:=I.cell x c e;obtain⟨m,⟨f,es,g,d,b,_⟩,_⟩:=I.loc;lia
theorem Inv.lV(I:Inv X ae σ H s):s.heap.FunFrames X.base X.outer:=by
 have all:∀(l:List Env),(∀b∈kP l,b∈X.fs)->X.s₀.heap.FunFrames X.base l->s.heap.FunFrames X.base l:=by
  intro l
  induction l with
  |nil=>intro _ _;trivial
  |cons env r f=>
   intro hs i;obtain⟨hk,⟨L,o,a,h,g,hd⟩,hr⟩:=i;have d:=hs L (by unfold kP;rw[yR,a];exact d_)
   obtain⟨sl,e⟩:=I.base.slot L o g (I.ok.frf L d) d λz=>I.ok.exfs L z d;exact⟨hk,⟨L,_,a,h,e,hd⟩,f (λb c=>hs b<|by unfold kP;rw[yR,a];exact ed _ c) hr⟩
 exact all X.outer (λ_ c=>c) I.ok.lV
theorem Inv.stack(I:Inv X ae σ H s):s.heap.FunFrames X.base X.stack:=by
 rcases I.ok.stk with e|⟨e,b⟩
 .rw[e];exact I.lV
 .rw[e]
  obtain⟨m,a,_⟩:=I.loc;refine .cons (by rw[I.ok.kind];decide) b a ?_ I.lV
  exact n5<|c_ I.ok.bsz I.ok.above
def Inv.j8(I:Inv X ae σ H s):∀b∈kP X.stack,b∈X.env.locals::X.fs:=λb a=>by
 rcases I.ok.stk with e|⟨e,c⟩
 .rw[e]at a;exact ed _ a
 .rw[e]at a
  unfold kP at a;rw[yR,c]at a;exact a
def Inv.oh(I:Inv X ae σ H s):∀b∈kP X.stack,H b=Y:=λb a=>by
 rcases bH.mp (I.j8 b a)with e|a
 . exact e▸I.free
 .obtain⟨_,o,c,_⟩:=I.ok.lV.mem a
  exact I.base.free b o c (I.ok.frf b a) λz=>I.ok.exfs b z a
def Inv.step{ch:BM}(I:Inv X ae σ H s)
  (C:∀b∈ch,(b∈X.ex\/X.s₀.heap.objs.size<=b)/\b≠X.env.locals/\(∀x c,X.env.cells.lookup x=U c->c≠b)/\∀p∈X.pn++ae,p.1≠b)
  (keep:∀b o,b≠X.env.locals->b∉X.fs->b∉ch->s.heap.get? b=U o->H b=Y->h'.get? b=U o)
  (slot:∀b o,b≠X.env.locals->b∈X.fs->b∉ch->s.heap.get? b=U o->H b=Y->∃sl,h'.get? b=U {o with slots:=sl}) (free:∀b o,b∉ch->s.heap.get? b=U o->H b=Y->H' b=Y)
  (there:∀b o,b∉ch->s.heap.get? b=U o->∃t,h'.get? b=U t)
  (nK:∀b xs,H b=U (.tup xs)->H' b=U (.tup xs)) (lU:∀b o u,H b=U (.iy o u)->H' b=U (.iy o u)) (nM:∀b ps,H b=U (.tbl ps)->∃y,H' b=U (.tbl<|ps++y))
  (ns:∀m,s.heap.Ns X.env.locals m->h'.Ns X.env.locals m) (bz:j7 X.prog X.w H' h') (K:n0 g') :
  Inv X ae σ H' {s with heap:=h',gens:=g',drawn:=d',toks:=t'}:=by
 have Ĝ:∀b o,X.s₀.heap.get? b=U o->b≠X.env.locals:=λb o e=>eM<|fB (cv e) I.ok.above;have ĝ:∀b o,X.s₀.heap.get? b=U o->b∉X.ex->b∉ch:=λb o e a h=>by
  rcases(C b h).1 with z|z
  .exact a z
  .exact dw (fB (cv e) z)<|qZ _
 have f:∀x c,X.env.cells.lookup x=U c->∀v,s.heap.IsCell c v->h'.IsCell c v:=λx c e v E=>by
  obtain⟨o,j,hd⟩:=E;have B:=λz=>(C c z).2.2.1 x c e J;by_cases hc:c∈X.fs
  .obtain⟨sl,q⟩:=slot c o (I.Le x c e) hc B j<|I.freeC x c e
   exact⟨_,q,hd⟩
  .exact⟨o,keep c o (I.Le x c e) hc B j<|I.freeC x c e,hd⟩
 refine⟨I.ok,I.os,K,⟨λb o e n h a=>?_,λb o e n h a=>?_,λb o e n a=>?_,λb o e a=>?_,λb xs e=>nK b xs<|I.base.nK b xs e,λb o xs e=>lU b o xs<|I.base.lU b o xs e,λb ps e=>?_⟩,?_,λx c e=>?_,?_,λx c e=>?_,λp D=>?_,bz,I.len⟩
 .exact keep b o (Ĝ b o e) h (ĝ b o e a) (I.base.keep b o e n h a)<|I.base.free b o e n a
 .obtain⟨sl,g⟩:=I.base.slot b o e n h a
  obtain⟨M,A⟩:=slot b _ (Ĝ b o e) h (ĝ b o e a) g<|I.base.free b o e n a;exact⟨M,A⟩
 .obtain⟨t,g⟩:=I.base.there b o e a
  exact free b t (ĝ b o e a) g<|I.base.free b o e n a
 .obtain⟨t,g⟩:=I.base.there b o e a
  exact there b t (ĝ b o e a) g
 .obtain⟨m1,g⟩:=I.base.nM b ps e
  obtain⟨m2,A⟩:=nM b _ g;exact⟨m1++m2,by rw[A,Array.append_assoc]⟩
 .obtain⟨m,F,G⟩:=I.loc
  refine⟨m,ns m F,λi x v g A L=>?_⟩;obtain⟨u,r,l⟩:=G i x v g A L;refine⟨u,r,?_⟩;rcases l with l|⟨k,c,e,z⟩
  .exact .inl l
  .exact .inr ⟨k,c,e,f x c e _ z⟩
 .obtain⟨v,z⟩:=I.cell x c e
  exact⟨v,f x c e v z⟩
 .obtain⟨m,⟨o,_,_,j,_⟩,_⟩:=I.loc
  exact free _ o (λz=>(C _ z).2.1 J) j I.free
 .obtain⟨v,o,j,hd⟩:=I.cell x c e
  exact free c o (λz=>(C c z).2.2.1 x c e J) j<|I.freeC x c e
 .obtain⟨e,n,ne,nf,d⟩:=I.pin p D
  have B:=λz=>(C _ z).2.2.2 p D J;exact⟨keep _ _ ne nf B e n,free _ _ B e n,ne,nf,d⟩
def Inv.un(I:Inv X ae σ H s)(u:Un X.fs [] H H' s.heap h')(bz:j7 X.prog X.w H' h'):Inv X ae σ H' {s with heap:=h',toks:=t'}:=by
 obtain⟨m,⟨o,es,l,c,r⟩,_⟩:=id I.loc;obtain⟨sl,h⟩:=u.any c I.free (by simp)
 exact I.step (ch:=[]) (λ_ z=>nomatch z) (λb o _ a _ e n=>u.keep b o e n a<|by simp) (λb o _ a _ e n=>u.slot b o e n a<|by simp) (λb o _ e n=>u.free b o e n<|by simp) (λb o _ e=>u.there b o e<|by simp) u.nK u.lU u.nM (λk g=>by
  obtain⟨j,i,Ŗ,d,f⟩:=g;rw[c]at d;cases d;exact⟨_,i,Ŗ,h,f⟩) bz I.bare
def Inv.call(I:Inv X ae σ H s)(u:Un (kP X.stack) ch H H' s.heap h')(bz:j7 X.prog X.w H' h')(k:n0 g')
  (g:∀b∈ch,(b∈X.ex\/X.s₀.heap.objs.size<=b)/\b≠X.env.locals/\(∀x c,X.env.cells.lookup x=U c->c≠b)/\∀p∈X.pn++ae,p.1≠b) :
  Inv X ae σ H' {s with heap:=h',gens:=g',drawn:=d',toks:=t'}:=by
 obtain⟨m,⟨o,es,y,f,r⟩,_⟩:=id I.loc;obtain⟨sl,d⟩:=u.any f I.free λz=>(g _ z).2.1 J;exact I.step g (λb o d l a e n=>u.keep b o e n (λz=>(bH.mp<|I.j8 b z).elim d l) a) (λb o _ _ a e n=>u.any e n a) (λb o a e n=>u.free b o e n a) (λb o a e=>u.there b o e a) u.nK u.lU u.nM (λv j=>by
  obtain⟨t,q,Ŗ,h,i⟩:=j;rw[f]at h;cases h;exact⟨_,q,Ŗ,d,i⟩) bz k
def Inv.turned(I:Inv X ae σ H s)(k:∀b o,b≠it->s.heap.get? b=U o->h'.get? b=U o)(h:H it=Y)(f:it≠X.env.locals)
  (w:it∈X.ex\/X.s₀.heap.objs.size<=it) (t:∀x c,X.env.cells.lookup x=U c->c≠it) (l:∀p∈X.pn++ae,p.1≠it):Inv X ae σ H {s with heap:=h',toks:=t'}:=by
 have d:∀b u,H b=U u->b≠it:=λb u e z=>by lia
 refine I.step (ch:=[it]) (λb j=>?_) (λb o _ _ a e _=>k b o (λz=>a<|by simp[z]) e) (λb o _ _ a e _=>⟨o.slots,k b o (λz=>a<|by simp[z]) e⟩) (λ_ _ _ _ n=>n)
  (λb o a e=>⟨o,k b o (λz=>a<|by simp[z]) e⟩) (λ_ _ e=>e) (λ_ _ _ e=>e) (λb ps e=>⟨#[],by rw[e];simp⟩) (λm i=>?_) (λb u e=>?_) I.bare
 .have e:=by simpa using j
  subst e;exact⟨w,f,t,l⟩
 .obtain⟨o,es,y,g,r⟩:=i
  exact⟨o,es,y,k _ o (f3 f) g,r⟩
 .refine(I.bz b u e).nJ (λc v a q=>k c v ?_ q) (λ_ q=>q) λ_ _ q=>q
  rcases a with z|z
  . exact z▸d b u e
  .exact d c _ z
def Inv.tok(I:Inv X ae σ H s)(t:Nat):Inv X ae σ H {s with toks:=t}:=I.un Un.refl I.bz
theorem Inv.kept(I:Inv X ae σ H s)(k:∀b u,s.heap.get? b=U u->h'.get? b=U u):Inv X ae σ H {s with heap:=h',toks:=t'}:=I.un (Un.kept k)<|I.bz.kept k
theorem Inv.laid{o:HO}(I:Inv X ae σ H s)(k:∀b u,s.heap.get? b=U u->h'.get? b=U u)(c:s.heap.objs.size<=a)(new:bQ X.prog X.w (upd H a o) h' a o) :
  Inv X ae σ (upd H a o) {s with heap:=h',toks:=t'}:=I.un (Un.laid k c<|I.bz.fresh c)<|I.bz.laid k c new
theorem Inv.write{x e:bp}{o:HO}(I:Inv X ae σ H s)(mu:Wv<|H x)(he:e=x\/H e=U (.own x))(k:∀b u,b≠e->s.heap.get? b=U u->h'.get? b=U u)(a:∃u,h'.get? e=U u)
  (new:bQ X.prog X.w (upd H x o) h' x o):Inv X ae σ (upd H x o) {s with heap:=h',toks:=t'}:=I.un (Un.write mu he k a)<|I.bz.write mu he k a new
def Inv.weak{a:List<|Option V}(I:Inv X ae σ H s)(b:a.length=σ.length)(w:∀(i:Nat)v,a[i]?=U (U v)->σ[i]?=U (U v)):Inv X ae a H s:=
 ⟨I.ok,I.os,I.bare,I.base,let⟨m,hn,Lf⟩:=I.loc;⟨m,hn,λi x v e d c=>Lf i x v e (w i v d) c⟩,I.cell,I.free,I.freeC,I.pin,I.bz,b.trans I.len⟩
def Inv.A_{a:dG}(I:Inv X ae σ H s)(h:∀p∈a,s.heap.get? p.1=U p.2/\H p.1=Y/\p.1≠X.env.locals/\p.1∉X.fs/\∀v,p.2.data≠.cell v):Inv X a σ H s:=
 ⟨I.ok,I.os,I.bare,I.base,I.loc,I.cell,I.free,I.freeC,λp b=>(eO.mp b).elim (λz=>I.pin p<|lR _ z)<|h p,I.bz,I.len⟩
def oZ{N:Bi}(c:N.Nodup){i j:Nat}{x:Str}(a:N[i]?=U x)(b:N[j]?=U x):i=j:=by
 obtain⟨g,e⟩:=dq.mp a;obtain⟨f,d⟩:=dq.mp b;exact(List.getElem_inj c).mp<|e.trans d.symm
abbrev J2(X:Cx)(x:Str):Prop:=X.fn x=O\/X.env.scope.names.lookup x=U .local
def rZ{x:Str}{Q:JN}(I:Inv X ae σ H s)(hN:X.N.Nodup)(G:X.N[i]?=U x)(t:Loc X.env.scope x)(r:RelV v u)
  (h:∀s',Inv X ae (σ.set i<|U v) H s'->(∃a,pk a s.heap s'.heap/\(a=X.env.locals\/X.env.cells.lookup x=U a))->Q () s') (hf:J2 X x:=by first|exact .inl J|exact .inr J|assumption):cC M A (storeName X.env x u) Q E s:=by
 obtain⟨m,hn,hl⟩:=id I.loc;have RT:(X.env.scope.kind == .class ||(X.env.scope.kind == .module&&X.env.locals != X.env.globals))=ZA:=by rw[I.ok.kind];rfl
 have C:i<σ.length:=by rw[I.len];exact(dq.mp G).1
 have Le:=I.Le;have f:∀{a:bp}{h':eI},(∃o,s.heap.get? a=U o/\H a=Y)->pk a s.heap h'->j7 X.prog X.w H h':=λ{a h'} ha hs b ob e=>by
  obtain⟨_,_,r6⟩:=ha;refine(I.bz b ob e).nJ (λc L l q=>(hs.2 c ?_).trans q) (λ_ q=>q) λ_ _ q=>q
  rintro rfl
  rcases l with rfl|l
  .rw[r6]at e;cases e
  .rw[r6]at l;cases l
 rcases t with hk|hk
 .refine wpAny_storeName_local hk hn (λh' V7 hs=>?_) RT
  obtain⟨oL,_,_,hoL,_⟩:=id hn;refine h _ ⟨I.ok,I.os,I.bare,⟨λb o e n D t=>?_,λb o e n D t=>?_,I.base.free,λb o e t=>?_,I.base.nK,I.base.lU,I.base.nM⟩,⟨_,V7,λj y R g B e3=>?_⟩,λy c e=>?_,I.free,I.freeC,λp Z=>?_,f ⟨oL,hoL,I.free⟩ hs,by simpa using I.len⟩ ⟨_,hs,.inl J⟩
  .exact(hs.2 b<|eM<|fB (cv e) I.ok.above).trans<|I.base.keep b o e n D t
  .obtain⟨sl,g⟩:=I.base.slot b o e n D t
   exact⟨sl,(hs.2 b<|eM<|fB (cv e) I.ok.above).trans g⟩
  .obtain⟨W,g⟩:=I.base.there b o e t
   exact⟨W,(hs.2 b<|eM<|fB (cv e) I.ok.above).trans g⟩
  .by_cases hj:j=i
   .subst hj
    rw[G]at g;cases g;rw[fR C]at B;cases B;exact⟨u,r,.inl ⟨hk,by simp⟩⟩
   .rw[eV<|f3 hj]at B
    obtain⟨S,T,q⟩:=hl j y R g B e3;refine⟨S,T,?_⟩;rcases q with⟨k,e⟩|⟨k,c,e,z⟩
    .refine .inl ⟨k,?_⟩
     have:y≠x:=λe=>hj<|oZ hN g<|e▸G
     simp[this,e]
    .exact .inr ⟨k,c,e,z.sameBut hs<|Le y c e⟩
  .obtain⟨L,z⟩:=I.cell y c e
   exact⟨L,z.sameBut hs<|Le y c e⟩
  .obtain⟨e,n,ne,nf,d⟩:=I.pin p Z
   exact⟨(hs.2 p.1 ne).trans e,n,ne,nf,d⟩
 .have Wy:X.fn x=O:=by
   rcases hf with z|z
   .exact z
   .rw[z]at hk;cases hk
  obtain⟨c,l⟩:=I.ok.has x<|.inl hk;obtain⟨L,z⟩:=I.cell x c l;refine wpAny_storeName_cell I.ok.kind hk l z λh' K hs=>?_;obtain⟨oc,F,ŗ⟩:=id z;refine h {s with heap:=h'} ⟨I.ok,I.os,I.bare,⟨λb o e n D t=>?_,λb o e n D t=>?_,I.base.free,λb o e t=>?_,I.base.nK,I.base.lU,I.base.nM⟩,⟨m,hn.sameBut hs<|f3<|Le x c l,λj y R g B e3=>?_⟩,λy P e=>?_,I.free,I.freeC,λp Z=>?_,f ⟨oc,F,I.freeC x c l⟩ hs,by simpa using I.len⟩ ⟨c,hs,.inr l⟩
  .exact(hs.2 b<|eM<|fB (cv e)<|I.ok.cab x c Wy l).trans<|I.base.keep b o e n D t
  .obtain⟨sl,g⟩:=I.base.slot b o e n D t
   exact⟨sl,(hs.2 b<|eM<|fB (cv e)<|I.ok.cab x c Wy l).trans g⟩
  .obtain⟨W,g⟩:=I.base.there b o e t
   exact⟨W,(hs.2 b<|eM<|fB (cv e)<|I.ok.cab x c Wy l).trans g⟩
  .by_cases hj:j=i
   .subst hj
    rw[G]at g;cases g;rw[fR C]at B;cases B;exact⟨u,r,.inr ⟨.inl hk,c,l,K⟩⟩
   .rw[eV<|f3 hj]at B
    obtain⟨S,T,q⟩:=hl j y R g B e3;refine⟨S,T,?_⟩;rcases q with q|⟨k,P,e,z'⟩
    .exact .inl q
    .refine .inr ⟨k,P,e,z'.sameBut hs ?_⟩
     rintro rfl
     exact hj<|oZ hN g<|I.ok.inj _ _ _ e l▸G
  .by_cases V8:P=c
   .subst V8;exact⟨_,K⟩
   .obtain⟨w2,z2⟩:=I.cell y P e
    exact⟨w2,z2.sameBut hs V8⟩
  .obtain⟨e,n,ne,nf,d⟩:=I.pin p Z
   refine⟨(hs.2 p.1 ?_).trans e,n,ne,nf,d⟩;intro q;rw[q,F]at e;have q':oc=p.2:=kM.inj e;exact d L (by rw[<- q'];exact ŗ)
def jk{x:Str}{Q:JN}(I:Inv X ae σ H s)(d:X.N.Nodup)(b:X.N[i]?=U x)(a:Loc X.env.scope x)(r:RelV v u)
  (h:∀s',Inv X ae (σ.set i<|U v) H s'->Q () s') (c:J2 X x:=by first|exact .inl J|exact .inr J|assumption):cC M A (storeName X.env x u) Q E s:=
 rZ I d b a r (λs' e _=>h s' e) c
def Inv.GC(I:Inv X ae σ H s)(d:s'.os=s.os)(u:Un (kP X.stack) ch H H' s.heap s'.heap)(bz:j7 X.prog X.w H' s'.heap)(f:n0 s'.gens)
  (g:∀b∈ch,(b∈X.ex\/X.s₀.heap.objs.size<=b)/\b≠X.env.locals/\(∀x c,X.env.cells.lookup x=U c->c≠b)/\∀p∈X.pn++ae,p.1≠b):Inv X ae σ H' s':=by
 obtain⟨h',g',d',t',a⟩:=s';have e:=d;subst e;exact I.call u bz f g
end
abbrev XK:=ar->Option bp->Hp->Prop
abbrev St:=List<|Option V
abbrev VK:=V->Hp->Prop
abbrev TE:=St->Hp->VK->Prop
abbrev TT:=St->Hp->(Bool->Hp->Prop)->Prop
abbrev TA:=St->Hp->(List V->Hp->Prop)->Prop
structure Ends where
 nx:St->Hp->Prop
 rt:VK
 bk:St->Hp->Prop:=λ_ _=>False
 ct:St->Hp->Prop:=λ_ _=>False
abbrev TS:=Ends->St->Hp->Prop
def EP(X:Cx)(ae:dG)(a:St)(Q:VK)(u:ar)(s':ag):Prop:=∃v H',Inv X ae a H' s'/\RelV v u/\Q v H'
def TP(X:Cx)(ae:dG)(a:St)(Q:Bool->Hp->Prop)(b:Bool)(s':ag):Prop:=∃H',Inv X ae a H' s'/\Q b H'
def AP(X:Cx)(ae:dG)(b:St)(Q:List V->Hp->Prop)(us:B2)(s':ag):Prop:=∃a H',Inv X ae b H' s'/\Vals a us/\Q a H'
def SP(X:Cx)(ae:dG)(D:Ends)(f:Flow)(s':ag):Prop:=
 match f with
 |.next=>∃a H',Inv X ae a H' s'/\D.nx a H'
 |.brk=>∃a H',Inv X ae a H' s'/\D.bk a H'
 |.cont=>∃a H',Inv X ae a H' s'/\D.ct a H'
 |.ret u=>∃v a H',Inv X ae a H' s'/\RelV v u/\D.rt v H'
abbrev Kb{α:Type}(X:Cx)(p:PySem.Sem α):=cC (cx X.prog X.w) X.A p
def PE(X:Cx)(e:cq)(t:TE):Prop:=
 ∀(ae:dG)(s:ag)(a:St)(H:Hp)(Q:VK),Inv X ae a H s->t a H Q->Kb X (fu e X.env) (EP X ae a Q) X.xe s
def PT(X:Cx)(e:cq)(t:TT):Prop:=
 ∀(ae:dG)(s:ag)(a:St)(H:Hp)(Q:Bool->Hp->Prop),Inv X ae a H s->t a H Q->Kb X (HC e X.env<|fu e X.env) (TP X ae a Q) X.xe s
def PW(X:Cx)(e:cq)(t:TT):Prop:=
 ∀(b:Sem ar)(ae:dG)(s:ag)(a:St)(H:Hp)(Q:Bool->Hp->Prop),Inv X ae a H s->t a H Q->Kb X (HC e X.env b) (TP X ae a Q) X.xe s
def PW.pt(h:PW X e t):PT X e t:=h _
def PA(X:Cx)(es:Bz)(t:TA):Prop:=
 ∀(pos:Pos)(ae:dG)(s:ag)(a:St)(H:Hp)(Q:List V->Hp->Prop),Inv X ae a H s->t a H Q->Kb X (spliced<|ij pos<|c5 es X.env) (AP X ae a Q) X.xe s
def PS(X:Cx)(st:f7)(t:TS):Prop:=
 ∀(ae:dG)(s:ag)(a:St)(H:Hp)(D:Ends),Inv X ae a H s->t D a H->Kb X (exec st X.env) (SP X ae D) X.xe s
def gM(X:Cx)(st:Fh)(t:TS):Prop:=
 ∀(ae:dG)(s:ag)(a:St)(H:Hp)(D:Ends),Inv X ae a H s->t D a H->Kb X (execs st X.env) (SP X ae D) X.xe s
def bX{b:Type}{t:Sem b}{Q c:b->ag->Prop}(h:cC M A t Q E s)(d:∀a s,Q a s->c a s):cC M A t c E s:=eP h d λ_ _ x=>x
section
def GD(i:Nat):TE:=λa H Q=>∃v,a[i]?=U (U v)/\Q v H
def tC(v:V):TE:=λ_ H Q=>Q v H
def cK{x:Str}(o:X.N[i]?=U x)(g:mX X.env.scope x)(hd:bB x:=by decide)(f:f9 x:=by decide):PE X (.Name x pos)<|GD i:=by
 intro ae s d H Q I h;obtain⟨v,e,h⟩:=h;obtain⟨m,j,n⟩:=I.loc;obtain⟨u,r,l⟩:=n i x v o e g;have fin:EP X ae d Q u s:=⟨v,H,I,r,h⟩;rcases l with⟨hk,k⟩|⟨hk,c,b,a⟩
 .exact wpAny_Name (wpAny_loadName_local I.ok.kind hk j k fin) hd
 .rcases hk with hk|hk
  .exact wpAny_Name (wpAny_loadName_cell I.ok.kind hk b a fin) hd
  .exact wpAny_Name (wpAny_loadName_free I.ok.kind hk b a fin f) hd
def ud{i j pos}:PE X (.Constant (.int i) j pos)<|tC<|.int i:=λ_ _ _ H _ I h=>wpAny_Constant_int ⟨.int i,H,I.tok _,⟨_,J⟩,h⟩
def Wz{b j pos}:PE X (.Constant (.bool b) j pos)<|tC<|.bl b:=λ_ _ _ H _ I h=>Constant_bool ⟨.bl b,H,I,J,h⟩
def RU{j pos}:PE X (.Constant .none j pos)<|tC .non:=λ_ _ _ H _ I h=>Constant_none ⟨.non,H,I,J,h⟩
def RV{x j pos}:PE X (.Constant (.str x) j pos)<|tC<|.str x:=λ_ _ _ H _ I h=>Calls.Constant_str ⟨.str x,H,I.tok _,⟨_,J⟩,h⟩
def Gl(X:Cx)(x:Str):Prop:=X.env.kindOf x=U .globalImplicit
def f_{a:St}{x:Str}(I:Inv X ae a H s)(c:Gl X x)(b:X.mg x=U u)(h:Q u s)
  (hd:bB x:=by decide):Kb X (fu (.Name x pos) X.env) Q E s:=
 uL I.ok.kind c (Calls.loadGlobal_global (by rw[I.ok.glob];exact I.mod.glob.keeps I.bk) b h) hd
def iO{a:St}{x:Str}(I:Inv X ae a H s)(e:Gl X x)(d:X.mg x=Y)(b:i5 x=U u)(h:Q u s)
  (c:x ≠ "__name__" := by decide) (hd:bB x:=by decide):Kb X (fu (.Name x pos) X.env) Q E s:=by
 obtain⟨mb,g,f⟩:=I.mod.blt;exact uL I.ok.kind e (Calls.loadGlobal_builtin (by rw[I.ok.glob];exact I.mod.glob.keeps I.bk) d (by rw[I.ok.blt];exact g.keeps I.bk) ((f x c).trans b) h) hd
def ue{x:Str}(b:Gl X x)(a:X.mg x=U u)(r:RelV v u)(hd:bB x:=by decide):PE X (.Name x pos)<|tC v:=
 λ_ _ _ H _ I h=>f_ I b a ⟨v,H,I,r,h⟩ hd
def Lg{x:Str}(d:Gl X x)(c:X.mg x=Y)(a:i5 x=U u)(r:RelV v u)(b:x ≠ "__name__" := by decide)(hd:bB x:=by decide):PE X (.Name x pos)<|tC v:=
 λ_ _ _ H _ I h=>iO I d c a ⟨v,H,I,r,h⟩ b hd
variable{a:cq}
def PC(X:Cx)(op:mx)(a b:cq)(t:TE):Prop:=
 ∀(ae:dG)(s:ag)(e:St)(H:Hp)(Q:VK),Inv X ae e H s->t e H Q ->
  Kb X (fu a X.env) (λv d=>Kb X (fu b X.env) (λu c=>Kb X (eJ op v u) (EP X ae e Q) X.xe c) X.xe d) X.xe s
def WA(u:TE):TE:=λa H Q=>u a H λx H1=>Q (.bl<|!decide (x=.non)) H1
def RelV.GF{x:V}(r:RelV x v):(v == iq)=decide (x=.non):=by
 cases x with
 |non=>cases r;rfl
 |bl _=>cases r;rfl
 |int _=>obtain⟨t,rfl⟩:=r;rfl
 |str _=>obtain⟨t,rfl⟩:=r;rfl
 |byt _=>obtain⟨t,rfl⟩:=r;rfl
 |flt _=>obtain⟨t,rfl⟩:=r;rfl
 |ref _=>cases r;rfl
 |ty _=>cases r;rfl
def Lh{j f}(e:PE X a u):PC X .IsNot a (.Constant .none j f)<|WA u:=by
 intro ae s b H Q I h;refine bX (e ae s b H _ I h) λv i c=>?_;obtain⟨x,H1,g,d,q1⟩:=c;exact Constant_none<|isnot_none_gen ⟨.bl _,H1,g,by rw[d.GF];rfl,q1⟩
def tB(t:TE):TT:=λa H Q=>t a H λx H1=>∃c,x=.bl c/\Q c H1
def RY(h:PC X op a b t)(e:fA op b=ZA:=by first|exact nobehind _ (by decide) (by decide)|rfl):PT X (.Compare a [op] [b] pos)<|tB t:=by
 intro ae s f H Q I j;refine H9 (bX (h ae s f H _ I j) λv n e=>bX e λu s2 k=>bX k λc m g=>?_) e;obtain⟨x,H1,l,i,q1⟩:=g;obtain⟨d,rfl,q⟩:=q1;cases i;exact h9 ⟨H1,l,q⟩
variable{rest:Bz}
def Ř(t u:TT):TT:=λa H Q=>t a H λc H1=>if c=O then u a H1 Q else Q ZA H1
def tOr(t u:TT):TT:=λa H Q=>t a H λc H1=>if c=O then Q O H1 else u a H1 Q
def ř(t:TT):TT:=λa H Q=>t a H λc H1=>Q (!c) H1
def Li(d:PT X a tA):PW X (.BoolOp .And [a] pos) tA:=by
 intro wh ae s b H Q I h;refine isTrue_and<|bX (d ae s b H Q I h) λc f e=>?_;cases c with
 |true=>exact isTrue_and_nil e
 |false=>exact e
def RZ(d:PT X a tA):PW X (.BoolOp .Or [a] pos) tA:=by
 intro wh ae s b H Q I h;refine isTrue_or<|bX (d ae s b H Q I h) λc f e=>?_;cases c with
 |false=>exact isTrue_or_nil e
 |true=>exact e
def R0(j:PT X a tA)(i:PW X (.BoolOp .And (b::rest) pos) Ğ):PW X (.BoolOp .And (a::b::rest) pos)<|Ř tA Ğ:=by
 intro wh ae s d H Q I h;refine isTrue_and<|bX (j ae s d H _ I h) λc g f=>?_;obtain⟨H1,e,q1⟩:=f;cases c with
 |true=>exact i wh ae g d H1 Q e q1
 |false=>exact⟨H1,e,q1⟩
def WC(j:PT X a tA)(i:PW X (.BoolOp .Or (b::rest) pos) Ğ):PW X (.BoolOp .Or (a::b::rest) pos)<|tOr tA Ğ:=by
 intro wh ae s d H Q I h;refine isTrue_or<|bX (j ae s d H _ I h) λc g f=>?_;obtain⟨H1,e,q1⟩:=f;cases c with
 |true=>exact⟨H1,e,q1⟩
 |false=>exact i wh ae g d H1 Q e q1
def R3(d:PT X a tA):PT X (.UnaryOp .Not a pos)<|ř tA:=by
 intro ae s b H Q I h;exact isTrue_not<|d ae s b H _ I h
def WD(u tb:TE):TE:=λa H Q=>u a H λx H1=>∃c,x=.bl c/\if c=O then tb a H1 Q else Q (.bl ZA) H1
def Ś(u tb:TE):TE:=λa H Q=>u a H λx H1=>∃c,x=.bl c/\if c=O then Q (.bl O) H1 else tb a H1 Q
def WE(u:TE):TE:=λa H Q=>u a H λx H1=>∃c,x=.bl c/\Q (.bl<|!c) H1
def R4{op}(h:PE X a t):PE X (.BoolOp op [a] pos) t:=λae s b H Q I c=>BoolOp_one<|h ae s b H Q I c
def R5(k:PE X a u)(j:PE X (.BoolOp .And (b::rest) pos) tb):PE X (.BoolOp .And (a::b::rest) pos)<|WD u tb:=by
 intro ae s d H Q I h;refine BoolOp_and<|bX (k ae s d H _ I h) λv g f=>?_;obtain⟨x,H1,e,i,q1⟩:=f;obtain⟨c,rfl,q1⟩:=q1;cases i;apply h9;cases c with
 |true=>exact j ae g d H1 Q e q1
 |false=>exact⟨.bl ZA,H1,e,J,q1⟩
def WG(k:PE X a u)(j:PE X (.BoolOp .Or (b::rest) pos) tb):PE X (.BoolOp .Or (a::b::rest) pos)<|Ś u tb:=by
 intro ae s d H Q I h;refine BoolOp_or<|bX (k ae s d H _ I h) λv g f=>?_;obtain⟨x,H1,e,i,q1⟩:=f;obtain⟨c,rfl,q1⟩:=q1;cases i;apply h9;cases c with
 |false=>exact j ae g d H1 Q e q1
 |true=>exact⟨.bl O,H1,e,J,q1⟩
def R6(f:PE X a u):PE X (.UnaryOp .Not a pos)<|WE u:=by
 intro ae s b H Q I h;refine UnaryOp_<|bX (f ae s b H _ I h) λv i d=>?_;obtain⟨x,H1,g,e,q1⟩:=d;obtain⟨c,rfl,q1⟩:=q1;cases e;exact not_of<|h9 ⟨.bl _,H1,g,J,q1⟩
def tIf(t:TT)(u tb:TE):TE:=λa H Q=>t a H λc H1=>if c=O then u a H1 Q else tb a H1 Q
def wj(j:PT X c tA)(l:PE X a u)(k:PE X b tb):PE X (.IfExp c a b pos)<|tIf tA u tb:=by
 intro ae s e H Q I h;refine wpAny_IfExp<|bX (j ae s e H _ I h) λd f i=>?_;obtain⟨H1,g,q1⟩:=i;cases d with
 |true=>exact l ae f e H1 Q g q1
 |false=>exact k ae f e H1 Q g q1
end
def dW(K:bG)(H:Hp)(a:bp)(xs:List V):Prop:=
 Rd H a (.lst xs) \/
  ∃(o:Obj)(b:Array ar)(n:Nat),K.lookup a=U o/\o.cls=.type "list" /\ o.dict=Y/\o.data=.seq b n/\b.size<=cw/\Vals xs b.toList
def kG(K:bG)(H:Hp)(a:bp)(xs:List V):Prop:=
 Rd H a (.tup xs) \/
  ∃(o:Obj)(b:Array ar)(n:Nat),K.lookup a=U o/\o.cls=.type "tuple" /\ o.data=.seq b n/\b.size<=cw/\Vals xs b.toList
def ś:ar->Option V
 |.none=>U .non
 |.bool b=>U<|.bl b
 |.int i _=>U<|.int i
 |.str x _=>U<|.str x
 |.bytes b _=>U<|.byt b
 |.float b _=>U<|.flt b
 |.ref a=>U<|.ref a
 |.type n=>U<|.ty n
 |_=>Y
def RelV.abs{x:V}(r:RelV x u):ś u=U x:=by
 cases x with
 |non=>cases r;rfl
 |bl _=>cases r;rfl
 |int _=>obtain⟨t,rfl⟩:=r;rfl
 |str _=>obtain⟨t,rfl⟩:=r;rfl
 |byt _=>obtain⟨t,rfl⟩:=r;rfl
 |flt _=>obtain⟨t,rfl⟩:=r;rfl
 |ref _=>cases r;rfl
 |ty _=>cases r;rfl
theorem RelV.inj{x y:V}(r:RelV x u)(q:RelV y u):x=y:=kM.inj<|r.abs.symm.trans q.abs
theorem Vals.inj:∀{xs ys:List V}{us:B2},Vals xs us->Vals ys us->xs=ys
 |_,_,_,.nil,.nil=>J
 |_,_,_,.cons r t,.cons b a=>by rw[r.inj b,Vals.inj t a]
def dW.of{K:bG}(h:H a=U (.lst xs)):dW K H a xs:=.inl<|.inl h
def kG.of{K:bG}(h:H a=U (.tup xs)):kG K H a xs:=.inl<|.inl h
def Inv.list(I:Inv X ae j H s)(h:dW X.K H a xs):∃b:B2,Vals xs b/\PlainL s.heap a b.toArray/\xs.length<=cw:=by
 rcases h with h|⟨o,b,n,hk,c,hd,hs,d,r⟩
 .obtain⟨z,b,n,r,e⟩:=h.ok I.bz
  exact⟨b,r,⟨_,n,e,J,J,J⟩,z⟩
 .refine⟨b.toList,r,⟨o,n,I.jg a o hk,c,hd,by simpa using hs⟩,?_⟩
  have e:=r.length;simp[hZ]at e
  lia
def Inv.tuple(I:Inv X ae j H s)(h:kG X.K H a xs):∃b:B2,Vals xs b/\IsTup s.heap a b.toArray/\xs.length<=cw:=by
 rcases h with h|⟨o,b,n,hk,c,hs,d,r⟩
 .obtain⟨z,b,r,p⟩:=h.ok I.bz
  exact⟨b,r,p,z⟩
 .refine⟨b.toList,r,⟨o,I.jg a o hk,c,n,by simpa using hs⟩,?_⟩
  have e:=r.length;simp[hZ]at e
  lia
def Inv.GG(I:Inv X ae j H s)(h:dW X.K H a xs)(h':dW X.K H a ys):xs=ys:=by
 obtain⟨g,r,⟨o,n,e,_,_,d⟩,_⟩:=I.list h;obtain⟨b,f,⟨i,n',e',_,_,c⟩,_⟩:=I.list h';rw[e]at e';cases e';rw[d]at c;injection c with d1 _
 have:=by simpa using ej xI d1
 subst this;exact r.inj f
def Inv.lW(I:Inv X ae j H s)(h:kG X.K H a xs)(h':kG X.K H a ys):xs=ys:=by
 obtain⟨g,r,⟨o,e,_,n,d⟩,_⟩:=I.tuple h;obtain⟨b,f,⟨i,e',_,n',c⟩,_⟩:=I.tuple h';rw[e]at e';cases e';rw[d]at c;injection c with d1 _
 have:=by simpa using ej xI d1
 subst this;exact r.inj f
abbrev Cx.nN(X:Cx)(E:Jn):Cx:={X with xe:=E}
abbrev Cx.wm(X:Cx):Cx:=X.nN λ_ _=>False
theorem Cx.Ok.nN{X:Cx}(ok:X.Ok)(E:Jn):(X.nN E).Ok:=
 ⟨ok.mod,ok.kind,ok.glob,ok.blt,ok.above,ok.inj,ok.has,ok.cab,ok.hd,ok.frames,ok.stk,ok.exf,ok.bs,ok.bsz,ok.noex,ok.exfs,ok.lV,ok.frf⟩
def Cx.Ok.g_{X:Cx}(ok:(X.nN E).Ok):X.Ok:=
 ⟨ok.mod,ok.kind,ok.glob,ok.blt,ok.above,ok.inj,ok.has,ok.cab,ok.hd,ok.frames,ok.stk,ok.exf,ok.bs,ok.bsz,ok.noex,ok.exfs,ok.lV,ok.frf⟩
theorem Inv.nN(I:Inv X ae d H s)(E:Jn):Inv (X.nN E) ae d H s:=⟨I.ok.nN E,I.os,I.bare,I.base,I.loc,I.cell,I.free,I.freeC,I.pin,I.bz,I.len⟩
theorem Inv.g_(I:Inv (X.nN E) ae d H s):Inv X ae d H s:=⟨I.ok.g_,I.os,I.bare,I.base,I.loc,I.cell,I.free,I.freeC,I.pin,I.bz,I.len⟩
theorem SP.g_{f:Flow}(h:SP (X.nN E) ae D f s'):SP X ae D f s':=by
 cases f with
 |next=>obtain⟨a,H',I,q⟩:=h;exact⟨a,H',I.g_,q⟩
 |brk=>obtain⟨a,H',I,q⟩:=h;exact⟨a,H',I.g_,q⟩
 |cont=>obtain⟨a,H',I,q⟩:=h;exact⟨a,H',I.g_,q⟩
 |ret u=>obtain⟨v,a,H',I,r,q⟩:=h;exact⟨v,a,H',I.g_,r,q⟩
theorem gM.wm{st:Fh}(h:gM X.wm st t):gM X st t:=λae s d H D I a=>
 eP (h ae s d H D (I.nN _) a) (λ_ _ q=>q.g_) λ_ _ z=>fE z
section
variable{st:f7}{rest:Fh}
def GH:TS:=λD a H=>D.nx a H
def WH(t u:TS):TS:=λD a H=>t {D with nx:=u D} a H
def oi:gM X [] GH:=λ_ _ a H _ I h=>hW ⟨a,H,I,h⟩
def kQ(e:PS X st t)(d:gM X rest u):gM X (st::rest)<|WH t u:=by
 intro ae s b H D I h;refine kx<|bX (e ae s b H _ I h) λf c q=>?_
 cases f with
 |next=>
  obtain⟨a,H',g,q⟩:=q;exact d ae c a H' D g q
 |ret v=>exact q
 |brk=>exact q
 |cont=>exact q
def kR(b:PS X st t):gM X [st] t:=by
 intro ae s a H D I h;refine kx<|bX (b ae s a H D I h) λf c q=>?_;cases f with
 |next=>exact hW q
 |ret v=>exact q
 |brk=>exact q
 |cont=>exact q
def Lj:PS X (.Pass pos) GH:=λ_ _ a H _ I h=>wpAny_Pass ⟨a,H,I,h⟩
def Inv.quiet{a:St}(I:Inv X ae a H s):interactive X.env=ZA:=by simp[interactive,I.ok.kind]
def WI(j:TE):TS:=λD a H=>j a H λ_ H1=>D.nx a H1
def iP(he:PE X e j)(hs:fv e Y pos.line X.env=pure ZA:=by rfl):PS X (.Expr e pos)<|WI j:=by
 intro ae s a H D I h;exact wpAny_Expr_any (bX (he ae s a H _ I h)<|by rintro v c ⟨x,H1,b,d,q1⟩;exact⟨a,H1,b,q1⟩) I.quiet hs
def Ŝ(j:TE):TS:=λD a H=>j a H D.rt
def GI(he:PE X e j):PS X (.Return (U e) pos)<|Ŝ j:=by
 intro ae s a H D I h;exact wpAny_Return_some<|bX (he ae s a H _ I h)<|by rintro v d ⟨x,H1,c,b,q1⟩;exact⟨x,a,H1,c,b,q1⟩
def WJ:TS:=λD _ H=>D.rt .non H
def Lk:PS X (.Return Y pos) WJ:=λ_ _ a H _ I h=>wpAny_Return_none ⟨.non,a,H,I,J,h⟩
def ŝ(c:TT)(t u:TS):TS:=λD a H=>c a H λb H1=>if b=O then t D a H1 else u D a H1
def GJ{a b:Fh}{f:TT}(k:PT X c f)(m:gM X a t)(l:gM X b u):PS X (.If c a b pos)<|ŝ f t u:=by
 intro ae s e H D I h;refine wpAny_If<|bX (k ae s e H _ I h) λd g j=>?_;obtain⟨H1,i,q1⟩:=j;cases d with
 |true=>exact m ae g e H1 D i q1
 |false=>exact l ae g e H1 D i q1
end
abbrev TG:=V->St->Hp->(St->Hp->Prop)->Prop
abbrev PY:=List V->St->Hp->(St->Hp->Prop)->Prop
def PG(X:Cx)(a:cq)(t:TG):Prop:=
 ∀(ae:dG)(s:ag)(c:St)(H:Hp)(v:V)(u:ar)(Q:St->Hp->Prop),Inv X ae c H s->RelV v u->t v c H Q ->
  Kb X (tq a X.env u) (λ_ d=>∃b H',Inv X ae b H' d/\Q b H') X.xe s
def WL(X:Cx)(ts:Bz)(t:PY):Prop:=
 ∀(ae:dG)(s:ag)(b:St)(H:Hp)(c:List V)(d:B2)(Q:St->Hp->Prop),Inv X ae b H s->Vals c d->t c b H Q ->
  Kb X (assignInOrder ((jb ts X.env).map (·.2)) d) (λ_ e=>∃a H',Inv X ae a H' e/\Q a H') X.xe s
abbrev R7:=V->V->V->Hp->(Hp->Prop)->Prop
def WM(X:Cx)(t:R7):Prop:=
 ∀(ae:dG)(s:ag)(a:St)(H:Hp)(o i v:V)(ov b u:ar)(Q:Hp->Prop),Inv X ae a H s->RelV o ov->RelV i b->RelV v u->t o i v H Q ->
  Kb X (setItem ov b u) (λ_ c=>∃H',Inv X ae a H' c/\Q H') X.xe s
abbrev ğ:=V->V->Hp->VK->Prop
def PIp(X:Cx)(op:o7)(t:ğ):Prop:=
 ∀(ae:dG)(s:ag)(a:St)(H:Hp)(x y:V)(v u:ar)(Q:VK),Inv X ae a H s->RelV x v->RelV y u->t x y H Q ->
  Kb X (inplaceOp op v u) (EP X ae a Q) X.xe s
section
variable{X:Cx}
def Ba(i:Nat):TG:=λv a H Q=>Q (a.set i<|U v) H
def uf{x:Str}(d:X.N.Nodup)(b:X.N[i]?=U x)(a:Loc X.env.scope x)(c:J2 X x:=by first|exact .inl J|exact .inr J|assumption):PG X (.Name x pos)<|Ba i:=by
 intro ae s f H v u Q I r h;exact wpAny_assign_Name<|jk I d b a r (λg e=>⟨_,H,e,h⟩) c
def WN:PY:=λb a H Q=>b=[]/\Q a H
def PZ(t:TG)(u:PY):PY:=λc b H Q=>∃v r,c=v::r/\t v b H λa H'=>u r a H' Q
def Ll:WL X [] WN:=by
 intro ae s a H b c Q I r h;obtain⟨e,h⟩:=h;exact assignInOrder_nil ⟨a,H,I,h⟩
def GK{e:cq}{es:Bz}{t:TG}{u:PY}(i:PG X e t)(g:WL X es u)
  (hs:(jb (e::es) X.env).map (·.2)=tq e X.env::(jb es X.env).map (·.2):=by rfl):WL X (e::es)<|PZ t u:=by
 intro ae s b H l n Q I r h;obtain⟨v,m,j,h⟩:=h;subst j;cases r with
 |cons r f=>
  rw[hs];refine assignInOrder_cons<|bX (i ae s b H _ _ _ I r h) λ_ d c=>?_;obtain⟨a,H1,k,q1⟩:=c;exact g ae d a H1 _ _ Q k f q1
def R8(K:bG)(n:Nat)(t:PY):TG:=λv b H Q=>∃a xs,v=.ref a/\kG K H a xs/\xs.length=n/\t xs b H Q
def GL{es:Bz}{k:Nat}{t:PY}{n:Nat}(p:X.calm=O)(h:WL X es t)
  (l:(jb es X.env).length=n:=by rfl) (x:(jb es X.env).findIdx? (·.1)=Y:=by rfl):PG X (.Tuple es k pos)<|R8 X.K n t:=by
 intro ae s d H v u Q I r c;obtain⟨a,xs,q,j,m,c⟩:=c;subst q;cases r;obtain⟨z,f,i,y⟩:=I.tuple j;refine assign_Tuple_tuple (I.ok.hd p) i (by simp[l,<- m,f.length]) x λh' g=>?_
 have w:Inv X ae d H {s with heap:=h'}:=I.kept (t':=s.toks) λb o e=>g b o (eM<|cv e) e
 exact h ae _ d H xs _ Q w (by simpa using f) c
def Ş(to b:TE)(t:R7):TG:=λv a H Q=>to a H λo H1=>b a H1 λi d=>t o i v d λc=>Q a c
def R9(k:PE X o to)(l:PE X i d)(hs:WM X t)
  (m:∀v,tq (.Subscript o i pos) X.env v=(do
   let ov <- sg [v] (fu o X.env)
   let b <- sg [v,ov] (fu i X.env)
   r4 pos
   sg [v,ov,b] (setItem ov b v)
   release [v,ov,b] []):=by intro _;rfl):PG X (.Subscript o i pos)<|Ş to d t:=by
 intro ae s c H v u Q I r h;rw[m];refine ax<|lb<|bX (k ae s c H _ I h) λov e a=>?_;obtain⟨x,H1,q,g,q1⟩:=a;refine ax<|lb<|bX (l ae e c H1 _ q q1) λb s2 a=>?_;obtain⟨y,z,p,f,q2⟩:=a;refine ax<|og<|ax<|lb<|bX (hs ae s2 c z x y v ov b u _ p g f r q2) λ_ A a=>?_;obtain⟨w,n,j⟩:=a;exact wpAny_release ⟨c,w,n,j⟩
def WO(b:TE)(g:TG):TS:=λD a H=>b a H λx H1=>g x a H1 D.nx
def GN{tg e:cq}{b:TE}{g:TG}(he:PE X e b)(j:PG X tg g)(hs:swapsWithSole [tg] e pos.line X.env=pure ZA:=by rfl)(i:tc [tg] e X.env=pure Y:=by rfl)
  (k:(jb [tg] X.env).map (·.2)=[tq tg X.env]:=by rfl):PS X (.Assign [tg] e pos)<|WO b g:=by
 intro ae s a H D I h;refine wpAny_Assign_stores (bX (he ae s a H _ I h) λv d c=>?_) hs i;obtain⟨x,H1,l,f,q1⟩:=c;rw[k];exact bX (j ae d a H1 x v _ l f q1) λ_ s2 q=>q
def lX{x:Str}{a:TE}{b:Pos}(l:X.N.Nodup)(j:X.N[i]?=U x)(g:Loc X.env.scope x)(he:PE X e a)(hs:fv e (U<|.Name x b) pos.line X.env=pure ZA:=by rfl)(k:J2 X x:=by first|exact .inl J|exact .inr J|assumption) :
  PS X (.Assign [.Name x b] e pos)<|WO a<|Ba i:=by
 intro ae s c H D I h;refine wpAny_Assign_Name (bX (he ae s c H _ I h) λv o d=>?_) hs;obtain⟨y,H1,n,f,q1⟩:=d;exact jk n l j g f (λs2 m=>⟨_,H1,m,q1⟩) k
def ş(i:Nat)(c:TE)(b:ğ):TS:=λD a H=>∃x,a[i]?=U (U x)/\c a H λy H1=>b x y H1 λz d=>D.nx (a.set i<|U z) d
def R_{x:Str}{o:TE}(M:X.N.Nodup)(p:X.N[i]?=U x)(g:Loc X.env.scope x)(he:PE X e o)(C:PIp X op n)(K:J2 X x:=by first|exact .inl J|exact .inr J|assumption) :
  PS X (.AugAssign (.Name x Q) op e pos)<|ş i o n:=by
 intro ae s j H D I h;obtain⟨v,P,h⟩:=h;obtain⟨m,E,G⟩:=I.loc;have R:mX X.env.scope x:=by rcases g with k|k;exact .inl k;exact .inr<|.inl k
 obtain⟨u,r,l⟩:=G i x v p P R;apply wpAny_AugAssign_Name;have go:Kb X (fu e X.env) (λw d=>Kb X (inplaceOp op u w) (λr b=>Kb X (storeName X.env x r) (λ_=>SP X ae D .next) X.xe b) X.xe d) X.xe s:=by
  refine bX (he ae s j H _ I h) λw q f=>?_;obtain⟨y,H1,V,B,q1⟩:=f;refine bX (C ae q j H1 v y u w _ V r B q1) λz s2 f=>?_;obtain⟨Z,W,T,t,q2⟩:=f;exact jk T M p g t (λs3 S=>⟨_,W,S,q2⟩) K
 rcases l with⟨hk,F⟩|⟨hk,c,L,a⟩
 .exact wpAny_loadName_local I.ok.kind hk E F go
 .rcases hk with hk|hk
  .exact wpAny_loadName_cell I.ok.kind hk L a go
  .rcases g with k|k
   .have:X.env.scope.names.lookup x=U .free:=hk
    rw[k]at this;cases this
   .have:X.env.scope.names.lookup x=U .free:=hk
    rw[k]at this;cases this
def ipI(f:Int->Int->Int):ğ:=λx y H Q=>∃i j,x=.int i/\y=.int j/\Q (.int<|f i j) H
def Sa:PIp X .Add<|ipI λi j=>i+j:=by
 intro ae s e H x y v u Q I b a h;obtain⟨i,j,d,c,q⟩:=h;subst d;subst c;obtain⟨t,rfl⟩:=b;obtain⟨f,rfl⟩:=a;exact iadd_int ⟨.int _,H,I.tok _,⟨_,J⟩,q⟩
end
def Sb(c:TT)(tb:TS):TS:=λD a H=>∃W:Nat->St->Hp->Prop,(∃m,W m a H)/\∀m a H,W m a H ->
 c a H λb H1=>if b=O then ∃N:St->Hp->Prop,(∀d H',N d H'->∃e,e<m/\W e d H')/\tb {D with nx:=N,ct:=N,bk:=D.nx} a H1 else D.nx a H1
def wo{e:Fh}(t:n9 (cx X.prog X.w) X.A X.env X.xe)(K:PT X c r)(L:gM X e tb):PS X (.While c e [] pos)<|Sb r tb:=by
 intro ae s z H D I h;obtain⟨W,⟨m0,E⟩,i⟩:=h;refine wpAny_While<|codeAny_whileLoop (λn G=>∃g H',Inv X ae g H' G/\W n g H') ?_ m0 ⟨z,H,I,E⟩
 rintro n F ⟨d,H1,M,C⟩
 refine kd t<|bX (K ae F d H1 _ M<|i n d H1 C) λb s2 B=>?_;obtain⟨y,x,q2⟩:=B;cases b with
 |true=>
  obtain⟨N,u,q2⟩:=q2;refine kd t<|bX (L ae s2 d y _ x q2) λf P k=>?_;cases f with
  |next=>
   obtain⟨a,j,q,m⟩:=k;obtain⟨o,p,l⟩:=u a j m;exact⟨o,p,a,j,q,l⟩
  |cont=>
   obtain⟨a,j,q,m⟩:=k;obtain⟨o,p,l⟩:=u a j m;exact⟨o,p,a,j,q,l⟩
  |brk=>exact k
  |ret v=>exact k
 |false=>
  exact hW ⟨d,y,x,q2⟩
structure It where
 go:Nat->Hp->Prop
 yld:Nat->Hp->V->Hp->Prop
 stop:Nat->Hp->Prop
def o9(X:Cx)(ae:dG)(H:Hp)(b:bp):Prop:=
 H b=Y/\b≠X.env.locals/\b∉X.fs/\(b∈X.ex\/X.s₀.heap.objs.size<=b)/\(∀x c,X.env.cells.lookup x=U c->c≠b)/\∀p∈X.pn++ae,p.1≠b
def Inv.ug{b:bp}(I:Inv X ae d H s)(a:s.heap.objs.size<=b)(g:H' b=Y):o9 X ae H' b:=by
 refine⟨g,DC<|fB I.lt a,I.ŕ a,.inr<|c_ I.sz a,λx c e z=>?_,λp f z=>?_⟩
 .obtain⟨v,q⟩:=I.cell x c e
  exact dw (fB q.lt<|z▸a)<|qZ _
 .exact dw (fB (cv (I.pin p f).1)<|z▸a)<|qZ _
structure Turn(P:c4)(w:da)(K:bG)(tg:cq)(a:It)(fp:BM)(it:bp)(tn:Nat->eI->Prop):Prop where
 mem:it∈fp
 obj:∀i h,tn i h->∀b∈fp,∃o,h.get? b=U o/\∀v,o.data≠.cell v
 keep:∀i h h',tn i h->(∀b∈fp,∀o,h.get? b=U o->h'.get? b=U o)->tn i h'
 item:∀(X:Cx),X.prog=P->X.w=w->X.K=K->X.calm=O->∀(i:Nat)(ae:dG)(s:ag)(σ:St)(H:Hp)(E:Jn),Inv X ae σ H s->(∀b∈fp,o9 X ae H b)->tn i s.heap->a.go i H ->
  cC (cx P w) X.A (pyNext<|.ref it) (λr s1=>∃u,r=U u /\
   cC (cx P w) X.A (q0 tg (.ref it) u) (λ_ s2=>∃x H',Inv X ae σ H' s2/\RelV x u/\a.yld i H x H'/\tn (i+1) s2.heap/\∀b∈fp,H' b=Y) E s1) E s
 done:∀(X:Cx),X.prog=P->X.w=w->X.K=K->X.calm=O->∀(i:Nat)(ae:dG)(s:ag)(σ:St)(H:Hp)(E:Jn),Inv X ae σ H s->(∀b∈fp,o9 X ae H b)->tn i s.heap->a.stop i H ->
  cC (cx P w) X.A (pyNext<|.ref it) (λr s1=>r=Y/\Inv X ae σ H s1) E s
 self:∀(A:ew)(i:Nat)(s:ag)(Q:Jn)(E:Jn),tn i s.heap->Q (.ref it) s->cC (cx P w) A (pyIter<|.ref it) Q E s
abbrev TI:=St->Hp->(It->Hp->Prop)->Prop
def PIE(X:Cx)(ae:dG)(d:St)(tg:cq)(R:It->Hp->Prop)(Š:ar)(s2:ag):Prop:=
 ∃(it:bp)(c:BM)(a:Nat->eI->Prop)(e:It)(H':Hp),Š=.ref it/\Inv X ae d H' s2/\Turn X.prog X.w X.K tg e c it a/\a 0 s2.heap/\(∀b∈c,o9 X ae H' b)/\R e H'
def PI(X:Cx)(tg a:cq)(c:TI):Prop:=
 ∀(ae:dG)(s:ag)(b:St)(H:Hp)(R:It->Hp->Prop),Inv X ae b H s->c b H R ->
  Kb X (fu a X.env) (λv d=>Kb X (pyIter v) (PIE X ae b tg R) X.xe d) X.xe s
def wu{o:Obj}(b:s.heap.get? it=U o)(d:o.cls=.type n)(hd:o.data=.fields vs)
  (c:["enumerate","zip","dict_itemiterator","dict_reverseitemiterator","odict_iterator","itertools.zip_longest","itertools.pairwise"].contains n=ZA) (a:Q () s):cC M A (q0 tg (.ref it) u) Q E s:=by
 unfold q0;cases tg<;>first
  |exact dv a
  | (cases u<;>first
    |exact dv a
    | (refine ax<|wpAny_load b ?_
       rw[d,hd];show cC M A (if(["enumerate","zip","dict_itemiterator","dict_reverseitemiterator","odict_iterator","itertools.zip_longest","itertools.pairwise"].contains n&&vs[0]? == U (qr _))=O then _ else _) Q E s
       rw[b0 (by intro h;rw[c,F3]at h;cases h)]
       exact dv a))
def Ġ(K:bG)(a:bp):It:=
 ⟨λi H=>∃xs x,dW K H a xs/\xs[i]?=U x,λi H x H'=>H'=H/\∀xs,dW K H a xs->xs[i]?=U x,λi H=>∃xs,dW K H a xs/\xs.length<=i⟩
def š(K:bG)(a:bp):It:=
 ⟨λi H=>∃xs x,kG K H a xs/\xs[i]?=U x,λi H x H'=>H'=H/\∀xs,kG K H a xs->xs[i]?=U x,λi H=>∃xs,kG K H a xs/\xs.length<=i⟩
def WR(lo:Int)(n:Nat):It:=⟨λi _=>i<n,λi H x H'=>H'=H/\x=.int (lo+i),λi _=>n<=i⟩
def DQ{K:bG}(a it:bp):Turn P w K tg (Ġ K a) [it] it λi h=>h.IsListIter it a i where
 mem:=by simp
 obj:=λi h st b f=>by
  have e:=by simpa using f
  subst e;obtain⟨o,e,c,d⟩:=st;exact⟨o,e,λv z=>by rw[d]at z;cases z⟩
 keep:=λi h h' st k=>st.at λo e=>k it (by simp) o e
 item:=by
  intro X r n t L i ae s F H E I j st q;subst r n t;obtain⟨xs,x,g,m⟩:=q;obtain⟨W,l,p,Q⟩:=I.list g;obtain⟨u,S,N⟩:=l.get m;obtain⟨D,C,T,B,A,y⟩:=j it (by simp)
  refine wpAny_pyNext_list_item st p.isList (by simpa using S) λh' G M=>?_
  have Z:=I.turned (t':=s.toks) (λb o f e=>(M.2 b f).trans e) D C B A y
  obtain⟨o,e,c,d⟩:=id G;exact⟨u,J,wu e c d (by rfl) ⟨x,H,Z,N,⟨J,λys R=>(I.GG R g)▸m⟩,G,λb f=>(j b f).1⟩⟩
 done:=by
  intro X r n t L i ae s F H E I j st q;subst r n t;obtain⟨xs,g,m⟩:=q;obtain⟨W,l,p,Q⟩:=I.list g;obtain⟨D,C,T,B,A,y⟩:=j it (by simp)
  have hl:=l.length;exact wpAny_pyNext_list_end (I.ok.hd L) st p.isList (by simp;lia) λh' V=>⟨J,I.turned (λb o f e=>V b o f e) D C B A y⟩
 self:=λ_ _ _ _ _ st h=>wpAny_pyIter_listiter st h
def yZ{K:bG}(a it:bp):Turn P w K tg (š K a) [it] it λi h=>h.IsTupleIter it a i where
 mem:=by simp
 obj:=λi h st b f=>by
  have e:=by simpa using f
  subst e;obtain⟨o,e,c,d⟩:=st;exact⟨o,e,λv z=>by rw[d]at z;cases z⟩
 keep:=λi h h' st k=>st.at λo e=>k it (by simp) o e
 item:=by
  intro X r n t M i ae s G H E I j st q;subst r n t;obtain⟨xs,x,g,m⟩:=q;obtain⟨F,l,p,R⟩:=I.tuple g;obtain⟨u,T,Q⟩:=l.get m;obtain⟨D,C,V,B,A,y⟩:=j it (by simp)
  refine wpAny_pyNext_tuple_item st (p) (by simpa using T) λh' L N=>?_
  have Z:=I.turned (t':=s.toks) (λb o f e=>(N.2 b f).trans e) D C B A y
  obtain⟨o,e,c,d⟩:=id L;exact⟨u,J,wu e c d (by rfl) ⟨x,H,Z,Q,⟨J,λys S=>(I.lW S g)▸m⟩,L,λb f=>(j b f).1⟩⟩
 done:=by
  intro X r n t M i ae s G H E I j st q;subst r n t;obtain⟨xs,g,m⟩:=q;obtain⟨F,l,p,R⟩:=I.tuple g;obtain⟨D,C,V,B,A,y⟩:=j it (by simp)
  have hl:=l.length;exact wpAny_pyNext_tuple_end (I.ok.hd M) st (p) (by simp;lia) λh' W=>⟨J,I.turned (λb o f e=>W b o f e) D C B A y⟩
 self:=λ_ _ _ _ _ st h=>wpAny_pyIter_tupleiter st h
def y9{K:bG}(it:bp)(lo:Int)(n:Nat):Turn P w K tg (WR lo n) [it] it λi h=>w6 h it (lo+(i:Nat)*1) ((n:Int)-(i:Nat)) 1 where
 mem:=by simp
 obj:=λi h st b a=>by
  have e:=by simpa using a
  subst e;exact⟨_,st,λv z=>by
   have A:=z;cases A⟩
 keep:=λi h h' st k=>k it (by simp) _ st
 item:=by
  intro X j d l g i ae s x H E I c st f;subst j d l;obtain⟨u,r,D,q,p,m⟩:=c it (by simp)
  have W:=Walks.range (prog:=X.prog) (w:=X.w) (I.ok.hd g) it lo 1 n;refine W.item i s _ _ f st λv h' tk C y B=>?_;obtain⟨t,rfl⟩:=C;have G:Inv X ae x H {s with heap:=h',toks:=tk}:=I.turned (λb o a e=>B b o (by simpa using a) e) u r q p m
  refine⟨_,J,wu y J J (by rfl) ⟨.int _,H,G,⟨t,?_⟩,⟨J,J⟩,y,λb a=>(c b a).1⟩⟩
  simp
 done:=by
  intro X j d l g i ae s x H E I c st f;obtain⟨u,r,D,q,p,m⟩:=c it (by simp)
  exact F1 (I.ok.hd g) st (by have:n<=i:=f;lia) λh' F=>⟨J,I.turned (λb o a e=>F b o a e) u r q p m⟩
 self:=λ_ _ _ _ _ st h=>F2 st h
def WS(K:bG)(c:TE):TI:=λb H R=>c b H λx H1=>∃a,x=.ref a/\(∃xs,dW K H1 a xs)/\R (Ġ K a) H1
def Ţ(K:bG)(c:TE):TI:=λb H R=>c b H λx H1=>∃a,x=.ref a/\(∃xs,kG K H1 a xs)/\R (š K a) H1
def Lm(k:PE X l d):PI X tg l<|WS X.K d:=by
 intro ae s f H R I h;refine bX (k ae s f H _ I h) λv c g=>?_;obtain⟨x,H1,I1,i,q1⟩:=g;obtain⟨a,e,⟨xs,j⟩,q⟩:=q1;subst e;cases i;obtain⟨t,n,p,r⟩:=I1.list j;refine kl p.isList ?_;refine⟨c.heap.objs.size,[c.heap.objs.size],_,_,H1,J,I1.kept λb o e=>av _ e,DQ a _,⟨_,c3 _ J,J,J⟩,λb m=>?_,q⟩;have e:=by simpa using m
 subst e;exact I1.ug (bL _)<|I1.bz.fresh<|bL _
def Sd(k:PE X l d):PI X tg l<|Ţ X.K d:=by
 intro ae s f H R I h;refine bX (k ae s f H _ I h) λv c g=>?_;obtain⟨x,H1,I1,i,q1⟩:=g;obtain⟨a,e,⟨xs,j⟩,q⟩:=q1;subst e;cases i;obtain⟨n,r,p,t⟩:=I1.tuple j;refine wpAny_pyIter_tuple (p) ?_;refine⟨c.heap.objs.size,[c.heap.objs.size],_,_,H1,J,I1.kept λb o e=>av _ e,yZ a _,⟨_,c3 _ J,J,J⟩,λb m=>?_,q⟩;have e:=by simpa using m
 subst e;exact I1.ug (bL _)<|I1.bz.fresh<|bL _
def wy{lo a:Int}(I:Inv X ae c H s)(i:-(2^62)<=lo)(h:lo<2^62)(g:-(2^62)<=a)(f:a<2^62)
  (q:R (WR lo (a-lo).toNat) H):Kb X (pyIter<|.ref s.heap.objs.size) (PIE X ae c tg R) E {s with heap:=s.heap.push {cls:=.type "range",data:=.fields #[.int lo t,.int a u,.int 1 v]},toks:=tk}:=by
 refine wpAny_pyIter_range (IsRange.new ..) (small_one i h g f) ?_;have I1:Inv X ae c H {s with heap:=s.heap.push {cls:=.type "range",data:=.fields #[.int lo t,.int a u,.int 1 v]},toks:=tk}:=I.kept λb o e=>av _ e
 refine⟨(s.heap.push _).objs.size,[(s.heap.push _).objs.size],_,_,H,J,
  I1.kept λb o e=>av _ e,y9 _ lo _,?_,λb d=>?_,q⟩
 .have k:lo+((0:Nat))*1=lo:=by simp
  have j:(((a-lo).toNat))-((0:Nat))=kf lo a 1:=by rw[rangeSize_one];lia
  show w6 _ _ (lo+((0:Nat))*1) ((((a-lo).toNat))-((0:Nat))) 1;rw[k,j];exact c3 _ J
 .have e:b=(s.heap.push {cls:=.type "range",data:=.fields #[.int lo t,.int a u,.int 1 v]}).objs.size:=by simpa using d
  subst e;exact I1.ug (bL _)<|I1.bz.fresh<|bL _
def WT(c:TA):TI:=λa H R=>c a H λb H1=>∃j:Int,b=[.int j]/\-(2^62)<=j/\j<2^62/\R (WR 0 j.toNat) H1
def WU(c:TA):TI:=λa H R=>c a H λb H1=>∃i j:Int,b=[.int i,.int j]/\(-(2^62)<=i/\i<2^62/\-(2^62)<=j/\j<2^62)/\R (WR i (j-i).toNat) H1
def DR{a:cq}{b:TA}(k:Gl X "range")(i:X.mg "range" = Y)(l:PA X [a] b)(hs:c5 [a] X.env=[(ZA,fu a X.env)]:=by rfl):PI X tg (.Call (.Name "range" p) [a] [] pos)<|WT b:=by
 intro ae s c H R I h;refine Call_<|iO I k i boot_range<|DL (bX (l pos ae s c H _ I h) λo u d=>?_) hs J;obtain⟨n,H1,m,g,q1⟩:=d;obtain⟨j,e,q1,q2,q⟩:=q1;subst e;cases g with
 |cons r f=>
  cases f;obtain⟨t,rfl⟩:=r;exact call_range_1<|wy m (by lia) (by lia) q1 q2<|by simpa using q
def DS{a b:cq}(u:Gl X "range")(o:X.mg "range" = Y)(v:PA X [a,b] d)(hs:c5 [a,b] X.env=[(ZA,fu a X.env),(ZA,fu b X.env)]:=by rfl)(f:c5 [b] X.env=[(ZA,fu b X.env)]:=by rfl) :
  PI X tg (.Call (.Name "range" p) [a,b] [] pos)<|WU d:=by
 intro ae s g H R I h;refine Call_<|iO I u o boot_range<|DL (bX (v pos ae s g H _ I h) λy A k=>?_) (by rw[hs,f])<|by rw[f];rfl
 obtain⟨x,H1,w,l,q1⟩:=k;obtain⟨i,j,e,⟨q1,q2,n,q4⟩,q⟩:=q1;subst e;cases l with
 |cons r c=>
  cases c with
  |cons m c=>
   cases c;obtain⟨t,rfl⟩:=r;obtain⟨z,rfl⟩:=m;exact call_range_2<|wy w q1 q2 n q4 q
def ţ(e:TI)(g:TG)(tb:TS):TS:=λD a H=>e a H λh H1=>∃W:Nat->Nat->St->Hp->Prop,(∃m,W 0 m a H1)/\∀i m a H,W i m a H ->
 (h.stop i H/\D.nx a H)\/(h.go i H/\∃N:St->Hp->Prop,(∀b H',N b H'->∃d,d<m/\W (i+1) d b H')/\∀x H',h.yld i H x H'->g x a H' λc f=>tb {D with nx:=N,ct:=N,bk:=D.nx} c f)
def o_(a:BM)(h:eI):dG:=a.filterMap λb=>(h.get? b).map λo=>(b,o)
def iQ{a:BM}{b:bp}{o:Obj}(c:b∈a)(e:h.get? b=U o):(b,o)∈o_ a h:=DG.mpr ⟨b,c,by rw[e];rfl⟩
def DT{a:BM}{p:bp×Obj}(c:p∈o_ a h):p.1∈a/\h.get? p.1=U p.2:=by
 obtain⟨b,d,e⟩:=DG.mp c;cases q:h.get? b with
 |none=>rw[q]at e;cases e
 |some o=>
  rw[q]at e;have e':=kM.inj e;subst e';exact⟨d,q⟩
def Inv.pinned{a:BM}(I:Inv X ae c H s)(i:∀b∈a,o9 X ae H b)(h:∀b∈a,∃o,s.heap.get? b=U o/\∀v,o.data≠.cell v):Inv X (ae++o_ a s.heap) c H s:=
 I.A_ λp g=>(eO.mp g).elim (λz=>I.pin p<|ji _ z) λz=>by
  obtain⟨f,e⟩:=DT z;obtain⟨l,k,j,_⟩:=i _ f;obtain⟨o,e',d⟩:=h _ f;rw[e]at e';cases e';exact⟨e,l,k,j,d⟩
def Inv.kT{a:St}(I:Inv X (ae++pl) a H s):Inv X ae a H s:=I.A_ λp b=>I.pin p<|ji _<|lR _ b
def GO{V:TI}(E:n9 (cx X.prog X.w) X.A X.env X.xe)(hc:X.calm=O)(hi:PI X tg k V)(hg:PG X tg g)(l:gM X t tb)
  (hs:∀x,fC k X.env x=pure x:=by intro _;rfl):PS X (.For tg k t [] pos)<|ţ V g tb:=by
 intro ae s S H D I h;refine wpAny_For (bX (hi ae s S H _ I h) λv s1 h1=>bX h1 λŠ s2 h2=>?_) hs;obtain⟨it,G,Z,qD,H2,e,I2,T,WV,f2,W,⟨m0,w0⟩,z⟩:=h2;subst e;have M:∀{H':Hp},(∀b∈G,H' b=Y)->∀b∈G,o9 X ae H' b:=λhn b l=>⟨hn b l,(f2 b l).2⟩;refine codeAny_forLoop_any (λn s'=>∃i j H',Inv X ae j H' s'/\Z i s'.heap/\(∀b∈G,H' b=Y)/\W i n j H') ?_ m0 ⟨0,S,H2,I2,WV,λb l=>(f2 b l).1,w0⟩
 rintro n s3 ⟨i,c,K,I3,B,F,w3⟩
 rcases z i n c K w3 with⟨stop,qn⟩|⟨go,N,hN,step⟩
 .refine kd E<|bX (T.done X J J J hc i ae s3 c K X.xe I3 (M F) B stop) λr s4 y=>?_
  obtain⟨hr,I4⟩:=y;subst hr;exact hW ⟨c,K,I4,qn⟩
 .refine kd E<|bX (T.item X J J J hc i ae s3 c K X.xe I3 (M F) B go) λr s4 y=>?_
  obtain⟨u,hr,h4⟩:=y;subst hr;refine kd E<|bX h4 λ_ s5 y=>?_;obtain⟨x,H5,I5,r5,y5,Q,ġ⟩:=y;have R:=I5.pinned (M ġ)<|T.obj _ _ Q;refine kd E<|bX (hg _ s5 c H5 x u _ R r5<|step x H5 y5) λ_ s6 y=>?_;obtain⟨L,H6,I6,q6⟩:=y;refine kd E<|bX (l _ s6 L H6 _ I6 q6) λf P q7=>?_;have again:∀{a:St}{q:Hp},Inv X (ae++o_ G s5.heap) a q P->N a q->∃m,m<n/\∃i j H',Inv X ae j H' P/\Z i P.heap/\(∀b∈G,H' b=Y)/\W i m j H':=λ{a q} p C=>by
   obtain⟨m',hm,w7⟩:=hN a q C;refine⟨m',hm,i+1,a,q,p.kT,T.keep _ _ _ Q λb l o e=>(p.pin (b,o)<|ji _<|ji _<|iQ l e).1,λb l=>?_,w7⟩;obtain⟨o,e,d⟩:=T.obj _ _ Q b l;exact(p.pin (b,o)<|ji _<|ji _<|iQ l e).2.1
  cases f with
  |next=>obtain⟨a,q,p,C⟩:=q7;exact again p C
  |cont=>obtain⟨a,q,p,C⟩:=q7;exact again p C
  |brk=>obtain⟨a,q,p,q7⟩:=q7;exact⟨a,q,p.kT,q7⟩
  |ret v=>obtain⟨x7,a,q,p,r7,q7⟩:=q7;exact⟨x7,a,q,p.kT,r7,q7⟩
abbrev R2:=V->V->Hp->VK->Prop
def hU(X:Cx)(f:ar->ar->Sem ar)(r:R2):Prop:=
 ∀(ae:dG)(s:ag)(a:St)(H:Hp)(x y:V)(v u:ar)(Q:VK),Inv X ae a H s->RelV x v->RelV y u->r x y H Q ->
  Kb X (f v u) (EP X ae a Q) X.xe s
def Ģ(X:Cx)(f:ar->Sem ar)(r:V->Hp->VK->Prop):Prop:=
 ∀(ae:dG)(s:ag)(a:St)(H:Hp)(x:V)(v:ar)(Q:VK),Inv X ae a H s->RelV x v->r x H Q ->
  Kb X (f v) (EP X ae a Q) X.xe s
def fT(X:Cx)(f:ar)(r:List V->Hp->VK->Prop):Prop:=
 ∀(ae:dG)(s:ag)(a:St)(H:Hp)(xs:List V)(b:B2)(Q:VK),Inv X ae a H s->Vals xs b->r xs H Q ->
  Kb X (call f b) (EP X ae a Q) X.xe s
def Ť(X:Cx)(r:V->Hp->(Bool->Hp->Prop)->Prop):Prop:=
 ∀(ae:dG)(s:ag)(a:St)(H:Hp)(x:V)(v:ar)(Q:Bool->Hp->Prop),Inv X ae a H s->RelV x v->r x H Q ->
  Kb X (truthy v) (TP X ae a Q) X.xe s
def P0(r:R2)(b tb:TE):TE:=λa H Q=>b a H λx H1=>tb a H1 λy c=>r x y c Q
def tUn(r:V->Hp->VK->Prop)(b:TE):TE:=λa H Q=>b a H λx H1=>r x H1 Q
def rI(C:Int->Int->Prop)(g:Int->Int->V):R2:=λx y H Q=>∃i j,x=.int i/\y=.int j/\C i j/\Q (g i j) H
def Fb(g:Int->Int->V):R2:=λx y H Q=>∃i j,x=.int i/\y=.int j/\Q (g i j) H
def rU(g:Int->V):V->Hp->VK->Prop:=λx H Q=>∃i,x=.int i/\Q (g i) H
section
variable{a c:cq}
def Se(o:PE X a t)(n:PE X b tb){c:St}{R:V->V->Hp->Prop}(I:Inv X ae c H s)
  (h:t c H λx H1=>tb c H1 λy d=>R x y d)  {f:ar->ar->Sem ar}
  (m:∀v u s2 x y d,Inv X ae c d s2->RelV x v->RelV y u->R x y d->Kb X (f v u) Q X.xe s2) :
  Kb X (fu a X.env) (λv g=>Kb X (fu b X.env) (λu e=>Kb X (f v u) Q X.xe e) X.xe g) X.xe s:=by
 refine bX (o ae s c H _ I h) λv j i=>?_;obtain⟨x,H1,q,l,q1⟩:=i;refine bX (n ae j c H1 _ q q1) λu s2 i=>?_;obtain⟨y,d,p,k,q2⟩:=i;exact m v u s2 x y d p l k q2
def r8(f:hU X (nL op) r)(i:PE X a t)(g:PE X b tb):PE X (.BinOp a op b pos)<|P0 r t tb:=by
 intro ae s c H Q I h;exact wpAny_BinOp<|Se i g I h λv u s2 x y k j e d q=>f ae s2 c k x y v u Q j e d q
def WW(e:Ģ X (unaryOp op) r)(f:PE X a t):PE X (.UnaryOp op a pos)<|tUn r t:=by
 intro ae s b H Q I h;exact UnaryOp_<|bX (f ae s b H _ I h)<|by rintro v c ⟨x,H1,g,d,q1⟩;exact e ae c b H1 x v Q g d q1
def ť{f:ar->ar->Sem ar}{C:Int->Int->Prop}{g:Int->Int->Int}
  (rule:∀(i j:Int)(t u:Tok)(s:ag)(Q:Jn)(E:Jn),C i j->Q (.int (g i j) s.toks) {s with toks:=s.toks+1}->Kb X (f (.int i t)<|.int j u) Q E s) :
  hU X f<|rI C λi j=>.int<|g i j:=by
 intro ae s e H x y v u Q I c b h;obtain⟨i,j,rfl,rfl,d,q⟩:=h;obtain⟨t,rfl⟩:=c;obtain⟨a,rfl⟩:=b;exact rule i j t a s _ _ d ⟨.int _,H,I.tok _,⟨_,J⟩,q⟩
def WY{f:ar->ar->Sem ar}{g:Int->Int->Int}
  (rule:∀(i j:Int)(t u:Tok)(s:ag)(Q:Jn)(E:Jn),Q (.int (g i j) s.toks) {s with toks:=s.toks+1}->Kb X (f (.int i t)<|.int j u) Q E s) :
  hU X f<|Fb λi j=>.int<|g i j:=by
 intro ae s d H x y v u Q I c b h;obtain⟨i,j,rfl,rfl,q⟩:=h;obtain⟨t,rfl⟩:=c;obtain⟨a,rfl⟩:=b;exact rule i j t a s _ _ ⟨.int _,H,I.tok _,⟨_,J⟩,q⟩
def Lo{f:ar->ar->Sem ar}{g:Int->Int->Bool}
  (rule:∀(i j:Int)(t u:Tok)(s:ag)(Q:Jn)(E:Jn),Q (.bool<|g i j) s->Kb X (f (.int i t)<|.int j u) Q E s) :
  hU X f<|Fb λi j=>.bl<|g i j:=by
 intro ae s d H x y v u Q I c b h;obtain⟨i,j,rfl,rfl,q⟩:=h;obtain⟨t,rfl⟩:=c;obtain⟨a,rfl⟩:=b;exact rule i j t a s _ _ ⟨.bl _,H,I,J,q⟩
def WZ(i j:Int):Prop:=0<j/\j<1073741824
def abx(i j:Int):Prop:=0<=j/\j<=1000000/\i.natAbs<2^64
def Sf(i j:Int):Prop:=(-(2^64)<i/\i<2^64)\/(-(2^64)<j/\j<2^64)
def Sf.ok(h:Sf i j):IntMulOk i j:=by
 rcases h with⟨b,a⟩|⟨b,a⟩
 .exact .of_left<|intBits_le_64 b a
 .exact .of_right<|intBits_le_64 b a
def Sg:hU X (nL .Add)<|Fb λi j=>.int<|i+j:=WY λ_ _ _ _ _ _ _ q=>add_int q
def Sh:hU X (nL .Sub)<|Fb λi j=>.int<|i-j:=WY λ_ _ _ _ _ _ _ q=>sub_int q
def Lp:hU X (nL .FloorDiv)<|rI WZ λi j=>.int<|i/j:=ť λi j _ _ _ _ _ a q=>by
 have c:=a.1;have b:=a.2;exact floordiv_int (by lia) (by rw[Int.fdiv_eq_ediv_of_nonneg i<|by lia];exact q)<|.inl<|vT<|by lia
def Si:hU X (nL .Mod)<|rI (λ_ j=>0<j) λi j=>.int<|i % j:=ť λi j _ _ _ _ _ a q=>by
 have b:=a;exact mod_int' (by lia) (by rw[Int.fmod_eq_emod_of_nonneg i<|by lia];exact q)
def unI{f:ar->Sem ar}{g:Int->Int}
  (rule:∀(i:Int)(t:Tok)(s:ag)(Q:Jn)(E:Jn),Q (.int (g i) s.toks) {s with toks:=s.toks+1}->Kb X (f<|.int i t) Q E s) :
  Ģ X f<|rU λi=>.int<|g i:=by
 intro ae s b H x v Q I a h;obtain⟨i,rfl,q⟩:=h;obtain⟨t,rfl⟩:=a;exact rule i t s _ _ ⟨.int _,H,I.tok _,⟨_,J⟩,q⟩
def Sj:Ģ X (unaryOp .USub)<|rU λi=>.int<|-i:=unI λ_ _ _ _ _ q=>neg_int q
def uh:Ģ X (unaryOp .Invert)<|rU λi=>.int<|Builtin.bitNot i:=unI λ_ _ _ _ _ q=>invert_int q
end
section
variable{a c:cq}
def jl{a:St}(I:Inv X ae a H s)(q:Q (.bl k) H)(e:k=k'):EP X ae a Q (.bool k') s:=by
 subst e;exact⟨.bl k,H,I,J,q⟩
def W0:hU X (eJ .Lt)<|Fb λi j=>.bl<|decide<|i<j:=Lo λ_ _ _ _ _ _ _ q=>lt_int q
def W2:hU X (eJ .LtE)<|Fb λi j=>.bl<|decide<|i<=j:=Lo λ_ _ _ _ _ _ _ q=>le_int q
def W3:hU X (eJ .Gt)<|Fb λi j=>.bl<|decide<|j<i:=Lo λ_ _ _ _ _ _ _ q=>gt_int q
def W5:hU X (eJ .GtE)<|Fb λi j=>.bl<|decide<|j<=i:=Lo λ_ _ _ _ _ _ _ q=>ge_int q
def DU:hU X (eJ .In) λx y H Q=>∃i j,x=.str i/\y=.str j/\Q (.bl<|!(ey j i 0 j.length 1).isEmpty) H:=by
 intro ae s c H x y v u Q I b a h;obtain⟨i,j,rfl,rfl,q⟩:=h;obtain⟨t,rfl⟩:=b;obtain⟨d,rfl⟩:=a;exact in_str<|jl I q J
def Sk:hU X (eJ .Is) λx y H Q=>y=.non/\Q (.bl<|decide<|x=.non) H:=by
 intro ae s c H x y v u Q I a b h;obtain⟨rfl,q⟩:=h;cases b;refine is_none_gen<|jl I q ?_;cases x<;>first
  |(obtain⟨t,rfl⟩:=a;rfl)
def Lq:hU X (eJ .IsNot) λx y H Q=>y=.non/\Q (.bl<|!decide (x=.non)) H:=by
 intro ae s c H x y v u Q I a b h;obtain⟨rfl,q⟩:=h;cases b;refine isnot_none_gen<|jl I q ?_;cases x<;>first
  |(obtain⟨t,rfl⟩:=a;rfl)
def um:hU X (eJ .NotIn) λx y H Q=>∃i j,x=.str i/\y=.str j/\Q (.bl<|!(!(ey j i 0 j.length 1).isEmpty)) H:=by
 intro ae s c H x y v u Q I b a h;obtain⟨i,j,rfl,rfl,q⟩:=h;obtain⟨t,rfl⟩:=b;obtain⟨d,rfl⟩:=a;exact notIn_str<|jl I q J
def hU.or{f:ar->ar->Sem ar}{r d:R2}(h:hU X f r)(h':hU X f d):hU X f λx y H Q=>r x y H Q\/d x y H Q:=by
 intro ae s a H x y v u Q I c b q;rcases q with q|q
 .exact h ae s a H x y v u Q I c b q
 .exact h' ae s a H x y v u Q I c b q
def oj(f:hU X (eJ op) r)(j:PE X a F)(i:PE X b tb)(g:fA op b=ZA):PE X (.Compare a [op] [b] pos)<|P0 r F tb:=by
 intro ae s c H Q I h;exact wpAny_Compare1 (Se j i I h λv u s2 x y l k e d q=>f ae s2 c l x y v u Q k e d q) g
def W6(t:TE):TT:=λa H Q=>t a H λx H'=>∃k,x=.bl k/\Q k H'
def kU(m:hU X (eJ op) r)(p:PE X a F)(o:PE X b tb)(n:fA op b=ZA):PT X (.Compare a [op] [b] pos)<|W6<|P0 r F tb:=by
 intro ae s d H Q I h;refine H9 (bX (p ae s d H _ I h) λv f ⟨x,H1,w,j,q1⟩=>bX (o ae f d H1 _ w q1) λu s2 ⟨y,B,t,i,q2⟩=>
  bX (m ae s2 d B x y v u _ t j i q2) λc C ⟨z,A,q,g,k,e,l⟩=>?_) n
 subst e;cases g;exact h9 ⟨A,q,l⟩
def Sl(K:bG)(x:V)(H:Hp)(k:Bool):Prop:=
 match x with
 |.non=>k=ZA
 |.bl b=>k=b
 |.int i=>k=(i != 0)
 |.str y=>y.length<=cw/\k=((y.length:Int) != 0)
 |.byt y=>y.size<=cw/\k=((y.size:Int) != 0)
 |.ref p=>(∃xs,dW K H p xs/\k=!xs.isEmpty)\/(∃xs,kG K H p xs/\k=!xs.isEmpty)\/∃a,H p=U (.dK a)/\k=!a.isEmpty
 |_=>False
def za{a:Type}{kvs:List<|a×V}{vs:List<|a×ar}(r:KV kvs vs):(!vs.isEmpty)=!kvs.isEmpty:=by
 cases r<;>rfl
def pe{a:B2}(r:Vals xs a):(!a.toArray.isEmpty)=!xs.isEmpty:=by
 cases r<;>simp
def lY:(cw:Nat)<2^63:=by decide
def Sm:Ť X λx H Q=>∃k,Sl X.K x H k/\Q k H:=by
 intro ae s z H x v Q I c h;obtain⟨k,e,q⟩:=h;have A:=lY;have hs:cw=16777216:=et;cases x with
 |non=>
  cases c;have e':k=ZA:=e;subst e';exact truthy_none ⟨H,I,q⟩
 |bl b=>
  cases c;have e':k=b:=e;subst e';exact h9 ⟨H,I,q⟩
 |int i=>
  obtain⟨t,rfl⟩:=c;have e':k=(i != 0):=e;subst e';exact PySem.P.truthy_int ⟨H,I,q⟩
 |str y=>
  obtain⟨t,rfl⟩:=c;obtain⟨n,e'⟩:y.length<=cw/\k=((y.length:Int) != 0):=e;subst e';exact PySem.P.truthy_str (by lia) ⟨H,I.tok _,q⟩
 |byt y=>
  obtain⟨t,rfl⟩:=c;obtain⟨n,e'⟩:y.size<=cw/\k=((y.size:Int) != 0):=e;subst e';exact PySem.W.truthy_bytes (by lia) ⟨H,I.tok _,q⟩
 |ref p=>
  cases c;have e':(∃xs,dW X.K H p xs/\k=!xs.isEmpty)\/(∃xs,kG X.K H p xs/\k=!xs.isEmpty)\/∃a,H p=U (.dK a)/\k=!a.isEmpty:=e;rcases e' with⟨xs,d,e'⟩|⟨xs,d,e'⟩|⟨a,d,e'⟩
  .subst e'
   obtain⟨u,r,g,j⟩:=I.list d;have l:=r.length;exact wpAny_truthy_list g.isList (by simp only[ck];lia) ⟨H,I.tok _,by rw[pe r];exact q⟩
  .subst e'
   obtain⟨u,r,g,j⟩:=I.tuple d;have l:=r.length;exact truthy_tuple g (by simp only[ck];lia) ⟨H,I.tok _,by rw[pe r];exact q⟩
  .subst e'
   obtain⟨j,o,f,r,m⟩:a.length<=cw/\(p == i1)=ZA/\∃f,KV a f/\s.heap.DictOf (cu X.prog X.w) p f:=I.bz p _ d;have l:a.length=f.length:=Paired.length r;exact wpAny_truthy_dict o m (by lia) ⟨H,I.tok _,by rw[za r];exact q⟩
 |_=>exact(show False from e).elim
def GP(f:PE X a F)(he:∀c,HC a X.env c=(do let v <- c;r4 a.pos;sg [v] (truthy v))) :
  PT X a λb H Q=>F b H λx H'=>∃k,Sl X.K x H' k/\Q k H':=by
 intro ae s b H Q I h;exact isTrue_plain (bX (f ae s b H _ I h)<|by rintro v d ⟨x,H1,g,e,q1⟩;exact Sm ae d b H1 x v Q g e q1)<|he _
def zb:hU X (nL .Add) λx y H Q=>∃i j,x=.str i/\y=.str j/\i.length+j.length<=cw/\Q (.str<|i++j) H:=by
 intro ae s e H x y v u Q I c b h;obtain⟨i,j,rfl,rfl,d,q⟩:=h;obtain⟨t,rfl⟩:=c;obtain⟨a,rfl⟩:=b;exact add_str (λa tk=>⟨.str _,H,I.tok _,⟨_,J⟩,q⟩) d
def vals1{x:V}(r:Vals [x] us):∃u,us=[u]/\RelV x u:=by
 cases r with
 |cons b a=>cases a;exact⟨_,J,b⟩
def vals2{x y:V}(r:Vals [x,y] us):∃u a,us=[u,a]/\RelV x u/\RelV y a:=by
 cases r with
 |cons e d=>
  cases d with
  |cons c b=>cases b;exact⟨_,_,J,e,c⟩
def DV(a:X.calm=O):fT X (.builtin "max") λxs H Q=>∃i j,xs=[.int i,.int j]/\Q (.int<|if j > i then j else i) H:=by
 intro ae s b H xs d Q I r h;obtain⟨i,j,rfl,q⟩:=h;obtain⟨u,c,rfl,⟨t,rfl⟩,⟨e,rfl⟩⟩:=vals2 r;refine max_two_ints (I.ok.hd a) λh' tk k=>⟨_,H,I.kept k,?_,q⟩;by_cases hj:j > i
 .rw[bt hj,bt hj];exact⟨_,J⟩
 .rw[b0 hj,b0 hj];exact⟨_,J⟩
def uq:fT X (.type "str") λxs H Q=>∃i,xs=[.int i]/\i.natAbs.log2<1920/\Q (.str<|toString i) H:=by
 intro ae s b H xs c Q I r h;obtain⟨i,rfl,a,q⟩:=h;obtain⟨u,rfl,t,rfl⟩:=vals1 r;exact PySem.P.str_of_int a ⟨.str _,H,I.tok _,⟨_,J⟩,q⟩
def W7(K:bG)(x:V)(H:Hp)(n:Nat):Prop:=
 match x with
 |.str y=>y.length<=cw/\n=y.length
 |.byt y=>y.size<=cw/\n=y.size
 |.ref p=>(∃xs,dW K H p xs/\n=xs.length)\/∃xs,kG K H p xs/\n=xs.length
 |_=>False
def GQ:fT X (.builtin "len") λxs H Q=>∃x n,xs=[x]/\W7 X.K x H n/\Q (.int n) H:=by
 intro ae s k H xs l Q I r h;obtain⟨x,n,rfl,e,q⟩:=h;obtain⟨u,rfl,a⟩:=vals1 r;have hs:=et;cases x with
 |str y=>
  obtain⟨t,rfl⟩:=a;obtain⟨i,e'⟩:y.length<=cw/\n=y.length:=e;subst e';exact len_str (by lia) ⟨.int _,H,I.tok _,⟨_,J⟩,q⟩
 |byt y=>
  obtain⟨t,rfl⟩:=a;obtain⟨i,e'⟩:y.size<=cw/\n=y.size:=e;subst e';exact PySem.W.len_bytes (by lia) ⟨.int _,H,I.tok _,⟨_,J⟩,q⟩
 |ref p=>
  cases a;have e':=e;rcases e' with⟨xs,d,e'⟩|⟨xs,d,e'⟩
  .subst e'
   obtain⟨j,b,c,g⟩:=I.list d;have f:=b.length;exact Calls.call_len_list c.isList (by simp only[ck];lia) ⟨.int xs.length,H,I.tok _,⟨_,by simp only[ck];rw[f]⟩,q⟩
  .subst e'
   obtain⟨j,b,c,g⟩:=I.tuple d;have f:=b.length;exact len_tuple c (by simp only[ck];lia) ⟨.int xs.length,H,I.tok _,⟨_,by simp only[ck];rw[f]⟩,q⟩
 |_=>exact(e).elim
end
structure zc(h:eI)(x dx C:bp)(mA:Str->D2):Prop where
 obj:h.get? x=U (vQ C dx)
 ns:h.Ns1 dx mA
 ne:dx≠x
def lZ{b:Str->D2}(n:h.Ns1 dx b):∃od,h.get? dx=U od/\∀name,AL name od=U (b name):=by
 obtain⟨o,es,i,d,hd,hk,_,f⟩:=n;refine⟨o,d,λname=>?_⟩;have e:=f name;unfold nsFind findBy at e;rw[<- DX]at e;unfold AL;rw[hd];dsimp only;split
 .rename_i y q
  rw[q]at e;exact ej U e
 .rename_i q
  rw[q]at e;have a:es.toList.any (·.refKey)=ZA:=by
   rw[List.any_eq_false];intro y c;obtain⟨z,t,Ŧ⟩:=hk y<|Array.mem_toList_iff.mp c;simp[DictEntry.refKey,Ŧ]
  have g:¬ es.toList.any (·.refKey)=O:=by rw[a];exact eU
  rw[b0 g];exact ej U e
def zc.look{a:Str->D2}(I:zc h x dx C a):∃od,PySem.W.InstAt h x (vQ C dx) C (U od)/\∀name,AL name od=U (a name):=
 let⟨od,ho,hl⟩:=lZ I.ns
 ⟨od,⟨I.obj,J,J,ho⟩,hl⟩
section
variable{K:bG}
def get_map{a:Bool}(X:K.In s.heap)(I:zc s.heap x dx C B)(e:vS K C name=O)(d:vU K C=O)
  (f:fQ K (.ref C) name=U Y) (b:B name=U v) (g:OQ v=O) (h:Q v {s with toks:=s.toks+1}) :
  cC (cx prog w) A (HI (.ref x) name a) Q E s:=by
 obtain⟨od,i,c⟩:=I.look;exact PySem.W.get_value X i (Fx e).1 (PySem.W.findObj_own d f J<|by rw[c,b]) g h
def GR(X:K.In s.heap)(I:zc s.heap x dx C B)(a:vS K C name=O)
  (e:fQ K (.ref C) name=U (U<|.ref f)) (c:DA K (.ref f)=O) (b:B name=Y) (h:Q (.ref f,[.ref x]) s) :
  cC (cx prog w) A (vl (.ref x) name pl) Q E s:=by
 obtain⟨od,g,d⟩:=I.look;exact PySem.W.method_fn X g (Fx a).1 (Fx a).2 e (beq_iff_eq.mp c) (by show(AL name od).map (·.isSome)=U ZA;rw[d,b];rfl) h
def Lr{Q:JN}(X:K.In s.heap)(I:zc s.heap x dx C B)
  (hs:fQ K (.ref C) "__setattr__" = U (U<|.builtin "object.__setattr__")) (i:Fy K C=O) (g:FA K C name=U Y) (j:vU K C=O)
  (f:n8 B ns) (hsz:ns.length<=cw)
  (h:∀h',zc h' x dx C (λy=>if y=name then U v else B y)->pk dx s.heap h'->Q () {s with heap:=h',toks:=s.toks+2}) :
  cC (cx prog w) A (xM (.ref x) name v) Q E s:=by
 obtain⟨od,z,t⟩:=I.look;refine PySem.W.set_plain X z hs<|PySem.W.osa_open X z i g λb=>?_
 obtain⟨u,k,q⟩:=vR j;have e:=I.obj;refine ax<|dv<|ax<|ax<|zi e<|ax<|FH.here (PySem.W.looks_clsIn X k) ?_
 rw[q];refine dv<|ax<|dv<|ax ?_;refine F6 I.ns λh' c d=>?_
 obtain⟨oD,l,m,p,o,n⟩:=c.count<|PySem.Within.cons name v f;refine ax<|vb p (o▸vk<|c_ n<|by rw[ee];lia) ?_
 exact dv<|h _ ⟨(d.2 _<|f3 I.ne).trans I.obj,c,I.ne⟩ d
def GS{a:List<|Str×ar}(X:K.In s.heap)(b:vV K C=O)
  (c:fQ K (.ref C) "__init__" = U (U<|.ref f)) (e:PySem.W.typeIn K (.ref f)=U (.type "function"))
  (h:nr (cx prog w) (A.under<|.builtin "type.__call__" ⟨.ref C::vs,a⟩) (.call (.ref f) ⟨.ref (s.heap.objs.size+1)::vs,a⟩) (PySem.W.InitBack (s.heap.objs.size+1) R)
   {s with heap:=(s.heap.push tR).push (vQ C s.heap.objs.size)}) :
  nr (cx prog w) A (.call (.ref C) ⟨vs,a⟩) R s:=by
 exact PySem.W.make_core (PySem.W.makes_of X b) (PySem.W.looks_findIn X c) (λself=>PySem.W.bind_fn X self e) (.inl J) h
end
def eu(f:Str)(v:V):List (Str×V)->List (Str×V)
 |[]=>[(f,v)]
 |(g,x)::r=>if g=f then(g,v)::r else(g,x)::eu f v r
theorem mY(f g:Str)(v:V):∀fs:List<|Str×V,(eu f v fs).lookup g=if g=f then U v else fs.lookup g
 |[]=>by
  show fS g [(f,v)]=_;by_cases h:g=f
  .have a:(g == f)=O:=beq_iff_eq.mpr h
   simp only[fS,a,bt h]
  .have a:(g == f)=ZA:=beq_eq_false_iff_ne.mpr h
   simp only[fS,a,b0 h]
 |(k,x)::r=>by
  have b:=mY f g v r;rw[show eu f v ((k,x)::r)=(if k=f then(k,v)::r else(k,x)::eu f v r)from J]
  by_cases hk:k=f
  .rw[bt hk]
   by_cases h:g=k
   .have a:(g == k)=O:=beq_iff_eq.mpr h
    simp only[fS,a,bt<|h.trans hk]
   .have a:(g == k)=ZA:=beq_eq_false_iff_ne.mpr h
    simp only[fS,a,b0 λe:g=f=>h<|e.trans hk.symm]
  .rw[b0 hk]
   by_cases h:g=k
   .have a:(g == k)=O:=beq_iff_eq.mpr h
    simp only[fS,a,b0 λe:g=f=>hk<|h.symm.trans e]
   .have a:(g == k)=ZA:=beq_eq_false_iff_ne.mpr h
    simp only[fS,a];exact b
theorem l_(f:Str)(v:V):∀fs:List<|Str×V,f∈(eu f v fs).map (·.1)/\∀g,g∈fs.map (·.1)->g∈(eu f v fs).map (·.1)
 |[]=>⟨by simp[eu],λg h=>by simp at h⟩
 |(k,x)::r=>by
  obtain⟨b,a⟩:=l_ f v r;rw[show eu f v _=(if k=f then(k,v)::r else(k,x)::eu f v r)from J]
  grind
theorem mZ(f:Str)(v:V):∀fs:List<|Str×V,(eu f v fs).length<=fs.length+1
 |[]=>by simp[eu]
 |(k,x)::r=>by
  have a:=mZ f v r;rw[show eu f v _=(if k=f then(k,v)::r else(k,x)::eu f v r)from J]
  by_cases hk:k=f
  .rw[bt hk,ee,ee];lia
  .rw[b0 hk,ee,ee];lia
def gH.some_of{o:D2}(r:gH (U v) o):∃u,o=U u/\RelV v u:=by
 cases o with
 |none=>exact(r).elim
 |some u=>exact⟨u,J,r⟩
def gH.none_of{o:D2}(r:gH Y o):o=Y:=by
 cases o with
 |none=>rfl
 |some u=>exact(r).elim
def r9(r:RelV v u):OQ u=O:=by
 cases v with
 |non=>cases(r);rfl
 |bl b=>cases(r);rfl
 |int i=>obtain⟨t,e⟩:=(r);cases e;rfl
 |str x=>obtain⟨t,e⟩:=(r);cases e;rfl
 |byt b=>obtain⟨t,e⟩:=(r);cases e;rfl
 |flt b=>obtain⟨t,e⟩:=(r);cases e;rfl
 |ref a=>cases(r);rfl
 |ty n=>cases(r);rfl
def kW(bz:j7 P w H h)(e:H a=U (.ins C dx fs)):∃b,zc h a dx C b/\(∀f,gH (fs.lookup f)<|b f)/\n8 b (fs.map (·.1))/\fs.length<=1000/\H dx=U (.own a):=by
 obtain⟨d,z,ne,ob,b,n,r,q⟩:=(bz a _ e);exact⟨b,⟨ob,n,ne⟩,r,q,z,d⟩
structure qU(K:bG)(C:bp):Prop where
 pg:vS K C y0=O
 hd:vU K C=O
 po:Fy K C=O
 sa:fQ K (.ref C) "__setattr__" = U (U<|.builtin "object.__setattr__")
def qU.get{K:bG}(c:qU K C)(f:Str):vS K C f=O:=c.pg
def bK(K:bG)(C:bp)(f:Str):Prop:=fQ K (.ref C) f=U Y
def bK.Xa{K:bG}{f:Str}(n:bK K C f):FA K C f=U Y:=by
 unfold FA;rw[n];rfl
structure Meth(K:bG)(C:bp)(m:Str)(f:bp):Prop where
 at_:fQ K (.ref C) m=U (U<|.ref f)
 fn:DA K (.ref f)=O
 kp:kK K (.ref f)=O
section
variable{f:Str}
def ph{b:Bool}{Q:Jn}(I:Inv X ae F H s)(e:H a=U (.ins C dx fs))(c:qU X.K C)(n:bK X.K C f)(l:fs.lookup f=U v)
  (h:∀u s',Inv X ae F H s'->RelV v u->Q u s'):cC (cx X.prog X.w) A (HI (.ref a) f b) Q E s:=by
 obtain⟨g,j,r,_,_,_⟩:=kW I.bz e;obtain⟨u,i,d⟩:=gH.some_of (l▸r f)
 exact get_map I.jg j (c.get f) c.hd n i (r9 d)<|h u _ (I.tok _) d
def pj(I:Inv X ae F H s)(e:H a=U (.ins C dx fs))(c:qU X.K C)(k:Meth X.K C m g)(l:fs.lookup m=Y)
  (h:Q (.ref g,[.ref a]) s):cC (cx X.prog X.w) A (vl (.ref a) m pl) Q E s:=by
 obtain⟨b,f,r,_,_,_⟩:=kW I.bz e;have d:=gH.none_of (l▸r m)
 exact GR I.jg f (c.get m) k.at_ k.fn d h
def pA{Q:JN}(I:Inv X ae F H s)(e:H a=U (.ins C dx fs))(c:qU X.K C)(n:bK X.K C f)(B:fs.length<1000)(m:RelV y u)
  (h:∀s',Inv X ae F (upd H a<|.ins C dx<|eu f y fs) s'->Q () s'):cC (cx X.prog X.w) A (xM (.ref a) f u) Q E s:=by
 obtain⟨j,D,r,i,_,k⟩:=kW I.bz e;have p:(fs.map (·.1)).length<=cw:=by rw[cH,et];lia
 refine Lr I.jg D c.sa c.po n.Xa c.hd i p λh' d l=>h _ ?_;have hd:∃o,h'.get? dx=U o:=let⟨o,_,_,e',_⟩:=d.ns;⟨o,e'⟩;refine I.write (e▸gL) (.inr k) (λb q v z=>(l.2 b v).trans z) hd ?_
 refine⟨(aq D.ne)▸k,?_,D.ne,d.obj,_,d.ns,λg=>?_,λg t=>?_⟩
 .have:=mZ f y fs;lia
 .show gH ..
  rw[mY];by_cases q:g=f
  .rw[bt q,bt q];exact m
  .rw[b0 q,b0 q];exact r g
 .by_cases q:g=f
  .rw[q];exact(l_ f y fs).1
  .refine(l_ f y fs).2 g<|i g λz=>t ?_
   show(if g=f then U u else j g)=Y
   rw[b0 q];exact z
def Inv.made(I:Inv X ae F H s):Inv X ae F (upd (upd H s.heap.objs.size<|.own<|s.heap.objs.size+1) (s.heap.objs.size+1)<|.ins C s.heap.objs.size [])
  {s with heap:=(s.heap.push tR).push (vQ C s.heap.objs.size)}:=by
 have c:(s.heap.push tR).get? s.heap.objs.size=U tR:=c3 s.heap J;have h:=by
  have:=c3 (s.heap.push tR) (o:=vQ C s.heap.objs.size) J
  rwa [lx]at this
 have g:(s.heap.push tR).Ns s.heap.objs.size λ_=>Y:=⟨tR,#[],_,c,J,(λe f=>dw f<|by simp),λ_=>J⟩
 have i:=I.laid (o:=.own<|s.heap.objs.size+1) (t':=s.toks) (λb u q=>av _ q) (bL _) ⟨_,c⟩;refine i.laid (λb u q=>av _ q) (q_<|lx ..) ?_;have ne:s.heap.objs.size≠s.heap.objs.size+1:=eM<|oW _;refine⟨by rw[aq ne,ak],dz _,ne,h,λ_=>Y,(Bb g).at λo q=>av _ q,λ_=>gL,λy d=>dw J d⟩
def Bd(b:ke e f env (fu e env)=fu e env)
  (h:cC (cx prog w) A (fu e env) (λo a=>cC (cx prog w) A (HI o f O) Q E a) E s):cC (cx prog w) A (fu (.Attribute e f pos) env) Q E s:=
 Attribute_any_ h (by rw[arm_eval_Attribute,b])
end
def ŧ(K:bG)(c:TE)(f:Str):TE:=λb H Q=>c b H λx H1=>∃a C dx fs v,x=.ref a/\H1 a=U (.ins C dx fs)/\qU K C/\bK K C f/\fs.lookup f=U v/\Q v H1
def Xb(K:bG)(d tv:TE)(f:Str):TS:=λD b H=>tv b H λy H1=>d b H1 λx c=>∃a C dx fs,x=.ref a/\c a=U (.ins C dx fs)/\qU K C/\bK K C f/\fs.length<1000 /\
 D.nx b (upd c a<|.ins C dx<|eu f y fs)
def Xc(X:Cx)(op:o7)(rd:V->V->Hp->VK->Prop):Prop:=
 ∀(ae:dG)(s:ag)(a:St)(H:Hp)(x y:V)(u v:ar)(Q:VK),Inv X ae a H s->RelV x u->RelV y v->rd x y H Q->Kb X (inplaceOp op u v) (EP X ae a Q) X.xe s
def Lu(K:bG)(e tv:TE)(rd:V->V->Hp->VK->Prop)(f:Str):TS:=λD b H=>e b H λx H1=>∃a C dx fs v,x=.ref a/\H1 a=U (.ins C dx fs)/\qU K C/\bK K C f/\fs.lookup f=U v /\
 tv b H1 λy g=>rd v y g λz d=>∃ģ c,d a=U (.ins C ģ c)/\c.length<1000/\D.nx b (upd d a<|.ins C ģ<|eu f z c)
section
variable{f:Str}
def GU(he:PE X e ta)(j:ke e f X.env (fu e X.env)=fu e X.env):PE X (.Attribute e f pos)<|ŧ X.K ta f:=by
 intro ae s b H Q I h;refine Bd j<|bX (he ae s b H _ I h) λu r d=>?_;obtain⟨x,H1,o,g,a,C,dx,fs,v,ex,k,c,n,l,q⟩:=d;subst ex
 obtain rfl:u=Value.ref a:=g
 exact ph o k c n l λp s2 m i=>⟨v,H1,m,i,q⟩
def zd(k:PE X o ta)(j:PE X value tv)(hs:fv value (U<|.Attribute o f B) pos.line X.env=pure ZA):PS X (.Assign [.Attribute o f B] value pos)<|Xb X.K ta tv f:=by
 intro ae s b H D I h;refine n6 (bX (j ae s b H _ I h) λu e d=>?_) hs;obtain⟨y,H1,t,g,q⟩:=d;refine bX (k ae e b H1 _ t q) λov s2 d=>?_;obtain⟨x,w,r,i,a,C,dx,fs,ex,m,c,n,l,q2⟩:=d;subst ex
 obtain rfl:ov=Value.ref a:=i
 exact pA r m c n l g λv p=>⟨b,_,p,q2⟩
def DW(B:PE X o ta)(A:PE X value tv)(e:Xc X op rd):PS X (.AugAssign (.Attribute o f jQ) op value pos)<|Lu X.K ta tv rd f:=by
 intro ae s d H D I h;refine wpAny_AugAssign_AttributeAny<|bX (B ae s d H _ I h) λov T b=>?_;obtain⟨x,H1,N,p,a,C,dx,fs,v,ex,E,c,n,l,q⟩:=b;subst ex
 obtain rfl:ov=Value.ref a:=p
 refine ph N E c n l λu s2 M r=>bX (A ae s2 d H1 _ M q) λi j b=>?_;obtain⟨y,P,L,m,t⟩:=b;refine bX (e ae j d P v y u i _ L r m t) λQ S b=>?_;obtain⟨z,Z,G,k,ģ,W,g,w,q4⟩:=b;exact pA G g c n w k λR F=>⟨d,_,F,q4⟩
def Ũ:V->V->Hp->VK->Prop:=λx y H Q=>∃i j,x=.int i/\y=.int j/\Q (.int<|i+j) H
def Sn:Xc X .Add Ũ:=by
 rintro ae s d H x y u v Q I c b ⟨i,j,rfl,rfl,q⟩
 obtain⟨t,rfl⟩:=(c);obtain⟨a,rfl⟩:=(b);exact PyProof.Rows.iadd_int ⟨.int _,H,I.tok _,⟨_,J⟩,q⟩
end
section
variable{Q:Jn}{b:Bool}
inductive jR(K:bG)(H:Hp):V->ar->Prop where
 |non:jR K H .non<|.type "NoneType"
 |bl (x:Bool):jR K H (.bl x)<|.type "bool"
 |int (i:Int):jR K H (.int i)<|.type "int"
 |str (x:Str):jR K H (.str x)<|.type "str"
 |flt (x:UInt64):jR K H (.flt x)<|.type "float"
 |lst {a:bp} {xs:List V} (e:H a=U (.lst xs)):jR K H (.ref a)<|.type "list"
 |iy {a:bp} {o:Obj} {xs:List V} (e:H a=U (.iy o<|.lst xs)):jR K H (.ref a)<|.type "list"
 |tup {a:bp} {xs:List V} (e:kG K H a xs):jR K H (.ref a)<|.type "tuple"
 |dK {a:bp} {kvs:List<|Key×V} (e:H a=U (.dK kvs)):jR K H (.ref a)<|.type "dict"
 |dT {a:bp} {kvs:List<|List Key×V} (e:H a=U (.dT kvs)):jR K H (.ref a)<|.type "dict"
 |ins {a C dx:bp} {fs:List<|Str×V} (e:H a=U (.ins C dx fs)) (cl:qU K C) (ha:fQ K (.ref C) "__class__" = U (U<|.builtin Kj))
   (hn:AM K (.builtin Kj) "__get__" = U (U<|.builtin "getset_descriptor.__get__")) (Be:AN K (.builtin Kj)=U O)
   (hm:DB K C (.type "object")=U O):jR K H (.ref a)<|.ref C
def r_{x:V}(I:Inv X ae G H s)(d:RelV x u)(ty:jR X.K H x t)(e:tU X.K t c=U b)(h:∀tk,Q (.bool b) {s with toks:=tk}) :
  cC (cx X.prog X.w) A (call (.builtin "isinstance") [u,c]) Q E s:=by
 cases ty with
 |non=>cases(d);exact oV PySem.W.kitx_none I.jg gL e (λz=>nomatch z) h
 |bl y=>cases(d);exact oV PySem.W.kitx_bool I.jg gL e (λz=>nomatch z) h
 |int i=>obtain⟨t,q⟩:=(d);cases q;exact oV PySem.W.kitx_int I.jg gL e (λz=>nomatch z) h
 |str y=>obtain⟨t,q⟩:=(d);cases q;exact oV PySem.W.kitx_str I.jg gL e (λz=>nomatch z) h
 |flt y=>obtain⟨t,q⟩:=(d);cases q;exact oV PySem.W.kitx_float I.jg gL e (λz=>nomatch z) h
 | @lst a xs f=>
  cases(d);obtain⟨_,_,n,_,g⟩:=(I.bz a _ f);exact oV OR I.jg ⟨_,g,J⟩ e (λz=>nomatch z) h
 | @iy a ob xs f=>
  cases(d);obtain⟨_,_,_,n,_,g⟩:=(I.bz a _ f);exact oV OR I.jg ⟨_,g,J⟩ e (λz=>nomatch z) h
 | @tup a xs f=>
  cases(d);obtain⟨_,_,p,_⟩:=I.tuple f;obtain⟨o,g,k,_⟩:=p;exact oV PySem.W.kitx_tuple I.jg ⟨o,g,k⟩ e (λz=>nomatch z) h
 | @dK a j f=>
  cases(d);obtain⟨_,_,D,_,p⟩:=(I.bz a _ f);obtain⟨o,es,v,g,k,_⟩:=p;exact oV OS I.jg ⟨o,g,k.1⟩ e (λz=>nomatch z) h
 | @dT a j f=>
  cases(d);obtain⟨_,_,xs,_,o,es,v,g,k,_⟩:=(I.bz a _ f);exact oV OS I.jg ⟨o,g,k.1⟩ e (λz=>nomatch z) h
 | @ins a C dx fs f cl r l B m=>
  cases(d);obtain⟨F,L,_⟩:=kW I.bz f;obtain⟨od,M,_⟩:=L.look;exact oV (OT (cl.get _) cl.hd r l B m) I.jg M e (λz=>nomatch z) h
end
structure bD(k:Nat)(A:ew):Prop where
 hd:A.handled=Y
 dp:A.depth+3*k+5<recursionLimit
 un:A.units+16*k+200<ll
def bD.mono(r:bD k A)(h:j<=k):bD j A:=⟨r.hd,by have:=r.dp;lia,by have:=r.un;lia⟩
theorem bD.deeper(r:bD (k+1) A)(env:Env):bD k<|A.deeper env:=
 ⟨r.hd,by have:=r.dp;show A.depth+1+3*k+5<_;lia,by have:=r.un;show A.units+3+16*k+200<_;lia⟩
def ze{a:List<|Str×ar}:(A.under<|.builtin "type.__call__" ⟨.ref C::us,a⟩).depth=A.depth+1:=by
 rfl
def zf{a:List<|Str×ar}:(A.under<|.builtin "type.__call__" ⟨.ref C::us,a⟩).units=A.units+1:=by
 rfl
def bD.make(r:bD (k+1) A)(C:bp)(us:B2)(a:List<|Str×ar):bD k<|A.under<|.builtin "type.__call__" ⟨.ref C::us,a⟩:=
 ⟨r.hd,by have:=r.dp;rw[ze];lia,by have:=r.un;rw[zf];lia⟩
theorem bD.depth(r:bD k A):A.depth<recursionLimit:=by have:=r.dp;lia
theorem bD.units(r:bD k A):A.units+64<ll:=by have:=r.un;lia
def Lv:TA:=λ_ H Q=>Q [] H
def Xd(b:TE)(tr:TA):TA:=λa H Q=>b a H λx H1=>tr a H1 λxs c=>Q (x::xs) c
def cT:PA X [] Lv:=λ_ _ _ _ H Q I h=>FU ⟨[],H,I,.nil,h⟩
def aW(g:PE X e v)(hr:PA X es t)(hs:c5 (e::es) X.env=(ZA,fu e X.env)::c5 es X.env:=by rfl):PA X (e::es)<|Xd v t:=by
 intro pos ae s a H Q I h;rw[hs];show cC _ _ (spliced<|(ZA,fu e X.env)::ij pos (c5 es X.env)) _ _ s;refine rg<|bX (g ae s a H _ I h) λu c b=>?_;obtain⟨x,H1,j,f,q1⟩:=b;exact bX (hr pos ae c a H1 _ j q1) (by rintro l s2 ⟨xs,k,i,d,q2⟩;exact⟨x::xs,k,i,.cons f d,q2⟩)
def ũ(t:TA):TE:=λa H Q=>t a H λxs H1=>xs.length<=cw/\∀p,H1 p=Y->Q (.ref p) (upd H1 p<|.tup xs)
def Ū(t:TA):TE:=λa H Q=>t a H λxs H1=>xs.length<=cw/\∀p,H1 p=Y->Q (.ref p) (upd H1 p<|.lst xs)
def zh{x1}(h:PA X es t):PE X (.Tuple es x1 pos)<|ũ t:=by
 intro ae s d H Q I i;refine wpAny_Tuple_spliced<|bX (h pos ae s d H _ I i) λg a f=>?_;obtain⟨xs,H1,c,r,z,q⟩:=f;refine⟨r.length▸z,?_⟩
 have j:=c.bz.fresh<|bL _;refine⟨.ref a.heap.objs.size,upd H1 a.heap.objs.size _,c.laid (λb u e=>av _ e) (bL _) ?_,J,q _ j⟩;exact⟨z,g,r,⟨_,c3 _ J,J,_,J⟩⟩
def GV(h:PA X es t):PE X (.List es pos)<|Ū t:=by
 intro ae s d H Q I i;refine wpAny_List_spliced<|bX (h pos ae s d H _ I i) λg a f=>?_;obtain⟨xs,H1,c,r,z,q⟩:=f;refine⟨r.length▸z,?_⟩
 have j:=c.bz.fresh<|bL _;refine⟨.ref a.heap.objs.size,upd H1 a.heap.objs.size _,c.laid (λb u e=>av _ e) (bL _) ?_,J,q _ j⟩;exact⟨z,g,0,r,c3 _ J⟩
abbrev Sp:=List V->Hp->VK->XK->Prop
abbrev Fc:=List Env->Hp->ag->XK->Jn
structure zj(P:c4)(w:da)(K:bG)(mg:Str->D2)(base:eI)(A:ew)(outer:List Env)(s:ag)(H:Hp):Prop where
 frames:A.frames=U outer
 mod:Mod K mg base
 bs:∀b o,base.get? b=U o->s.heap.get? b=U o/\H b=Y
 bsz:base.objs.size<=s.heap.objs.size
 lV:s.heap.FunFrames base outer
 frf:∀b∈kP outer,H b=Y
 bz:j7 P w H s.heap
 bare:n0 s.gens
def CE(outer:List Env)(P:c4)(w:da)(H:Hp)(s:ag)(Q:VK)(u:ar)(s':ag):Prop:=
 ∃v H',s'.os=s.os/\n0 s'.gens/\Un (kP outer) [] H H' s.heap s'.heap/\j7 P w H' s'.heap/\RelV v u/\Q v H'
def CR(CX:Fc)(outer:List Env)(P:c4)(w:da)(H:Hp)(s:ag)(Q:VK)(E:XK)(r:Result)(s':ag):Prop:=
 match r with
 |.ok<|.ret u=>CE outer P w H s Q u s'
 |.ok _=>False
 |.error e=>CX outer H s E e s'
structure cX(P:c4)(w:da)(K:bG)(mg:Str->D2)(base:eI)(CX:Fc)(k:Nat)(f:bp)(fd:eh)(ps:Bi)(sp:Sp):Prop where
 len:∀vs H Q E,sp vs H Q E->vs.length=ps.length
 run:∀(A:ew)(outer:List Env)(s:ag)(H:Hp)(args:Args)(us:B2)(vs:List V)(Q:VK)(E:XK),bD k A->zj P w K mg base A outer s H->HY s fd args (ps.zip us)->Vals vs us->sp vs H Q E ->
  nr (cx P w) A (.call (.ref f) args) (CR CX outer P w H s Q E) s
def cX.imp{K:bG}{sp a:Sp}(F:cX P w K mg base CX k f fd ps sp)
  (h:∀vs H Q E,a vs H Q E->sp vs H Q E):cX P w K mg base CX k f fd ps a:=
 ⟨λvs H Q E q=>F.len vs H Q E<|h _ _ _ _ q,λA outer s H b c vs Q E hr e g d hs=>F.run A outer s H b c vs Q E hr e g d<|h _ _ _ _ hs⟩
def zj.make{K:bG}(e:zj P w K mg base A outer s H)(C:bp)(us:B2)(a:List<|Str×ar) :
  zj P w K mg base (A.under<|.builtin "type.__call__" ⟨.ref C::us,a⟩) outer s H:=⟨by first|exact e.frames,e.mod,e.bs,e.bsz,e.lV,e.frf,e.bz,e.bare⟩
def Inv.Lw(I:Inv X ae j H s):zj X.prog X.w X.K X.mg X.base X.A X.stack s H:=
 ⟨I.ok.frames,I.ok.mod,I.bs,c_ I.ok.bsz I.sz,I.stack,I.oh,I.bz,I.bare⟩
def Inv.after(I:Inv X ae j H s)(h:CE X.stack X.prog X.w H s Q u s'):EP X ae j Q u s':=by
 obtain⟨v,H',os,bare,un,bz,r,q⟩:=h;obtain⟨c,g,d,t,a⟩:=s'
 obtain rfl:a=s.os:=os
 exact⟨v,H',I.call un bz bare λb z=>dw z<|by simp,r,q⟩
def P1(sp:Sp)(c:List V)(E:XK)(t:TA):TE:=λa H Q=>t a H λb H1=>sp (b++c) H1 Q E
def wz(C:bp)(m:Str)(sp:Sp)(e:List V)(E:XK)(d:TE)(t:TA):TE:=λb H Q=>d b H λx H1=>∃a dx fs,x=.ref a/\H1 a=U (.ins C dx fs)/\fs.lookup m=Y /\
 t b H1 λc f=>sp (x::(c++e)) f Q E
def Xe(C:bp)(sp:Sp)(c:List V)(E:XK)(t:TA):TE:=λa H Q=>t a H λb H1=>∀x dx,H1 x=Y->H1 dx=Y->dx≠x ->
 sp (.ref x::(b++c)) (upd (upd H1 dx<|.own x) x<|.ins C dx []) (λv d=>v=.non/\Q (.ref x) d) E
def Binds(K:bG)(fd:eh)(ps:Bi)(ds:B2):Prop:=
 ∀(s:ag)(a:B2),K.In s.heap->(a++ds).length=ps.length->HY s fd ⟨a,[]⟩ (ps.zip<|a++ds)
def Binds.all{K:bG}{ps:Bi}(h:∀us:B2,us.length=ps.length->bindArgs fd ⟨us,[]⟩=pure (ps.zip us)):Binds K fd ps []:=λs us _ a=>by
 rw[cJ]at a ⊢;exact .of_eq<|h us a
def Passes(CX:Fc)(X:Cx)(E:XK):Prop:=∀(ae:dG)(b:St)(H:Hp)(s:ag)(e:ar)(a:ag),Inv X ae b H s->CX X.stack H s E e a->X.xe e a
section
variable{E:XK}{x m:Str}
def ur{b:St}(F:cX X.prog X.w X.K X.mg X.base CX k f fd ps sp)(hr:bD k X.A)(j:Binds X.K fd ps ds)(hd:Vals N ds)(g:Passes CX X E)
  (I:Inv X ae b H s) (r:Vals vs us) (h:sp (vs++N) H Q E):Kb X (call (.ref f) us) (EP X ae b Q) X.xe s:=by
 have c:=r.append hd;have i:(us++ds).length=ps.length:=c.length▸F.len _ _ _ _ h
 refine ma<|ih (F.run X.A X.stack s H _ _ _ Q E hr I.Lw (j s us I.jg i) c h) λr d a=>?_;cases r with
 |error e=>exact g ae b H s e d I a
 |ok l=>
  cases l with
  |ret u=>exact I.after a
  |next=>exact fE a
  |brk=>exact fE a
  |cont=>exact fE a
def uu(F:cX X.prog X.w X.K X.mg X.base CX k f fd ps sp)(hr:bD k X.A)(i:Gl X x)(g:X.mg x=U (.ref f))(hk:kK X.K (.ref f)=O)(j:Binds X.K fd ps ds)(hd:Vals N ds)(d:Passes CX X E)
  (l:PA X (e::es) t) (m:bB x:=by decide) (he:c5 (e::es) X.env=(ZA,fu e X.env)::c5 es X.env:=by rfl) (hpl:(ij pos<|c5 es X.env).any (·.1)=ZA:=by rfl) :
  PE X (.Call (.Name x p) (e::es) [] pos)<|P1 sp N E t:=by
 intro ae s b H Q I h;refine f5<|f_ I i g ?_ m;refine AO (h₀:=X.base) I.ok.mod.kin hk (bX (l pos ae s b H _ I h) λo u c=>?_) he hpl;obtain⟨n,H1,a,r,q⟩:=c;refine⟨a.jg,?_⟩;exact ur F hr j hd d a r q
def GW(F:cX X.prog X.w X.K X.mg X.base CX k f fd ps sp)(hr:bD k X.A)(c:Gl X x)(b:X.mg x=U (.ref f))(hk:kK X.K (.ref f)=O)(d:Binds X.K fd ps ds)(hd:Vals N ds)(a:Passes CX X E)
  (e:bB x:=by decide):PE X (.Call (.Name x p) [] [] pos)<|P1 sp N E Lv:=by
 intro ae s g H Q I h;refine f5<|f_ I c b ?_ e;exact FI I.jg hk<|ur (us:=[]) F hr d hd a I .nil h
def Bf(he:PE X o S)(c:qU X.K C)(g:Meth X.K C m f)(F:cX X.prog X.w X.K X.mg X.base CX k f fd ps sp)(hr:bD k X.A)(z:Binds X.K fd ps ds)(hd:Vals N ds)(v:Passes CX X E)(B:PA X (e::es) t)
  (G:c5 (e::es) X.env=(ZA,fu e X.env)::c5 es X.env:=by rfl) (hpl:(ij pos<|c5 es X.env).any (·.1)=ZA:=by rfl)
  (y:fu (.Call (.Attribute o m R) (e::es) [] pos) X.env=(do
   let ov <- fu o X.env
   r4 R.atName
   let(f,first) <- sg [ov] (vl ov m pl)
   callWith pos f first (ij pos<|c5 (e::es) X.env) (pB pos<|mq [] X.env)):=by rfl) :
  PE X (.Call (.Attribute o m R) (e::es) [] pos)<|wz C m sp N E S t:=by
 intro ae s d H Q I h;refine OU (pl:=pl) (bX (he ae s d H _ I h) λu n b=>?_) y;obtain⟨x,H1,j,p,a,dx,fs,ex,D,l,q⟩:=b;subst ex
 obtain rfl:u=Value.ref a:=p
 refine pj j D c g l ?_;refine AO (first:=[.ref a]) (h₀:=X.base) I.ok.mod.kin g.kp (bX (B pos ae n d H1 _ j q) λus s2 b=>?_) G hpl
 obtain⟨vs,L,i,r,q2⟩:=b;refine⟨i.jg,?_⟩;exact ur (us:=.ref a::us) (vs:=.ref a::vs) F hr z hd v i (.cons J r) q2
def wA(he:PE X o S)(c:qU X.K C)(d:Meth X.K C m f)(F:cX X.prog X.w X.K X.mg X.base CX k f fd ps sp)(hr:bD k X.A)(p:Binds X.K fd ps ds)(hd:Vals N ds)(j:Passes CX X E)
  (n:fu (.Call (.Attribute o m R) [] [] pos) X.env=(do
   let ov <- fu o X.env
   r4 R.atName
   let(f,first) <- sg [ov] (vl ov m pl)
   callWith pos f first (ij pos<|c5 [] X.env) (pB pos<|mq [] X.env)):=by rfl) :
  PE X (.Call (.Attribute o m R) [] [] pos)<|wz C m sp N E S Lv:=by
 intro ae s e H Q I h;refine OU (pl:=pl) (bX (he ae s e H _ I h) λu t g=>?_) n;obtain⟨x,H1,b,i,a,dx,fs,ex,r,l,q⟩:=g;subst ex
 obtain rfl:u=Value.ref a:=i
 refine pj b r c d l ?_;exact FI (first:=[.ref a]) b.jg d.kp<|ur (us:=[.ref a]) (vs:=[.ref a]) F hr p hd j b (.cons J .nil) q
structure Mk(K:bG)(C f:bp):Prop where
 makes:vV K C=O
 init:fQ K (.ref C) "__init__" = U (U<|.ref f)
 fn:DA K (.ref f)=O
 kp:kK K (.ref C)=O
def GX{Q:VK}(M:Mk X.K C f)(F:cX X.prog X.w X.K X.mg X.base CX k f fd ps sp)(hr:bD (k+1) X.A)(o:Binds X.K fd ps ds)(hd:Vals N ds)
  (m:Passes CX X E) (I:Inv X ae c H s) (r:Vals vs us)
  (h:∀x dx,H x=Y->H dx=Y->dx≠x->sp (.ref x::(vs++N)) (upd (upd H dx<|.own x) x<|.ins C dx []) (λv y=>v=.non/\Q (.ref x) y) E) :
  Kb X (call (.ref C) us) (EP X ae c Q) X.xe s:=by
 have g:=h _ s.heap.objs.size (I.bz.fresh<|vX _) (I.bz.fresh<|bL _)<|eM<|oW _;have b:=Inv.made (C:=C) I;have d:Vals (V.ref (s.heap.objs.size+1)::(vs++N)) _:=.cons J<|r.append hd;have n:=by
  have e:=d.length;rw[F.len _ _ _ _ g]at e;exact e.symm
 refine ma<|GS I.jg M.makes M.init (beq_iff_eq.mp M.fn)<|ih (F.run _ X.stack _ _ _ _ _ _ E (hr.make C us [])
  (b.Lw.make C us []) (o _ _ b.jg n) d g) λr i a=>?_
 cases r with
 |error e=>exact m ae c _ _ e i b a
 |ok p=>
  cases p with
  |ret u=>
   obtain⟨v,H',t,j,q,l⟩:=b.after a;subst q;exact⟨j,⟨V.ref _,H',t,J,l⟩⟩
  |next=>exact fE a
  |brk=>exact fE a
  |cont=>exact fE a
def om(M:Mk X.K C f)(F:cX X.prog X.w X.K X.mg X.base CX k f fd ps sp)(hr:bD (k+1) X.A)(i:Gl X x)(g:X.mg x=U (.ref C))(j:Binds X.K fd ps ds)(hd:Vals N ds)(d:Passes CX X E)
  (l:PA X (e::es) t) (m:bB x:=by decide) (he:c5 (e::es) X.env=(ZA,fu e X.env)::c5 es X.env:=by rfl) (hpl:(ij pos<|c5 es X.env).any (·.1)=ZA:=by rfl) :
  PE X (.Call (.Name x p) (e::es) [] pos)<|Xe C sp N E t:=by
 intro ae s b H Q I h;refine f5<|f_ I i g ?_ m;refine AO (h₀:=X.base) I.ok.mod.kin M.kp (bX (l pos ae s b H _ I h) λo u c=>?_) he hpl;obtain⟨n,H1,a,r,q⟩:=c;refine⟨a.jg,?_⟩;exact GX M F hr j hd d a r q
end
structure gO(N P:Bi)(sc:hA):Prop where
 kind:sc.kind=.function
 co:sc.isCoroutine=ZA
 gen:sc.isGenerator=ZA
 nd:N.Nodup
 pre:N.take P.length=P
 par:∀x∈P,sc.names.lookup x=U .local\/sc.names.lookup x=U .cell
 nofree:∀y∈sc.names,y.2≠.free
theorem sd{kindOf:Str->Option p0}{x:Str}:∀{a:List<|Str×ar}{m:Str->D2},(∀v,(x,v)∉a)->E9 kindOf a m x=m x
 |[],_,_=>J
 |(n,v)::r,m,h=>by
  unfold E9;rw[sd λw b=>h w<|ed _ b];split
  .have:x≠n:=by rintro rfl;exact h v d_
   simp[this]
  .rfl
theorem se{kindOf:Str->Option p0}{x:Str}:∀{a:List<|Str×ar}{m:Str->D2},(∀v,(x,v)∉a)->Fo kindOf a m x=m x
 |[],_,_=>J
 |(n,v)::r,m,h=>by
  unfold Fo;rw[se λw b=>h w<|ed _ b];split
  .rfl
  .have:x≠n:=by rintro rfl;exact h v d_
   simp[this]
theorem sf{kindOf:Str->Option p0}{x:Str}:∀{P:Bi}{vs:B2}{i:Nat}{m:Str->D2},P.Nodup->P[i]?=U x->vs[i]?=U v->kindOf x=U .local ->
  E9 kindOf (P.zip vs) m x=U v
 |[],_,_,_,_,h,_,_=>by simp at h
 |_::_,[],_,_,_,_,h,_=>by simp at h
 |p::P,w::vs,0,m,nd,b,a,hk=>by
  simp at b a;subst b;subst a;show E9 kindOf ((p,w)::P.zip vs) m p=_;unfold E9;rw[sd λv c=>(oX.mp nd).1 (AY c).1,bt hk];simp
 |p::P,w::vs,i+1,m,nd,b,a,hk=>by
  show E9 kindOf _ m x=_;unfold E9;exact sf (oX.mp nd).2 (by simpa using b) (by simpa using a) hk
theorem sj{kindOf:Str->Option p0}{x:Str}:∀{P:Bi}{vs:B2}{i:Nat}{m:Str->D2},P.Nodup->P[i]?=U x->vs[i]?=U v->kindOf x≠U .local ->
  Fo kindOf (P.zip vs) m x=U v
 |[],_,_,_,_,h,_,_=>by simp at h
 |_::_,[],_,_,_,_,h,_=>by simp at h
 |p::P,w::vs,0,m,nd,b,a,hk=>by
  simp at b a;subst b;subst a;show Fo kindOf ((p,w)::P.zip vs) m p=_;unfold Fo;rw[se λv c=>(oX.mp nd).1 (AY c).1,b0 hk];simp
 |p::P,w::vs,i+1,m,nd,b,a,hk=>by
  show Fo kindOf _ m x=_;unfold Fo;exact sj (oX.mp nd).2 (by simpa using b) (by simpa using a) hk
def start(N:Bi)(vs:List V):St:=vs.map U++cR (N.length-vs.length) Y
def mf(CX:Fc)(P:c4)(w:da)(K:bG)(mg:Str->D2)(base:eI)(N:Bi)(qual:Str)(scope:hA)(f:bp)(a:ar)(A:ew)(outer:List Env)(s:ag)(H:Hp)(E:XK):Cx where
 prog:=P
 w:=w
 K:=K
 mg:=mg
 base:=base
 A:=A.deeper (vr qual scope s.heap.objs.size f a)
 N:=N
 s₀:=s
 H₀:=H
 env:=vr qual scope s.heap.objs.size f a
 outer:=outer
 stack:=vr qual scope s.heap.objs.size f a::outer
 ex:=[]
 calm:=O
 fn:=λ_=>O
 pn:=[]
 xe:=λe c=>cC (cx P w) (A.deeper<|vr qual scope s.heap.objs.size f a) (yy (vr qual scope s.heap.objs.size f a) e) (λ_ b=>CX outer H s E e b) (λe' b=>CX outer H s E e' b) c
def wB{sc:hA}{x:Str}(h:sc.names.lookup x=U .cell):∃c,(cellsFrom n sc.names []).lookup x=U c:=by
 have q:=OV sc.names n []<|.inl h;exact AW.mp q
def DY{K:bG}{E:XK}
  (S:gO N ps scope) (hd:A.handled=Y) (g:zj P w K mg base A outer s H) (I:vs.length=ps.length) (r:Vals vs us)
  (x:InCallC s s.heap.objs.size (E9 (vr qual scope s.heap.objs.size f B).kindOf (ps.zip us) λ_=>Y) (cellsFrom (s.heap.objs.size+1) scope.names []) (Fo (vr qual scope s.heap.objs.size f B).kindOf (ps.zip us) λ_=>Y) s1) :
  Inv (mf CX P w K mg base N qual scope f B A outer s H E) [] (start N vs) H s1:=by
 have F:ps.length<=N.length:=by have:=ej F9 S.pre;rw[tY]at this;lia
 obtain⟨t,tk,rfl,hk⟩:=x.done;have Xf:∀b:bp,b∉(mf CX P w K mg base N qual scope f B A outer s H E).ex:=λb z=>dw (show b∈[]from z) (by simp)
 refine⟨⟨g.mod,S.kind,J,J,bL _,λy z c t d=>?_,λy j=>?_,λy c _ h=>?_,λ_=>hd,Around.frames_deeper g.frames,.inr ⟨J,J⟩,λb z=>dw z<|Xf b,g.bs,g.bsz,λb _ _=>Xf b,λb z=>dw z<|Xf b,g.lV,g.frf⟩,
  J,g.bare,Un.kept hk,⟨_,x.toInCall.ns,λi y v t d L=>?_⟩,λy c h=>⟨_,x.cell y c h⟩,g.bz.fresh<|bL _,λy c h=>?_,λp m=>dw (show p∈[]from m)<|by simp,g.bz.kept hk,?_⟩
 .exact name_of_addr x.apart (hX t)<|hX d
 .have j:=j
  rcases j with j|j
  .exact wB j
  .exact dw J<|S.nofree _<|hX j
 .exact FP<|x.above y c<|hX h
 .have o:i<vs.length:=by
   unfold start at d;by_cases o:i<vs.length
   .exact o
   .rw[iw<|by simpa using o]at d
    rw[yS]at d;split at d<;>cases d
  have G:vs[i]?=U v:=by
   unfold start at d;rw[jP<|by simpa using o,eQ]at d
   cases e:vs[i]? with
   |none=>rw[e]at d;cases d
   |some a=>rw[e]at d;cases d;rfl
  obtain⟨u,C,D⟩:=r.get G;have m:ps[i]?=U y:=by
   rw[<- S.pre,List.getElem?_take_of_lt<|by lia];exact t
  have l:ps.Nodup:=by rw[<- S.pre];exact S.nd.sublist<|List.take_sublist ..
  refine⟨u,D,?_⟩;rcases S.par y (jf m)with k|k
  .exact .inl ⟨k,sf l m C k⟩
  .obtain⟨c,e⟩:=wB k
   refine .inr ⟨.inl k,c,e,?_⟩;have q:=x.cell y c e;rw[sj l m C<|by show scope.names.lookup y≠_;rw[k];decide]at q
   exact q
 .exact g.bz.fresh<|FP<|x.above y c<|hX h
 .unfold start
  show _=N.length;grind
def P4{K:bG}{a:Arguments}{B kV i z g ct M:ar}
    {sp:Sp} (lk:K.lookup f=U ⟨M,od,.func<|yN name qual a c scope B kV i z an g ct,L⟩) (R:FJ K g qual=O) (S:gO N ps scope)
  (len:∀vs H Q E,sp vs H Q E->vs.length=ps.length)
  (GY:∀(A:ew)(outer:List Env)(s:ag)(H:Hp)(vs:List V)(Q:VK)(E:XK),bD k (A.deeper<|vr qual scope s.heap.objs.size f g)->sp vs H Q E ->
   ∃t,gM (mf CX P w K mg base N qual scope f g A outer s H E) c t/\t {nx:=λ_ H'=>Q .non H',rt:=Q} (start N vs) H) :
  cX P w K mg base CX (k+1) f (yN name qual a c scope B kV i z an g ct) ps sp:=by
 refine⟨len,λA outer s H C G vs Q E hr h hb r D=>?_⟩;have hl:=len _ _ _ _ D;have F:=h.mod.kin.keeps λb o e=>(h.bs b o e).1;have m:=h.mod.nolimit.keeps λb o e=>(h.bs b o e).1;have Xg:∀y∈ps.zip G,scope.names.lookup y.1=U .local\/(scope.names.lookup y.1=U .cell/\((cellsFrom (s.heap.objs.size+1) scope.names []).lookup y.1).isSome=O):=λ⟨n,v⟩ T=>by
  rcases S.par n (AY T).1 with q|q
  .exact .inl q
  .exact .inr ⟨q,OV _ _ _<|.inl q⟩
 refine codeAny_call_function hr.depth (F _ _ lk) J S.co S.gen J (PySem.W.codeRec_of F R)<|hb _ _ _ _ ?_;refine wpAny_newFunctionEnv_cells S.kind Xg λenv he p x=>?_;subst he;refine⟨m.keeps x.toInCall.keep,codeAny_func ?_⟩;obtain⟨t,X,Z⟩:=GY A outer s H vs Q E (hr.deeper _) D;have I:Inv (mf CX P w K mg base N qual scope f g A outer s H E) [] _ H p:=DY S hr.hd h hl r x;refine eP (X [] p _ H _ I Z) (λfl j hs=>?_) λe j hs=>hs;have fin:∀{d:St}{H':Hp}{v:V}{u:ar},Inv (mf CX P w K mg base N qual scope f g A outer s H E) [] d H' j->RelV v u->Q v H'->CE outer P w H s Q u j:=
  λ{d H' v u} qD l q=>⟨v,H',qD.os,qD.bare,qD.base,qD.bz,l,q⟩
 cases fl with
 |ret u=>
  obtain⟨v,d,H',qD,l,q⟩:=hs;exact fin qD l q
 |next=>
  obtain⟨d,H',qD,q⟩:=hs;exact fin (v:=V.non) qD J q
 |brk=>
  obtain⟨_,_,_,q⟩:=hs;exact fE q
 |cont=>
  obtain⟨_,_,_,q⟩:=hs;exact fE q
section
variable{x:Str}{id T:String}
def ū(r:List V->Hp->VK->Prop)(t:TA):TE:=λa H Q=>t a H λb H1=>r b H1 Q
def jm(l:fT X (.builtin id) r)(k:Gl X x)(j:X.mg x=Y)(g:i5 x=U (.builtin id))(m:PA X (e::es) t)(i:x ≠ "__name__" := by decide)(n:bB x:=by decide)
  (he:c5 (e::es) X.env=(ZA,fu e X.env)::c5 es X.env:=by rfl) (hpl:(ij pos<|c5 es X.env).any (·.1)=ZA:=by rfl):PE X (.Call (.Name x p) (e::es) [] pos)<|ū r t:=by
 intro ae s a H Q I h;refine f5<|iO I k j g ?_ i n;exact PyProof.Rows.callWith_builtin1 (bX (m pos ae s a H _ I h)<|by rintro c d ⟨b,H1,o,f,q1⟩;exact l ae d a H1 b c Q o f q1) he hpl
def iA(l:fT X (.type T) r)(k:Gl X x)(j:X.mg x=Y)(g:i5 x=U (.type T))(m:PA X (e::es) t)(i:x ≠ "__name__" := by decide)(n:bB x:=by decide)
  (he:c5 (e::es) X.env=(ZA,fu e X.env)::c5 es X.env:=by rfl) (hpl:(ij pos<|c5 es X.env).any (·.1)=ZA:=by rfl):PE X (.Call (.Name x p) (e::es) [] pos)<|ū r t:=by
 intro ae s a H Q I h;refine f5<|iO I k j g ?_ i n;exact DL (bX (m pos ae s a H _ I h)<|by rintro c d ⟨b,H1,o,f,q1⟩;exact l ae d a H1 b c Q o f q1) he hpl
end
end L2
namespace HT
open PySem PyProof.Rows
section
open PySem.SeqAt
open PySem.AutoSeq1 (wpAny_loadPart')
open PySem.MeetsSeq PySem.MeetsSeq2 PySem.MeetsSeq3
end
def iR(n d:Nat):Dx->Nat
 |none=>d
 |some v=>if v<0 then(v+(n:Int)).toNat else min v.toNat n
end HT
namespace L2
open PySem PySem.Spec PyProof.Rows
abbrev TO:=St->Hp->(Dx->Hp->Prop)->Prop
def PO(X:Cx)(e:Option cq)(t:TO):Prop:=
 ∀(b:dG)(s:ag)(a:St)(H:Hp)(Q:Dx->Hp->Prop),Inv X b a H s->t a H Q ->
  Kb X (evalPart e X.env) (λu d=>∃o c,Inv X b a c d/\IsPart u o/\Q o c) X.xe s
def Ly:TO:=λ_ H Q=>Q Y H
def Xh(t:TE):TO:=λa H Q=>t a H λx H1=>∃i,x=.int i/\Q (U i) H1
variable{X:Cx}
def Lz:PO X Y Ly:=by
 intro b s a H Q I h;exact dv ⟨Y,H,I,.none,h⟩
def LA(h:PE X e N):PO X (U e)<|Xh N:=by
 intro f s a H Q I d;refine bX (h f s a H _ I d) λu j b=>?_;obtain⟨x,H1,g,c,q1⟩:=b;obtain⟨i,rfl,q⟩:=q1;obtain⟨t,rfl⟩:=c;exact⟨U i,H1,g,.int i t,q⟩
def P5(X:Cx)(r:V->Dx->Dx->Hp->VK->Prop):Prop:=
 ∀(d:dG)(s:ag)(a:St)(H:Hp)(x:V)(v c b:ar)(L M:Dx)(sl:bp)(Q:VK),Inv X d a H s->RelV x v->s.heap.IsSliceOf sl c b .none->IsPart c L->IsPart b M->r x L M H Q ->
  ∃T id,ti (.type T) "__getitem__" = pure (U<|.builtin id)/\s.TypeIs v T/\Kb X (yz v<|.ref sl) (EP X d a Q) X.xe s
def P5.or{r e:V->Dx->Dx->Hp->VK->Prop}(h:P5 X r)(h':P5 X e):P5 X λx L M H Q=>r x L M H Q\/e x L M H Q:=by
 intro i s a H x v c b L M sl Q I d hs g f q;rcases q with q|q
 .exact h i s a H x v c b L M sl Q I d hs g f q
 .exact h' i s a H x v c b L M sl Q I d hs g f q
def tSl(r:V->Dx->Dx->Hp->VK->Prop)(N:TE)(P R:TO):TE:=λa H Q=>N a H λx H1=>P a H1 λl c=>R a c λu b=>r x l u b Q
def GZ(hr:P5 X r)(he:PE X e N)(z:PO X L P)(t:PO X M R):PE X (.Subscript e (.Slice L M Y S) pos)<|tSl r N P R:=by
 intro d s c H Q I h;refine z6<|bX (he d s c H _ I h) λv k f=>?_;obtain⟨x,H1,G,m,q1⟩:=f;refine wpAny_Slice<|bX (z d k c H1 _ G q1) λi s2 f=>?_;obtain⟨l,K,F,p,q2⟩:=f;refine bX (t d s2 c K _ F q2) λg a f=>?_;obtain⟨u,j,E,o,n⟩:=f;apply dv;have D:Inv X d c j {a with heap:=a.heap.push {cls:=.type "slice",data:=.fields #[i,g,.none]}}:=E.kept λb ob q=>av _ q
 obtain⟨T,id,C,y,B⟩:=hr d _ c j x v i g l u a.heap.objs.size Q D m (Heap.IsSliceOf.new ..) p o n
 show cC _ X.A _ _ X.xe _
 exact tail_any y C B (by rfl)
def DZ(xs:List V)(L M:Dx):List V:=(xs.drop<|HT.iR xs.length 0 L).take<|HT.iR xs.length xs.length M-HT.iR xs.length 0 L
def wC(xs:List V)(L M:Dx):(DZ xs L M).length<=xs.length:=by
 unfold DZ;rw[tY,kO]
 lia
def G0(n:Nat)(i:Int):Option Nat:=if 0<=i then(if i<n then U i.toNat else Y)else if -(n:Int)<=i then U (i+n).toNat else Y
def D0{a:Type}(xs:List a)(i:Int):Option a:=(G0 xs.length i).bind λj=>xs[j]?
def Bg(h:G0 n i=U j):seqIndex? i n=U j/\j<n/\-(n:Int)<=i/\i<n:=by
 unfold G0 at h;by_cases h0:0<=i
 .rw[bt h0]at h
  by_cases h1:i<n
  .rw[bt h1]at h
   have e:=kM.inj h;exact⟨by rw[seqIndex_of h0 h1,e],by lia,by lia,h1⟩
  .rw[b0 h1]at h;cases h
 .rw[b0 h0]at h
  by_cases h1:-n<=i
  .rw[bt h1]at h
   have e:=kM.inj h;exact⟨by rw[G_ (by lia) h1,e],by lia,h1,by lia⟩
  .rw[b0 h1]at h;cases h
def uw{v:a}(h:D0 xs i=U v):∃j,seqIndex? i xs.length=U j/\xs[j]?=U v/\j<xs.length/\-(xs.length:Int)<=i/\i<xs.length:=by
 unfold D0 at h;cases e:G0 xs.length i with
 |none=>rw[e]at h;cases h
 |some j=>
  rw[e]at h;obtain⟨f,d,c,b⟩:=Bg e;exact⟨j,f,h,d,c,b⟩
def jH(b:cq):Prop:=∀o i,ry b ZA o i=operate [o,i] (yz o i)
def LB(X:Cx)(r:R2):Prop:=
 ∀(b a:cq)(d:dG)(s:ag)(c:St)(H:Hp)(x y:V)(v u:ar)(Q:VK),Inv X d c H s->RelV x v->RelV y u->r x y H Q ->
  ry a ZA v u=operate [v,u] (yz v u)->Kb X (td b a v u) (EP X d c Q) X.xe s
def LC(X:Cx)(id:String)(r:V->List V->Hp->VK->Prop):Prop:=
 ∀(c:dG)(s:ag)(a:St)(H:Hp)(x:V)(xs:List V)(v:ar)(b:B2)(Q:VK),Inv X c a H s->RelV x v->Vals xs b->r x xs H Q ->
  Kb X (call (.builtin id)<|v::b) (EP X c a Q) X.xe s
section
variable{a b:cq}
def LB.or(h:LB X r)(h':LB X f):LB X λx y H Q=>r x y H Q\/f x y H Q:=by
 intro a b g s c H x y v u Q I e d q hs;rcases q with q|q
 .exact h a b g s c H x y v u Q I e d q hs
 .exact h' a b g s c H x y v u Q I e d q hs
def Bj(hr:LB X r)(g:PE X a B)(f:PE X b tb)(hs:jH b):PE X (.Subscript a b pos)<|P0 r B tb:=by
 intro i s c H Q I h;exact z6<|Se g f I h λv u s2 x y k j e d q=>hr a b i s2 c k x y v u Q j e d q<|hs ..
def Xi(K:bG):R2:=λx y H Q=>∃p xs i v,x=.ref p/\y=.int i/\dW K H p xs/\D0 xs i=U v/\Q v H
def Xj(K:bG):R2:=λx y H Q=>∃p xs i v,x=.ref p/\y=.int i/\kG K H p xs/\D0 xs i=U v/\Q v H
def Xk:R2:=λx y H Q=>∃z i c,x=.str z/\y=.int i/\z.length<=cw/\D0 z.cps.toList i=U c/\Q (.str ⟨#[c]⟩) H
def Bk:LB X<|Xi X.K:=by
 intro b c k s f H x y v u Q I o n h hs;obtain⟨p,xs,i,z,rfl,rfl,A,C,q⟩:=h;cases o;obtain⟨t,rfl⟩:=n;obtain⟨G,r,d,L⟩:=I.list A;obtain⟨j,a,F,N,E,D⟩:=uw C;obtain⟨w,g,l⟩:=r.get F;have B:=r.length;have M:=lY;have fin:EP X k f Q w s:=⟨z,H,I,l,q⟩;by_cases h0:0<=i
 .have e:=by
   rw[seqIndex_of h0 D]at a;exact kM.inj a
  exact item_listR d.isList h0 (by lia) (by rw[e];simpa using g) fin hs
 .have e:(i+G.toArray.size).toNat=j:=by
   rw[G_ (by lia) E]at a
   rw[ck,<- B];exact kM.inj a
  exact G5 d.isList.typeIs slot_list_getitem.lookup
   (wpAny_getItem_list_neg d.isList (by lia) (by rw[ck]<;>lia) (by lia) (by rw[e];simpa using g) ⟨J,fin⟩) hs
def So:LB X<|Xj X.K:=by
 intro a b e s c H x y v u Q I l k h hs;obtain⟨p,xs,i,z,rfl,rfl,m,o,q⟩:=h;cases l;obtain⟨t,rfl⟩:=k;obtain⟨M,r,d,D⟩:=I.tuple m;obtain⟨j,B,A,L,G,F⟩:=uw o;obtain⟨w,C,f⟩:=r.get A;have n:=r.length;have E:=lY;have fin:EP X e c Q w s:=⟨z,H,I,f,q⟩;exact G5 d.typeIs slot_tuple_getitem.lookup
  (getItem_tuple d (by lia) (by lia) (by rw[ck,<- n];exact B) (by simpa using C) ⟨J,fin⟩) hs
def Sq:LB X Xk:=by
 intro a b D s r H x y v u Q I f e h hs;obtain⟨z,i,c,rfl,rfl,A,k,q⟩:=h;obtain⟨t,rfl⟩:=f;obtain⟨w,rfl⟩:=e;obtain⟨j,d,n,C,m,l⟩:=uw k;have g:z.cps.toList.length=z.length:=by simp[Str.length]
 rw[g]at d m l;have B:=lY;exact tail_any (ql s z t) slot_str_getitem.lookup (getItem_str (c:=c) (by
  have p:decide (i < -(2^63:Int))=ZA:=b7 (by lia)
  have o:decide (i ≥ 2^63)=ZA:=b7 (by lia)
  rw[p,o,O2]) (by rw[d];simpa using n) ⟨.str ⟨#[c]⟩,H,I.tok _,⟨_,J⟩,q⟩) hs
def rIx(K:bG):R2:=λx y H Q=>Xi K x y H Q\/Xj K x y H Q\/Xk x y H Q
def zk:LB X<|rIx X.K:=Bk.or<|So.or Sq
def zl(a:B2)(n j:Nat)(u:ar):rS (·.setIfInBounds j u) {cls:=.type "list",data:=.seq a.toArray n}={cls:=.type "list",data:=.seq (a.set j u).toArray n}:=by
 simp[rS]
theorem Inv.lst{c:dG}{b:St}{H:Hp}{s:ag}{p:bp}{xs:List V}(I:Inv X c b H s)(h:H p=U (.lst xs)) :
  ∃(a:B2)(n:Nat),Vals xs a/\s.heap.get? p=U {cls:=.type "list",data:=.seq a.toArray n}/\xs.length<=cw:=by
 obtain⟨z,a,n,r,e⟩:=I.bz p _ h;exact⟨a,n,r,e,z⟩
def Inv.Ss{a:St}{g its':B2}(I:Inv X d a H s)(h:H p=U (.lst xs))
  (j:s.heap.get? p=U {cls:=.type "list",data:=.seq g.toArray n}) (c:f {cls:=.type "list",data:=.seq g.toArray n}={cls:=.type "list",data:=.seq its'.toArray n'}) (r:Vals ys its') (i:ys.length<=cw) (t:Nat) :
  Inv X d a (upd H p<|.lst ys) {s with heap:=s.heap.update p f,toks:=t}:=by
 have e:(s.heap.update p f).get? p=U {cls:=.type "list",data:=.seq its'.toArray n'}:=by
  rw[mB f j<|by rw[c]<;>rfl,c]
 refine I.write (by rw[h];trivial) (.inl J) (λb u k q=>(gI _ _<|f3 k).trans q) ⟨_,e⟩ ?_
 exact⟨i,its',n',r,e⟩
def Xl:V->V->V->Hp->(Hp->Prop)->Prop:=λo i v H Q=>∃p xs k j,o=.ref p/\i=.int k/\H p=U (.lst xs)/\G0 xs.length k=U j/\Q (upd H p<|.lst<|xs.set j v)
def set_list:WM X Xl:=by
 intro A s m H o i v ov B u Q I ro x w h;obtain⟨p,xs,k,j,rfl,rfl,d,z,q⟩:=h;cases ro;obtain⟨t,rfl⟩:=x;obtain⟨g,n,r,b,y⟩:=I.lst d;obtain⟨a,D,f,e⟩:=Bg z;have c:=r.length;have C:=lY;have l:=
  I.Ss d b (zl g n j u) (r.set w j) (by rw[eS];exact y) s.toks
 by_cases h0:0<=k
 .have hk:=by
   rw[seqIndex_of h0 e]at a;exact kM.inj a
  exact PySem.W.ki_setAt b h0 (by lia) (by rw[ck,<- c];exact e) (hk▸⟨_,l,q⟩)
 .have hk:(k+g.toArray.size).toNat=j:=by
   rw[G_ (by lia) f]at a
   rw[ck,<- c];exact kM.inj a
  exact PySem.W.ki_setBack b (by lia) (by rw[ck,<- c];exact f) (by lia) (hk▸⟨_,l,q⟩)
def ux(lo a:Dx)(n:Nat):(gV lo a Y n).1=((HT.iR n 0 lo:Nat):Int)/\(gV lo a Y n).2.1=((HT.iR n n a:Nat):Int)/\(gV lo a Y n).2.2=1:=by
 refine⟨?_,?_,J⟩
 .cases lo with
  |none=>rfl
  |some i=>
   simp[gV,HT.iR,O5,show(1) > 0 by lia]
   by_cases h:i<0
   .simp[h]<;>lia
   .simp[h]<;>lia
 .cases a with
  |none=>rfl
  |some i=>
   simp[gV,HT.iR,O5,show(1) > 0 by lia]
   by_cases h:i<0
   .simp[h]<;>lia
   .simp[h]<;>lia
def rA(a:B2)(lo b:Dx):Em a.toArray lo b Y=((a.drop<|HT.iR a.length 0 lo).take<|HT.iR a.length a.length b-HT.iR a.length 0 lo).toArray:=by
 obtain⟨e,d,c⟩:=ux lo b a.toArray.size;unfold Em;rw[e,d,c];simp only[sliceRange_one,pick_run]<;>rfl
def Xm(K:bG):V->Dx->Dx->Hp->VK->Prop:=λx lo b H Q=>∃a xs,x=.ref a/\dW K H a xs/\∀p,H p=Y->Q (.ref p) (upd H p<|.lst<|DZ xs lo b)
def LD:P5 X<|Xm X.K:=by
 intro p s l H x v n m lo c sl Q I e hs g f h;obtain⟨a,xs,rfl,j,q⟩:=h;cases e;obtain⟨t,r,d,i⟩:=I.list j;have k:=r.length;refine⟨"list",_,slot_list_getitem.lookup,d.isList.typeIs,?_⟩;refine BD d.isList hs g f .none (by simp) ?_ (by rw[ck]<;>lia)
 rw[rA,<- k];refine⟨.ref s.heap.objs.size,_,I.laid (λb ob q=>av _ q) (bL _) ?_,J,q _<|I.bz.fresh<|bL _⟩;exact⟨c_ (wC xs lo c) i,_,0,(r.drop _).take _,c3 _ J⟩
def fk:V->Bool
 |.non=>O
 |.bl _=>O
 |.int _=>O
 |.str _=>O
 |_=>ZA
def G1:V->V->Bool
 |.non,.non=>O
 |.bl a,.bl b=>a == b
 |.bl a,.int b=>(if a then 1 else 0) == b
 |.int a,.bl b=>a == (if b then 1 else 0)
 |.int a,.int b=>a == b
 |.str a,.str b=>a == b
 |_,_=>ZA
def zm{A:ew}(e:RelV y u)(c:RelV x v)(f:fk y=O)(fx:fk x=O):oB A s u v<|G1 y x:=by
 cases y with
 |non=>
  cases e;cases x with
  |non=>cases c;exact SeqAt.EqAt.same _
  |bl b=>cases c;exact SeqAt.EqAt.none_bool b
  |int b=>obtain⟨t,rfl⟩:=c;exact SeqAt.EqAt.none_int b t
  |str b=>obtain⟨t,rfl⟩:=c;exact SeqAt.EqAt.none_str b t
  |_=>exact dw (show ZA=O from fx) eU
 |bl a=>
  cases e;cases x with
  |non=>cases c;exact SeqAt.EqAt.bool_none a
  |bl b=>cases c;exact SeqAt.EqAt.bool_bool a b
  |int b=>obtain⟨t,rfl⟩:=c;exact SeqAt.EqAt.bool_int a b t
  |str b=>obtain⟨t,rfl⟩:=c;exact SeqAt.EqAt.bool_str a b t
  |_=>exact dw (show ZA=O from fx) eU
 |int a=>
  obtain⟨d,rfl⟩:=e;cases x with
  |non=>cases c;exact SeqAt.EqAt.int_none a d
  |bl b=>cases c;exact SeqAt.EqAt.int_bool a d b
  |int b=>obtain⟨t,rfl⟩:=c;exact SeqAt.EqAt.int_int a d b t
  |str b=>obtain⟨t,rfl⟩:=c;exact w1 a d b t
  |_=>exact dw (show ZA=O from fx) eU
 |str a=>
  obtain⟨d,rfl⟩:=e;cases x with
  |non=>cases c;exact SeqAt.EqAt.str_none a d
  |bl b=>cases c;exact SeqAt.EqAt.str_bool a d b
  |int b=>obtain⟨t,rfl⟩:=c;exact wY a d b t
  |str b=>obtain⟨t,rfl⟩:=c;exact SeqAt.EqAt.str_str a d b t
  |_=>exact dw (show ZA=O from fx) eU
 |_=>exact dw (show ZA=O from f) eU
def zo(x:V)(u:ar):Bool:=match u with
 |.none=>G1 .non x
 |.bool b=>G1 (.bl b) x
 |.int i _=>G1 (.int i) x
 |.str z _=>G1 (.str z) x
 |_=>ZA
def G2(r:RelV y u)(f:fk y=O):zo x u=G1 y x:=by
 cases y with
 |non=>cases r;rfl
 |bl b=>cases r;rfl
 |int i=>obtain⟨t,rfl⟩:=r;rfl
 |str z=>obtain⟨t,rfl⟩:=r;rfl
 |_=>exact dw (show ZA=O from f) eU
theorem kX:∀{xs:List V}{us:B2},Vals xs us->xs.all fk=O->us.any (zo x)=xs.any λy=>G1 y x
 |_,_,.nil,_=>J
 |y::xs,u::us,.cons r t,f=>by
  rw[dO,bP]at f;rw[rj,rj,G2 r f.1,kX t f.2]
theorem jo{A:ew}(b:RelV x v)(fx:fk x=O):∀{xs:List V}{us:B2},Vals xs us->xs.all fk=O->∀u∈us,oB A s u v (zo x u)
 |_,_,.nil,_=>λu a=>by cases a
 |y::xs,u::us,.cons r t,f=>λc a=>by
  rw[dO,bP]at f;rcases bH.mp a with rfl|a
  .rw[G2 r f.1];exact zm r b f.1 fx
  .exact jo b fx t f.2 c a
def Ŭ(x:V)(xs:List V):Bool:=xs.any λy=>G1 y x
def Ĥ(K:bG)(neg:Bool):R2:=λx y H Q=>∃p xs,y=.ref p/\(dW K H p xs\/kG K H p xs)/\fk x=O/\xs.all fk=O/\Q (.bl<|if neg then !Ŭ x xs else Ŭ x xs) H
def D3:hU X (eJ .In)<|Ĥ X.K ZA:=by
 intro j s i H x y v u Q I e f h;obtain⟨p,xs,rfl,a,fx,fs,q⟩:=h;cases f;rcases a with a|a
 .obtain⟨b,r,c,g⟩:=I.list a
  refine SeqAt.in_listAt (zo x) c.isList (λw d=>jo e fx r fs w<|by simpa using d) ⟨.bl _,H,I,J,?_⟩
  rw[show b.toArray.any (zo x)=b.any (zo x) by simp,kX r fs]
  exact q
 .obtain⟨b,r,c,g⟩:=I.tuple a
  refine SeqAt.in_tupleAt (zo x) c (λw d=>jo e fx r fs w<|by simpa using d) ⟨.bl _,H,I,J,?_⟩
  rw[show b.toArray.any (zo x)=b.any (zo x) by simp,kX r fs]
  exact q
def uy:hU X (eJ .NotIn)<|Ĥ X.K O:=by
 intro j s i H x y v u Q I e f h;obtain⟨p,xs,rfl,a,fx,fs,q⟩:=h;cases f;rcases a with a|a
 .obtain⟨b,r,c,g⟩:=I.list a
  refine SeqAt.notIn_listAt _ c.isList (λw d=>jo e fx r fs w<|by simpa using d) ⟨.bl _,H,I,J,?_⟩
  rw[show b.toArray.any _=b.any (zo x) by simp,kX r fs]
  exact q
 .obtain⟨b,r,c,g⟩:=I.tuple a
  refine SeqAt.notIn_tupleAt _ c (λw d=>jo e fx r fs w<|by simpa using d) ⟨.bl _,H,I,J,?_⟩
  rw[show b.toArray.any _=b.any (zo x) by simp,kX r fs]
  exact q
def iS:fT X (.type "list") λxs H Q=>∃p ys,xs=[.ref p]/\(dW X.K H p ys\/kG X.K H p ys)/\∀l,H l=Y->Q (.ref l) (upd H l<|.lst ys):=by
 intro z s v H xs A Q I r h;obtain⟨p,ys,rfl,i,q⟩:=h;obtain⟨u,rfl,x⟩:=vals1 r;cases x;have fin:∀(c:B2),Vals ys c->ys.length<=cw->∀(a:eI)(f:Nat),(∀b t,s.heap.get? b=U t->a.get? b=U t) ->
   a.get? s.heap.objs.size=U _->EP X z v Q _ {s with heap:=a}:=λc d g a f kp e=>
  ⟨.ref s.heap.objs.size,_,I.laid kp (bL _)<|show bQ X.prog X.w _ a _ (.lst ys)from⟨g,c,f,d,e⟩,J,q _<|I.bz.fresh<|bL _⟩
 rcases i with i|i
 .obtain⟨c,d,j,g⟩:=I.list i
  have y:=d.length;obtain⟨o,k,m,n,hd⟩:=j.isList;exact call_list_seq p (.inl J) k m hd (λa f kp e=>fin c d g a f kp e) (by simp[ck]<;>lia)
 .obtain⟨c,d,j,g⟩:=I.tuple i
  have y:=d.length;obtain⟨o,k,m,n,hd⟩:=j;exact call_list_seq p (.inr J) k m hd (λa f kp e=>fin c d g a f kp e) (by simp[ck]<;>lia)
def ŭ(K:bG)(T:String)(x:V)(H:Hp):Prop:=match x with
 |.str _=>T = "str"
 |.int _=>T = "int"
 |.ref p=>(T = "list" /\ ∃xs,dW K H p xs)\/(T = "tuple" /\ ∃o,K.lookup p=U o/\o.cls=.type "tuple" /\ o.dict=Y) \/
   (T = "dict" /\ ((∃a,H p=U (.dK a))\/∃a,H p=U (.dT a)))\/(T = "set" /\ ∃S n,H p=U (.set S n))
 |_=>False
def G3(I:Inv X k g H s)(r:RelV x v)(ty:ŭ X.K T x H) :
  s.TypeIs v T/\∀a,v=.ref a->∃ob,s.heap.get? a=U ob/\ob.dict=Y:=by
 cases x with
 |str z=>
  obtain⟨t,rfl⟩:=r;cases(ty);exact⟨ql s z t,λ_ e=>nomatch e⟩
 |int i=>
  obtain⟨t,rfl⟩:=r;cases(ty);exact⟨typeIs_int s i t,λ_ e=>nomatch e⟩
 |ref p=>
  cases r;rcases ty with⟨rfl,xs,h⟩|⟨rfl,o,hk,j,hd⟩|⟨rfl,hk⟩|⟨rfl,S,n,hk⟩
  .obtain⟨l,_,f,_⟩:=I.list h
   refine⟨f.isList.typeIs,λa e=>?_⟩;cases e;obtain⟨o,n,e,c,hd,_⟩:=f;exact⟨o,e,hd⟩
  .refine⟨⟨o,I.jg p o hk,j⟩,λa e=>?_⟩
   cases e;exact⟨o,I.jg _ o hk,hd⟩
  .have z:∃o,s.heap.get? p=U o/\o.ExactDict:=by
    rcases hk with⟨b,hk⟩|⟨b,hk⟩
    .obtain⟨_,_,_,_,o,_,_,e,ex,_⟩:=I.bz p _ hk
     exact⟨o,e,ex⟩
    .obtain⟨_,_,_,_,o,_,_,e,ex,_⟩:=I.bz p _ hk
     exact⟨o,e,ex⟩
   obtain⟨o,e,ex⟩:=z;refine⟨⟨o,e,ex.1⟩,λa d=>?_⟩;cases d;exact⟨o,e,ex.2.1⟩
  .obtain⟨o,_,_,_,e,ex,_⟩:=I.bz p _ hk
   refine⟨⟨o,e,ex.1⟩,λa d=>?_⟩;cases d;exact⟨o,e,ex.2.1⟩
 |_=>exact fE ty
def Ů(K:bG)(T:String)(r:V->List V->Hp->VK->Prop)(to:TE):TE:=λa H Q=>to a H λx H1=>ŭ K T x H1/\r x [] H1 Q
def tBM(K:bG)(T:String)(r:V->List V->Hp->VK->Prop)(to:TE)(t:TA):TE:=λa H Q=>to a H λx H1=>ŭ K T x H1/\t a H1 λxs b=>r x xs b Q
variable{T id:String}
def Su(g:PlainAttrs T)(slot:Slot T name id)(n:G4 (.builtin id)=pure (.type "method_descriptor"))(j:LC X id r)(i:PE X o to)
  (p:ke o name X.env (fu o X.env)=fu o X.env:=by rfl) (m:(E.endLine == F.line)=O:=by rfl):PE X (.Call (.Attribute o name E) [] [] F)<|Ů X.K T r to:=by
 intro c s a H Q I h;refine wpAny_Call_method0_late p m<|bX (i c s a H _ I h) λv f e=>?_;obtain⟨x,H1,d,b,ty,q1⟩:=e;obtain⟨l,k⟩:=G3 d b ty;exact⟨T,id,g,slot,n,l,k,pd J<|PySem.evalArgs_none<|j c f a H1 x [] v [] Q d b .nil q1⟩
def wF(m:PlainAttrs T)(slot:Slot T name id)(A:G4 (.builtin id)=pure (.type "method_descriptor"))(p:LC X id r)(n:PE X o to)(q:PA X (e::es) t)
  (D:ke o name X.env (fu o X.env)=fu o X.env:=by rfl)
  (ů:((ij F<|c5 (e::es) X.env).all (λx=>!x.1)&&(pB F<|mq [] X.env).all (λx=>x.1.isSome)
   && decide ((e::es).length+([]:List qz).length+(if([]:List qz).isEmpty then 0 else 1)<30))=O:=by rfl)
  (y:(E.endLine == F.line)=O:=by rfl) (hs:c5 (e::es) X.env=(ZA,fu e X.env)::c5 es X.env:=by rfl) (z:(ij F<|c5 es X.env).any (·.1)=ZA:=by rfl) :
  PE X (.Call (.Attribute o name E) (e::es) [] F)<|tBM X.K T r to t:=by
 intro b s a H Q I h;refine wpAny_Call_method_late D ů y J<|bX (n b s a H _ I h) λv k g=>?_;obtain⟨x,H1,f,c,ty,q1⟩:=g;obtain⟨w,u⟩:=G3 f c ty;refine⟨T,id,m,slot,A,w,u,?_⟩;have d:=q F b k a H1 _ f q1;rw[hs]at d ⊢;refine pd (by show(ZA ||(ij F<|c5 es X.env).any (·.1))=ZA;rw[z]<;>rfl)<|qb ?_
 exact bX d (by rintro j s2 ⟨i,C,B,l,q2⟩;exact p b s2 a C x i v j Q B c l q2)
end
def Ű(X:Cx)(id:String)(r:V->List V->Hp->VK->Prop):Prop:=
 ∀(c:dG)(s:ag)(a:St)(H:Hp)(x:V)(xs:List V)(v:ar)(b:B2)(Q:VK),Inv X c a H s->RelV x v->Vals xs b->r x xs H Q ->
  Kb X (call (.builtin id)<|v::b) (EP X c a Q) X.xe s
def Vals.one:∀{x:V}{us:B2},Vals [x] us->∃u,us=[u]/\RelV x u:=by
 intro x us h;cases h with
 |cons r t=>cases t;exact⟨_,J,r⟩
def Vals.two:∀{x y:V}{us:B2},Vals [x,y] us->∃u v,us=[u,v]/\RelV x u/\RelV y v:=by
 intro x y us h;cases h with
 |cons r t=>
  obtain⟨v,rfl,q⟩:=Vals.one t;exact⟨_,_,J,r,q⟩
def Vals.zero:∀{us:B2},Vals [] us->us=[]
 |_,.nil=>J
theorem Vals.rep(h:Vals xs us):∀k:Nat,Vals (cR k xs).flatten (cR k us).flatten
 |0=>.nil
 |k+1=>by
  rw[tZ,tZ,yT];exact Vals.append h<|Vals.rep h k
theorem foldl_rep(b:B2):∀(k:Nat)(a:B2),
  F_ (λx1 c=>x1++c) a.toArray (cR k b.toArray)=(a++(cR k b).flatten).toArray
 |0,a=>by simp
 |k+1,a=>by
  have e:a.toArray++b.toArray=(a++b).toArray:=by simp
  have d:(a++b)++(cR k b).flatten=a++(cR (k+1) b).flatten:=by
   rw[tZ,yT,iN]
  rw[<- d,<- foldl_rep b k _,<- e,tZ,List.foldl_cons]
def Inv.Sx{a its':B2}(I:Inv X t v H s)(i:H l=U (.lst xs))
  (e:s.heap.get? l=U {cls:=.type "list",data:=.seq a.toArray n}) (g:f a.toArray=its'.toArray) (c:Vals ys its') (b:ys.length<=cw) :
  Inv X t v (upd H l<|.lst ys) {s with heap:=s.heap.update l (rS f),toks:=t'}:=by
 have q:=PySem.IsL.update e f;rw[g]at q;refine I.write (i▸trivial) (.inl J) (λj u h d=>(gI s.heap _<|f3 h).trans d) ⟨_,q⟩ ?_
 exact⟨b,its',_,c,q⟩
def Inv.D4(I:Inv X t v H s)(c:Vals ys a)(b:ys.length<=cw) :
  Inv X t v (upd H s.heap.objs.size<|.lst ys) {s with heap:=s.heap.push {cls:=.type "list",data:=.seq a.toArray},toks:=t'}:=
 I.laid (λ_ _ q=>av _ q) (bL _) ⟨b,a,0,c,c3 _ J⟩
theorem Inv.fresh(I:Inv X t v H s):H s.heap.objs.size=Y:=I.bz.fresh<|bL _
def Inv.zq(I:Inv X t v H s)(b:H l=U (.lst xs)):xs.length<=cw/\∃(a:B2)(n:Nat),Vals xs a/\xs.length=a.length/\s.heap.get? l=U {cls:=.type "list",data:=.seq a.toArray n}:=by
 obtain⟨z,a,n,r,e⟩:=I.bz l _ b;exact⟨z,a,n,r,r.length,e⟩
def wG(h:n<=cw):ka n=ZA:=by
 unfold ka;exact b7 (by lia)
def LF:V->List V->Hp->VK->Prop:=λx a H Q=>∃l xs y,x=.ref l/\a=[y]/\H l=U (.lst xs)/\xs.length<cw/\Q .non (upd H l<|.lst<|xs++[y])
def jJ:Ű X "list.append" LF:=by
 intro o s g H x i v j Q I c d h;obtain⟨l,xs,y,rfl,rfl,a,k,q⟩:=h;cases c;obtain⟨u,rfl,f⟩:=d.one;obtain⟨z,b,n,r,m,e⟩:=I.zq a;refine n7 F.slot_list_append ⟨_,e,J⟩ F.entry_list_append (F.args_list_append_2 ..) (PySem.list_append l b.toArray n u<|by rw[ck];lia) ⟨e,?_⟩
 refine⟨.non,_,I.Sx a e (by simp) (r.append<|.cons f .nil) ?_,J,q⟩
 rw[cV,gY]
 lia
def LG:V->List V->Hp->VK->Prop:=λx a H Q=>∃l b xs zs,x=.ref l/\a=[.ref b]/\H l=U (.lst xs)/\H b=U (.lst zs)/\xs.length+zs.length<=cw/\Q .non (upd H l<|.lst<|xs++zs)
def D5:Ű X "list.extend" LG:=by
 intro C s p H x w v y Q I g i h;obtain⟨l,b,xs,zs,rfl,rfl,f,hB,A,q⟩:=h;cases g;obtain⟨u,rfl,j⟩:=i.one;cases j;obtain⟨z,a,n,r,B,e⟩:=I.zq f;obtain⟨t,c,n2,k,D,m⟩:=I.zq hB;have d:a.toArray.size+c.toArray.size<=cw:=by rw[ck,ck];lia
 have o:¬ (!a.toArray.isEmpty&&ka (a.toArray.size+c.toArray.size))=O:=by
  rw[wG d,O3];exact eU
 refine n7 F.slot_list_extend ⟨_,e,J⟩ F.entry_list_extend (F.args_list_extend_2 ..)
  (AutoSeq1.list_extend_list_list_0 l a.toArray n b c.toArray n2 o (by lia)<|by lia) ⟨e,m,?_⟩
 refine⟨.non,_,I.Sx f e (by simp) (r.append k) ?_,J,q⟩
 rw[cV]
 lia
def Sz:V->List V->Hp->VK->Prop:=λx a H Q=>∃l xs,x=.ref l/\a=[]/\H l=U (.lst xs)/\Q .non (upd H l<|.lst [])
def G6:Ű X "list.clear" Sz:=by
 intro m s g H x i v j Q I c d h;obtain⟨l,xs,rfl,rfl,b,q⟩:=h;cases c;have a:=d.zero;subst a;obtain⟨z,f,n,r,k,e⟩:=I.zq b;refine n7 F.slot_list_clear ⟨_,e,J⟩ F.entry_list_clear (F.args_list_clear_1 _) (AutoSeq1.list_clear_list_0 l f.toArray n<|by rw[ck];lia) ⟨e,?_⟩
 exact⟨.non,_,I.Sx (its':=[]) (ys:=[]) b e J .nil<|dz _,J,q⟩
def Xn:R2:=λx y H Q=>∃l b xs zs,x=.ref l/\y=.ref b/\H l=U (.lst xs)/\H b=U (.lst zs)/\xs.length+zs.length<=cw/\∀p,H p=Y->Q (.ref p) (upd H p<|.lst<|xs++zs)
def SA:hU X (nL .Add) Xn:=by
 intro w s m H x y v u Q I f d h;obtain⟨l,b,xs,zs,rfl,rfl,i,hB,p,q⟩:=h;cases f;cases d;obtain⟨z,c,n,r,t,e⟩:=I.zq i;obtain⟨o,a,n2,g,A,k⟩:=I.zq hB;refine PySem.P.add_list e k ?_ (by rw[ck,ck];lia)
 have j:c.toArray++a.toArray=(c++a).toArray:=by simp
 exact j▸⟨.ref _,_,I.D4 (r.append g)<|by rw[cV];lia,J,q _ I.fresh⟩
def Xo:R2:=λx y H Q=>∃l k xs,x=.ref l/\y=.int k/\H l=U (.lst xs)/\-(2^63)<=k/\k<2^63/\xs.length*k.toNat<=cw /\
 ∀p,H p=Y->Q (.ref p) (upd H p<|.lst (cR k.toNat xs).flatten)
def len_rep{a:Type}(xs:List a)(k:Nat):(cR k xs).flatten.length=k*xs.length:=by
 simp
def G7:hU X (nL .Mult) Xo:=by
 intro K s E H x y v u Q I j i h;obtain⟨l,k,xs,rfl,rfl,p,A,w,f,q⟩:=h;cases j;obtain⟨t,rfl⟩:=i;obtain⟨z,b,n,r,o,e⟩:=I.zq p;have C:b.toArray.size*k.toNat<=cw:=by rw[ck,<- o];exact f
 have ű:¬ b.toArray.size*k.toNat > (2^63-1)/8:=by
  have:(cw:Nat)<=(2^63-1)/8:=by decide
  lia
 have Ų:¬ (!Builtin.List.listFitsIndex k)=O:=by
  rw[fitsIndex_both A w];exact eU
 have D:¬ ka (b.toArray.size*k.toNat)=O:=by
  rw[wG C];exact eU
 have ų:F_ (λd c=>d++c) #[] (cR (if b.toArray.isEmpty=O then 0 else k.toNat) b.toArray)=(cR k.toNat b).flatten.toArray:=by
  have B:∀m:Nat,F_ (λd c=>d++c) #[] (cR m b.toArray)=(cR m b).flatten.toArray:=λm=>by
   have:=foldl_rep b m []
   rw[List.nil_append]at this;exact this
  rw[B];cases b with
  |nil=>simp
  |cons a G=>rw[b0<|by simp]
 refine wpAny_binaryOp_repeat_ref (T := "list") (U := "int") (by decide) ⟨_,e,J⟩ (λg=>typeIs_int g k t) noFill_list_mul F.fills_int_mul F.slot_int_rmul repeat_list F.slot_int_index.lookup
 <|n7 F.slot_int_rmul (typeIs_int s k t) F.entry_int_rmul (F.args_int_rmul_2 _ _) (int___rmul___int_list k t l b.toArray n)
   ⟨e,J,⟨_,e,J⟩,n7 F.slot_list_mul ⟨_,e,J⟩ F.entry_list_mul (F.args_list_mul_2 _ _) (AutoListH.list___mul___list_int_3 l b.toArray n k t Ų ű D) ⟨e,?_⟩⟩
 rw[ų];exact⟨.ref _,_,I.D4 (t':=s.toks) (r.rep k.toNat)<|by rw[len_rep,Nat.mul_comm];exact f,J,q _ I.fresh⟩
end L2
namespace Att
open PySem PySem.W PySem.Calls PyProof.Rows
def nO:∀(ns:Ee)(vs:B2),WellAll P h vs (ns.map WData.int)->IntsAre vs ns:=by
 intro ns
 induction ns with
 |nil=>
  intro vs w;cases w;exact .nil
 |cons n ns c=>
  intro vs w;cases w with
  |cons a b=>
   cases a;exact .cons _ _<|c _ b
def D6{l:OpenLaw}(p:l.most=U n)
  (i:l.row.toRowW.claim.pre args=O) (Ŵ:WellAll P h b args) :
  ∃a vs ns,b=[Value.ref a]/\args=[WData.list<|ns.map WData.int]/\h.get? a=U {cls:=.type "list",data:=.seq vs.toArray}/\IntsAre vs ns/\ns.length<=n:=by
 have ŵ:=(pre_splitW i).1;have g:l.pre.holds [] _=O:=(pre_splitW i).2;obtain⟨d,r,rfl,u,t⟩:=hasAllW_cons ŵ
 obtain rfl:=hasAllW_nil t
 obtain⟨xs,rfl,s⟩:=hasW_list u;obtain⟨ns,rfl⟩:=items_int s;have v:ns.length<=n:=by
  have f:=by
   have f:=(holds_andW g).1;rw[p]at f;exact f
  have e:=condW_of f<|w_not<|w_lt w_lit<|w_len_list<|w_arg J;grind
 cases Ŵ with
 |cons k j=>
  cases j;cases k with
  |list o c=>exact⟨_,_,ns,J,J,o,nO ns _ c,v⟩
def D7(l:OpenLaw)(args:List WData):l.row.toRowW.claim.post args (.bool O) args=O:=
 postW_of
  (by rfl)
  (w_eq_bool (w_res J) w_lit) J
end Att
namespace L2
open PySem PySem.Spec PyProof.Rows
theorem sA:∀{vs:B2}{ns:Ee},IntsAre vs ns->Vals (ns.map V.int) vs
 |_,_,.nil=>.nil
 |_,_,.cons n t h=>.cons ⟨t,J⟩<|sA h
def SD(H:Hp):Prop:=∀b,H b=Y\/∃o xs,H b=U (.iy o<|.lst xs)
def G8{K:bG}
  (Q:K.In c.heap) (E:c.heap.Ns eR mg) (f:c.heap.Ns tj mb) (A:∀x:Str,x ≠ "__name__" -> mb x=i5 x) (Ŷ:c.heap.NoLimit) (X:c.gens=#[])
  (y:c.heap.get? a=U {cls:=.type "list",data:=.seq vs.toArray}) (I:IntsAre vs ns) (G:ns.length<=cw) (hr:bD k uz)
  (F:∀base:eI,K.In base->base.Ns eR mg->cX P w K mg base CX k C fd [x] sp) (Xp:∀(s:ag)(u:ar),HY s fd ⟨[u],[]⟩ [(x,u)])
  (V9:∀H:Hp,SD H->dW K H a (ns.map V.int)->sp [.ref a] H (λv _=>v=.bl O) λ_ _ _=>False)
  (B:∀H e g,CX [] H c (λ_ _ _=>False) e g->False) :
  nr (cx P w) uz (.call (.ref C) ⟨[.ref a],[]⟩) (λr g=>r=.ok (.ret<|.bool O)/\OldK c.heap g.heap/\g.os=c.os/\n0 g.gens) c:=by
 have D:=sA I;have ŷ:=I.length;have i:∀H:Hp,SD H->dW K H a (ns.map V.int)->j7 P w H c.heap->(∀b,H b≠Y->b=a)->(H a≠Y->K.lookup a=Y) ->
   nr (cx P w) uz (.call (.ref C) ⟨[.ref a],[]⟩) (λr g=>r=.ok (.ret<|.bool O)/\OldK c.heap g.heap/\g.os=c.os/\n0 g.gens) c:=by
  intro H L Z bz M hK;have R:∀{b:bp}{o:Obj},c.heap.get? b=U o->H b=Y->(uc c.heap H).get? b=U o:=λe n=>GA e n;have Xf:∀{b:bp}{o:Obj}{p:Array DictEntry}{t:Nat},c.heap.get? b=U o->o.data=.dict p t->H b=Y:=λ{b o p t} e d=>by
   cases q:H b with
   |none=>rfl
   |some u=>
    have e':=M b (by rw[q];simp)
    lia
  have ĥ:∀{b:bp}{m:Str->D2},c.heap.Ns b m->(uc c.heap H).Ns b m:=λ{b m} ⟨o,p,t,e,d,r⟩=>⟨o,p,t,R e<|Xf e d,d,r⟩;have l:=λb o e=>R (Q b o e) (by
   cases q:H b with
   |none=>rfl
   |some u=>
    have e':=M b (by rw[q];simp)
    lia)
  have hM:Mod K mg _:=⟨l,ĥ E,⟨mb,ĥ f,A⟩,let⟨mc,h1,h2⟩:=Ŷ;⟨mc,ĥ h1,h2⟩⟩;have e0:zj P w K mg _ uz [] c H:=⟨J,hM,λb o e=>Lb e,q_<|DO ..,trivial,λb f=>dw (show b∈[]from f)<|by simp,bz,.of_eq X⟩
  refine ih ((F _ l<|ĥ E).run uz [] c H _ [.ref a] [.ref a] _ _ hr e0 (Xp c _) (.cons J .nil)<|V9 H L Z) λr g h=>?_;cases r with
  |error e=>exact(B H e g h).elim
  |ok fl=>
   cases fl with
   |next=>exact fE h
   |brk=>exact fE h
   |cont=>exact fE h
   |ret u=>
    obtain⟨v,H',os,bare,un,Ÿ,T,q⟩:=h;have W:=q;subst W
    obtain rfl:u=ra O:=T
    refine⟨J,OldK.of_keep λb o e=>?_,os,bare⟩;cases q:H b with
    |none=>exact un.keep b o e q (by intro z;exact dw (show b∈[]from z)<|by simp) (by simp)
    |some u=>
     rcases L b with z|⟨ob,xs,z⟩
     . lia
     .have S:=un.lU b ob _ z
      obtain⟨N,_⟩:=bz b _ z;obtain⟨e2,_⟩:=Ÿ b _ S;lia
 cases hk:K.lookup a with
 |some o=>
  have e:=Q a o hk;rw[y]at e;cases e;refine i _ (λ_=>.inl J) (.inr ⟨_,vs.toArray,_,hk,J,J,J,by rw[ck,ŷ];exact G,by simpa using D⟩) (λb u z=>by lia) (λb z=>dw J z) λz=>dw J z
 |none=>
  refine i (λb=>if b=a then U _ else Y) (λb=>?_) (.inl<|.inr ⟨{cls:=.type "list",data:=.seq vs.toArray},bt J⟩) (λb u z=>?_) (λb z=>?_) λ_=>hk
  .by_cases f:b=a
   .exact .inr ⟨_,_,bt f⟩
   .exact .inl<|b0 f
  .by_cases f:b=a
   .have j:=(bt f).symm.trans z
    cases j;subst f;exact⟨y,by rw[cH];exact G,vs,_,D,y⟩
   .have j:=(b0 f).symm.trans z
    cases j
  .by_cases f:b=a
   .exact f
   .exact dw (b0 f) z
def inClass(s:f7)(j:Nat):f7:=match s with
 |.ClassDef _ _ _ a _ _ _ _ _ _ _=>a.getD j<|.Pass ⟨0,0,0,0⟩
 |_=>.Pass ⟨0,0,0,0⟩
def iT(s:f7):Arguments:=match s with
 |.FunctionDef _ a _ _ _ _ _ _ _ _=>a
 |_=>{posonlyargs:=[],args:=[],vararg:=Y,kwonlyargs:=[],kw_defaults:=[],kwarg:=Y,defaults:=[]}
def cP(s:f7):Fh:=match s with
 |.FunctionDef _ _ b _ _ _ _ _ _ _=>b
 |_=>[]
def aJ(s:f7):hA:=match s with
 |.FunctionDef _ _ _ _ _ _ sc _ _ _=>sc
 |_=>{kind:=.function,names:=[],isGenerator:=ZA,isCoroutine:=ZA}
abbrev kH:Fc:=λ_ _ _ _ _ _=>False
abbrev E0:XK:=λ_ _ _=>False
def kY:Passes kH X E0:=λ_ _ _ _ _ _ _ h=>h.elim
def nP{A B:Prop}(h:B):if ZA=O then A else B:=by
 rw[b0 eU];exact h
def nQ{A B:Prop}(h:A):if O=O then A else B:=by
 exact h
def aR(H H':Hp):Prop:=∀b o,H b=U o->H' b=U o
def aR.refl(H:Hp):aR H H:=λ_ _ h=>h
def aR.trans(a:aR H H1)(b:aR H1 d):aR H d:=λc o h=>b c o<|a c o h
def aR.free(e:aR H H')(h:H' l=AX):H l=AX:=by
 cases q:H l with
 |none=>rfl
 |some o=>
  rw[e l o q]at h;lia
def aR.seq{K:bG}(e:aR H H')(h:dW K H a xs):dW K H' a xs:=by
 rcases h with(h|⟨o,h⟩)|h
 .exact .inl<|.inl<|e _ _ h
 .exact .inl<|.inr ⟨o,e _ _ h⟩
 .exact .inr h
end L2
set_option maxHeartbeats 400000
namespace L2
open PySem PySem.Spec PyProof.Rows
def D8{prog:c4}{w:da}{A:ew}{R:Result->ag->Prop}{s:ag}{elt a j:cq}{o:Bz}{scope:hA}{pos:Pos}{it z:ar}{env:Env}(I:Nat->ag->Prop)
  (p:∀n s,I n s->cC (cx prog w) A (pyNext it) (λr d=>match r with
   |none=>R (.ok .next) d
   |some v=>cC (cx prog w) A (q0 a it v) (λ_ s₀=>cC (cx prog w) A (tq a env v) (λ_ i=>
     cC (cx prog w) A (forIn o O λc r=>if r=O then do let ok <- HC c env (fu c env);pure (gN ok)else pure (gN r)) (λok b=>
      if ok=O then cC (cx prog w) A (fu elt env) (λx g=>
       cC (cx prog w) A (call (.builtin "list.append") [z,x]) (λ_ f=>∃m,m<n/\I m f) (λ_ _=>False) g) (λ_ _=>False) b
      else ∃m,m<n/\I m b) (λ_ _=>False) i) (λ_ _=>False) s₀) (λ_ _=>False) d) (λ_ _=>False) s)
  (n:Nat) (h:I n s):nr (cx prog w) A (.compLoop (.ListComp elt [⟨a,j,o,0⟩] scope pos) 0 it z env) R s:=by
 refine codeAny_loop J I (λn s B=>?_) n h;show cC _ A ((compTurn (.ListComp elt [⟨a,j,o,0⟩] scope pos) 0 it z env).onRaise λx=>do sb x env;theTreesLotGoes x) _ _ s
 apply wpAny_noted;rw[compTurn_list];refine ax<|og<|ax<|eP (p n s B) (λr d l=>?_) λ_ _ e=>e.elim;cases r with
 |none=>exact dv l
 |some v=>
  refine ax<|eP l (λ_ s₀ y=>ax<|eP y (λ_ i u=>ax<|eP u (λok b k=>?_) λ_ _ e=>e.elim) λ_ _ e=>e.elim) λ_ _ e=>e.elim;cases ok with
  |false=>exact dv ⟨J,k⟩
  |true=>
   exact ax<|ax<|eP k (λx g t=>ax<|eP t (λ_ f q=>dv<|dv ⟨J,q⟩) λ_ _ e=>e.elim) λ_ _ e=>e.elim
theorem ia(env:Env):∀(names:List<|Str×p0)(a:List<|Str×bp),(∀p∈names,p.2=.free->∃c,env.cells.lookup p.1=U c)->(∀x c,a.lookup x=U c->env.cells.lookup x=U c) ->
  ∃cl,(forIn names a λ(p:Str×p0) (cs:List<|Str×bp)=>if p.2 == .free then do let c <- cellOf env p.1;pure (gN<|(p.1,c)::cs)else pure (gN cs):Sem<|List<|Str×bp)=pure cl /\
   (∀x c,cl.lookup x=U c->env.cells.lookup x=U c)/\(∀x c,a.lookup x=U c->∃c',cl.lookup x=U c')/\(∀p∈names,p.2=.free->∃c,cl.lookup p.1=U c)
 |[],a,_,j=>⟨a,J,j,λx c e=>⟨c,e⟩,λ_ h=>nomatch h⟩
 |(n,k)::r,a,m,j=>by
  by_cases hk:k=.free
  .subst hk
   obtain⟨c,s⟩:=m (n,.free) d_ J;have Ħ:∀x d,((n,c)::a).lookup x=U d->env.cells.lookup x=U d:=λx d e=>by
    rw[j3]at e;cases f:x == n with
    |true=>rw[f]at e;have f:=eq_of_beq f;subst f;cases e;exact s
    |false=>rw[f]at e;exact j x d e
   obtain⟨cl,e,q,l,o⟩:=ia env r ((n,c)::a) (λp b=>m p<|ed _ b) Ħ;have self:∃c',cl.lookup n=U c':=l n c (by rw[j3];simp)
   refine⟨cl,?_,q,λx d f=>?_,λp b i=>?_⟩
   .rw[O_]
    show((do let c <- cellOf env n;pure (gN<|(n,c)::a)) >>= _)=_
    unfold cellOf;rw[s];exact e
   .cases g:x == n with
    |true=>have:=eq_of_beq g;subst this;exact self
    |false=>exact l x d (by rw[j3,g];exact f)
   .rcases bH.mp b with rfl|b
    .exact self
    .exact o p b i
  .obtain⟨cl,e,q,l,o⟩:=ia env r a (λp b=>m p<|ed _ b) j
   refine⟨cl,?_,q,l,λp b i=>?_⟩
   .rw[O_]
    have t:(k == NameKind.free)=ZA:=by simpa using hk
    show((if(k == NameKind.free)=O then _ else pure (gN a)) >>= _)=_
    rw[t];exact e
   .rcases bH.mp b with rfl|b
    .exact dw i hk
    .exact o p b i
def rC(h:∀p∈scope.names,p.2=.free->∃c,env.cells.lookup p.1=U c) :
  ∃cl,closureFor scope env=pure cl/\(∀x c,cl.lookup x=U c->env.cells.lookup x=U c)/\∀p∈scope.names,p.2=.free->∃c,cl.lookup p.1=U c:=by
 obtain⟨cl,e,b,_,a⟩:=ia env scope.names [] h (λ_ _ e=>nomatch e);refine⟨cl,?_,b,a⟩;exact(ej (λz:Sem _=>z >>= λcs=>pure cs) e)
abbrev Cx.block(X:Cx)(N:Bi)(scope:hA)(cl:List<|Str×bp)(C:bp)(a:BM)(s:ag)(H:Hp):Cx where
 prog:=X.prog
 w:=X.w
 K:=X.K
 mg:=X.mg
 base:=X.base
 A:=X.A
 N:=N
 s₀:=s
 H₀:=H
 env:=compEnvC scope cl C X.env
 outer:=X.stack
 stack:=X.stack
 ex:=a
 fn:=λ_=>ZA
 calm:=X.calm
 pn:=[]
 xe:=λ_ _=>False
inductive gq(X:Cx)(scope:hA):B1->Bi->Prop where
 |nil:gq X scope [] []
 |cons {j:Nat} {x:Str} {js:B1} {xs:Bi}:X.N[j]?=U x->scope.names.lookup x=U .free->X.env.kindOf x=U .cell->gq X scope js xs->gq X scope (j::js) (x::xs)
theorem gq.get:∀{js:B1}{xs:Bi},gq X scope js xs->∀{i:Nat}{x:Str},xs[i]?=U x->∃j,js[i]?=U j/\X.N[j]?=U x/\scope.names.lookup x=U .free/\X.env.kindOf x=U .cell
 |_,_,.nil,_,_,e=>by simp at e
 |_,_,.cons f d c _,0,_,e=>by simp at e;subst e;exact⟨_,J,f,d,c⟩
 |_,_,.cons _ _ _ t,i+1,_,e=>by
  obtain⟨j,a,b⟩:=t.get (by simpa using e)
  exact⟨j,by simpa using a,b⟩
theorem gq.length:∀{js:B1}{xs:Bi},gq X scope js xs->js.length=xs.length
 |_,_,.nil=>J
 |_,_,.cons _ _ _ t=>by simp[t.length]
def dH(k:Nat)(js:B1)(a:St):St:=cR k Y++js.map λj=>(a[j]?).join
theorem fZ{env:Env}(hk:env.scope.kind=.function):∀{names:List<|Str×p0}{x:Str},names.lookup x=U .free->env.kindOf x=U .cell ->
  (names.map λ(n,k)=>if(k == NameKind.free&&env.scope.kind == .function&&env.kindOf n == U .cell)then(n,NameKind.cell)else(n,k)).lookup x=U .cell
 |[],_,h,_=>by simp at h
 |(n,k)::r,x,h,b=>by
  have c:=@fZ env hk r x;show fS x ((if(k == NameKind.free&&env.scope.kind == .function&&env.kindOf n == U .cell)=O then(n,NameKind.cell)else(n,k))::_)=_
  cases a:x == n with
  |true=>
   have e:=eq_of_beq a;subst e;simp only[j3,a]at h;cases h;rw[bt<|by rw[hk,b];rfl]
   simp[j3]
  |false=>
   simp only[j3,a]at h;by_cases hq:(k == NameKind.free&&env.scope.kind == .function&&env.kindOf n == U .cell)=O
   .rw[bt hq];simp only[j3,a];exact c h b
   .rw[b0 hq];simp only[j3,a];exact c h b
theorem gu{env:Env}:∀{names:List<|Str×p0}{x:Str},(∀p∈names,p.2≠.cell) ->
  ((names.map λ(n,k)=>if(k == NameKind.free&&env.scope.kind == .function&&env.kindOf n == U .cell)then(n,NameKind.cell)else(n,k)).lookup x=U .cell \/
   (names.map λ(n,k)=>if(k == NameKind.free&&env.scope.kind == .function&&env.kindOf n == U .cell)then(n,NameKind.cell)else(n,k)).lookup x=U .free)->∃p∈names,p.1=x/\p.2=.free
 |[],_,_,h=>by simp at h
 |(n,k)::r,x,c,h=>by
  have d:=@gu env r x λp b=>c p<|ed _ b;have h:fS x ((if(k == NameKind.free&&env.scope.kind == .function&&env.kindOf n == U .cell)=O then(n,NameKind.cell)else(n,k))::(r.map λ(n,k)=>if(k == NameKind.free&&env.scope.kind == .function&&env.kindOf n == U .cell)then(n,NameKind.cell)else(n,k)))=U .cell \/
   fS x ((if(k == NameKind.free&&env.scope.kind == .function&&env.kindOf n == U .cell)=O then(n,NameKind.cell)else(n,k))::(r.map λ(n,k)=>if(k == NameKind.free&&env.scope.kind == .function&&env.kindOf n == U .cell)then(n,NameKind.cell)else(n,k)))=U .free:=h
  cases a:x == n with
  |true=>
   have e:=eq_of_beq a;subst e;refine⟨(x,k),d_,J,?_⟩;by_cases hq:(k == NameKind.free&&env.scope.kind == .function&&env.kindOf x == U .cell)=O
   .cases k<;>first|rfl|(simp at hq)
   .rw[b0 hq]at h
    simp only[j3,lp]at h;rcases h with h|h
    .cases h;exact dw J<|c (x,.cell) d_
    .cases h;rfl
  |false=>
   have f:fS x (r.map λ(n,k)=>if(k == NameKind.free&&env.scope.kind == .function&&env.kindOf n == U .cell)then(n,NameKind.cell)else(n,k))=U .cell \/
    fS x (r.map λ(n,k)=>if(k == NameKind.free&&env.scope.kind == .function&&env.kindOf n == U .cell)then(n,NameKind.cell)else(n,k))=U .free:=by
    by_cases hq:(k == NameKind.free&&env.scope.kind == .function&&env.kindOf n == U .cell)=O
    .rw[bt hq]at h;simp only[j3,a]at h;exact h
    .rw[b0 hq]at h;simp only[j3,a]at h;exact h
   obtain⟨p,b,i,g⟩:=d f;exact⟨p,ed _ b,i,g⟩
structure gP(X:Cx)(scope:hA):Prop where
 kind:scope.kind=.function
 nocell:∀p∈scope.names,p.2≠.cell
 names:∀p∈scope.names,p.2=.local->scope.names.lookup p.1=U .local
 frees:∀p∈scope.names,p.2=.free->X.env.kindOf p.1=U .cell
variable{X:Cx}
def Inv.enter{cl:List<|Str×bp}{h₁:eI}(I:Inv X ae σ H s)(S:gP X scope)(F:gq X scope js fs)
  (LK:∀x c,cl.lookup x=U c->X.env.cells.lookup x=U c) (h:∀p∈scope.names,p.2=.free->∃c,cl.lookup p.1=U c)
  (n:∀b∈E,o9 X ae H b) (D:∀b∈E,b<s.heap.objs.size) (N:h₁.Ns s.heap.objs.size λ_=>Y) (hk:∀b o,s.heap.get? b=U o->h₁.get? b=U o) :
  Inv (X.block (ls++fs) scope cl s.heap.objs.size E s H) [] (dH ls.length js σ) H {s with heap:=h₁,toks:=tk}:=by
 refine⟨⟨I.ok.mod,?_,I.ok.glob,I.ok.blt,bL _,λx y c V T=>I.ok.inj x y c (LK x c V)<|LK y c T,λx A=>?_,(λx c A=>by cases A),I.ok.hd,I.ok.frames,.inl J,λb f=>⟨eM<|D b f,λx c e=>(n b f).2.2.2.2.1 x c<|LK x c e⟩,
  I.bs,c_ I.ok.bsz I.sz,λb o e f=>?_,λb f z=>?_,I.stack,I.oh⟩,J,I.bare,Un.kept hk,⟨_,N,λi x v K d e3=>?_⟩,λx c e=>?_,I.bz.fresh<|bL _,λx c e=>I.freeC x c<|LK x c e,λp B=>dw B<|by simp,I.bz.kept hk,?_⟩
 . exact S.kind
 .obtain⟨p,B,K,d⟩:=gu S.nocell A
  obtain⟨c,e⟩:=h p B d;exact⟨c,K▸e⟩
 .rcases(n b f).2.2.2.1 with z|z
  .exact I.ok.noex b o e z
  .exact dw (fB (cv (I.ok.bs b o e).1) z)<|qZ _
 .rcases bH.mp (I.j8 b z)with e|e
  .exact(n b f).2.1 e
  .exact(n b f).2.2.1 e
 .-- a name of the block that has a value: one from around
  have k:ls.length<=i:=by
   by_cases k:i<ls.length
   .unfold dH at d
    rw[jP<|by simpa using k,yS]at d
    lia
   .lia
  have G:=by
   have q:=K;rw[iw k]at q;exact q
  obtain⟨j,Q,R,M,Ź⟩:=F.get G;have g:=by
   unfold dH at d;rw[iw<|by simpa using k,eQ]at d
   simp[vZ]at d;rw[Q]at d;simpa using d
  have w:σ[j]?=U (U v):=by
   cases q:σ[j]? with
   |none=>rw[q]at g;cases g
   |some z=>rw[q]at g;have g:z=U v:=g;rw[g]
  obtain⟨m,_,P⟩:=I.loc;obtain⟨u,r,l⟩:=P j x v R w<|.inr<|.inl Ź;refine⟨u,r,.inr ⟨.inl<|fZ I.ok.kind M Ź,?_⟩⟩;rcases l with⟨z,_⟩|⟨_,c,e,q⟩
  .have L:=z
   rw[Ź]at L;cases L
  .obtain⟨W,e'⟩:=h _ (hX M) J
   have t:=LK x W e';rw[e]at t;rw[<- t]at e';obtain⟨o,C,hd⟩:=q;exact⟨c,e',o,hk _ _ C,hd⟩
 .obtain⟨v,o,C,hd⟩:=I.cell x c<|LK x c e
  exact⟨v,o,hk _ _ C,hd⟩
 .unfold dH
  rw[cV,vZ,cH,cV,F.length]
def KZ(X:Cx)(b:Bz)(t:TT):Prop:=
 ∀(d:dG)(s:ag)(a:St)(H:Hp)(Q:Bool->Hp->Prop),Inv X d a H s->t a H Q ->
  Kb X (forIn b O λc r=>if r=O then do let ok <- HC c X.env (fu c X.env);pure (gN ok)else pure (gN r)) (TP X d a Q) X.xe s
def ź:TT:=λ_ H Q=>Q O H
def LL:KZ X [] ź:=λ_ _ _ H _ I h=>wpAny_tests_nil ⟨H,I,h⟩
def LP(h:PT X c t):KZ X [c] t:=λd s a H Q I b=>wpAny_tests_one<|h d s a H Q I b
def dQ:St->St->Prop
 |[],[]=>True
 |Y::a,_::b=>dQ a b
 |U v::a,U w::b=>v=w/\dQ a b
 |_,_=>False
theorem dQ.len:∀{a b:St},dQ a b->a.length=b.length
 |[],[],_=>J
 |[],_::_,h=>h.elim
 |Y::a,[],h=>h.elim
 |U _::a,[],h=>h.elim
 |Y::a,x::b,h=>by simp[dQ.len (a:=a) (b:=b) h]
 |U _::a,Y::b,h=>h.elim
 |U _::a,U _::b,h=>by simp[dQ.len (a:=a) (b:=b) h.2]
theorem dQ.get:∀{a b:St},dQ a b->∀(i:Nat)(v:V),a[i]?=U (U v)->b[i]?=U (U v)
 |[],[],_,_,_,e=>e
 |[],_::_,h,_,_,_=>h.elim
 |Y::a,[],h,_,_,_=>h.elim
 |U _::a,[],h,_,_,_=>h.elim
 |Y::a,x::b,h,0,v,e=>by simp at e
 |Y::a,x::b,h,i+1,v,e=>by
  have:=dQ.get (a:=a) (b:=b) h i v (by simpa using e)
  simpa using this
 |U _::a,Y::b,h,_,_,_=>h.elim
 |U y::a,U z::b,h,0,v,e=>by have c:=h.1;subst c;simpa using e
 |U y::a,U z::b,h,i+1,v,e=>by
  have:=dQ.get (a:=a) (b:=b) h.2 i v (by simpa using e)
  simpa using this
@[irreducible] def tComp(l:TI)(k:Nat)(js:B1)(g:TG)(n:TT)(o:TE):TE:=λe H Q=>l e H λq H1=>∀D,H1 D=Y->∃W:Nat->Nat->List V->Hp->Prop,(∃m,W 0 m []<|upd H1 D<|.lst []) /\
 ∀i m c H,W i m c H->(q.stop i H/\Q (.ref D) H)\/(q.go i H/\∀x j,q.yld i H x j->g x (dH k js e) j λa p=>dQ (dH k js e) a/\n a p λb h=>
  if b=O then o a h λy f=>f D=U (.lst c)/\c.length<cw/\∃d,d<m/\W (i+1) d (c++[y]) (upd f D<|.lst<|c++[y])
  else ∃d,d<m/\W (i+1) d c h)
def sC
  (hc:X.calm=O) (S:gP X scope) (F:gq X scope js fs) (hi:PI X tg l wi)
  (hg:∀cl C f s H,PG (X.block (ls++fs) scope cl C f s H) tg g) (ht:∀cl C f s H,KZ (X.block (ls++fs) scope cl C f s H) N tt) (he:∀cl C f s H,PE (X.block (ls++fs) scope cl C f s H) elt te)
       (I:Inv X L G H s) (h:tComp wi ls.length js g tt te G H Q)
  (fin:∀D C s' H' m,Inv X L G H' s'->o9 X L H' C->s'.heap.Ns C m->Q (.ref D) H'->compPost (cx X.prog X.w) X.A X.xe use Qo (.ref D) C (.ok .next) s')
  (hs:∀x,fC l X.env x=pure x) :
  Kb X (comprehension (.ListComp elt [⟨tg,l,N,0⟩] scope pos) scope X.env cL (newList []) ZA (fu l X.env) use) Qo X.xe s:=by
 unfold tComp at h;obtain⟨cl,ecl,h1,h2⟩:=rC (scope:=scope) (env:=X.env) λp hp hf=>I.ok.has p.1<|.inl<|S.frees p hp hf;refine wpAny_comprehension_free J hs ecl S.kind S.names<|bX (hi L s G H _ I h) λv s1 q1=>bX q1 λŠ s2 q2=>?_;obtain⟨it,f,tn,qD,H2,e,I2,T,WV,f2,q⟩:=q2;subst e;refine wpAny_newObj_type<|wpAny_newFunctionEnv S.nocell (by intro y hy;simp at hy) (λh₁ k j=>?_) S.kind
 have I3:Inv X L G (upd H2 s2.heap.objs.size<|.lst []) {s2 with heap:=s2.heap.push {cls:=.type "list",dict:=Y,data:=.seq ([]:B2).toArray}}:=I2.D4 (t':=s2.toks) .nil<|dz _
 obtain⟨W,⟨m0,w0⟩,step⟩:=q s2.heap.objs.size I2.fresh;dsimp only at k j ⊢
 generalize hs3:({s2 with heap:=s2.heap.push {cls:=.type "list",dict:=Y,data:=.seq ([]:B2).toArray}}:ag)=s3 at I3
 have es3:s3.heap=s2.heap.push {cls:=.type "list",dict:=Y,data:=.seq ([]:B2).toArray}:=by rw[<- hs3]
 rw[<- es3]at k j ⊢;have old:∀b o,s3.heap.get? b=U o->h₁.get? b=U o:=λb o e=>j.extBut b o (eM<|cv e)<|av _ e;have up:∀b o,s2.heap.get? b=U o->s3.heap.get? b=U o:=λb o e=>by rw[es3];exact av _ e
 have fz2:∀b∈f,b<s2.heap.objs.size:=λb a=>by
  obtain⟨o,e,_⟩:=T.obj 0 _ WV b a;exact cv e
 have B:∀b∈f,o9 X L (upd H2 s2.heap.objs.size<|.lst []) b:=λb a=>⟨by rw[aq<|eM<|fz2 b a];exact(f2 b a).1,(f2 b a).2⟩
 have fz3:∀b∈f,b<s3.heap.objs.size:=λb a=>by
  obtain⟨o,e,_⟩:=T.obj 0 _ WV b a;exact cv<|up b o e
 have I4:=I3.enter (ls:=ls) (h₁:=h₁) (tk:=s2.toks+([]:List<|Str×ar).length) S F h1 h2 B fz3 (by simpa using k) old
 have st4:tn 0 h₁:=T.keep 0 _ _ WV λb _ o e=>old b o<|up b o e
 generalize hC:s3.heap.objs.size=C at I4 k j ⊢
 generalize hH3:upd H2 s2.heap.objs.size (.lst [])=H3 at I3 I4 B w0
 have y_:∀{H':Hp},(∀b∈f,H' b=Y)->∀b∈f,o9 (X.block (ls++fs) scope cl C f s3 H3) [] H' b:=λhn b a=>
  ⟨hn b a,by rw[<- hC];exact eM<|fz3 b a,λz=>(bH.mp<|I3.j8 b z).elim (B b a).2.1 (B b a).2.2.1,.inl a,λx c e=>(B b a).2.2.2.2.1 x c<|h1 x c e,λp hp=>dw hp<|by simp⟩
 have E_:∀b∈f,(b∈X.ex\/X.s₀.heap.objs.size<=b)/\b≠X.env.locals/\(∀x c,X.env.cells.lookup x=U c->c≠b)/\∀p∈X.pn++L,p.1≠b:=λb a=>⟨(B b a).2.2.2.1,(B b a).2.1,(B b a).2.2.2.2.1,(B b a).2.2.2.2.2⟩;have K:∀s4:ag,s4={s3 with heap:=h₁,toks:=s2.toks+([]:List<|Str×ar).length} ->
   nr (cx X.prog X.w) X.A (.compLoop (.ListComp elt [⟨tg,l,N,0⟩] scope pos) 0 (.ref it) (.ref s2.heap.objs.size)<|compEnvC scope cl C X.env) (compPost (cx X.prog X.w) X.A X.xe use Qo (.ref s2.heap.objs.size) C) s4:=by
  rintro s4 rfl
  refine D8 (λn s'=>∃i M H',Inv (X.block (ls++fs) scope cl C f s3 H3) [] (dH ls.length js G) H' s'/\tn i s'.heap/\(∀b∈f,H' b=Y)/\W i n M H') ?_ m0 ⟨0,[],H3,I4,st4,λb a=>(B b a).1,w0⟩
  rintro n s5 ⟨i,M,H5,I5,Ln,ġ,w5⟩
  rcases step i n M H5 w5 with⟨stop,qf⟩|⟨go,nxt⟩
  .refine bX (T.done (X.block (ls++fs) scope cl C f s3 H3) J J J hc i [] s5 _ H5 (λ_ _=>False) I5 (y_ ġ) Ln stop) λr s6 t=>?_
   obtain⟨hr,Z⟩:=t;subst hr;obtain⟨m,hm,_⟩:=id Z.loc;have J6:Inv X L G H5 s6:=I3.GC (ch:=f) Z.os Z.base Z.bz Z.bare E_;exact fin _ C s6 H5 m J6 (I3.ug (q_ hC) Z.free) hm qf
  .refine bX (T.item (X.block (ls++fs) scope cl C f s3 H3) J J J hc i [] s5 _ H5 (λ_ _=>False) I5 (y_ ġ) Ln go) λr s6 t=>?_
   obtain⟨u,hr,h6⟩:=t;subst hr;refine bX h6 λ_ s7 t=>?_;obtain⟨x,H7,I7,r7,y7,Ż,fr7⟩:=t;have I7':=I7.pinned (y_ fr7)<|T.obj _ _ Ż;refine bX (hg cl C f s3 H3 _ s7 _ H7 x u _ I7' r7<|nxt x H7 y7) λ_ s8 t=>?_;obtain⟨E,H8,I8,kp,q8⟩:=t;have again:∀{R:ag}{P:Hp},Inv (X.block (ls++fs) scope cl C f s3 H3) ([]++o_ f s7.heap) E P R ->
     Inv (X.block (ls++fs) scope cl C f s3 H3) [] (dH ls.length js G) P R/\tn (i+1) R.heap/\∀b∈f,P b=Y:=λ{R P} V=>by
    refine⟨V.kT.weak kp.len kp.get,T.keep _ _ _ Ż λb a o e=>(V.pin (b,o)<|ji _<|ji _<|iQ a e).1,λb a=>?_⟩;obtain⟨o,e,d⟩:=T.obj _ _ Ż b a;exact(V.pin (b,o)<|ji _<|ji _<|iQ a e).2.1
   refine bX (ht cl C f s3 H3 _ s8 E H8 _ I8 q8) λb R t=>?_;obtain⟨P,V,q9⟩:=t;cases b with
   |false=>
    obtain⟨m',hm,w9⟩:=q9;obtain⟨a1,a2,a3⟩:=again V;exact⟨m',hm,i+1,M,P,a1,a2,a3,w9⟩
   |true=>
    refine bX (he cl C f s3 H3 _ R E P _ V q9) λxv s10 t=>?_;obtain⟨y,H10,I10,r10,hD,hz,m',hm,w10⟩:=t;refine bX (jJ (X:=X.block (ls++fs) scope cl C f s3 H3) _ s10 E H10 (.ref s2.heap.objs.size) [y] (.ref s2.heap.objs.size) [xv] (λ_ H11=>H11=upd H10 s2.heap.objs.size (.lst<|M++[y])) I10 J (.cons r10 .nil)
     ⟨_,M,y,J,J,hD,hz,J⟩) λ_ s11 ⟨z,H11,I11,_,e11⟩=>?_
    subst e11;obtain⟨a1,a2,a3⟩:=again I11;exact⟨m',hm,i+1,M++[y],_,a1,a2,a3,w10⟩
 have abA:({newEnv scope C X.env.globals cl X.env.qual Y .none (U X.env) tj with scope:=He scope X.env}:Env)=compEnvC scope cl C X.env:=J
 exact codeAny_compStart_list (K _<|by rw[<- hs3])<|T.self X.A 0 _ _ _ st4<|K _<|by rw[<- hs3]
def LQ(ls:Bi)(n:X.calm=O)(S:gP X scope)(F:gq X scope js fs)(k:PI X tg iter wi)
  (l:∀cl C a s H,PG (X.block (ls++fs) scope cl C a s H) tg g) (i:∀cl C a s H,KZ (X.block (ls++fs) scope cl C a s H) ifs tt) (he:∀cl C a s H,PE (X.block (ls++fs) scope cl C a s H) elt te)
  (hs:∀x,fC iter X.env x=pure x:=by intro _;rfl):PE X (.ListComp elt [⟨tg,iter,ifs,0⟩] scope pos)<|tComp wi ls.length js g tt te:=by
 intro v s t H Q I h;rw[eval_ListComp];refine sC (use:=Y) n S F k l i he I h ?_ hs;intro D C f r m w c j q;exact⟨m,j,λu d=>⟨.ref D,r,w.turned (t':=f.toks) (it:=C) (λb o p e=>(d.2 b p).trans e) c.1 c.2.1 c.2.2.2.1 c.2.2.2.2.1 c.2.2.2.2.2,J,q⟩⟩
def Bo(ls:Bi)(L:X.calm=O)(Q:X.N.Nodup)(p:X.N[i]?=U x)(w:Loc X.env.scope x)(S:gP X scope)(F:gq X scope js fs)(E:PI X tg iter wi)
  (G:∀cl C f s H,PG (X.block (ls++fs) scope cl C f s H) tg g) (y:∀cl C f s H,KZ (X.block (ls++fs) scope cl C f s H) ifs tt) (he:∀cl C f s H,PE (X.block (ls++fs) scope cl C f s H) elt te)
  (hs:∀x,fC iter X.env x=pure x:=by intro _;rfl) (K:J2 X x:=by first|exact .inl J|exact .inr J|assumption)
  (T:fv (.ListComp elt [⟨tg,iter,ifs,0⟩] scope pos) (U<|.Name x d) t.line X.env=pure O:=by rfl) :
  PS X (.Assign [.Name x d] (.ListComp elt [⟨tg,iter,ifs,0⟩] scope pos) t) λD j H=>tComp wi ls.length js g tt te j H λv H1=>D.nx (j.set i<|U v) H1:=by
 intro R s j H D I h;rw[exec_Assign_Name_used _ _ _ _ T];refine ax<|og<|ax ?_;show cC _ X.A (do let _ <- comprehension (.ListComp elt [⟨tg,iter,ifs,0⟩] scope pos) scope X.env _ (newList []) ZA (fu iter X.env) (U<|tq (.Name x d) X.env)) _ _ s
 refine ax<|eP (sC (use:=U<|tq (.Name x d) X.env) (Qo:=λ_ k=>SP X R D .next k) L S F E G y he I h ?_ hs) (λ_ k z=>dv<|dv z) λ_ _ e=>e
 intro r C k Z m qD c B q;show cC _ X.A (tq (.Name x d) X.env<|.ref r) _ _ _;refine wpAny_assign_Name<|rZ qD Q p w (show RelV (.ref r) (.ref r)from J) (λV W u=>?_) K;obtain⟨a,l,P⟩:=u;have ne:C≠a:=by
  rcases P with e|e
  .rw[e];exact c.2.1
  .exact f3<|c.2.2.2.2.1 x a e
 refine⟨m,B.sameBut l ne,λh' n=>?_⟩;exact⟨_,Z,W.turned (t':=V.toks) (it:=C) (λb o M e=>(n.2 b M).trans e) c.1 c.2.1 c.2.2.2.1 c.2.2.2.2.1 c.2.2.2.2.2,q⟩
def G9{K:bG}{St:Nat->eI->Prop}(val:Nat->V->Prop)
  (W:∀A:ew,A.handled=Y->Walks P w A it [it] [it] n C St) (M:∀i v,C i v->∃y,RelV y v/\val i y)
  (N:∀i h,St i h->∃o,h.get? it=U o/\∀v,o.data≠.cell v) (hk:∀i(h h':eI),St i h->(∀o,h.get? it=U o->h'.get? it=U o)->St i h')
  (S:∀(A:ew)(i:Nat)(s:ag)(Q:Jn)(E:Jn),St i s.heap->Q (.ref it) s->cC (cx P w) A (pyIter<|.ref it) Q E s) :
  Turn P w K (.Name x L) ⟨λi _=>i<n,λi H y H'=>H'=H/\val i y,λi _=>i=n⟩ [it] it St where
 mem:=by simp
 obj:=λi h st b a=>by
  have e:=by simpa using a
  subst e;exact N i h st
 keep:=λi h h' st k=>hk i h h' st<|k it<|by simp
 item:=by
  intro X l g m j i B s z H E I d st c;obtain⟨u,t,R,r,q,p⟩:=d it (by simp)
  refine(W X.A<|I.ok.hd j).item i s _ _ c st λv h' tk T G f=>?_;obtain⟨y,F,D⟩:=M i v T;have Z:Inv X B z H {s with heap:=h',toks:=tk}:=I.turned (λb o a e=>f b o (by simpa using a) e) u t r q p
  exact⟨v,J,dv ⟨y,H,Z,F,⟨J,D⟩,G,λb a=>(d b a).1⟩⟩
 done:=by
  intro X l g m j i B s z H E I d st c;obtain⟨u,t,R,r,q,p⟩:=d it (by simp)
  have c:=c;rw[c]at st;exact(W X.A<|I.ok.hd j).done s _ _ st λh' tk f=>⟨J,I.turned (λb o a e=>f b o (by simpa using a) e) u t r q p⟩
 self:=S
def Its(z:Str):It:=⟨λi _=>i<z.cps.size,λi H y a=>a=H/\∃c,z.cps[i]?=U c/\y=.str ⟨#[c]⟩,λi _=>i=z.cps.size⟩
def ż(b:TE):TI:=λa H R=>b a H λv H1=>∃z,v=.str z/\R (Its z) H1
def SE(G:PE X l m):PI X (.Name x F) l<|ż m:=by
 intro w s C H R I h;refine bX (G w s C H _ I h) λv a D=>?_;obtain⟨y,H1,I1,E,q1⟩:=D;obtain⟨z,rfl,q⟩:=q1;obtain⟨t,rfl⟩:=E;have f:∀b∈[a.heap.objs.size],o9 X w H1 b:=λb K=>by
  have e:=by simpa using K
  subst e;exact I1.ug (bL _)<|I1.bz.fresh<|bL _
 have n:∀i v,SignAt z i v->∃y,RelV y v/\∃c,z.cps[i]?=U c/\y=.str ⟨#[c]⟩:=by rintro i v ⟨c,u,e,L⟩;exact⟨.str _,⟨u,L⟩,c,e,J⟩
 have B:∀(ty:String)(i:Nat)(h:eI),h.IsStrIter a.heap.objs.size ty z t i->∃o,h.get? a.heap.objs.size=U o/\∀v,o.data≠.cell v:=λty i h ⟨o,e,_,d⟩=>⟨o,e,λv q=>by rw[d]at q;cases q⟩
 have kp:∀(ty:String)(i:Nat)(h j:eI),h.IsStrIter a.heap.objs.size ty z t i->(∀o,h.get? a.heap.objs.size=U o->j.get? a.heap.objs.size=U o)->j.IsStrIter a.heap.objs.size ty z t i:=by rintro ty i h j ⟨o,e,r⟩ k;exact⟨o,k o e,r⟩
 cases p:z.cps.all _
 .refine wpAny_pyIter_wide p ?_
  exact⟨a.heap.objs.size,[a.heap.objs.size],_,_,H1,J,I1.kept λb o e=>av _ e,
   G9 _ (λA g=>Walks.strWide g _ z t) n (B _) (kp _) λ_ _ _ _ _ st h=>wpAny_pyIter_striter_wide st h,⟨_,c3 _ J,J,J⟩,f,q⟩
 .refine wpAny_pyIter_ascii p ?_
  exact⟨a.heap.objs.size,[a.heap.objs.size],_,_,H1,J,I1.kept λb o e=>av _ e,
   G9 _ (λA g=>Walks.strAscii g _ z t) n (B _) (kp _) λ_ _ _ _ _ st h=>wpAny_pyIter_striter_ascii st h,⟨_,c3 _ J,J,J⟩,f,q⟩
def Ž(a:Int)(n:Nat):It:=⟨λi _=>i<n,λi H x b=>b=H/\x=.int (a-i),λi _=>n<=i⟩
def D9{K:bG}(it:bp)(c:Int)(n:Nat):Turn P w K tg (Ž c n) [it] it λi h=>w6 h it (c+(i:Nat)*(-1)) ((n:Int)-(i:Nat))<|-1 where
 mem:=by simp
 obj:=λi h st b a=>by
  have e:=by simpa using a
  subst e;exact⟨_,st,λv z=>by
   have D:=z;cases D⟩
 keep:=λi h f st k=>k it (by simp) _ st
 item:=by
  intro X m g p l i C s A H E I d st j;subst m g p;obtain⟨y,x,L,u,r,q⟩:=d it (by simp)
  have W:=Walks.range (prog:=X.prog) (w:=X.w) (I.ok.hd l) it c (-1) n;refine W.item i s _ _ j st λv f tk G B F=>?_;obtain⟨t,rfl⟩:=G;have N:Inv X C A H {s with heap:=f,toks:=tk}:=I.turned (λb o a e=>F b o (by simpa using a) e) y x u r q
  refine⟨_,J,wu B J J (by rfl) ⟨.int _,H,N,⟨t,?_⟩,⟨J,J⟩,B,λb a=>(d b a).1⟩⟩
  have e:c+i*(-1)=c-i:=by lia
  rw[e]
 done:=by
  intro X m g p l i C s A H E I d st j;obtain⟨y,x,L,u,r,q⟩:=d it (by simp)
  exact F1 (I.ok.hd l) st (by have:n<=i:=j;lia) λf M=>⟨J,I.turned (λb o a e=>M b o a e) y x u r q⟩
 self:=λ_ _ _ _ _ st h=>F2 st h
def Xr(c:TA):TI:=λa H R=>c a H λb H1=>∃i:Int,b=[.int i,.int<|-1,.int<|-1]/\-1<=i/\i<2^30/\R (Ž i (i+1).toNat) H1
def LR(z:Gl X "range")(y:X.mg "range" = Y)(B:PA X [a,b,c] m)(hs:c5 [a,b,c] X.env=[(ZA,fu a X.env),(ZA,fu b X.env),(ZA,fu c X.env)]:=by rfl)
  (u:c5 [b,c] X.env=[(ZA,fu b X.env),(ZA,fu c X.env)]:=by rfl):PI X tg (.Call (.Name "range" p) [a,b,c] [] pos)<|Xr m:=by
 intro n s l H R I h;refine Call_<|iO I z y boot_range<|DL (bX (B pos n s l H _ I h) λG f v=>?_) (by rw[hs,u])<|by rw[u];rfl
 obtain⟨F,H1,E,w,q1⟩:=v;obtain⟨i,e,q1,q2,q⟩:=q1;subst e;cases w with
 |cons r d=>
  cases d with
  |cons x d=>
   cases d with
   |cons j d=>
    cases d;obtain⟨t,rfl⟩:=r;obtain⟨t',rfl⟩:=x;obtain⟨g,rfl⟩:=j;refine call_range_3 (by decide) ?_<|.inl<|vT<|by decide
    have m_:kf i (-1) (-1)=i+1:=by
     unfold kf;rw[b0<|by decide]
     split
     .have e:-(-1:Int)=1:=J
      rw[e,Int.ediv_one];lia
     .lia
    have k:tJ i (-1) (-1)=O:=by
     unfold tJ;rw[m_];simp[Builtin.Range.rangeFitsLong]
     lia
    refine wpAny_pyIter_range (IsRange.new ..) k ?_
    generalize hh:f.heap.push {cls:=.type "range",data:=.fields #[.int i t,.int (-1) t',.int (-1) g]}=h2
    have I2:Inv X n l H1 {f with heap:=h2}:=E.kept (t':=f.toks) λb o e=>by rw[<- hh];exact av _ e
    refine⟨h2.objs.size,[h2.objs.size],_,_,H1,J,I2.kept (t':=f.toks) λb o e=>av _ e,D9 _ i (i+1).toNat,?_,λb A=>?_,q⟩
    .have D:i+((0:Nat):Int)*(-1)=i:=by lia
     have C:(((i+1).toNat:Nat):Int)-((0:Nat):Int)=kf i (-1) (-1):=by
      rw[m_]
      lia
     show w6 _ _ (i+((0:Nat):Int)*(-1)) ((((i+1).toNat:Nat):Int)-((0:Nat):Int))<|-1;rw[D,C];exact c3 _ J
    .have e:b=h2.objs.size:=by simpa using A
     subst e;exact I2.ug (bL _)<|I2.bz.fresh<|bL _
structure ħ(a:It)(src:List V)(I:Hp->Prop):Prop where
 go:∀i H,I H->i<src.length->a.go i H
 yld:∀i H x H',I H->i<src.length->a.yld i H x H'->H'=H/\src[i]?=U x
 stop:∀i H,I H->i=src.length->a.stop i H
def LS(z:Str):ħ (Its z) (z.cps.toList.map λc=>V.str ⟨#[c]⟩) λ_=>True:=
 ⟨λi H _ h=>by have h:=h;rw[cH]at h;exact h,
  λi H x b _ _ y=>by
  obtain⟨e,c,a,ex⟩:=y;refine⟨e,?_⟩;rw[eQ,y6,a,ex];rfl,
  λi H _ h=>by rw[cH]at h;exact h⟩
def sD(lo:Int)(n:Nat):ħ (WR lo n) ((df n).map λk=>V.int<|lo+(k:Nat)) λ_=>True:=
 ⟨λi H _ h=>by have h:=h;rw[cH,lS]at h;exact h,
  λi H x b _ a y=>by
  obtain⟨e,ex⟩:=y;refine⟨e,?_⟩;have a:=by rw[cH,lS]at a;exact a
  rw[eQ,Ga a,ex];rfl,
  λi H _ h=>by rw[cH,lS]at h;exact q_ h.symm⟩
def Itv(K:bG)(a:bp)(xs:List V):It:=⟨λi H=>i<xs.length/\dW K H a xs,λi H y b=>b=H/\xs[xs.length-1-i]?=U y,λi _=>i=xs.length⟩
def Hb{K:bG}(a it:bp)(xs:List V):Turn P w K tg (Itv K a xs) [it] it λi h=>h.IsRevIter it a<|(xs.length:Int)-1-(i:Int) where
 mem:=by simp
 obj:=λi h st b f=>by
  have e:=by simpa using f
  subst e;obtain⟨o,e,c,d⟩:=st;exact⟨o,e,λv z=>by rw[d]at z;cases z⟩
 keep:=λi h l st k=>st.at λo e=>k it (by simp) o e
 item:=by
  intro X q n r G i L s D H E I j st g;subst q n r;obtain⟨hi,S⟩:=g;obtain⟨aN,N,p,hz⟩:=I.list S;have F:xs[xs.length-1-i]?=U _:=dM (by lia)
  obtain⟨u,R,Q⟩:=N.get F;obtain⟨C,B,T,A,y,t⟩:=j it (by simp)
  have e:xs.length-1-i=((xs.length-1-i:Nat):Int):=by lia
  rw[e]at st;refine wpAny_pyNext_rev_item st p.isList (by simpa using R) λl m M=>?_
  have I1:=I.turned (t':=s.toks) (λb o f e=>(M.2 b f).trans e) C B A y t
  have e2:((xs.length-1-i:Nat))-1=xs.length-1-((i+1):Int):=by lia
  rw[e2]at m;obtain⟨o,W,c,d⟩:=id m;exact⟨u,J,wu W c d (by decide) ⟨_,H,I1,Q,⟨J,F⟩,m,λb f=>(j b f).1⟩⟩
 done:=by
  intro X q n r G i L s D H E I j st g;obtain⟨C,B,T,A,y,t⟩:=j it (by simp)
  have g:i=xs.length:=g;have e:xs.length-1-(i:Int)=-1:=by lia
  rw[e]at st;exact wpAny_pyNext_rev_end (I.ok.hd G) st λl Z=>⟨J,I.turned (λb o f e=>Z b o f e) C B A y t⟩
 self:=λ_ _ _ _ _ st h=>wpAny_pyIter_revIter st h
def ž(K:bG)(d:TA):TI:=λb H R=>d b H λc H1=>∃a xs,c=[.ref a]/\dW K H1 a xs/\R (Itv K a xs) H1
def SG(u:Gl X "reversed")(t:X.mg "reversed" = Y)(w:PA X [a] d)(hs:c5 [a] X.env=[(ZA,fu a X.env)]:=by rfl):PI X tg (.Call (.Name "reversed" p) [a] [] pos)<|ž X.K d:=by
 intro y s f H R I h;refine Call_<|iO I u t PyProof.Rows.boot_reversed<|DL (bX (w pos y s f H _ I h) λB c g=>?_) hs J;obtain⟨A,H1,I1,k,q1⟩:=g;obtain⟨l,xs,e,n,q⟩:=q1;subst e;cases k with
 |cons r j=>
  cases j;cases r;obtain⟨z,i,m,C⟩:=I1.list n;have x:=i.length;refine call_reversed_list m.isList<|wpAny_pyIter_revIter ⟨_,c3 _ J,J,J⟩ ?_;refine⟨c.heap.objs.size,[c.heap.objs.size],_,_,H1,J,I1.kept (t':=c.toks) λb o e=>av _ e,Hb l _ xs,?_,λb v=>?_,q⟩
  .refine⟨_,c3 _ J,J,?_⟩
   have e:((z.toArray.size:Nat):Int)-1=(xs.length:Int)-1-((0:Nat):Int):=by rw[ck,<- x];lia
   rw[<- e];rfl
  .have e:b=c.heap.objs.size:=by simpa using v
   subst e;exact I1.ug (bL _)<|I1.bz.fresh<|bL _
def rD:LC X "str.startswith" λx vs H Q=>∃a b,x=.str a/\vs=[.str b]/\Q (.bl<|qs a b) H:=by
 intro i s e H x vs v f Q I c d h;obtain⟨a,b,rfl,rfl,q⟩:=h;obtain⟨t,rfl⟩:=c;obtain⟨u,rfl,⟨g,rfl⟩⟩:=d.one;exact SC.startswith ⟨.bl _,H,I,J,q⟩
def wH:LC X "str.endswith" λx vs H Q=>∃a b,x=.str a/\vs=[.str b]/\Q (.bl<|sq a b) H:=by
 intro i s e H x vs v f Q I c d h;obtain⟨a,b,rfl,rfl,q⟩:=h;obtain⟨t,rfl⟩:=c;obtain⟨u,rfl,⟨g,rfl⟩⟩:=d.one;exact SC.endswith ⟨.bl _,H,I,J,q⟩
def Xs:LC X "str.find" λx vs H Q=>∃a b i,x=.str a/\vs=[.str b,.int i]/\Q (.int<|Txt.find3 a b i) H:=by
 intro l s f H x vs v g Q I d e h;obtain⟨a,b,i,rfl,rfl,q⟩:=h;obtain⟨t,rfl⟩:=d;obtain⟨u,j,rfl,⟨k,rfl⟩,⟨c,rfl⟩⟩:=e.two;exact SC.find3 ⟨.int _,H,I.tok _,⟨_,J⟩,q⟩
theorem pC:∀{ys:Bi}{us:B2},Vals (ys.map V.str) us->yB us ys
 |[],_,.nil=>.nil
 |y::ys,_,.cons ⟨t,e⟩ r=>by
  subst e;exact .cons y t<|pC r
def LU:LC X "str.join" λx vs H Q=>∃a l ys,x=.str a/\vs=[.ref l]/\dW X.K H l (ys.map V.str)/\(ys.map (·.length)).sum+ys.length*a.length<=16777216/\Q (.str<|Str.join a ys) H:=by
 intro n s i H x vs v j Q I b c h;obtain⟨a,l,ys,rfl,rfl,g,f,q⟩:=h;obtain⟨t,rfl⟩:=b;obtain⟨u,rfl,d⟩:=c.one;cases d;obtain⟨o,r,p,_⟩:=I.list g;refine join_list p.isList (by simpa using pC r) f λm k=>?_
 have e:Txt.join a ys=Str.join a ys:=StrLaws.glued_eq_join a ys;rw[e];exact⟨.str _,H,I.tok _,⟨_,J⟩,q⟩
def SH:P5 X λx lo m H Q=>∃z,x=.str z/\z.length<=cw/\Q (.str<|yA z lo m) H:=by
 intro A s r H x v y w lo m sl Q I n hs p g h;obtain⟨z,rfl,a,q⟩:=h;obtain⟨t,rfl⟩:=n;refine⟨"str",_,F.slot_str_getitem.lookup,ql _ _ _,?_⟩;obtain⟨o,b,c,hd⟩:=hs;cases p with
 |none=>
  cases g with
  |none=>exact mn (l:=Y) (u:=Y) (st:=Y) ⟨o,b,c,hd⟩ J<|qC ⟨c_ (so z _ _) a,λe k=>⟨.str _,H,I.tok _,⟨_,J⟩,q⟩⟩
  |int j d=>exact mn (l:=Y) (u:=U (j,d)) (st:=Y) ⟨o,b,c,hd⟩ J<|qC ⟨c_ (so z _ _) a,λe k=>⟨.str _,H,I.tok _,⟨_,J⟩,q⟩⟩
 |int i f=>
  cases g with
  |none=>exact mn (l:=U (i,f)) (u:=Y) (st:=Y) ⟨o,b,c,hd⟩ J<|qC ⟨c_ (so z _ _) a,λe k=>⟨.str _,H,I.tok _,⟨_,J⟩,q⟩⟩
  |int j d=>exact mn (l:=U (i,f)) (u:=U (j,d)) (st:=Y) ⟨o,b,c,hd⟩ J<|qC ⟨c_ (so z _ _) a,λe k=>⟨.str _,H,I.tok _,⟨_,J⟩,q⟩⟩
def wJ:hU X (eJ .IsNot) λx y H Q=>∃a b,x=.bl a/\y=.bl b/\Q (.bl<|a != b) H:=by
 intro f s e H x y v u Q I d c h;obtain⟨a,b,rfl,rfl,q⟩:=h;cases d;cases c;exact isnot_bool<|jl I q J
def wK:fT X (.builtin "isinstance") λxs H Q=>∃x T t b,xs=[x,.ty T]/\jR X.K H x t/\tU X.K t (.type T)=U b/\Q (.bl b) H:=by
 intro i s d H xs f Q I r h;obtain⟨x,T,t,b,rfl,ty,e,q⟩:=h;obtain⟨u,g,rfl,a,c⟩:=vals2 r;cases c;exact r_ I a ty e λtk=>⟨.bl b,H,I.tok _,J,q⟩
def pD{ks:Fs}(r:Vals (ks.map V.bl) c)(A:ew):TruthOf X.prog X.w A (λi v=>c.toArray[i]?=U v) λi=>ks.getD i O:=by
 intro i v s Q E a b;have a:=by simpa using a
 have d:i<ks.length:=by
  have j:=(dq.mp a).1;have h:=r.length;rw[cH]at h
  lia
 obtain⟨u,e,f⟩:=r.get (by rw[eQ,dM d];rfl)
 rw[a]at e;cases e;cases f;have g:ks.getD i O=ks[i]:=by rw[t_,dM d];rfl
 have b:Q (ks.getD i O) s:=b;rw[g]at b;exact h9 b
def range_all(ks:Fs):(df ks.length).all (λi=>ks.getD i O)=ks.all id:=by
 induction ks with
 |nil=>rfl
 |cons k ks a=>
  rw[ee,Gb,dO,Gd,dO,<- a];rfl
def range_any(ks:Fs):(df ks.length).any (λi=>ks.getD i O)=ks.any id:=by
 induction ks with
 |nil=>rfl
 |cons k ks a=>
  rw[ee,Gb,rj,Pa,rj,<- a];rfl
def Hc(m:X.calm=O):fT X (.builtin "all") λxs H Q=>∃(p:bp)(ks:Fs),xs=[.ref p]/\dW X.K H p (ks.map V.bl)/\Q (.bl<|ks.all id) H:=by
 intro y s t H xs v Q I r h;obtain⟨p,ks,rfl,l,q⟩:=h;obtain⟨u,rfl,g⟩:=vals1 r;cases g;obtain⟨f,c,a,w⟩:=I.list l;have d:=c.length;rw[cH]at d;refine call_all_walk<|kl a.isList ?_;have j:=let⟨_,e,_⟩:=a.isList;eM<|cv e;refine⟨s.heap.objs.size,_,[s.heap.objs.size],f.toArray.size,_,_,λi=>ks.getD i O,J,Walks.list (show X.A.in1.handled=Y from I.ok.hd m) s.heap.objs.size p j f.toArray,⟨⟨_,c3 _ J,J,J⟩,xB a.isList _⟩,pD c _,λx tk k=>?_⟩;rw[ck,<- d,range_all];refine⟨.bl _,H,?_,J,q⟩;refine I.kept λb o e=>k b o (λz=>?_)<|av _ e;have n:=by simpa using z
 rw[n]at e;exact qZ _<|cv e
def Hd(m:X.calm=O):fT X (.builtin "any") λxs H Q=>∃(p:bp)(ks:Fs),xs=[.ref p]/\dW X.K H p (ks.map V.bl)/\Q (.bl<|ks.any id) H:=by
 intro y s t H xs v Q I r h;obtain⟨p,ks,rfl,l,q⟩:=h;obtain⟨u,rfl,g⟩:=vals1 r;cases g;obtain⟨f,c,a,w⟩:=I.list l;have d:=c.length;rw[cH]at d;refine call_any_walk<|kl a.isList ?_;have j:=let⟨_,e,_⟩:=a.isList;eM<|cv e;refine⟨s.heap.objs.size,_,[s.heap.objs.size],f.toArray.size,_,_,λi=>ks.getD i O,J,Walks.list (show X.A.in1.handled=Y from I.ok.hd m) s.heap.objs.size p j f.toArray,⟨⟨_,c3 _ J,J,J⟩,xB a.isList _⟩,pD c _,λx tk k=>?_⟩;rw[ck,<- d,range_any];refine⟨.bl _,H,?_,J,q⟩;refine I.kept λb o e=>k b o (λz=>?_)<|av _ e;have n:=by simpa using z
 rw[n]at e;exact qZ _<|cv e
theorem nh:∀{xs:List V}{us:B2},xs.length=us.length->(∀(i:Nat)x u,xs[i]?=U x->us[i]?=U u->RelV x u)->Vals xs us
 |[],[],_,_=>.nil
 |[],_::_,h,_=>by simp at h
 |_::_,[],h,_=>by simp at h
 |x::xs,u::us,h,k=>.cons (k 0 x u J J)<|nh (by simpa using h) λi y w b a=>k (i+1) y w (by simpa using b)<|by simpa using a
def D_:fT X (.type "range") λxs H Q=>∃j,xs=[.int j]/\∀p,H p=Y->Q (.ref p) (upd H p<|.lT 0 j):=by
 intro d s a H xs c Q I r h;obtain⟨j,rfl,q⟩:=h;obtain⟨u,rfl,⟨t,rfl⟩⟩:=vals1 r;refine call_range_1 ⟨.ref s.heap.objs.size,_,I.laid (o:=.lT 0 j) (λb o e=>av _ e) (bL _) ⟨_,_,_,c3 _ J⟩,J,q _ I.fresh⟩
def rE(C:X.calm=O):fT X (.type "list") λxs H Q=>∃p d,xs=[.ref p]/\H p=U (.lT 0 d)/\0<=d/\d<=2^20/\∀l,H l=Y->Q (.ref l) (upd H l<|.lst<|(df d.toNat).map λk=>V.int (k:Nat)):=by
 intro M s E H xs F Q I r h;obtain⟨p,d,rfl,A,K,G,q⟩:=h;obtain⟨u,rfl,w⟩:=vals1 r;cases w;obtain⟨t,u,v,e⟩:=I.bz p _ A;refine call_list_range (I.ok.hd C) (n:=d.toNat) e (small_one (by lia) (by lia) (by lia)<|by lia) (by rw[rangeSize_one];split<;>lia) (by lia) λL tk y D hk B f=>?_
 obtain⟨j,f⟩:=f;refine⟨.ref s.heap.objs.size,_,I.laid (o:=.lst _) (λb o e=>hk b o e) (bL _) ⟨?_,y.toList,D,?_,by simpa using B⟩,J,q _ I.fresh⟩
 .rw[cH,lS,et];lia
 .refine nh (by rw[cH,lS,hZ,j]) λi x u g z=>?_
  have m:=by
   have:=(dq.mp g).1
   rw[cH,lS]at this;exact this
  rw[eQ,Ga m]at g;cases g;obtain⟨t,rfl⟩:=f i u (by simpa using z)
  exact⟨t,by lia⟩
end L2
namespace K61
open PySem L2
abbrev top(i:Nat):f7:=PySem.Challenge.pw_rowblade_k61_turns_that_differ.main.body.getD i<|.Pass ⟨0,0,0,0⟩
end K61
noncomputable section
namespace KH
open PySem PySem.W PySem.Calls PyProof.Rows L2 K61
abbrev pw:c4:=PySem.Challenge.pw_rowblade_k61_turns_that_differ
abbrev r(a:Nat):ar:=.ref a
abbrev ZF(c:ar)(d:Option bp)(x:Data)(s:List D2):Obj:=⟨c,d,x,⟨s⟩⟩
abbrev W:=oa->Obj
abbrev Z:=Str×Nat×ar
abbrev D(P:oa)(e:Z):DictEntry:=⟨PyData.keyHash P e.1,.str e.1 e.2.1,e.2.2⟩
abbrev fN(n q:Str)(s:f7)(g:bp)(cl:List<|Str×bp)(e d a c:ar)(an:Option bp)(f ct:ar)(b:bp):eh:=⟨n,q,iT s,.stmts<|cP s,aJ s,g,cl,e,d,a,c,an,f,ct,b⟩
abbrev C(n q:Str)(t u L a b c g:Nat)(x:bp)(B:Bool)(y:bp)(k l m o:ar):W:=λ_=>ZF (.type "code") Y (.fields ⟨[.str n t,.str q<|t+1,.str "/claim/cut.py"<|t+2,.int (j6 L) 0,.int (j6 a) 0,.int (j6 b) 0,.int (j6 c) 0,.int (j6 g) 0,r x,.bool B,.int (j6 181) 0,r y,k,l,m,o,.int (j6 u) 0,.int (j6 L) 0,.str "/claim/cut.py"<|u+1]⟩) []
abbrev cf(n q:Str)(t u L a x:Nat):W:=C n q t u L a 0 0 3 x O (x+1) .none (r<|x+2) (r<|x+3)<|r<|x+4
abbrev cg(n:Str)(t u L a x:Nat):W:=cf n n t u L a x
abbrev cc(n:Str)(t L x:Nat):W:=C n n t (t+3) L 0 0 0 0 x ZA (x+1) .none .none .none .none
abbrev lt(b:Nat)(l:List<|Nat×Nat):W:=λ_=>ZF .none Y (.fields ⟨(l.map λp=>[.int (j6 p.1) 0,.int (j6 b) 0,r p.2]).flatten⟩) []
abbrev fO(n q:Str)(s:f7)(m:ar)(c:Nat):W:=λ_=>ZF (.type "function") Y (.func<|fN n q s 3 [] .none .none .none m Y (r c) .none 0) []
abbrev fn(n q:Str)(s:f7):W:=λ_=>ZF .none Y (.func<|fN n q s 0 [] .none .none .none .none Y .none .none 0) []
def sS:Nat->Bi->B2
 |_,[]=>[]
 |k,x::l=>.str x k::sS (k+1) l
abbrev tS(k:Nat)(l:Bi):W:=λ_=>ZF (.type "tuple") Y (.seq ⟨sS k l⟩ 0) []
abbrev tV(l:B2):W:=λ_=>ZF (.type "tuple") Y (.seq ⟨l⟩ 0) []
abbrev di(n:Nat)(l:List Z):W:=λP=>ZF (.type "dict") Y (.dict ⟨l.map<|D P⟩ n) []
abbrev c1(m:ar)(b:Nat)(q:Str)(L:Nat)(xs:List Z)(st a n:Nat):W:=di n<|("__module__",b,m)::("__qualname__",b+2,.str q<|b+1)::("__firstlineno__",b+4,.int (j6 L)<|b+3)::(xs.append [("__static_attributes__",st,r a)])
abbrev c2(m:ar)(b L:Nat)(xs:List Z)(st a:Nat)(ys:List Z)(c n:Nat):W:=di n<|("__module__",b,m)::("__firstlineno__",b+4,.int (j6 L)<|b+3)::(xs.append<|("__static_attributes__",st,r a)::(ys.append [("__doc__",c,.none)]))
abbrev cG(n:Str)(bs mr:B2)(d:Nat)(su:B2)(h:D2)(t:Nat)(nw:String):W:=λ_=>ZF (.type "type") Y (.cls ⟨n,bs,mr,d,n,O,[],su,ZA,Y,ZA⟩) [h,Y,U<|.str n t,U<|.str n<|t+8,U<|.builtin nw,U<|.bool O]
abbrev ob:ar:=.type "object"
abbrev cB(n:Str)(d b:Nat)(su:B2)(h t:Nat):W:=cG n [r b] [r<|d+1,r b,ob] d su (U<|r h) t "object.__new__"
abbrev c0(n:Str)(d:Nat)(su:B2)(t:Nat):W:=cG n [ob] [r<|d+1,ob] d su Y t "object.__new__"
abbrev fr(c l:Nat)(m:ar):W:=λ_=>ZF (.type "frame") Y .plain [U<|r c,U<|r 3,U<|r l,Y,U m,Y,U<|r 0]
abbrev is(c:Nat):W:=λ_=>ZF (.type "builtin_function_or_method") Y (.fields ⟨[.builtin "object.__init_subclass__",r c]⟩) []
abbrev su(c:Nat):W:=λ_=>ZF (.type "super") Y (.fields ⟨[r c,r c,r c]⟩) []
abbrev gd(t c:Nat):W:=λ_=>ZF (.type "getset_descriptor") Y (.fields ⟨[.str "__dict__" t,r c,.builtin "function.__dict__",.builtin "function.__dict__#set"]⟩) []
abbrev gw(t c:Nat):W:=λ_=>ZF (.type "getset_descriptor") Y (.fields ⟨[.str "__weakref__" t,r c,.builtin "ExceptionGroup.__weakref__",.none]⟩) []
abbrev N(o:oa->Obj)(l r:oa->BT):oa->BT:=λP=>.node (o P) (l P)<|r P
abbrev E:oa->BT:=λ_=>.nil
abbrev L(o:oa->Obj):oa->BT:=N o E E
abbrev jq:=tV []
abbrev Hf:W:=λP=>ZF .none Y (.fields ⟨[]⟩) []
def wL:f7->Str
 |.FunctionDef n _ _ _ _ _ _ _ _ _=>n
 |.ClassDef n _ _ _ _ _ _ _ _ _ _=>n
 |_ => ""
def K1:f7->Nat
 |.FunctionDef _ _ _ _ _ _ _ _ _ p=>p.line
 |.ClassDef _ _ _ _ _ _ _ _ _ _ p=>p.line
 |_=>0
def Wa:f7->Bi
 |.ClassDef _ _ _ _ _ _ _ _ _ x _=>x
 |_=>[]
def lcs(s:f7):Bi:=(aJ s).names.filterMap λx=>match x.2 with
 |.local=>U x.1
 |_=>Y
def arn(s:f7):Nat:=(iT s).args.length
def qm(c:Nat)(n:Str):Str:=⟨⟨(wL<|top c).cps.toList.append<|46::n.cps.toList⟩⟩
abbrev eF(s:f7)(q:Str)(b a:Nat)(m:ar):List W:=[jq,Hf,tS (a+3)<|lcs s,jq,fn (wL s) q s,cf (wL s) q a (a+(lcs s).length+3) (K1 s) (arn s) b,fO (wL s) q s m<|b+5]
abbrev eC(s:f7)(q:Str)(b a:Nat)(m:ar):List W:=[jq,Hf,fn (wL s) q s,C (wL s) q a (a+3) (K1 s) (arn s) 0 0 3 b O (b+1) .none .none .none<|r<|b+2,fO (wL s) q s m<|b+3]
def fF(S:Nat->f7)(Q:Str->Str):Nat->Nat->Nat->Nat->Nat->ar->List W
 |0,_,_,_,_,_=>[]
 |k+1,w,i,b,a,m=>match w % 2 with
  |0=>eF (S i) (Q<|wL<|S i) b a m++fF S Q k (w/2) (i+1) (b+7) (a+6+(lcs<|S i).length) m
  |_=>eC (S i) (Q<|wL<|S i) b a m++fF S Q k (w/2) (i+1) (b+5) (a+6) m
def fD(S:Nat->f7):Nat->Nat->Nat->Nat->Nat->List Z
 |0,_,_,_,_=>[]
 |k+1,w,i,b,a=>match w % 2 with
  |0=>(wL<|S i,a+5+(lcs<|S i).length,r<|b+6)::fD S k (w/2) (i+1) (b+7) (a+6+(lcs<|S i).length)
  |_=>(wL<|S i,a+5,r<|b+4)::fD S k (w/2) (i+1) (b+5) (a+6)
def fL(S:Nat->f7):Nat->Nat->Nat->Nat->List (Nat×Nat)
 |0,_,_,_=>[]
 |k+1,w,i,b=>match w % 2 with
  |0=>(K1<|S i,b+5)::fL S k (w/2) (i+1) (b+7)
  |_=>(K1<|S i,b+3)::fL S k (w/2) (i+1) (b+5)
abbrev m0:ar:=.str "__main__" 164
abbrev m1:ar:=.str "rowblade.errors" 194
abbrev m2:ar:=.str "rowblade.rows" 332
abbrev m3:ar:=.str "rowblade.lines" 351
abbrev m4:ar:=.str "rowblade.signs" 902
abbrev m5:ar:=.str "rowblade.patterns" 925
abbrev m6:ar:=.str "rowblade.stretches" 1053
abbrev m7:ar:=.str "rowblade.truths" 1111
abbrev m8:ar:=.str "rowblade.pieces" 1232
abbrev m9:ar:=.str "rowblade.walker" 1282
abbrev m10:ar:=.str "rowblade.walk" 1506
abbrev m11:ar:=.str "rowblade.plans" 1520
abbrev Xv:ar:=.str "rowblade.linereading" 1554
abbrev m13:ar:=.str "rowblade.reading" 1772
abbrev m14:ar:=.str "law_rowblade_k61_turns_that_differ" 1815
abbrev d0:List Z:=[("__doc__",166,.none),("__package__",167,.none),("__loader__",168,.builtin "__main__.__loader__#opaque"),("__spec__",169,.none),("__annotations__",170,r 6),("__builtins__",171,r 4),("__file__",173,.str "/claim/cut.py" 172),("__cached__",174,.none),("_wall",193,r 21),("BladeError",213,r 31),("NoPattern",229,r 44),("NoLine",254,r 63),("TwoMarks",279,r 82),("NoMark",304,r 101)]
abbrev l0:List<|Nat×Nat:=[(1,20),(5,27),(7,40),(9,52),(13,71),(17,90)]
abbrev d1:=d0.append [("Endless",331,r 120),("cut",341,r 129),("pasted",350,r 137),("Program",381,r 154),("Line",412,r 175),("Cond",432,r 189),("Always",448,r 203)]
abbrev l1:=l0++[(21,109),(27,128),(32,136),(40,143),(44,164),(49,185),(51,199)]
abbrev d2:=d1.append [("RowIs",473,r 222),("Last",489,r 234),("Like",514,r 253),("Soon",541,r 272),("FromTo",568,r 291)]
abbrev l2:=l1++[(53,211),(57,230),(59,242),(63,261),(68,280)]
abbrev d3:=d2.append [("Not",593,r 310),("End",609,r 322),("Deed",629,r 334),("Mark",654,r 355),("Drop",670,r 367)]
abbrev l3:=l2++[(73,299),(77,318),(79,330),(81,344),(85,363)]
abbrev d4:=d3.append [("Print",686,r 379),("Done",702,r 391),("Say",727,r 410),("Swap",756,r 429),("Join",781,r 448)]
abbrev l4:=l3++[(87,375),(89,387),(91,399),(95,418),(101,437)]
abbrev d5:=d4.append [("Pile",808,r 467),("Bring",833,r 486),("Go",858,r 505),("Add",885,r 524),("Tell",901,r 536)]
abbrev l5:=l4++[(105,456),(110,475),(114,494),(118,513),(123,532)]
abbrev d6:=(d5.append<|fW [("SIGNS",905,(.str "abcdefghijklmnopqrstuvwxyzABCDEFGHIJKLMNOPQRSTUVWXYZ0123456789 !\"#$&'()*+,-./:;<=>?\x40[\\]^_`{|}~" 904)),("SMALL_LETTERS",907,.str "abcdefghijklmnopqrstuvwxyz" 906),("FIGURES",909,.str "0123456789" 908)]<|fW (fD top 2 1 40 539 910)<|fW [("MOST_ITEMS",928,.int 8 927),("MOST_SIGNS",930,.int 12 929),("NEVER_PLAIN",932,.str "^$.[]*+?/" 931),("NEVER_IN_A_SET",934,.str "]^/" 933),("ONCE",936,.str "1" 935),("HOW_MANY",938,.str "*+?" 937)]<|fD top 14 2112 49 551 939).append<|fW [("NOWHERE",1057,(.int (-1) 1056)),("stretch",1069,r 652)]<|fW (fD top 4 0 66 653 1070)<|[("TextRow",1153,r 704),("text_rows",1159,r 713)]
abbrev l6:=l5++(fW [(129,542),(131,549)]<|fW (fL top 14 2112 49 551)<|fW [(224,651)]<|fW (fL top 4 0 66 653)<|[(255,686),(267,712)])
abbrev d7:=d6.append<|fW [("Truths",1215,r 747)]<|fW (fD top 2 0 74 752 1216)<|fW [("MOST_FIGURES_pieces",1235,.int 60 1234)]<|fD top 5 4 78 766 1236
abbrev l7:=l6++(fW [(269,719),(300,757),(306,764)]<|fL top 5 4 78 766)
abbrev d8:=d7.append<|fW [("Walker",1489,r 955)]<|fW (fD top 2 1 85 960 1490)<|fW [("walk",1519,r 978)]<|fW (fD top 3 0 90 979 1522)<|[("COND_BEGINNINGS",1563,r 1000),("MOST_ROW",1565,.int 999 1564),("MOST_FIGURES_linereading",1567,.int 3 1566),("MOST_SOON",1569,.int 3 1568),("LEAST_JOIN",1571,.int 2 1570),("MOST_SMALL",1573,.int 9 1572),("MOST_LETTERS",1575,.int 8 1574),("MOST_TEXT",1577,.int 40 1576)]
abbrev l8:=l7++(fW [(341,804),(490,963),(492,970),(499,977)]<|fL top 3 0 90 979)
abbrev d9:=(d8.append<|fW [("Scan",1650,r 1052)]<|fW (fD top 15 2 103 1057 1651)<|fW [("MOST_LINES",1775,.int 24 1774)]<|fW (fD top 4 0 120 1160 1776)<|fD top 4 8 125 1188 1817).append<|fD top 3 6 129 1214 1852
abbrev l9:=l8++(fW [(540,1006)]<|fW (fL top 15 2 103 1057)<|fW (fL top 4 0 120 1160)<|fL top 7 104 125 1188)
abbrev d10:=d9.append<|fD top 9 32 132 1231 1874
abbrev l10:=l9++(fL top 9 32 132 1231)
abbrev Hg:W:=λP=>ZF (.type "builtin_function_or_method") Y (.fields ⟨[(.builtin "type.__prepare__"),.type "type"]⟩) []
abbrev Xw:=tV [r 31]
abbrev aaa:W:=λP=>ZF (.type "function") Y (.func<|fN "pasted" "pasted" (top 10) 3 [] (r 130) .none .none (.str "rowblade.rows" 332) Y (r 136) .none 0) []
abbrev wM:=tV [r 189]
abbrev nR:=tV [r 334]
abbrev aab:W:=λP=>ZF (.type "function") Y (.func<|fN "stretch" "stretch" (top 65) 3 [] (r 645) .none .none (.str "rowblade.stretches" 1053) Y (r 651) .none 0) []
def od:List W->List W
 |[]=>[]
 |x::r=>x::(match r with
  |[]=>[]
  |_::r=>od r)
def br:Nat->List W->oa->BT
 |0,_,_=>.nil
 |n+1,l,P=>(match l with
  |[]=>.nil
  |x::r=>.node (x P) (br n (od r) P)<|br n (od r.tail) P)
def ov:List W->Nat->Nat->List (Nat×W)->List W
 |[],_,_,_=>[]
 |x::l,i,n,q=>(match n.beq i with
  |true=>[]
  |false=>(match q with
   |[]=>x::ov l (i+1) n []
   |y::r=>(match y.1.beq i with
    |true=>y.2::ov l (i+1) n r
    |false=>x::ov l (i+1) n q)))
abbrev jz0:List Z:=(fD (inClass<|top 71) 2 0 0 688 1125)
abbrev jz1:List Z:=(fD (inClass<|top 73) 4 5 0 721 1172)
abbrev jz2:List Z:=(fD (inClass<|top 84) 21 0 0 806 1296)
abbrev jz3:List Z:=(fD (inClass<|top 102) 6 0 0 1008 1590)
abbrev jq0(s1:Str)(e c d b a:Nat)(l0:Bi)(m2:ar):List W:=[jq,Hf,tS (a+3) l0,jq,fn s1 s1<|top c,cg s1 a (a+l0.length+3) d e b,fO s1 s1 (top c) m2<|b+5]
abbrev jq1(a:Str)(n1 n2 b:Nat):List W:=[cG a [r 31] [(r<|n2+1),r 31,.type "ValueError",.type "Exception",.type "BaseException",.type "object"] n2 [] (U<|r n1) b "ValueError.__new__",su<|n2+1,is<|n2+1]
abbrev jq2(s1 s2:Str)(f d c e b a:Nat)(l0:Bi)(m3:ar):List W:=[jq,Hf,tS (a+3) l0,jq,fn s1 s2<|inClass (top c) d,cf s1 s2 a (a+l0.length+3) e f b,fO s1 s2 (inClass (top c) d) m3<|b+5]
abbrev Wb(b:Str)(n1 n2 a:Nat):List W:=[c0 b n1 [] n2,gd a<|n1+1,gw (a+2)<|n1+1,su<|n1+1,is<|n1+1]
abbrev jq4(b:Str)(n1 n2 a c:Nat):List W:=[cB b a n1 [] n2 c,su<|a+1,is<|a+1]
abbrev tE(s:Str)(x n a:Nat):List W:=jq1 s x n a
abbrev tB(b:Nat)(s:Str)(x n a:Nat):List W:=jq4 s b x n a
abbrev kN(g:Str->Nat->Nat->Nat->List W)(o:W)(x a c:Nat)(m:ar):List W:=[o,Hg,c1 m (a+7) (wL<|top c) (K1<|top c) [] (a+12) (x+7) 4,jq,Hf,cc (wL<|top c) (a+2) (K1<|top c)<|x+3,fr (x+5) (x+2) m,jq,c2 m (a+7) (K1<|top c) [] (a+12) (x+7) [] (a+13) 2]++g (wL<|top c) x (x+8) a
abbrev kI(g:Str->Nat->Nat->Nat->List W)(o:W)(x a c:Nat)(m:ar):List W:=[o,Hg,c1 m (a+7) (wL<|top c) (K1<|top c) (fD (inClass<|top c) 1 0 0 (x+7)<|a+12) (a+18+(lcs<|inClass (top c) 0).length+(Wa<|top c).length) (x+14) 5,jq,lt 4<|fL (inClass<|top c) 1 0 0<|x+7,cc (wL<|top c) (a+2) (K1<|top c)<|x+3,fr (x+5) (x+2) m]++(fF (inClass<|top c) (qm c) 1 0 0 (x+7) (a+12) m++([tS (a+18+(lcs<|inClass (top c) 0).length)<|Wa<|top c,c2 m (a+7) (K1<|top c) (fD (inClass<|top c) 1 0 0 (x+7)<|a+12) (a+18+(lcs<|inClass (top c) 0).length+(Wa<|top c).length) (x+14) [] (a+19+(lcs<|inClass (top c) 0).length+(Wa<|top c).length) 2]++g (wL<|top c) x (x+15) a))
abbrev a0:List W:=rm [[boot_o_0,boot_o_1,boot_o_2,di 136<|("__name__",165,.str "law_rowblade_k61_turns_that_differ" 1815)::d10,boot_o_4,boot_o_5,boot_o_6,boot_o_7,boot_o_8,boot_o_9,boot_o_10,jq,lt 0 l10,cc "<module>" 182 1 11,fr 13 3 m0],fF top id 1 0 0 15 187 m0,[tV [.type "ValueError"],Hg,c1 m1 203 "BladeError" 5 [] 208 29 4,jq,Hf,cc "BladeError" 198 5 25,fr 27 24 m1,jq,c2 m1 203 5 [] 208 29 [("__weakref__",210,r 32)] 211 3,cG "BladeError" [.type "ValueError"] [r 31,.type "ValueError",.type "Exception",.type "BaseException",.type "object"] 30 [r 44,r 63,r 82,r 101,r 120] (U<|r 22) 196 "ValueError.__new__",gw 209 31,su 31,is 31],kN tE Xw 35 214 3 m1,kI tE Xw 47 230 4 m1,kI tE Xw 66 255 5 m1,kI tE Xw 85 280 6 m1,kI tE Xw 104 305 7 m1,fF top id 1 0 9 123 334 m2]
abbrev a1:List W:=rm [[tV [(.bool O)],jq,Hf,tS 345 ["rows","ended","text"],jq,fn "pasted" "pasted"<|top 10,cg "pasted" 342 348 32 2 131,aaa,jq,Hg,c1 m3 360 "Program" 40 [("__init__",372,r 151)] 374 152 5,jq,lt 4 [(42,150)],cc "Program" 355 40 141,fr 143 140 m3],fF (inClass<|top 12) (qm 12) 1 0 0 145 365 m3,[tS 373 ["lines"],c2 m3 360 40 [("__init__",372,r 151)] 374 152 [("__dict__",376,r 155),("__weakref__",378,r 156)] 379 4],Wb "Program" 153 353 375,[jq,Hg,c1 m3 389 "Line" 44 [("__init__",402,r 172)] 405 173 5,jq,lt 4 [(46,171)],cc "Line" 384 44 162,fr 164 161 m3],fF (inClass<|top 13) (qm 13) 1 0 0 166 394 m3,[tS 403 ["cond","deed"],c2 m3 389 44 [("__init__",402,r 172)] 405 173 [("__dict__",407,r 176),("__weakref__",409,r 177)] 410 4],Wb "Line" 174 382 406,[jq,Hg,c1 m3 420 "Cond" 49 [] 425 187 4,jq,Hf,cc "Cond" 415 49 183,fr 185 182 m3,jq,c2 m3 420 49 [] 425 187 [("__dict__",427,r 190),("__weakref__",429,r 191)] 430 4,c0 "Cond" 188 [r 203,r 222,r 234,r 253,r 272,r 291,r 310,r 322] 413,gd 426 189,gw 428 189,su 189,is 189],kN (tB 189) wM 194 433 15 m3,kI (tB 189) wM 206 449 16 m3]
abbrev a2:List W:=rm [kN (tB 189) wM 225 474 17 m3,kI (tB 189) wM 237 490 18 m3,kI (tB 189) wM 256 515 19 m3,kI (tB 189) wM 275 542 20 m3,kI (tB 189) wM 294 569 21 m3,kN (tB 189) wM 313 594 22 m3,[jq,Hg,c1 m3 617 "Deed" 79 [] 622 332 4,jq,Hf,cc "Deed" 612 79 328,fr 330 327 m3,jq,c2 m3 617 79 [] 622 332 [("__dict__",624,r 335),("__weakref__",626,r 336)] 627 4,c0 "Deed" 333 [r 355,r 367,r 379,r 391,r 410,r 429,r 448,r 467,r 486,r 505,r 524,r 536] 610,gd 623 334,gw 625 334,su 334,is 334],kI (tB 334) nR 339 630 24 m3]
abbrev a3:List W:=rm [kN (tB 334) nR 358 655 25 m3,kN (tB 334) nR 370 671 26 m3,kN (tB 334) nR 382 687 27 m3,kI (tB 334) nR 394 703 28 m3,kI (tB 334) nR 413 728 29 m3,kI (tB 334) nR 432 757 30 m3,kI (tB 334) nR 451 782 31 m3,kI (tB 334) nR 470 809 32 m3,kI (tB 334) nR 489 834 33 m3,kI (tB 334) nR 508 859 34 m3]
abbrev a4:List W:=rm [kN (tB 334) nR 527 886 35 m3,fF top id 2 1 40 539 910 m4,fF top id 14 2112 49 551 939 m5]
abbrev a5:List W:=rm [[tV [(.int (0) 1058)],jq,Hf,tS 1062 ["one","row","start","ends","begin"],jq,fn "stretch" "stretch"<|top 65,cg "stretch" 1059 1067 224 3 646,aab],fF top id 4 0 66 653 1070 m6,[jq,Hg,c1 m7 1120 "TextRow" 255 jz0 1146 702 6,jq,lt 4 [(257,693),(262,700)],cc "TextRow" 1115 255 684,fr 686 683 m7],fF (inClass<|top 71) (qm 71) 2 0 0 688 1125 m7,[tS 1143 ["known","number","text"],c2 m7 1120 255 jz0 1146 702 [("__dict__",1148,r 705),("__weakref__",1150,r 706)] 1151 4],Wb "TextRow" 703 1113 1147,fF top id 1 1 72 709 1154 m7,[jq,Hg,c1 m7 1167 "Truths" 269 jz1 1208 745 8,jq,lt 4<|fL (inClass<|top 73) 4 5 0 721,cc "Truths" 1162 269 717,fr 719 716 m7],fF (inClass<|top 73) (qm 73) 4 5 0 721 1172 m7]
abbrev a6:List W:=rm [[tS 1206 ["conds","up"],c2 m7 1167 269 jz1 1208 745 [("__dict__",1210,r 748),("__weakref__",1212,r 749)] 1213 4],Wb "Truths" 746 1160 1209,fF top id 2 0 74 752 1216 m7,fF top id 5 4 78 766 1236 m8,[jq,Hg,c1 m9 1291 "Walker" 341 jz2 1482 953 25,jq,lt 4<|fL (inClass<|top 84) 21 0 0 806,cc "Walker" 1286 341 802,fr 804 801 m9],fF (inClass<|top 84) (qm 84) 21 0 0 806 1296 m9]
abbrev a7:List W:=rm [[tS 1468 ["behind_marks","hand","hand_rows","lines","log","met","noted","passed","shelves","sums","taken","teller","truths","wanting"],c2 m9 1291 341 jz2 1482 953 [("__dict__",1484,r 956),("__weakref__",1486,r 957)] 1487 4],Wb "Walker" 954 1284 1483,fF top id 2 1 85 960 1490 m9,fF top id 1 0 88 972 1508 m10,fF top id 3 0 90 979 1522 m11,[tS 1556 ["row ","last","/","soon ","from ","not ","end"],jq,Hg,c1 Xv 1585 "Scan" 540 jz3 1643 1050 10,jq,lt 4<|fL (inClass<|top 102) 6 0 0 1008,cc "Scan" 1580 540 1004,fr 1006 1003 Xv],fF (inClass<|top 102) (qm 102) 6 0 0 1008 1590 Xv]
abbrev a8:List W:=rm [[tS 1641 ["number","rest"],c2 Xv 1585 540 jz3 1643 1050 [("__dict__",1645,r 1053),("__weakref__",1647,r 1054)] 1648 4],Wb "Scan" 1051 1578 1644,fF top id 15 2 103 1057 1651 Xv]
abbrev a9:List W:=rm [fF top id 4 0 120 1160 1776 m13,fF top id 16 4200 125 1188 1817 m14]
abbrev os:List W:=a0++(a1++(a2++(a3++(a4++(a5++(a6++(a7++(a8++(a9)))))))))
abbrev tr(n:Nat)(q:List<|Nat×W):oa->BT:=br 12<|ov os 0 n q
abbrev lf:Life:=⟨[],[],[],0,[],[],ZA,#[],[],0,ZA,ZA,ZA,0,[2000,10,10],ZA,0,O,[],[],0,ZA⟩
abbrev TA(w:da)(os:jI):ox:=⟨tr 15 [(3,boot_o_3),(12,Hf)] w.params,15,lf,⟨[]⟩,⟨0,0,0,0⟩,187,os⟩
abbrev T0(w:da)(os:jI):ox:=⟨tr 104 [(3,di 15<|("__name__",165,.str "rowblade.errors" 194)::d0),(12,lt 0 l0),(31,cG "BladeError" [.type "ValueError"] [r 31,.type "ValueError",.type "Exception",.type "BaseException",.type "object"] 30 [r 44,r 63,r 82,r 101] (U<|r 22) 196 "ValueError.__new__")] w.params,104,lf,⟨[]⟩,⟨0,0,0,0⟩,305,os⟩
abbrev T1(w:da)(os:jI):ox:=⟨tr 206 [(3,di 22<|("__name__",165,.str "rowblade.lines" 351)::d1),(12,lt 0 l1),(189,c0 "Cond" 188 [r 203] 413)] w.params,206,lf,⟨[]⟩,⟨0,0,0,0⟩,449,os⟩
abbrev T2(w:da)(os:jI):ox:=⟨tr 294 [(3,di 27<|("__name__",165,.str "rowblade.lines" 351)::d2),(12,lt 0 l2),(189,c0 "Cond" 188 [r 203,r 222,r 234,r 253,r 272,r 291] 413)] w.params,294,lf,⟨[]⟩,⟨0,0,0,0⟩,569,os⟩
abbrev T3(w:da)(os:jI):ox:=⟨tr 370 [(3,di 32<|("__name__",165,.str "rowblade.lines" 351)::d3),(12,lt 0 l3),(334,c0 "Deed" 333 [r 355,r 367] 610)] w.params,370,lf,⟨[]⟩,⟨0,0,0,0⟩,671,os⟩
abbrev T4(w:da)(os:jI):ox:=⟨tr 451 [(3,di 37<|("__name__",165,.str "rowblade.lines" 351)::d4),(12,lt 0 l4),(334,c0 "Deed" 333 [r 355,r 367,r 379,r 391,r 410,r 429,r 448] 610)] w.params,451,lf,⟨[]⟩,⟨0,0,0,0⟩,782,os⟩
abbrev T5(w:da)(os:jI):ox:=⟨tr 539 [(3,di 42<|("__name__",165,.str "rowblade.lines" 351)::d5),(12,lt 0 l5)] w.params,539,lf,⟨[]⟩,⟨0,0,0,0⟩,902,os⟩
abbrev T6(w:da)(os:jI):ox:=⟨tr 714 [(3,di 75<|("__name__",165,.str "rowblade.truths" 1111)::d6),(12,lt 0 l6)] w.params,714,lf,⟨[]⟩,⟨0,0,0,0⟩,1160,os⟩
abbrev T7(w:da)(os:jI):ox:=⟨tr 799 [(3,di 84<|("__name__",165,.str "rowblade.walker" 1282)::d7),(12,lt 0 l7)] w.params,799,lf,⟨[]⟩,⟨0,0,0,0⟩,1284,os⟩
abbrev T8(w:da)(os:jI):ox:=⟨tr 1001 [(3,di 99<|("__name__",165,.str "rowblade.linereading" 1554)::d8),(12,lt 0 l8)] w.params,1001,lf,⟨[]⟩,⟨0,0,0,0⟩,1578,os⟩
abbrev T9(w:da)(os:jI):ox:=⟨tr 1231 [(3,di 127<|("__name__",165,.str "law_rowblade_k61_turns_that_differ" 1815)::d9),(12,lt 0 l9)] w.params,1231,lf,⟨[]⟩,⟨0,0,0,0⟩,1874,os⟩
abbrev Xx(w:da)(os:jI):ox:=⟨tr 1292 [] w.params,1292,lf,⟨[]⟩,⟨0,0,0,0⟩,1968,os⟩
abbrev bE:Fh:=behindTheImports pw
abbrev nv:Env:={scope:=pw.main.scope,locals:=mainNs,globals:=mainNs,cells:=[],code:=(r 13),frame:=U 14}
abbrev cE:Code:=.body bE nv
abbrev BF:List Frame:=[topFrame ⟨0,0,0,0⟩]
abbrev an:D2:=(U<|r 6)
abbrev Xy:Fh:=(bE.drop 0).take 7
abbrev Xz:Fh:=(bE.drop 7).take 9
abbrev XA:Fh:=(bE.drop 16).take 5
abbrev XC:Fh:=(bE.drop 21).take 5
abbrev XE:Fh:=(bE.drop 26).take 5
abbrev XG:Fh:=(bE.drop 31).take 5
abbrev XH:Fh:=(bE.drop 36).take 37
abbrev XI:Fh:=(bE.drop 73).take 11
abbrev XJ:Fh:=(bE.drop 84).take 18
abbrev XM:Fh:=(bE.drop 102).take 30
abbrev P8:Fh:=(bE.drop 132).take 9
abbrev S0(w:da)(os:jI):ag:=⟨pz w.params,Array.mk [],boot_drawn,boot_toks,os⟩
abbrev th0:oC:=mM Xy nv cE ⟨0,0,0,0⟩ BF
abbrev th1:oC:=mM Xz nv cE ⟨17,0,20,22⟩ BF
abbrev Ea:oC:=mM XA nv cE ⟨51,0,52,8⟩ BF
abbrev th3:oC:=mM XC nv cE ⟨68,0,72,28⟩ BF
abbrev th4:oC:=mM XE nv cE ⟨85,0,86,8⟩ BF
abbrev th5:oC:=mM XG nv cE ⟨101,0,104,24⟩ BF
abbrev th6:oC:=mM XH nv cE ⟨123,0,124,8⟩ BF
abbrev th7:oC:=mM XI nv cE ⟨267,0,268,77⟩ BF
abbrev th8:oC:=mM XJ nv cE ⟨340,0,340,8⟩ BF
abbrev th9:oC:=mM XM nv cE ⟨539,0,539,9⟩ BF
abbrev aac:oC:=mM P8 nv cE ⟨751,0,754,102⟩ BF
abbrev thA:oC:=⟨denote gg cE,cE,⟨0,0,0,0⟩,BF⟩
abbrev thB:oC:=blockOf bE nv cE ⟨0,0,0,0⟩ BF
abbrev thF:oC:=⟨doneF .next,cE,⟨818,0,833,87⟩,BF⟩
def jpd:Nat->Nat->Nat->B1
 |0,a,_=>[a]
 |k+1,a,n=>a::jpd k (a+n % 16) (n/16)
abbrev as:BM:=jpd 748 2 0x121211212112121131121211212112121121211212113113112121131121211212112121121211212112121121211212112121121211212112121121211212112121121211212112121121211212113112123111111212112121121211212112121121281121211212112121121211212113311111121211212112121121211212112121121211212112121121211212112121121211212112121121211212112121121211212112128121211212113112121121211212112123111111212113112121138133111111212112128121211212112121121211212111212112121131121211212112121121211311212112121121211212112121121211212113311731111212731111212731111212731111212731111212731111212731111212731173117311731111212731111a1173111121273111121273111121273111121273117311112127311731111a111111212a1111112128121211121231111212731111212731111212731111212731173111711212c1
def sl:List W->Nat->B1->List W
 |[],_,_=>[]
 |x::l,i,q=>(match q with
  |[]=>[]
  |y::r=>(match y.beq i with
   |true=>x::sl l (i+1) r
   |false=>sl l (i+1) q))
abbrev K(P:oa):C1:=as.zip<|(sl os 0 as).map λo=>o P
abbrev vw:c4:={pw with main:={pw.main with body:=([0,2,3,4,5,6,7,9,12,13,14,15,16,17,18,19,20,21,22,23,24,25,26,27,28,29,30,31,32,33,34,35,37,38,39,40,41,43,44,45,46,47,48,49,50,51,52,53,54,55,56,57,58,59,60,61,62,64,66,67,68,69,71,72,73,74,75,77,78,79,80,81,82,84,85,86,88,90,91,92,94,95,96,97,98,99,100,101,102,103,104,105,106,107,108,109,110,111,112,113,114,115,116,117,119,120,121,122,123,125,126,127,128,129,130,131,132,133,134,135,136,137,138,139,140]:B1).map top}}
abbrev lz:Bi:=["pasted","stretch"]
def pre:∀w:da,(λos=>topGo gg pw w 11 an 12 (S0 w os)<|topStub pw)=λos=>U ((TA w os).abs,thA):=by
 exact λw=>by kernel_rfl
def Ĩ:∀w:da,(λos=>segRun gg pw w 11 an 1 1 (TA w os).abs thB)=λos=>U (ix,(TA w os).abs,cE,(⟨0,0,0,0⟩:Pos)):=by
 exact λw=>by kernel_rfl
def g0:∀w:da,(λos=>o4 gg pw w 11 an 1 1173 (TA w os) th0)=λos=>U (ix,T0 w os,cE,(⟨17,0,20,22⟩:Pos)):=by
 rewrite [dk]
 exact λw=>by kernel_rfl
def g1:∀w:da,(λos=>o4 gg pw w 11 an 1 1177 (T0 w os) th1)=λos=>U (ix,T1 w os,cE,(⟨51,0,52,8⟩:Pos)):=by
 rewrite [dk]
 exact λw=>by kernel_rfl
def g2:∀w:da,(λos=>o4 gg pw w 11 an 1 1198 (T1 w os) Ea)=λos=>U (ix,T2 w os,cE,(⟨68,0,72,28⟩:Pos)):=by
 rewrite [dk]
 exact λw=>by kernel_rfl
def g3:∀w:da,(λos=>o4 gg pw w 11 an 1 1107 (T2 w os) th3)=λos=>U (ix,T3 w os,cE,(⟨85,0,86,8⟩:Pos)):=by
 rewrite [dk]
 exact λw=>by kernel_rfl
def g4:∀w:da,(λos=>o4 gg pw w 11 an 1 1166 (T3 w os) th4)=λos=>U (ix,T4 w os,cE,(⟨101,0,104,24⟩:Pos)):=by
 rewrite [dk]
 exact λw=>by kernel_rfl
def g5:∀w:da,(λos=>o4 gg pw w 11 an 1 1198 (T4 w os) th5)=λos=>U (ix,T5 w os,cE,(⟨123,0,124,8⟩:Pos)):=by
 rewrite [dk]
 exact λw=>by kernel_rfl
def g6:∀w:da,(λos=>o4 gg pw w 11 an 1 1055 (T5 w os) th6)=λos=>U (ix,T6 w os,cE,(⟨267,0,268,77⟩:Pos)):=by
 rewrite [dk]
 exact λw=>by kernel_rfl
def g7:∀w:da,(λos=>o4 gg pw w 11 an 1 559 (T6 w os) th7)=λos=>U (ix,T7 w os,cE,(⟨340,0,340,8⟩:Pos)):=by
 rewrite [dk]
 exact λw=>by kernel_rfl
def g8:∀w:da,(λos=>o4 gg pw w 11 an 1 1177 (T7 w os) th8)=λos=>U (ix,T8 w os,cE,(⟨539,0,539,9⟩:Pos)):=by
 rewrite [dk]
 exact λw=>by kernel_rfl
def g9:∀w:da,(λos=>o4 gg pw w 11 an 1 1195 (T8 w os) th9)=λos=>U (ix,T9 w os,cE,(⟨751,0,754,102⟩:Pos)):=by
 rewrite [dk]
 exact λw=>by kernel_rfl
def g10:∀w:da,(λos=>o4 gg pw w 11 an 1 291 (T9 w os) aac)=λos=>U (ix,Xx w os,cE,(⟨818,0,833,87⟩:Pos)):=by
 rewrite [dk]
 exact λw=>by kernel_rfl
def fin:∀w:da,(λos=>topRun gg pw w 11 an 2 (Xx w os).abs thF)=λos=>U (Xx w os).abs:=by
 exact λw=>by kernel_rfl
def chn(w:da)(os:jI):∀l,l=(Xy++(Xz++(XA++(XC++(XE++(XG++(XH++(XI++(XJ++(XM++(P8++[])))))))))))->topRun gg pw w 11 an (1173+(1177+(1198+(1107+(1166+(1198+(1055+(559+(1177+(1195+(291+2))))))))))) (TA w os).abs (restOf l nv cE ⟨0,0,0,0⟩ BF)=U (Xx w os).abs:=λl e=>by
 rw[e];exact kS (kA<|dA (g0 w) os)<|kS (kA<|dA (g1 w) os)<|kS (kA<|dA (g2 w) os)<|kS (kA<|dA (g3 w) os)<|kS (kA<|dA (g4 w) os)<|kS (kA<|dA (g5 w) os)<|kS (kA<|dA (g6 w) os)<|kS (kA<|dA (g7 w) os)<|kS (kA<|dA (g8 w) os)<|kS (kA<|dA (g9 w) os)<|kS (kA<|dA (g10 w) os)<|dA (fin w) os
def run(w:da)(os:jI):topRun gg pw w 11 an (12+(1+(1173+(1177+(1198+(1107+(1166+(1198+(1055+(559+(1177+(1195+(291+2))))))))))))) (S0 w os) (topStub pw)=U (Xx w os).abs:=go_top (dA (pre w) os)<|piece_block (dA (Ĩ w) os)<|chn w os bE<|by kernel_rfl
def Wc:∀P,as=(K P).map (·.1):=λ_=>by kernel_rfl
abbrev H:Hook:=kHook K as Wc
abbrev H1(P:oa):eI:=absHeap ((tr 1292 []) P) 1292 lf
abbrev SF(w:da)(os:jI):ag:=⟨H1 w.params,Array.mk [],⟨0,0,0,0⟩,1968,os⟩
abbrev Xt(s:ag):Bool:=xlAt vw [] s&&recOk (RowW.records<|OpenRow.toRowW<|OpenLaw.row PySem.Challenge.rw_rowblade_k61_turns_that_differ) s
def Wd:∀w:da,(fencedOpening gg pw w 22696).map (λs=>(s.heap,s.gens,s.drawn,s.toks))=U (pz w.params,Array.mk [],boot_drawn,boot_toks):=boot_open (by kernel_rfl) (by decide) λs=>by kernel_rfl
def siz:∀w:da,((pz w.params).isNs eR&&(Array.mk []:Array uK).size == 0,(pz w.params).objs.size,(pz w.params).nsMap eR "__annotations__")=(O,11,an):=λw=>by kernel_rfl
def SI:∀w:da,(λos=>(staticsOk (xa pw.main.body) (pz w.params) (H1 w.params)&&namesBound pw (H1 w.params)&&gensDone (SF w os)&&laidKept (pz w.params) (H1 w.params)))=λ_=>O:=λw=>by kernel_rfl
def q1:∀w:da,(λos=>PyProof.Rows.seen (yV (λx=>x.name)<|PM vw) (PyProof.Rows.ownsOf vw) [] {heap:=(SF w os).heap,drawn:=(SF w os).drawn,toks:=(SF w os).toks,os:=(SF w os).os})=λ_=>PyProof.Rows.expectedOf vw:=λw=>by kernel_rfl
def q2:∀w:da,(λos=>(SF w os).heap.bltView)=λ_=>bltViewBooted:=λw=>by kernel_rfl
def b1:∀w:da,(λos=>(SF w os).heap.keysOk (looseW vw lz) (yV (λx=>x.name)<|PM vw) (yV (λx=>x.fst)<|PyProof.Rows.litsOf vw)<|yV (λx=>x.name)<|PyProof.Rows.clssOf vw<|looseW vw lz)=λ_=>O:=λw=>by kernel_rfl
def b2:∀w:da,(λos=>(SF w os).heap.accountedOkI<|xa pw.main.body)=λ_=>O:=λw=>by kernel_rfl
def b3:∀w:da,(λos=>(SF w os).heap.isNs eR)=λ_=>O:=λw=>by kernel_rfl
def b4:∀w:da,(λos=>(SF w os).heap.isNs tj)=λ_=>O:=λw=>by kernel_rfl
def b5:∀w:da,(λos=>PyProof.Rows.tablesOk vw (SF w os).heap)=λ_=>O:=λw=>by kernel_rfl
def b6:∀w:da,(λos=>Xt<|SF w os)=λ_=>O:=λw=>by kernel_rfl
def q4:∀w:da,(λos=>PyProof.Rows.tabsOk vw<|SF w os)=λ_=>O:=λw=>by kernel_rfl
def q5:∀w:da,(λos=>pinSeenD vw (PN vw)<|SF w os)=λ_=>pinGoodD<|PN vw:=λw=>by kernel_rfl
def q6:∀w:da,(λos=>PyProof.Rows.plainSeenE vw (looseW vw lz)<|SF w os)=λ_=>PyProof.Rows.plainGoodE vw<|looseW vw lz:=λw=>by kernel_rfl
def q7:∀w:da,(λos=>PyProof.Rows.plainSeenD vw lz<|SF w os)=λ_=>PyProof.Rows.plainGoodD vw lz:=λw=>by kernel_rfl
def q8:∀w:da,(λos=>wideSeen vw<|SF w os)=λ_=>wideGood vw:=λw=>by kernel_rfl
def q9:∀w:da,(λos=>clsSeenW vw lz<|SF w os)=λ_=>clsGoodW vw lz:=λw=>by kernel_rfl
def lk2:∀w:da,(λos=>openSeen vw lz (xa pw.main.body) Xt O<|SF w os)=λ_=>openGood vw lz:=λw=>z3 λos=>kn (dA (q1 w) os)<|kn (dA (q2 w) os)<|kn (by
 show(_&&_&&_&&_&&_&&_&&_)=O;rw[dA (b1 w) os,dA (b2 w) os,dA (b3 w) os,dA (b4 w) os,dA (b5 w) os,dA (b6 w) os];rfl)<|kn (dA (q4 w) os)<|kn (dA (q5 w) os)<|kn (dA (q6 w) os)<|kn (dA (q7 w) os)<|kn (dA (q8 w) os)<|dA (q9 w) os
def sp{c b γ:Type}{f:c->γ}{g:b->γ}(n:Nat){a:List c}{k:List b}(e:(a.take n).map f=(k.take n).map g)(d:(a.drop n).map f=(k.drop n).map g):a.map f=k.map g:=by
 rw[<- AZ n a,<- AZ n k,gk,gk,e,d]
def l3a:∀w:da,(λos=>(as.take 250).map (SF w os).heap.get?)=λ_=>((K w.params).take 250).map λp=>U p.2:=λw=>by kernel_rfl
def l3b:∀w:da,(λos=>((as.drop 250).take 250).map (SF w os).heap.get?)=λ_=>(((K w.params).drop 250).take 250).map λp=>U p.2:=λw=>by kernel_rfl
def l3c:∀w:da,(λos=>((as.drop 250).drop 250).map (SF w os).heap.get?)=λ_=>(((K w.params).drop 250).drop 250).map λp=>U p.2:=λw=>by kernel_rfl
def lk3:∀w:da,(λos=>Hook.obs H<|SF w os)=λ_=>Hook.val H w:=λw=>z3 λos=>sp 250 (dA (l3a w) os)<|sp 250 (dA (l3b w) os)<|dA (l3c w) os
def left:LeftO pw vw lz Xt (Hook.obs H) (Hook.val H) 22696:=LeftO.of_pieces (H₁:=H1) (gs₁:=Array.mk []) (d₁:=⟨0,0,0,0⟩) (k₁:=1968) Wd siz run (by decide) λw=>z3 λos=>kn (dA (SI w) os)<|kn (dA (lk2 w) os)<|dA (lk3 w) os
end KH
end
namespace L2
open PySem PySem.Spec PyProof.Rows
section
variable{j:Type}[DecidableEq j]
def j9(kvs:List<|j×V)(k:j):Option V:=(kvs.find? λa=>decide<|a.1=k).map (·.2)
def putK(kvs:List<|j×V)(k:j)(v:V):List<|j×V:=
 if(kvs.any λa=>decide<|a.1=k)=O then kvs.map (λa=>if a.1=k then(a.1,v)else a)else kvs++[(k,v)]
def jt{k:j}(e:p.1=k):j9 (p::r) k=U p.2:=by simp[j9,e]
def ju{k:j}(e:¬ p.1=k):j9 (p::r) k=j9 r k:=by simp[j9,e]
theorem pG(k:j):∀kvs:List<|j×V,(kvs.any λa=>decide<|a.1=k)=(j9 kvs k).isSome
 |[]=>J
 |p::r=>by
  rw[rj];by_cases e:p.1=k
  .simp only[jt e,de e,Bool.true_or,Option.isSome_some]
  .rw[ju e,b7 e,yP];exact pG k r
def ni(kvs:List<|j×V)(k:j)(v:V):(putK kvs k v).length<=kvs.length+1:=by
 unfold putK;split
 . simp
 simp
def gH.iB(r:gH o u):o.isSome=u.isSome:=by
 cases o with
 |none=>cases u with
  |none=>rfl
  |some _=>exact(r).elim
 |some _=>cases u with
  |none=>exact(r).elim
  |some _=>rfl
theorem gH.getD(r:gH o u)(rd:RelV d d'):RelV (o.getD d)<|u.getD d':=by
 cases o with
 |none=>cases u with
  |none=>exact rd
  |some _=>exact(r).elim
 |some _=>cases u with
  |none=>exact(r).elim
  |some _=>exact r
def KV.val(r:KV kvs vs)(k:j):gH (j9 kvs k)<|ui vs k:=by
 induction r with
 |nil=>exact gL
 | @cons p q ps a h t d=>
  obtain⟨c,f⟩:=h;by_cases e:p.1=k
  .have e':=c.symm.trans e
   have b:ui (q::a) k=U q.2:=by simp[ui,e']
   rw[jt e,b];exact f
  .have e':¬ q.1=k:=λz=>e<|c.trans z
   have b:ui (q::a) k=ui a k:=by simp[ui,e']
   rw[ju e,b];exact d
theorem KV.any(r:KV kvs vs)(k:j):(kvs.any λa=>decide<|a.1=k)=vs.any λa=>decide<|a.1=k:=by
 induction r with
 |nil=>rfl
 |cons h t b=>rw[rj,rj,b,h.1]
def KV.SJ(r:KV kvs vs)(k:j)(c:RelV y u) :
  KV (kvs.map λa=>if a.1=k then(a.1,y)else a)<|vs.map λa=>if a.1=k then(a.1,u)else a:=by
 induction r with
 |nil=>exact .nil
 | @cons p q ps g h t d=>
  rw[f6,f6];refine .cons ?_ d;obtain⟨b,f⟩:=h;by_cases e:p.1=k
  .rw[bt e,bt<|b.symm.trans e];exact⟨b,c⟩
  .rw[b0 e,b0 λz=>e<|b.trans z];exact⟨b,f⟩
def KV.put(r:KV kvs vs)(k:j)(a:RelV y u):KV (putK kvs k y)<|stored vs k u:=by
 unfold putK stored;rw[r.any k];by_cases e:(vs.any λb=>decide<|b.1=k)=O
 .rw[bt e,bt e];exact r.SJ k a
 .rw[b0 e,b0 e];exact Paired.snoc r ⟨J,a⟩
def KV.keys{vs:List<|j×ar}(r:KV kvs vs):kvs.map (·.1)=vs.map (·.1):=by
 induction r with
 |nil=>rfl
 |cons h t a=>rw[f6,f6,a,h.1]
theorem KV.length{vs:List<|j×ar}(r:KV kvs vs):kvs.length=vs.length:=Paired.length r
end
def sE(r:RelV (kV k) u):(cu P w).is k u=O:=by
 cases k with
 |inl i=>obtain⟨t,e⟩:=(r);subst e;exact we P w i t
 |inr x=>obtain⟨t,e⟩:=(r);subst e;exact wg P w x t
theorem sF:∀{ks:List Key}{us:B2},Vals (ks.map kV) us->ItemsAre (cu P w) ks us
 |[],_,r=>by cases r;exact .nil
 |k::ks,_,r=>by
  cases r with
  |cons h t=>exact .cons (sE h)<|sF t
abbrev KT(H:Hp):List (List Key×V)->List (List Key×bp×ar)->Prop:=HV λp q=>p.1=q.1/\H q.2.1=U (.tup<|p.1.map kV)/\RelV p.2 q.2.2
def KT.val(r:KT H kvs xs)(k:List Key):gH (j9 kvs k)<|(z4 xs k).map (·.2):=by
 induction r with
 |nil=>exact gL
 | @cons p q ps a h t d=>
  obtain⟨c,_,f⟩:=h;by_cases e:p.1=k
  .have e':=c.symm.trans e
   have b:z4 (q::a) k=U q.2:=by simp[z4,e']
   rw[jt e,b];exact f
  .have e':¬ q.1=k:=λz=>e<|c.trans z
   have b:z4 (q::a) k=z4 a k:=by simp[z4,e']
   rw[ju e,b];exact d
def KT.SJ(r:KT H kvs xs)(k:List Key)(d:RelV y u) :
  KT H (kvs.map λb=>if b.1=k then(b.1,y)else b)<|xs.map<|putAt k u:=by
 induction r with
 |nil=>exact .nil
 | @cons p q ps i h t f=>
  rw[f6];refine .cons ?_ f;obtain⟨a,c,g⟩:=h;unfold putAt;by_cases e:p.1=k
  .rw[bt e,bt<|a.symm.trans e];exact⟨a,c,d⟩
  .rw[b0 e,b0 λz=>e<|a.trans z];exact⟨a,c,g⟩
def KT.put(r:KT H kvs xs)(k:List Key)(d:H b=U (.tup<|k.map kV))(a:RelV y u) :
  KT H (putK kvs k y)<|storedH xs k b u:=by
 have e:(kvs.any λc=>decide<|c.1=k)=(z4 xs k).isSome:=by
  rw[pG,(r.val k).iB,F7]
 unfold putK storedH;rw[e];by_cases q:(z4 xs k).isSome=O
 .rw[bt q,bt q];exact r.SJ k a
 .rw[b0 q,b0 q];exact Paired.snoc r ⟨J,d,a⟩
def KT.keeps(r:KT H kvs xs)(a:∀b ys,H b=U (.tup ys)->H' b=U (.tup ys)):KT H' kvs xs:=
 Paired.RQ r λ_ _ z=>⟨z.1,a _ _ z.2.1,z.2.2⟩
variable{a:bp}{A:ew}{X:Cx}{H:Hp}
def P9{u:HO}(ok:j7 P w H h)(e:Rd H a u):bQ P w H h a u:=e.ok ok
def nj(ok:j7 P w H h)(e:Rd H a<|.dK kvs):kvs.length<=cw/\(a == i1)=ZA/\∃vs,KV kvs vs/\h.DictOf (cu P w) a vs:=
 show bQ P w H h a (.dK kvs)from P9 ok e
def XO(ok:j7 P w H h)(e:H a=U (.dK kvs)):kvs.length<=cw/\(a == i1)=ZA/\∃vs,KV kvs vs/\h.DictOf (cu P w) a vs:=nj ok<|.inl e
def mh(ok:j7 P w H h)(e:H a=U (.tup<|ks.map kV)):(r0<|cu P w).is h ks a:=by
 obtain⟨_,f,r,o,d,c,n,b⟩:=(ok a _ e);exact⟨o,f.toArray,n,d,c,b,by simpa using sF r⟩
def pH(ok:j7 P w H h)(e:Rd H a<|.dT kvs):kvs.length<=cw/\(a == i1)=ZA /\
  ∃xs,KT H kvs xs/\h.DictOfH (r0<|cu P w) a xs:=by
 obtain⟨z,y,xs,r,o,n,s,k,j,i,g,f⟩:=(show bQ P w H h a (.dT kvs)from P9 ok e);refine⟨z,y,xs,r,o,n,s,k,j,i,g,λx b=>?_,f⟩;have all:∀{l:List<|List Key×V}{m:List<|List Key×bp×ar},KT H l m->∀x∈m,(r0<|cu P w).is h x.1 x.2.1:=by
  intro l m q
  induction q with
  |nil=>intro x b;exact nomatch b
  | @cons p q ps u c t d=>
   intro x b;rcases bH.mp b with e|b
   .subst e
    exact mh ok (by rw[<- c.1];exact c.2.1)
   .exact d x b
 exact all r x b
def XS(ok:j7 P w H h)(e:H a=U (.dT kvs)):kvs.length<=cw/\(a == i1)=ZA /\
  ∃xs,KT H kvs xs/\h.DictOfH (r0<|cu P w) a xs:=pH ok<|.inl e
def rF(H:Hp)(a:bp)(y:V)(r:Option V):Prop:=
 (∃c k,Rd H a (.dK c)/\y=kV k/\r=j9 c k)\/∃c k b,Rd H a (.dT c)/\y=.ref b/\H b=U (.tup<|k.map kV)/\r=j9 c k
def LV(H:Hp)(a:bp)(y v:V)(H':Hp):Prop:=
 (∃c k,H a=U (.dK c)/\y=kV k/\c.length<cw/\H'=upd H a (.dK<|putK c k v)) \/
 ∃c k b,H a=U (.dT c)/\y=.ref b/\H b=U (.tup<|k.map kV)/\c.length<cw/\H'=upd H a (.dT<|putK c k v)
theorem rF.k{k:Key}(e:H a=U (.dK kvs)):rF H a (kV k)<|j9 kvs k:=.inl ⟨kvs,k,.inl e,J,J⟩
theorem LV.k{k:Key}(e:H a=U (.dK kvs))(b:kvs.length<cw):LV H a (kV k) v<|upd H a<|.dK<|putK kvs k v:=.inl ⟨kvs,k,e,J,b,J⟩
def Inv.big(I:Inv X Z W H s):i1<s.heap.objs.size:=by
 have h:=(I.mod.glob.keeps I.bk).lt;exact FW (by decide) h
def Eb{Q:Jn}(t:A.units+1<ll)(I:Inv X Z W H s)(g:rF H a y<|U v)(q:RelV y u)(h:∀d s',Inv X Z W H s'->RelV v d->Q d s') :
  cC (cx X.prog X.w) A (yz (.ref a) u) Q E s:=by
 rcases g with⟨i,k,e,m,l⟩|⟨i,k,b,e,m,B,l⟩
 .subst m
  obtain⟨z,hd,r,c,n⟩:=nj I.bz e;obtain⟨d,j,f⟩:=gH.some_of (l▸c.val k)
  exact wpAny_getItem_of (sE q) n.mapOf j<|h d _ (I.tok _) f
 .subst m
  cases(q);obtain⟨z,hd,xs,c,n⟩:=pH I.bz e;obtain⟨d,j,f⟩:=gH.some_of (l▸c.val k)
  obtain⟨p,x,C⟩:=bW.mp j;refine wpAny_getItem_heap (me t) (mh I.bz B) n x ?_;exact C▸h d _ (I.tok _) f
def aad{Q:Jn}(m:A.units+1<ll)(I:Inv X Z W H s)(g:rF H a y o)(j:RelV y u)(h:∀s',Inv X Z W H s'->Q (.bool o.isSome) s') :
  cC (cx X.prog X.w) A (eJ .In u<|.ref a) Q E s:=by
 rcases g with⟨d,k,e,f,l⟩|⟨d,k,b,e,f,n,l⟩
 .subst f
  obtain⟨z,hd,p,c,i⟩:=nj I.bz e;refine wpAny_in_of (sE j) hd i.mapOf ?_;rw[<- (c.val k).iB,<- l];exact h _<|I.tok _
 .subst f
  cases(j);obtain⟨z,hd,xs,c,i⟩:=pH I.bz e;refine wpAny_in_heap (me m) (mh I.bz n) hd i ?_;have q:=(c.val k).iB;rw[F7]at q;rw[<- q,<- l];exact h _<|I.tok _
def LW{Q:Jn}(m:A.units+1<ll)(I:Inv X Z W H s)(g:rF H a y o)(j:RelV y u)(h:∀s',Inv X Z W H s'->Q (.bool<|!o.isSome) s') :
  cC (cx X.prog X.w) A (eJ .NotIn u<|.ref a) Q E s:=by
 rcases g with⟨d,k,e,f,l⟩|⟨d,k,b,e,f,n,l⟩
 .subst f
  obtain⟨z,hd,p,c,i⟩:=nj I.bz e;refine wpAny_notIn_of (sE j) hd i.mapOf ?_;rw[<- (c.val k).iB,<- l];exact h _<|I.tok _
 .subst f
  cases(j);obtain⟨z,hd,xs,c,i⟩:=pH I.bz e;refine wpAny_notIn_heap (me m) (mh I.bz n) hd i ?_;have q:=(c.val k).iB;rw[F7]at q;rw[<- q,<- l];exact h _<|I.tok _
def Bq(I:Inv X Z W H s)(mu:Wv<|H a)(hs:pk a s.heap h')(he:∃q,h'.get? a=U q)(new:bQ X.prog X.w (upd H a ob) h' a ob) :
  Inv X Z W (upd H a ob) {s with heap:=h',toks:=t'}:=
 I.write mu (.inl J) (λb q c z=>(hs.2 b c).trans z) he new
def SK(z:kvs.length<=cw)(hd:(a == i1)=ZA)(b:KV kvs vs)(dd:h'.DictOf (cu P w) a vs) :
  bQ P w H' h' a<|.dK kvs:=⟨z,hd,vs,b,dd⟩
def Ec{Q:JN}(G:A.units+1<ll)(I:Inv X Z W H s)(g:LV H a y v H')(t:RelV y u)(x:RelV v r)(h:∀s',Inv X Z W H' s'->Q () s') :
  cC (cx X.prog X.w) A (setItem (.ref a) u r) Q E s:=by
 rcases g with⟨f,k,e,n,l,o⟩|⟨f,k,b,e,n,D,l,o⟩
 .subst n o
  obtain⟨z,hd,F,d,p⟩:=XO I.bz e;have j:F.length<=cw:=d.length▸z
  have m:(putK f k v).length<=cw:=by have:=ni f k v;lia
  refine wpAny_setItem_pairs (sE t) p λB ĩ hs=>h _ ?_;have K:∃q,B.get? a=U q:=let⟨q,_,_,i,_⟩:=ĩ;⟨q,i⟩;exact Bq I (e▸gL) hs K<|SK m hd (d.put k x) ĩ
 .subst n o
  cases(t);obtain⟨z,hd,xs,d,p⟩:=XS I.bz e;have j:xs.length<=cw:=(Paired.length d)▸z
  have m:(putK f k v).length<=cw:=by have:=ni f k v;lia
  refine wpAny_setItem_heap (me G) (mh I.bz D) p λB ĩ hs=>h _ ?_;obtain⟨q,R,S,i,P,N,M,_,L⟩:=ĩ;refine Bq I (e▸gL) hs ⟨q,i⟩ ⟨m,hd,_,(d.put k D x).keeps λc T C=>?_,q,R,S,i,P,N,M,L⟩
  rw[aq (Wu C e (λz=>nomatch z))];exact C
def SM(i:cq):Prop:=∀ov a,ry i ZA ov a=operate [ov,a] (yz ov a)
def LX{b a:cq}{T id:String}
  (l:ti (.type T) "__getitem__" = pure (U<|.builtin id)) (hs:SM a)
  (h:cC (cx prog w) A (fu b env) (λo f=>cC (cx prog w) A (fu a env) (λi c=>c.TypeIs o T/\cC (cx prog w) A (yz o i) Q E c) E f) E s) :
  cC (cx prog w) A (fu (.Subscript b a pos) env) Q E s:=by
 refine z6<|eP h (λo f j=>eP j (λi c d=>?_) λ_ _ x=>x) λ_ _ x=>x;obtain⟨k,d⟩:=d;unfold td;apply ax;rw[getitemInPython_of_ne k.not_modules];refine ax<|wpAny_specialOf k l ?_;have fin:cC (cx prog w) A (ry a ZA o i) (λr e=>cC (cx prog w) A (letTemporaryGo b o r >>= λ_=>pure r) Q E e) E c:=by
  rw[hs o i];exact wpAny_operating<|eP d (λr e g=>ax<|wpAny_letTemporaryGo<|dv g) λ_ _ x=>x
 first
  |exact dv<|ax fin
  |exact ax<|dv<|ax fin
  |exact ax fin
def wN(I:Inv X Z W H s)(g:rF H a y o):s.TypeIs (.ref a) "dict" := by
 rcases g with⟨c,k,e,_,_⟩|⟨c,k,b,e,_,_,_⟩
 .obtain⟨_,_,f,_,d⟩:=nj I.bz e
  exact d.typeIs
 .obtain⟨_,_,xs,_,d⟩:=pH I.bz e
  exact d.typeIs
def XT(c ty:TE):TE:=λW H Q=>c W H λx H1=>ty W H1 λy b=>∃a v,x=.ref a/\rF b a y (U v)/\Q v b
def XU(c ty tv:TE):TS:=λD W H=>tv W H λv H1=>c W H1 λx e=>ty W e λy d=>∃a b,x=.ref a/\LV d a y v b/\D.nx W b
section
variable{K ty tv:TE}
def Br(k:X.A.units+1<ll)(l:PE X o K)(m:PE X i ty)(hs:SM i):PE X (.Subscript o i pos)<|XT K ty:=by
 intro Z s W H Q I h;refine LX PySem.F.slot_dict_getitem.lookup hs<|bX (l Z s W H _ I h) λu e b=>?_;obtain⟨x,H1,p,j,q1⟩:=b;refine bX (m Z e W H1 _ p q1) λw s2 b=>?_;obtain⟨y,q,c,f,a,v,ex,g,q2⟩:=b;subst ex
 obtain rfl:u=Value.ref a:=j
 exact⟨wN c g,Eb k c g f λr t n d=>⟨v,q,n,d,q2⟩⟩
def Bs(l:X.A.units+1<ll)(m:PE X o K)(n:PE X i ty)(k:PE X Q tv)(hs:fv Q (U<|.Subscript o i L) pos.line X.env=pure ZA) :
  PS X (.Assign [.Subscript o i L] Q pos)<|XU K ty tv:=by
 intro Z s W H D I h;refine wpAny_Assign_Subscript (bX (k Z s W H _ I h) λr c b=>?_) hs;obtain⟨v,H1,w,f,q1⟩:=b;refine bX (m Z c W H1 _ w q1) λu s2 b=>?_;obtain⟨x,B,t,e,q2⟩:=b;refine bX (n Z s2 W B _ t q2) λF E b=>?_;obtain⟨y,G,q,d,a,z,ex,g,j⟩:=b;subst ex
 obtain rfl:u=Value.ref a:=e
 exact Ec l q g d f λC p=>⟨W,z,p,j⟩
end
def Hh(h:eI)(a:i1<h.objs.size):bQ P w H (h.push {cls:=.type "dict",data:=.dict #[]}) h.objs.size<|.dK []:=
 ⟨dz _,beq_eq_false_iff_ne.mpr<|f3<|eM a,[],.nil,Heap.DictOf.new h⟩
def SN:TE:=λ_ H Q=>∀p,H p=Y->Q (.ref p) (upd H p<|.dK [])
def wQ:PE X (.Dict [] [] pos) SN:=λZ s W H Q I h=>
 wpAny_Dict_empty ⟨.ref s.heap.objs.size,_,I.laid (λ_ _ q=>av _ q) (bL _)<|Hh s.heap I.big,J,h _<|I.bz.fresh<|bL _⟩
structure M2(X:Cx)(o:cq)(m:Str)(bC:Pos)(e f:cq)(ba:Pos):Prop where
 base:ke o m X.env (fu o X.env)=fu o X.env
 Ed:((ij ba<|c5 [e,f] X.env).all (λx=>!x.1)&&(pB ba<|mq [] X.env).all (λx=>x.1.isSome)
  && decide (([e,f]:Bz).length+([]:List qz).length+(if([]:List qz).isEmpty then 0 else 1)<30))=O
 line:(bC.endLine == ba.line)=O
 trees:ij ba (c5 [e,f] X.env)=[(ZA,fu e X.env),(ZA,fu f X.env)]
def We(H:Hp)(a:bp):Prop:=(∃b,Rd H a<|.dK b)\/∃b,Rd H a<|.dT b
def SO(I:Inv X Z W H s)(d:We H a) :
  s.TypeIs (.ref a) "dict" /\ (∀b,Value.ref a=.ref b->∃ob,s.heap.get? b=U ob/\ob.dict=Y)/\(a == i1)=ZA:=by
 rcases d with⟨f,e⟩|⟨f,e⟩
 .obtain⟨_,hd,i,_,c⟩:=nj I.bz e
  refine⟨c.typeIs,λb q=>?_,hd⟩;cases q;obtain⟨ob,_,_,h,g,_⟩:=c;exact⟨ob,h,g.2.1⟩
 .obtain⟨_,hd,xs,_,c⟩:=pH I.bz e
  refine⟨c.typeIs,λb q=>?_,hd⟩;cases q;obtain⟨ob,_,_,h,g,_⟩:=c;exact⟨ob,h,g.2.1⟩
def SQ(p:A.units+1<ll)(I:Inv X Z W H s)(g:rF H a y o)(n:RelV y u)(rd:RelV d r)(h:∀m s',Inv X Z W H s'->RelV (o.getD d) m->Q m s') :
  cC (cx X.prog X.w) A (call (.builtin "dict.get") [.ref a,u,r]) Q E s:=by
 rcases g with⟨i,k,e,j,l⟩|⟨i,k,b,e,j,q,l⟩
 .subst j
  obtain⟨z,hd,t,c,f⟩:=nj I.bz e;refine call_meetsIn pb f.typeIs vN (u2 ..) (meets_dict_get_default _ a (sE n) hd r) ⟨_,f.mapOf,h _ _ (I.tok _) ?_⟩;exact l▸(c.val k).getD rd
 .subst j
  cases(n);obtain⟨z,hd,xs,c,f⟩:=pH I.bz e;refine call_meetsIn pb f.typeIs vN (u2 ..) (meetsH_dict_get_default _ a b hd r) ⟨me p,k,xs,mh I.bz q,f,h _ _ (I.tok _) ?_⟩;exact l▸(c.val k).getD rd
def SS(c ty tx:TE):TE:=λW H Q=>c W H λx H1=>∃a,x=.ref a/\We H1 a/\ty W H1 λy d=>tx W d λz b=>∃o,rF b a y o/\Q (o.getD z) b
def Hi(q:X.A.units+1<ll)(r:PE X o R)(he:PE X e ty)(t:PE X f tx)(m:M2 X o "get" N e f P):PE X (.Call (.Attribute o "get" N) [e,f] [] P)<|SS R ty tx:=by
 intro Z s W H Q I h;refine wpAny_Call_method m.base m.Ed m.line PySem.F.plainAttrs_dict pb PySem.F.type_dict_get<|bX (r Z s W H _ I h) λu j c=>?_;obtain⟨x,H1,b,n,a,ex,d,q1⟩:=c;subst ex
 obtain rfl:u=Value.ref a:=n
 obtain⟨t1,t2,_⟩:=SO b d;refine⟨t1,t2,?_⟩;rw[m.trees];refine pd J<|qb<|rg<|bX (he Z j W H1 _ b q1) λL s2 ⟨y,D,B,l,q2⟩=>
  rg<|bX (t Z s2 W D _ B q2) λM K ⟨z,C,w,k,ov,g,p⟩=>FU ?_
 exact SQ q w g l k λE G v i=>⟨_,C,v,i,p⟩
end L2
namespace Pf
end Pf
namespace L2
open PySem PySem.Spec PyProof.Rows
end L2
namespace PySem
open Sem (wp)
open AutoSeq1 (wpAny_loadPart')
section
variable{prog:c4}{w:da}{A:ew}{E:Jn}{s:ag}
set_option maxHeartbeats 4000000 in
def jw(l:bp)(items:Array ar)(n:Nat)(fh:Option bp)(sl:Array D2)(t:Tok) :
  Meets (Builtin.«enumerate.__new__» ⟨[.type "enumerate",.ref l],[(hG "start",.int 1 t)]⟩) λ_ R s=>s.heap.get? l=U {cls:=.type "list",dict:=fh,data:=.seq items n,slots:=sl} /\
   R (.ok<|.ret<|.ref (s.heap.push {cls:=.type "list_iterator",data:=.fields #[.ref l,.int 0 0]}).objs.size)
    {s with heap:=(s.heap.push {cls:=.type "list_iterator",data:=.fields #[.ref l,.int 0 0]}).push {cls:=.type "enumerate",data:=.fields #[.none,.bool ZA,.ref s.heap.objs.size,qr 1,.none,.none]}}:=
 .of_wp λprog w A R s h=>by
  obtain⟨hp,g,d,tk,os⟩:=s;obtain⟨hl,h⟩:=h;have aae:=sub_enumerate;have hL:Heap.IsList (Shared.heap ⟨hp,g,d,tk,os⟩) l items:=⟨_,hl,J,n,J⟩
  wp_walk using qB hl
  refine wpAny_stack_any λst=>dv ?_;split
  .rename_i c _ _ _ _ _
   cases(c == pa "enumerate")
   .wp_walk using qB hl,kl hL
    exact⟨_,J,h⟩
   .wp_walk using qB hl,kl hL
    exact⟨_,J,h⟩
  .wp_walk using qB hl,kl hL
   exact⟨_,J,h⟩
def j_(f:ti (.type T) "__init__" = pure (U<|.builtin "object.__init__"))
  (e:Bind.madeBy (.type T)=pure (U newId)) (d:(U newId != U "object.__new__")=O) :
  Meets (Builtin.«object.__init__» ⟨self::rest,b⟩) λ_ R s=>s.TypeIs self T/\R (.ok<|.ret .none) s:=by
 refine Meets.of_wp λprog w A R s hs=>?_;obtain⟨g,c⟩:=hs;cases rest with
 |nil=>
  cases b with
  |nil=>exact dv ⟨_,J,c⟩
  |cons a b=>
   repeat (any_goals (first|wp_step))
   exact⟨_,J,c⟩
 |cons a rest=>
  repeat (any_goals (first|wp_step))
  exact⟨_,J,c⟩
def jx(a b:ar):checkTypeCall "enumerate" ⟨[a],[(hG "start",b)]⟩=pure ():=by rfl
def jS(a b:ar):vu "enumerate.__new__" ⟨[.type "enumerate",a],[(hG "start",b)]⟩=pure ():=by kernel_rfl
def wR(o a b:ar):argsOk "object.__init__" ⟨[o,a],[(hG "start",b)]⟩:=by
 unfold argsOk;rw[signature?_of (n:=['_','_','t','i','n','i','_','_']) (by rfl) F.owner_object];rfl
set_option maxHeartbeats 4000000 in
def mi{l:bp}{items:Array ar}{t:Tok}{Q:Jn}(hL:s.heap.IsList l items)
  (h:∀h',IsEnum h' (s.heap.objs.size+1) s.heap.objs.size 1 .none->h'.IsListIter s.heap.objs.size l 0->h'.objs.size=s.heap.objs.size+2 ->
   (∀b o,s.heap.get? b=U o->h'.get? b=U o)->Q (.ref<|s.heap.objs.size+1) {s with heap:=h'}) :
  cC (cx prog w) A (call (.type "enumerate") [.ref l] [(hG "start",.int 1 t)]) Q E s:=by
 obtain⟨⟨c,fh,dt,sl⟩,hl,hc,n,hd⟩:=hL
 replace hc:c=.type "list" := hc
 replace hd:dt=.seq items n:=hd
 subst hc hd;have ft:=F.called_enumerate;obtain⟨c,tl,abB⟩:=ft.mro;have abw:=ft.made;have aae:=ft.sub;have hct:=jx (.ref l)<|.int 1 t;have hcn:=jS (.ref l)<|.int 1 t;refine ma<|codeAny_of_tree ?_;show cC _ _ (callAny (.type "enumerate") _) _ _ _;refine dv ⟨ri _<|by decide +kernel,codeAny_builtin F.entry_type_call ?_⟩
 rw[Around.under_plain (weight_type_call_type "enumerate" _ _)<|units_type_call_type "enumerate" _ _];have h1:=ft.notType;have h2:=ft.canCreate
 repeat (any_goals (first|assumption|wp_step))
 have hz:(s.heap.push {cls:=.type "list_iterator",data:=.fields #[.ref l,.int 0 0]}).objs.size=s.heap.objs.size+1:=lx ..;have he:IsEnum ((s.heap.push {cls:=.type "list_iterator",data:=.fields #[.ref l,.int 0 0]}).push
   {cls:=.type "enumerate",data:=.fields #[.none,.bool ZA,.ref s.heap.objs.size,qr 1,.none,.none]}) (s.heap.objs.size+1) s.heap.objs.size 1 .none:=by
  have:=c3 (s.heap.push {cls:=.type "list_iterator",data:=.fields #[.ref l,.int 0 0]})
   (o:={cls:=.type "enumerate",data:=.fields #[.none,.bool ZA,.ref s.heap.objs.size,qr 1,.none,.none]}) J
  rw[hz]at this;exact this
 have fin:=h _ he ⟨_,av _<|c3 _ J,J,J⟩ (by rw[lx,hz]) λb o x=>av _<|av _ x
 refine ih (kv ft.plain F.entry_enumerate_new<|wpAny_of_eq hcn<|jw l items n fh sl t prog w A.in1 (wants (λobj s₁=>s₁.TypeIs obj "enumerate" /\ Q obj s₁) E) s ⟨hl,?_⟩) λr s₁ hr=>?_
 .show _/\_
  rw[hz];exact⟨⟨_,he,J⟩,fin⟩
 cases r with
 |error e=>exact hr
 |ok fl=>
  cases fl with
  |ret obj=>
   obtain⟨hT,hq⟩:=hr;have hli:=ft.init.lookup;have hbi:=ft.init.bind obj
   repeat (any_goals (first|assumption|wp_step))
   refine ih (kv ft.init.plain F.entry_object_init<|ft.init.check _ _ _ _ _ _ _ _ hT (wR _ _ _)<|j_ ft.init.lookup ft.made (by decide) prog w A.in1 (wants (λr s₂=>r=.none/\Q obj s₂) E) s₁ ⟨hT,J,hq⟩) λr₂ s₂ hr₂=>?_
   cases r₂ with
   |error e=>exact hr₂
   |ok fl₂=>
    cases fl₂ with
    |ret r=>
     obtain⟨rfl,hq⟩:=hr₂
     repeat (any_goals (first|assumption|wp_step))
    |_=>exact hr₂.elim
  |_=>exact hr.elim
end
end PySem
namespace L2
open PySem PySem.Spec PyProof.Rows
def Hj{A:ew}{St:Nat->eI->Prop}(D:Draws prog w A it b n P St)(m:Nat):Draws prog w A it b (m+n) (λj x=>∃i,j=m+i/\P i x) λj h=>∃i,j=m+i/\St i h where
 live:=λ_ h ⟨i,_,st⟩=>D.live i h st
 frame:=λ_ h a ⟨i,e,st⟩ k=>⟨i,e,D.frame i h a st k⟩
 item:=λj s Q E l ⟨i,e,st⟩ f=>D.item i s Q E (by lia) st λx a tk p d c=>f x a tk ⟨i,e,p⟩ ⟨i+1,by lia,d⟩ c
 done:=λs Q E ⟨i,e,st⟩ g=>by
  have:i=n:=by lia
  subst this;exact D.done s Q E st g
def XW(K:bG)(m:Nat)(l:bp)(xs:List V):It:=
 ⟨λi H=>i<xs.length/\dW K H l xs,λi H v a=>∃p x,H p=Y/\xs[i]?=U x/\v=.ref p/\a=upd H p (.tup [.int ((m+i:Nat):Int),x]),λi H=>i=xs.length/\dW K H l xs⟩
def pI{K:bG}(t:e≠it)(hle:l≠e)(C:l≠it) :
  Turn P w K (.Tuple F x1 pos) (XW K m l xs) [e,it] e λi h=>(∃old,IsEnum h e it ((m+i:Nat):Int) old)/\h.IsListIter it l i where
 mem:=by simp
 obj:=λi h st b a=>by
  obtain⟨⟨old,g⟩,o1,e1,_,d1⟩:=st;simp only[bH,j4,i4]at a;rcases a with rfl|rfl
  .exact⟨_,g,λv q=>by cases q⟩
  .exact⟨o1,e1,λv q=>by rw[d1]at q;cases q⟩
 keep:=λi h Q st k=>by
  obtain⟨⟨old,g⟩,z⟩:=st;exact⟨⟨old,k e (by simp) _ g⟩,z.at λo q=>k it (by simp) o q⟩
 item:=by
  intro X hP W hK j i ae s σ H E I f st hg;subst hP W hK;obtain⟨N,hq⟩:=hg;obtain⟨⟨old,g⟩,z⟩:=st;obtain⟨B,L,S,Z⟩:=I.list hq;obtain⟨u,hu,ru⟩:=L.get<|dM N;have Ī:i<B.toArray.size:=by rw[ck,<- L.length];exact N
  have D:=Hj (Draws.list (prog:=X.prog) (w:=X.w) (A:=X.A.in1) (I.ok.hd j) it l C B.toArray) m;refine wpAny_pyNext_enum_itemD D g ⟨i,J,z,S.isList⟩ (by lia) t (by simp only[bH,j4,i4,not_or];exact⟨t,f3 hle⟩) λx Q tk M a1 a2 a3 a4 T=>?_
  obtain⟨p,ei,M⟩:=M
  have:p=i:=by lia
  subst this;have hx:=by
   rw[Pb,hu]at M;exact(kM.inj M).symm
  subst hx;obtain⟨i2,ei2,a2,_⟩:=a2
  have:i2=p+1:=by lia
  subst this;refine⟨.ref s.heap.objs.size,J,?_⟩;refine wpAny_letOwnedTupleGo_enum a1 λR b1 b2=>?_
  have lt:∀{d o},s.heap.get? d=U o->s.heap.objs.size≠d:=λe=>DC<|cv e;have fpn:∀b∈[e,it],s.heap.objs.size≠b:=λb a=>by
   obtain⟨o1,e1,_⟩:=z;simp only[bH,j4,i4]at a;rcases a with rfl|rfl
   .exact lt g
   .exact lt e1
  have keep:∀b o,b∉[e,it]->s.heap.get? b=U o->R.get? b=U o:=λb o a q=>by
   simp only[bH,j4,i4,not_or]at a;exact(b2.2 b a.1).trans<|T b o a.1 a.2 q
  have y:=I.bz.fresh<|bL _;have hT:=(b2.2 _<|lt g).trans a3;have XX:IsTup R s.heap.objs.size [.int ((m+p:Nat):Int) tk,x].toArray:=⟨_,hT,J,0,J⟩;have G:∀b v,H b=U v->b∉[e,it]:=λb v q a=>by rw[(f b a).1]at q;cases q
  have I1:Inv X ae σ (upd H s.heap.objs.size<|.tup [.int ((m+p)),xs[p]]) {s with heap:=R,toks:=tk+1}:=by
   refine I.step (λb a=>⟨(f b a).2.2.2.1,(f b a).2.1,(f b a).2.2.2.2.1,(f b a).2.2.2.2.2⟩) (λb o _ _ a e _=>keep b o a e) (λb o _ _ a e _=>⟨o.slots,keep b o a e⟩)
    (λb o a e n=>by rw[aq<|f3<|lt e];exact n) (λb o a e=>⟨o,keep b o a e⟩) (λb ys e=>by rw[aq<|aS e y];exact e) (λb o v e=>by rw[aq<|aS e y];exact e)
    (λb ps e=>⟨#[],by rw[aq<|aS e y,e];simp⟩) (λm hm=>?_) ?_ I.bare
   .obtain⟨o,es,ep,ho,r⟩:=hm
    exact⟨o,es,ep,keep _ o (λa=>(f _ a).2.1 J) ho,r⟩
   .intro b v e
    by_cases a:b=s.heap.objs.size
    .subst a
     rw[ak]at e;cases e;exact⟨by show 2<=cw;decide,_,.cons ⟨_,J⟩<|.cons ru .nil,XX⟩
    .rw[aq a]at e
     refine(I.bz b v e).nJ (λc o j q=>keep c o ?_ q) (λc q=>by rw[aq<|aS q y];exact q) λc ys q=>by rw[aq<|aS q y];exact q
     rcases j with rfl|j
     .exact G c v e
     .exact G c _ j
  have eN:((m+p))+1=((m+(p+1))):=by lia
  refine⟨.ref s.heap.objs.size,_,I1,J,⟨_,_,y,dM N,J,J⟩,⟨⟨x,eN▸b1⟩,a2.at λo q=>(b2.2 it t.symm).trans q⟩,λb a=>?_⟩;rw[aq<|f3<|fpn b a];exact(f b a).1
 done:=by
  intro X hP W hK j i ae s σ H E I f st hg;subst hP W hK;obtain⟨N,hq⟩:=hg;obtain⟨⟨old,g⟩,z⟩:=st;obtain⟨B,L,S,Z⟩:=I.list hq;have hl:=L.length;have D:=Hj (Draws.list (prog:=X.prog) (w:=X.w) (A:=X.A.in1) (I.ok.hd j) it l C B.toArray) m;refine wpAny_pyNext_enum_endD D g ⟨i,by rw[ck];lia,z,S.isList⟩ λQ T=>⟨J,?_⟩
  have G:∀b v,H b=U v->b∉[e,it]:=λb v q a=>by rw[(f b a).1]at q;cases q
  have keep:∀b o,b∉[e,it]->s.heap.get? b=U o->Q.get? b=U o:=λb o a q=>by
   simp only[bH,j4,i4,not_or]at a;exact T b o a.2 q
  refine I.step (λb a=>⟨(f b a).2.2.2.1,(f b a).2.1,(f b a).2.2.2.2.1,(f b a).2.2.2.2.2⟩) (λb o _ _ a e _=>keep b o a e) (λb o _ _ a e _=>⟨o.slots,keep b o a e⟩)
   (λb o a e n=>n) (λb o a e=>⟨o,keep b o a e⟩) (λ_ _ e=>e) (λ_ _ _ e=>e) (λb ps e=>⟨#[],by rw[e];simp⟩) (λm hm=>?_) (λb v e=>?_) I.bare
  .obtain⟨o,es,ep,ho,r⟩:=hm
   exact⟨o,es,ep,keep _ o (λa=>(f _ a).2.1 J) ho,r⟩
  .refine(I.bz b v e).nJ (λc o j q=>keep c o ?_ q) (λ_ q=>q) λ_ _ q=>q
   rcases j with rfl|j
   .exact G c v e
   .exact G c _ j
 self:=λ_ _ _ _ _ st h=>by obtain⟨⟨old,g⟩,_⟩:=st;exact ub g h
def SW(K:bG)(m:Nat)(c:TA):TI:=λa H R=>c a H λb H1=>∃l xs,b=[.ref l]/\dW K H1 l xs/\R (XW K m l xs) H1
def XZ(y:Gl X "enumerate")(x:X.mg "enumerate" = Y)(z:PA X [a] f)(hs:c5 [a] X.env=[(ZA,fu a X.env)]) :
  PI X (.Tuple d x1 v) (.Call (.Name "enumerate" p) [a] [] pos)<|SW X.K 0 f:=by
 intro B s m H R I h;refine Call_<|iO I y x PQ<|DL (bX (z pos B s m H _ I h) λD c n=>?_) (by rw[hs];rfl) J
 obtain⟨C,H1,I1,r,q1⟩:=n;obtain⟨l,xs,e,w,q⟩:=q1;subst e;obtain⟨u,rfl,o⟩:=vals1 r;cases o;obtain⟨G,E,g,F⟩:=I1.list w;refine call_enumerate_list g.isList λA a1 a2 _ t=>ub (s:={c with heap:=A}) a1 ?_
 have i:l<c.heap.objs.size:=let⟨_,e,_⟩:=g.isList;cv e;refine⟨c.heap.objs.size+1,_,_,_,H1,J,I1.kept (t':=c.toks) t,pI (l:=l) (it:=c.heap.objs.size) (DC<|oW _) (eM<|FY i)<|eM i,⟨⟨_,a1⟩,a2⟩,λb j=>?_,q⟩;have k:c.heap.objs.size<=b:=by
  simp only[bH,j4,i4]at j;rcases j with rfl|rfl
  .exact bx _ _
  .exact bL _
 exact I1.ug k<|I1.bz.fresh k
def SX(C:Gl X "enumerate")(B:X.mg "enumerate" = Y)(D:PA X [a] g)(hs:c5 [a] X.env=[(ZA,fu a X.env)]) :
  PI X (.Tuple d x1 z) (.Call (.Name "enumerate" p) [a] [⟨U<|hG "start",.Constant (.int 1) k1 j,kp⟩] pos)<|SW X.K 1 g:=by
 intro o s f H R I h;refine f5<|iO I C B PQ ?_;refine PySem.W.callWith_of (P:=λ_=>True) (by rw[hs];rfl) (λh _=>⟨.machine,.inr<|.inl J,.now⟩) ?_
 refine PyProof.Rows.evalArgs_kw2 J (bX (D pos o s f H _ I h) λL c t=>?_) hs;obtain⟨G,H1,F,x,q1⟩:=t;show cC _ _ (evalAll [(do let v <- fu (.Constant (.int 1) k1 j) X.env;r4 pos;pure v)]) _ _ c
 refine wpAny_evalAll_cons<|ax<|wpAny_Constant_int<|ax<|og<|dv<|wpAny_evalAll_nil ⟨trivial,?_⟩;obtain⟨l,xs,e,A,q⟩:=q1;subst e;obtain⟨u,rfl,w⟩:=vals1 x;cases w;have I2:Inv X o f H1 {c with toks:=c.toks+1}:=F.tok _
 obtain⟨Q,M,i,N⟩:=I2.list A;show cC _ _ (call (.type "enumerate") [.ref l] [(hG "start",.int 1 c.toks)]) _ _ {c with toks:=c.toks+1}
 refine mi i.isList λE a1 a2 _ y=>ub (s:={c with heap:=E,toks:=c.toks+1}) a1 ?_
 have k:l<c.heap.objs.size:=let⟨_,e,_⟩:=i.isList;cv e;refine⟨c.heap.objs.size+1,_,_,_,H1,J,I2.kept (t':=c.toks+1) y,pI (m:=1) (l:=l) (it:=c.heap.objs.size) (DC<|oW _) (eM<|FY k)<|eM k,⟨⟨_,a1⟩,a2⟩,λb n=>?_,q⟩;have r:c.heap.objs.size<=b:=by
  simp only[bH,j4,i4]at n;rcases n with rfl|rfl
  .exact bx _ _
  .exact bL _
 exact I2.ug r<|I2.bz.fresh r
end L2
namespace D
inductive Ky where
 |i (n:Int)|s (l:B1)
 deriving DecidableEq
inductive T where
 |non|bl (b:Bool)|int (i:Int)|str (l:B1)|tup (xs:List T)|lst (xs:List T)
 |scr (ns:Ee)
 |obj (c:Nat) (fs:List T)
 |own (k:Nat)
 |fh (ks:List Ky) (vs:List T)
inductive C where
 |val (t:T)|ol (ts:List T)|od (ks:List Ky) (vs:List T)
 |yg (t:T)
structure Ob where
 c:Nat
 fs:List C
structure S where
 r:List<|Option C
 m:List Ob
abbrev FC:=List<|Option C
abbrev FK:=Option<|List T
abbrev FR:=List T
abbrev FV:=Option T
abbrev FX:=List Ob
inductive Res(α:Type) where
 |ok (a:α)|bad
 |exc (c:Nat) (fs:FR) (s:S)
def Res.bind(x:Res d)(f:d->Res b):Res b:=match x with
 |.ok a=>f a
 |.bad=>.bad
 |.exc c fs s=>.exc c fs s
def aa{x:Res e}{b:d}(h:x.bind f=.ok b):∃a,x=.ok a/\f a=.ok b:=by
 cases x with
 |ok a=>exact⟨a,J,h⟩
 |bad=>cases h
 |exc c fs s=>cases h
def bj:Option b->Res b
 |some a=>.ok a
 |none=>.bad
def abG{x:Res d}{b:c}{P:Prop}(k:∀a,x=.ok a→f a=.ok b→P)(h:x.bind f=.ok b):P:=(aa h).elim λa q=>k a q.1 q.2
def abH{x:Res<|e×γ}{b:d}{P:Prop}(k:∀a c,x=.ok (a,c)→f (a,c)=.ok b→P)(h:x.bind f=.ok b):P:=(aa h).elim λa q=>k _ _ q.1 q.2
def abI{x:Res<|g×γ×δ}{b:e}{P:Prop}(k:∀a c d,x=.ok (a,c,d)→f (a,c,d)=.ok b→P)(h:x.bind f=.ok b):P:=(aa h).elim λa q=>k _ _ _ q.1 q.2
def ao{a:c}(h:bj o=.ok a):o=U a:=by
 cases o with
 |none=>cases h
 |some b=>cases h;rfl
def gd{a:Type}(p:Prop)[Decidable p](x:a):Option a:=if p then U x else Y
def bo[Decidable p]{x a:b}(h:gd p x=U a):p/\x=a:=by
 unfold gd at h;lia
abbrev FE:=S->Res (T×S)
abbrev FT:=S->Res (Bool×S)
abbrev FL:=S->Res (FR×S)
inductive Out where
 |nx|rt (t:T)|bk|ct
abbrev FS:=S->Res (Out×S)
abbrev Fn:=FR->FX->Res (T×FX)
def X0:T->T->FV
 |.int i,.int j=>U<|.int<|i+j
 |.str a,.str b=>gd (a.length+b.length<=1000000)<|.str<|a++b
 |.lst a,.lst b=>gd (Kk a+Kk b<=1000000)<|.lst<|a++b
 |_,_=>Y
def X3:T->T->FV
 |.int i,.int j=>U<|.int<|i-j
 |_,_=>Y
def LY:T->T->FV
 |.int i,.int j=>gd (((-(2^64)<i/\i<2^64)\/(-(2^64)<j/\j<2^64))\/(i.natAbs.log2<2000000/\j.natAbs.log2<2000000))<|.int<|i*j
 |.lst a,.int k=>gd (k<1000000/\-1000000<k/\a.length*k.toNat<=1000000)<|.lst (cR k.toNat a).flatten
 |.str a,.int k=>gd (2<=k/\k<1000000/\a≠[]/\a.length*k.toNat<=1000000)<|.str (cR k.toNat a).flatten
 |_,_=>Y
def X4:T->T->FV
 |.int i,.int j=>gd (0<j/\j<1073741824)<|.int<|i/j
 |_,_=>Y
def X5:T->T->FV
 |.int i,.int j=>gd (0<j)<|.int<|i % j
 |_,_=>Y
def gx:T->FV
 |.int i=>U<|.int<|-i
 |_=>Y
def Hk(f:Int->Int->Bool):T->T->FV
 |.int i,.int j=>U<|.bl<|f i j
 |_,_=>Y
mutual
def eqT:T->T->Bool
 |.non,.non=>O
 |.bl a,.bl b=>a == b
 |.int a,.int b=>decide<|a=b
 |.bl a,.int b=>decide<|(if a then 1 else 0:Int)=b
 |.int a,.bl b=>decide<|a=(if b then 1 else 0:Int)
 |.str a,.str b=>decide<|a=b
 |.tup a,.tup b=>ib a b
 |.lst a,.lst b=>ib a b
 |.scr a,.scr b=>decide<|a=b
 |.obj c a,.obj d b=>decide (c=d)&&ib a b
 |.own a,.own b=>decide<|a=b
 |.fh ks a,.fh ls b=>decide (ks=ls)&&ib a b
 |_,_=>ZA
def ib:FR->FR->Bool
 |[],[]=>O
 |a::as,b::bs=>eqT a b&&ib as bs
 |_,_=>ZA
end
def dm:T->Bool
 |.bl _=>O
 |.int _=>O
 |.str _=>O
 |.non=>O
 |_=>ZA
def all2(p:T->T->Bool):FR->FR->Bool
 |a::as,b::bs=>p a b&&all2 p as bs
 |_,_=>O
def shape:Nat->T->T->Bool
 |n+1,.tup as,.tup bs=>all2 (shape n) as bs
 |n+1,.lst as,.lst bs=>all2 (shape n) as bs
 |_,a,b=>dm a&&dm b
def X6:T->T->FV:=λa b=>gd (shape 5 a b=O)<|.bl<|eqT a b
def ī:T->T->FV:=λa b=>gd (shape 5 a b=O)<|.bl<|!eqT a b
def kZ:T->Bool
 |.non=>O
 |_=>ZA
def X7(p:Bool)(x y:T):FV:=match y with
 |.non=>U<|.bl<|p == kZ x
 |.bl b=>(match x with
  |.bl a=>U<|.bl<|p == (a == b)
  |_=>Y)
 |_=>Y
def inS:B1->B1->Bool
 |[c],l=>decide<|c∈l
 |x,l=>(df<|l.length+1).any λi=>decide (i+Kk x<=Kk l)&&((l.drop i).take x.length == x)
def LZ(x y:T):Option Bool:=match y with
 |.str l=>(match x with
  |.str x=>U<|inS x l
  |_=>Y)
 |.tup a=>gd (dm x=O/\a.all dm=O)<|a.any λy=>eqT y x
 |.lst a=>gd (dm x=O/\a.all dm=O)<|a.any λy=>eqT y x
 |_=>Y
def inD:T->T->FV:=λx y=>(LZ x y).map .bl
def SY:T->T->FV:=λx y=>(LZ x y).map λb=>.bl<|!b
def atT{a:Type}(xs:List a)(i:Int):Option a:=if 0<=i then(if i<Kk xs then xs[i.toNat]? else Y)else if -(Kk xs:Int)<=i then xs[(i+Kk xs).toNat]? else Y
def fG(ks:List Ky)(vs:FR)(k:Ky):FV:=match ks,vs with
 |a::ks,v::vs=>if a=k then U v else fG ks vs k
 |_,_=>Y
def putK:List Ky->FR->Ky->T->List Ky×FR
 |a::ks,v::vs,k,t=>if a=k then(a::ks,t::vs)else let p:=putK ks vs k t;(a::p.1,v::p.2)
 |_,_,k,t=>([k],[t])
def jy:T->Option Ky
 |.int i=>U<|.i i
 |.str l=>U<|.s l
 |_=>Y
def Bt:T->T->FV
 |.lst xs,.int i=>atT xs i
 |.tup xs,.int i=>atT xs i
 |.str l,.int i=>(atT l i).map λc=>.str [c]
 |.scr ns,.int i=>(atT ns i).map .int
 |.fh ks a,x=>(jy x).bind<|fG ks a
 |_,_=>Y
def aaf:T->FV
 |.str l=>U<|.int l.length
 |.tup xs=>U<|.int xs.length
 |.lst xs=>U<|.int xs.length
 |.scr ns=>U<|.int ns.length
 |.fh ks _=>U<|.int ks.length
 |_=>Y
def iR(n d:Nat):Dx->Nat
 |none=>d
 |some v=>if v<0 then(v+(n:Int)).toNat else min v.toNat n
def bT{a:Type}(xs:List a)(lo b:Dx):List a:=(xs.drop<|iR xs.length 0 lo).take<|iR xs.length xs.length b-iR xs.length 0 lo
def slD(lo a:Dx):T->FV
 |.str l=>U<|.str<|bT l lo a
 |.lst l=>U<|.lst<|bT l lo a
 |.scr ns=>U<|.lst<|(bT ns lo a).map .int
 |_=>Y
def X8:T->Option Bool
 |.bl b=>U b
 |.lst ts=>U<|!ts.isEmpty
 |_=>Y
def strsOf:FR->Option Ap
 |[]=>U []
 |.str l::ts=>(strsOf ts).map (l::·)
 |_=>Y
def fm(c:B1):Ap->B1
 |[]=>[]
 |[a]=>a
 |a::b::r=>a++c++fm c (b::r)
def P_:T->T->FV
 |.str a,.lst ts=>(strsOf ts).bind λb=>gd ((b.map (·.length)).sum+Kk b*Kk a<=1000000)<|.str<|fm a b
 |_,_=>Y
def pre(s l:B1):Bool:=decide (Kk s<=Kk l)&&(l.take s.length == s)
def suf(s l:B1):Bool:=decide (Kk s<=Kk l)&&(l.drop (Kk l-Kk s) == s)
def boolsOf:FR->Option Fs
 |[]=>U []
 |.bl b::ts=>(boolsOf ts).map (b::·)
 |_=>Y
def wU:T->FV
 |.lst ts=>(boolsOf ts).map λbs=>.bl<|bs.all id
 |_=>Y
def X_:T->FV
 |.lst ts=>(boolsOf ts).map λbs=>.bl<|bs.any id
 |_=>Y
def Qa:T->FV
 |.lst a=>U<|.lst a
 |.tup a=>U<|.lst a
 |_=>Y
def cQ:FE:=λ_=>.bad
def cF(t:T):FE:=λs=>.ok (t,s)
def jT(s:S)(i:Nat)(c:C):S:={s with r:=s.r.set i (U c)}
def vF(i:Nat):FE:=λs=>match s.r[i]? with
 |U<|U<|.val t=>.ok (t,s)
 |U<|U<|.ol ts=>.ok (.lst ts,jT s i<|.val<|.lst ts)
 |U<|U<|.od ks ts=>.ok (.fh ks ts,jT s i<|.val<|.fh ks ts)
 |_=>.bad
def dg(g:T->FV)(a:FE):FE:=λs=>(a s).bind λp=>(bj<|g p.1).bind λt=>.ok (t,p.2)
def bF(g:T->T->FV)(a b:FE):FE:=λs=>(a s).bind λp=>(b p.2).bind λq=>(bj<|g p.1 q.1).bind λt=>.ok (t,q.2)
def aT:FL:=λs=>.ok ([],s)
def bq(a:FE)(r:FL):FL:=λs=>(a s).bind λp=>(r p.2).bind λq=>.ok (p.1::q.1,q.2)
def gy:FL:=λ_=>.bad
def aU(g:FR->FV)(a:FL):FE:=λs=>(a s).bind λp=>(bj<|g p.1).bind λt=>.ok (t,p.2)
def cz(ts:FR):FV:=gd (Kk ts<=1000)<|.tup ts
def cO(ts:FR):FV:=gd (Kk ts<=1000)<|.lst ts
def rG:FT:=λ_=>.bad
def tB(a:FE):FT:=λs=>(a s).bind λp=>(bj<|X8 p.1).bind λb=>.ok (b,p.2)
def iU(a b:FT):FT:=λs=>(a s).bind λp=>if p.1 then b p.2 else .ok (ZA,p.2)
def ic(a b:FT):FT:=λs=>(a s).bind λp=>if p.1 then .ok (O,p.2)else b p.2
def dC(a:FT):FT:=λs=>(a s).bind λp=>.ok (!p.1,p.2)
def fj:FT:=λs=>.ok (O,s)
def Yb:T->Option Bool
 |.bl b=>U b
 |_=>Y
def k6(a b:FE):FE:=λs=>(a s).bind λp=>(bj<|Yb p.1).bind λk=>if k then b p.2 else .ok (.bl ZA,p.2)
def orV(a b:FE):FE:=λs=>(a s).bind λp=>(bj<|Yb p.1).bind λk=>if k then .ok (.bl O,p.2)else b p.2
def nS(a:FE):FE:=λs=>(a s).bind λp=>(bj<|Yb p.1).bind λk=>.ok (.bl<|!k,p.2)
def qV(c:FT)(a b:FE):FE:=λs=>(c s).bind λp=>if p.1 then a p.2 else b p.2
abbrev FO:=S->Res (Dx×S)
def oq:FO:=λs=>.ok (Y,s)
def inO:T->Dx
 |.int i=>U i
 |_=>Y
def gQ(a:FE):FO:=λs=>(a s).bind λp=>(bj<|inO p.1).bind λi=>.ok (U i,p.2)
def jU(a:FE)(lo b:FO):FE:=λs=>(a s).bind λp=>(lo p.2).bind λq=>(b q.2).bind λz=>(bj<|slD q.1 z.1 p.1).bind λt=>.ok (t,z.2)
def mj:Option (Option C)->FK
 |U<|U<|.ol ts=>U ts
 |_=>Y
def wV(i:Nat)(b:FE):FE:=λs=>(bj<|mj s.r[i]?).bind λ_=>(b s).bind λp=>(bj<|mj p.2.r[i]?).bind λts=>(bj<|Bt (.lst ts) p.1).bind λt=>.ok (t,p.2)
def iV(tab:Ap)(c f:Nat):Option Nat:=(tab[c]?).bind λns=>ns.idxOf? f
def az(tab:Ap)(f:Nat)(a:FE):FE:=λs=>(a s).bind λp=>match p.1 with
 |.obj c fs=>(bj<|(iV tab c f).bind λj=>fs[j]?).bind λt=>.ok (t,p.2)
 |.own k=>(bj<|(p.2.m[k]?).bind λob=>(iV tab ob.c f).bind λj=>ob.fs[j]?).bind λc=>(match c with
  |.val t=>.ok (t,p.2)
  |_=>.bad)
 |_=>.bad
def dR(c n:Nat)(fl:FL):FE:=λs=>(fl s).bind λp=>if Kk p.1=n then .ok (.obj c p.1,p.2)else .bad
def kc(c:Nat)(g:Fn)(fl:FL):FE:=λs=>(fl s).bind λp=>match g (.own p.2.m.length::p.1) (p.2.m++[⟨c,[]⟩])with
 |.ok (.non,b)=>.ok (.own p.2.m.length,{p.2 with m:=b})
 |.exc c fs a=>.exc c fs {p.2 with m:=a.m}
 |_=>.bad
def S3(c:Nat):T->FV
 |.lst ts=>U<|.obj c [.lst ts]
 |_=>Y
def aj(g:Fn)(ds:FR)(fl:FL):FE:=λs=>(fl s).bind λp=>match g (p.1++ds) p.2.m with
 |.ok q=>.ok (q.1,{p.2 with m:=q.2})
 |.bad=>.bad
 |.exc c fs a=>.exc c fs {p.2 with m:=a.m}
def aG(g:Nat->Option Fn)(o:FE)(fl:FL):FE:=λs=>(o s).bind λp=>match p.1 with
 |.own k=>(bj<|(p.2.m[k]?).bind λob=>g ob.c).bind λh=>aj h [] (λs=>(fl s).bind λq=>.ok (.own k::q.1,q.2)) p.2
 |.obj c fs=>(bj<|g c).bind λh=>aj h [] (λs=>(fl s).bind λq=>.ok (.obj c fs::q.1,q.2)) p.2
 |_=>.bad
def Yc:T->FK
 |.lst ts=>U ts
 |.tup ts=>U ts
 |.str l=>U<|l.map λc=>.str [c]
 |.scr ns=>U<|ns.map .int
 |_=>Y
def jV(a:FE):FL:=λs=>(a s).bind λp=>(bj<|Yc p.1).bind λts=>.ok (ts,p.2)
def lT(lo:Int)(n:Nat):FR:=(df n).map λk=>.int<|lo+(k:Nat)
def zt:FR->FK
 |[.int j]=>gd (j<1000000/\-1000000<j)<|lT 0 j.toNat
 |[.int i,.int j]=>gd (i<1000000/\-1000000<i/\j<1000000/\-1000000<j)<|lT i (j-i).toNat
 |[.int i,.int j,.int k]=>gd (k=-1/\i<1000000/\-1000000<i/\j<1000000/\-1000000<j)<|(df (i-j).toNat).map λk=>.int<|i-(k:Nat)
 |_=>Y
def Fg(g:FR->FK)(a:FL):FL:=λs=>(a s).bind λp=>(bj<|g p.1).bind λts=>.ok (ts,p.2)
def eG:Int->FR->FR
 |_,[]=>[]
 |n,t::ts=>.tup [.int n,t]::eG (n+1) ts
def Yd(n:Int):T->FK
 |.lst ts=>U<|eG n ts
 |_=>Y
def jc(n:Int)(a:FE):FL:=λs=>(a s).bind λp=>(bj<|Yd n p.1).bind λts=>.ok (ts,p.2)
abbrev FG:=T->FC->Option FC
def setG(i:Nat):FG:=λt r=>U<|r.set i<|U<|.val t
def Bu:B1->FR->FC->Option FC
 |[],[],r=>U r
 |i::is,t::ts,r=>Bu is ts<|r.set i<|U<|.val t
 |_,_,_=>Y
def dc(is:B1):FG:=λt r=>match t with
 |.tup ts=>Bu is ts r
 |_=>Y
def L7(r:FC)(j:Nat):FC:=match r[j]? with
 |U<|U<|.ol ts=>r.set j<|U<|.val<|.lst ts
 |_=>r
def kg:B1->FC->FC
 |[],r=>r
 |j::js,r=>kg js<|L7 r j
def jz(k:Nat)(js:B1)(r:FC):FC:=cR k Y++js.map λj=>match r[j]? with
 |U<|U<|.val t=>U<|.val t
 |_=>Y
def bu(g:FG)(c:FT)(e:FE)(b:FC):FR->FX->Res (FR×FX)
 |[],m=>.ok ([],m)
 |t::ts,m=>(bj<|g t b).bind λb1=>(c ⟨b1,m⟩).bind λp=>if p.1 then(e p.2).bind λq=>(bu g c e b ts q.2.m).bind λz=>.ok (q.1::z.1,z.2)else bu g c e b ts p.2.m
def dh(src:FL)(k:Nat)(js:B1)(g:FG)(c:FT)(e:FE):FL:=λs=>(src s).bind λp=>if Kk p.1<=1000000 then
  (bu g c e (jz k js<|kg js p.2.r) p.1 p.2.m).bind λq=>.ok (q.1,⟨kg js p.2.r,q.2⟩)else .bad
def eW(fl:FL):FE:=λs=>(fl s).bind λp=>.ok (.lst p.1,p.2)
def aL:FS:=λs=>.ok (.nx,s)
def b9:FS:=λ_=>.bad
def ah(a b:FS):FS:=λs=>(a s).bind λp=>match p.1 with
 |.nx=>b p.2
 |o=>.ok (o,p.2)
def aH(i:Nat)(a:FE):FS:=λs=>(a s).bind λp=>.ok (.nx,jT p.2 i<|.val p.1)
def iC(i:Nat)(a:FL):FS:=λs=>(a s).bind λp=>.ok (.nx,jT p.2 i<|.ol p.1)
def nU(g:FG)(a:FE):FS:=λs=>(a s).bind λp=>(bj<|g p.1 p.2.r).bind λr=>.ok (.nx,{p.2 with r:=r})
def aD(a:FE):FS:=λs=>(a s).bind λp=>.ok (.rt p.1,p.2)
def aQ(a:FE):FS:=λs=>(a s).bind λp=>.ok (.nx,p.2)
def aZ(c:FT)(a b:FS):FS:=λs=>(c s).bind λp=>if p.1 then a p.2 else b p.2
def fU(i:Nat)(a:FE):FS:=λs=>(bj<|mj s.r[i]?).bind λ_=>(a s).bind λp=>(bj<|mj p.2.r[i]?).bind λts=>(bj<|gd (Kk ts<1000000) ts).bind λts=>.ok (.nx,jT p.2 i<|.ol<|ts++[p.1])
def eu(i:Nat)(b a:FE):FS:=λs=>(a s).bind λp=>(bj<|mj p.2.r[i]?).bind λ_=>(b p.2).bind λq=>(bj<|mj q.2.r[i]?).bind λts=>(bj<|inO q.1).bind λj=>(bj<|gd (0<=j/\j<Kk ts)<|ts.set j.toNat p.1).bind λc=>.ok (.nx,jT q.2 i<|.ol c)
def Hl(g:T->T->FV)(i:Nat)(a:FE):FS:=λs=>match s.r[i]? with
 |U<|U<|.val x=>(a s).bind λp=>(bj<|g x p.1).bind λt=>.ok (.nx,jT p.2 i<|.val t)
 |_=>.bad
def setAt(fs:List C)(j:Nat)(c:C):Option<|List C:=if j<Kk fs then U (fs.set j c)else if j=Kk fs then U (fs++[c])else Y
def gz(tab:Ap)(f:Nat)(c:C)(ob:Ob):Option Ob:=(iV tab ob.c f).bind λj=>(setAt ob.fs j c).map λfs=>⟨ob.c,fs⟩
def aO(tab:Ap)(f:Nat)(o a:FE):FS:=λs=>(a s).bind λp=>(o p.2).bind λq=>match q.1 with
 |.own k=>(bj<|(q.2.m[k]?).bind<|gz tab f<|.val p.1).bind λob=>.ok (.nx,{q.2 with m:=q.2.m.set k ob})
 |_=>.bad
def aX(g:FG)(b:FS):FR->FS
 |[],s=>.ok (.nx,s)
 |t::ts,s=>(bj<|g t s.r).bind λr=>(b ⟨r,s.m⟩).bind λp=>match p.1 with
  |.nx=>aX g b ts p.2
  |.ct=>aX g b ts p.2
  |.bk=>.ok (.nx,p.2)
  |.rt t=>.ok (.rt t,p.2)
def dD(src:FL)(g:FG)(b:FS):FS:=λs=>(src s).bind λp=>aX g b p.1 p.2
def bU(c:FT)(b:FS):Nat->FS
 |0,_=>.bad
 |n+1,s=>(c s).bind λp=>if p.1 then(b p.2).bind λq=>(match q.1 with
  |.nx=>bU c b n q.2
  |.ct=>bU c b n q.2
  |.bk=>.ok (.nx,q.2)
  |.rt t=>.ok (.rt t,q.2))else .ok (.nx,p.2)
def ie(n:Nat)(c:FT)(b:FS):FS:=bU c b n
def wW(c:Nat)(fl:FL):FE:=λs=>(fl s).bind λp=>.ok (.own p.2.m.length,{p.2 with m:=p.2.m++[⟨c,[.ol p.1]⟩]})
def aC(a n:Nat)(b:FS):Fn:=λts m=>if Kk ts=a then(b ⟨ts.map (λt=>U<|.val t)++cR (n-Kk ts) Y,m⟩).bind λp=>match p.1 with
 |.rt t=>.ok (t,p.2.m)
 |.nx=>.ok (.non,p.2.m)
 |_=>.bad else .bad
mutual
def noOwn:T->Bool
 |.own _=>ZA
 |.tup xs=>aB xs
 |.lst xs=>aB xs
 |.obj _ xs=>aB xs
 |.fh _ xs=>aB xs
 |_=>O
def aB:FR->Bool
 |[]=>O
 |t::ts=>noOwn t&&aB ts
end
def aK(g:Fn):Fn:=λts m=>if aB ts=O then(match g ts []with
 |.ok q=>if noOwn q.1=O then .ok (q.1,m)else .bad
 |.bad=>.bad
 |.exc c fs s=>if aB fs=O then .exc c fs ⟨s.r,m⟩else .bad)else .bad
end D
namespace D
open PySem L2
abbrev SV(l:B1):V:=.str ⟨l.toArray⟩
structure KT where
 K:bG
 P:c4
 w:da
 cn:Bi
 fn:List Bi
def iD(B:KT)(c:Nat)(C:bp)(ns:Bi):Prop:=∃n,B.cn[c]?=U n/\B.fn[c]?=U ns/\ns.Nodup/\qY B.K eR n=U (U<|.ref C)
def iD.eq{C j:bp}(h:iD B c C ns)(h':iD B c j i):C=j/\ns=i:=by
 obtain⟨n,a,b,_,d⟩:=h;obtain⟨n',g,f,_,e⟩:=h';lia
def kJ:Ky->Key
 |.i n=>.inl n
 |.s l=>.inr ⟨l.toArray⟩
inductive kh where
 |loc (i:Nat)|ob (k:Nat)|fld (k j:Nat)
 deriving DecidableEq
structure G where
 HF:Hp
 o:bp->Option kh
 al:BM
def _root_.L2.Fz(H:Hp)(a:bp)(u:HO):Prop:=∃o,H a=U (.iy o u)
def _root_.L2.Fz.same{H H':Hp}{a:bp}{u:HO}(h:Fz H a u)(s:aR H H'):Fz H' a u:=let⟨o,q⟩:=h;⟨o,s _ _ q⟩
def _root_.L2.Fz.rd{H:Hp}{a:bp}{u:HO}(h:Fz H a u):Rd H a u:=.inr h
mutual
def Rep(B:KT)(al:BM)(H:Hp):T->V->Prop
 |.non,v=>v=.non
 |.bl b,v=>v=.bl b
 |.int i,v=>v=.int i
 |.str l,v=>v=SV l/\l.length<=1000000
 |.tup ts,v=>∃a vs,v=.ref a/\kG B.K H a vs/\aE B al H ts vs
 |.lst ts,v=>∃a vs,v=.ref a/\H a=U (.lst vs)/\aE B al H ts vs
 |.scr ns,v=>∃a,v=.ref a/\dW B.K H a (ns.map V.int)
 |.obj c ts,v=>∃a C dx ns vs,v=.ref a/\iD B c C ns/\H a=U (.ins C dx<|ns.zip vs)/\vs.length<=Kk ns/\H dx=U (.own a)/\aE B al H ts vs
 |.own k,v=>∃a,v=.ref a/\al[k]?=U a
 |.fh ks ts,v=>∃a vs,v=.ref a/\Fz H a (.dK<|(ks.map kJ).zip vs)/\ks.length=Kk vs/\aE B al H ts vs
def aE(B:KT)(al:BM)(H:Hp):FR->List V->Prop
 |[],vs=>vs=[]
 |t::ts,vs=>∃v r,vs=v::r/\Rep B al H t v/\aE B al H ts r
end
def bM(s:aR H H')(q:kG K H a xs):kG K H' a xs:=by
 rcases q with(q|⟨o,q⟩)|q
 .exact .inl<|.inl<|s _ _ q
 .exact .inl<|.inr ⟨o,s _ _ q⟩
 .exact .inr q
def eX{b:Type}{l m:List b}(p:l <+: m){k:Nat}{a:b}(h:l[k]?=U a):m[k]?=U a:=by
 obtain⟨r,rfl⟩:=p;rw[jP (dq.mp h).1];exact h
variable{B:KT}{al d:BM}{H H' HF F:Hp}
mutual
theorem Rep.mv(p:al <+: d)(s:aR H H'):∀{t:T}{v:V},Rep B al H t v->Rep B d H' t v
 |.non,_,h=>h
 |.bl _,_,h=>h
 |.int _,_,h=>h
 |.str _,_,h=>h
 |.tup ts,_,h=>by
  obtain⟨a,vs,e,q,r⟩:=h;exact⟨a,vs,e,bM s q,aE.mv p s r⟩
 |.lst ts,_,h=>by
  obtain⟨a,vs,e,q,r⟩:=h;exact⟨a,vs,e,s _ _ q,aE.mv p s r⟩
 |.scr ns,_,h=>by
  obtain⟨a,e,q⟩:=h;exact⟨a,e,s.seq q⟩
 |.obj c ts,_,h=>by
  obtain⟨a,C,dx,ns,vs,e,z,q,l,q2,r⟩:=h;exact⟨a,C,dx,ns,vs,e,z,s _ _ q,l,s _ _ q2,aE.mv p s r⟩
 |.own k,_,h=>by
  obtain⟨a,e,q⟩:=h;exact⟨a,e,eX p q⟩
 |.fh ks ts,_,h=>by
  obtain⟨a,vs,e,q,l,r⟩:=h;exact⟨a,vs,e,q.same s,l,aE.mv p s r⟩
theorem aE.mv(p:al <+: d)(s:aR H H'):∀{ts:FR}{vs:List V},aE B al H ts vs->aE B d H' ts vs
 |[],_,h=>h
 |t::ts,_,h=>by
  obtain⟨v,r,e,h1,h2⟩:=h;exact⟨v,r,e,Rep.mv p s h1,aE.mv p s h2⟩
end
def Rep.same(s:aR H H')(h:Rep B al H t v):Rep B al H' t v:=h.mv e_ s
def aE.same(s:aR H H')(h:aE B al H t v):aE B al H' t v:=h.mv e_ s
theorem aE.len:∀{ts:FR}{vs:List V},aE B al H ts vs->Kk ts=Kk vs
 |[],_,h=>by cases(h);rfl
 |t::ts,_,h=>by
  obtain⟨v,r,rfl,_,a⟩:=h;simp[aE.len a]
theorem aE.get:∀{ts:FR}{vs:List V},aE B al H ts vs->∀{i:Nat}{t:T},ts[i]?=U t->∃v,vs[i]?=U v/\Rep B al H t v
 |[],_,_,_,_,e=>by simp at e
 |t::ts,_,h,0,_,e=>by
  obtain⟨v,r,rfl,c,_⟩:=h;simp at e;subst e;exact⟨v,J,c⟩
 |t::ts,_,h,i+1,_,e=>by
  obtain⟨v,r,rfl,_,b⟩:=h;obtain⟨a,e',d⟩:=aE.get b (by simpa using e)
  exact⟨a,by simpa using e',d⟩
theorem aE.zu:∀{ts:FR}{vs:List V},aE B al H ts vs->∀{i:Nat}{v:V},vs[i]?=U v->∃t,ts[i]?=U t/\Rep B al H t v
 |[],_,h,_,_,e=>by have h:=h;subst h;simp at e
 |t::ts,_,h,0,_,e=>by
  obtain⟨v,r,rfl,c,_⟩:=h;simp at e;subst e;exact⟨t,J,c⟩
 |t::ts,_,h,i+1,_,e=>by
  obtain⟨v,r,rfl,_,b⟩:=h;obtain⟨a,e',d⟩:=aE.zu b (by simpa using e)
  exact⟨a,by simpa using e',d⟩
theorem aE.app:∀{ts us:FR}{vs b:List V},aE B al H ts vs->aE B al H us b->aE B al H (ts++us) (vs++b)
 |[],_,_,_,h,a=>by have h:=h;subst h;exact a
 |t::ts,_,_,_,h,a=>by
  obtain⟨v,r,rfl,d,c⟩:=h;exact⟨v,_,J,d,c.app a⟩
theorem aE.drop:∀{ts:FR}{vs:List V}(n:Nat),aE B al H ts vs->aE B al H (ts.drop n) (vs.drop n)
 |ts,vs,0,h=>by simpa using h
 |[],_,n+1,h=>by have h:=h;subst h;rfl
 |t::ts,_,n+1,h=>by
  obtain⟨v,r,rfl,_,a⟩:=h;simpa using a.drop n
theorem aE.take:∀{ts:FR}{vs:List V}(n:Nat),aE B al H ts vs->aE B al H (ts.take n) (vs.take n)
 |ts,vs,0,h=>by rfl
 |[],_,n+1,h=>by have h:=h;subst h;rfl
 |t::ts,_,n+1,h=>by
  obtain⟨v,r,rfl,b,a⟩:=h;exact⟨v,r.take n,J,b,a.take n⟩
theorem aE.set(q:Rep B al H t v):∀{ts:FR}{vs:List V}(n:Nat),aE B al H ts vs->aE B al H (ts.set n t) (vs.set n v)
 |[],_,n,h=>by have h:=h;subst h;rfl
 |_::ts,_,0,h=>by
  obtain⟨w,r,rfl,b,a⟩:=h;exact⟨v,r,J,q,a⟩
 |u::ts,_,n+1,h=>by
  obtain⟨w,r,rfl,b,a⟩:=h;exact⟨w,r.set n v,J,b,a.set q n⟩
theorem aE.flat(h:aE B al H ts vs):∀n:Nat,aE B al H (cR n ts).flatten (cR n vs).flatten
 |0=>J
 |n+1=>by
  rw[tZ,tZ,yT];exact h.app<|h.flat n
def aE.one(q:Rep B al H t v):aE B al H [t] [v]:=⟨v,[],J,q,J⟩
theorem aE.ints:∀ns:Ee,aE B al H (ns.map T.int)<|ns.map V.int
 |[]=>J
 |n::ns=>⟨_,_,J,J,aE.ints ns⟩
theorem aE.signs:∀l:B1,aE B al H (l.map λc=>T.str [c])<|l.map λc=>V.str ⟨#[c]⟩
 |[]=>J
 |c::l=>⟨_,_,J,⟨J,by simp⟩,aE.signs l⟩
mutual
theorem Rep.no:∀{t:T}{v:V},noOwn t=O->Rep B al H t v->Rep B d H t v
 |.non,_,_,h=>h
 |.bl _,_,_,h=>h
 |.int _,_,_,h=>h
 |.str _,_,_,h=>h
 |.tup ts,_,n,h=>by
  obtain⟨a,vs,e,q,r⟩:=h;exact⟨a,vs,e,q,aE.no n r⟩
 |.lst ts,_,n,h=>by
  obtain⟨a,vs,e,q,r⟩:=h;exact⟨a,vs,e,q,aE.no n r⟩
 |.scr ns,_,_,h=>h
 |.obj c ts,_,n,h=>by
  obtain⟨a,C,dx,ns,vs,e,z,q,l,q2,r⟩:=h;exact⟨a,C,dx,ns,vs,e,z,q,l,q2,aE.no n r⟩
 |.own k,_,n,h=>by cases n
 |.fh ks ts,_,n,h=>by
  obtain⟨a,vs,e,q,l,r⟩:=h;exact⟨a,vs,e,q,l,aE.no n r⟩
theorem aE.no:∀{ts:FR}{vs:List V},aB ts=O->aE B al H ts vs->aE B d H ts vs
 |[],_,_,h=>h
 |t::ts,_,n,h=>by
  obtain⟨v,r,e,h1,h2⟩:=h;have n:(noOwn t&&aB ts)=O:=n;rw[bP]at n;exact⟨v,r,e,Rep.no n.1 h1,aE.no n.2 h2⟩
end
structure Gr(HF H F H':Hp):Prop where
 fr:aR HF F
 sub:aR F H'
 rest:∀b o,H b=U o->HF b=Y->H' b=U o/\F b=Y
theorem Gr.refl(s:aR HF H):Gr HF H HF H:=⟨aR.refl _,s,λ_ _ h n=>⟨h,n⟩⟩
theorem Gr.trans{HF H e H1 d f:Hp}(a:Gr HF H e H1)(b:Gr e H1 d f):Gr HF H d f:=
 ⟨a.fr.trans b.fr,b.sub,λc o h n=>let⟨h1,n1⟩:=a.rest c o h n;b.rest c o h1 n1⟩
def Gr.same(s:aR HF H)(a:Gr HF H F H'):aR H H':=λb o h=>by
 cases e:HF b with
 |none=>exact(a.rest b o h e).1
 |some u=>
  have:=s b u e
  rw[h]at this;cases this;exact a.sub _ _<|a.fr _ _ e
def bg(h:H p=Y):aR H<|upd H p o:=λb u e=>(aq<|aS e h)▸e
def Gr.new(s:aR HF H)(h:H p=Y):Gr HF H (upd HF p o)<|upd H p o:=by
 have c:=s.free h;refine⟨bg c,λb u e=>?_,λb u e n=>?_⟩
 .by_cases a:b=p
  .subst a;rw[ak]at e ⊢;exact e
  .rw[aq a]at e ⊢;exact s _ _ e
 .have a:=aS e h
  rw[aq a,aq a];exact⟨e,n⟩
def Gr.mw(s:aR HF H)(h:H p=Y):Gr HF H HF<|upd H p o:=
 ⟨aR.refl _,s.trans<|bg h,λb u e n=>⟨bg h _ _ e,n⟩⟩
def bI(B:KT)(g:G)(H:Hp)(p:kh):C->V->Prop
 |.val t,v=>Rep B g.al g.HF t v
 |.ol ts,v=>∃l a,v=.ref l/\g.o l=U p/\H l=U (.lst a)/\aE B g.al g.HF ts a
 |.od ks ts,v=>∃l a,v=.ref l/\g.o l=U p/\H l=U (.dK<|(ks.map kJ).zip a)/\ks.length=Kk a/\aE B g.al g.HF ts a
 |.yg t,v=>∃c:Hp,(∀b u,c b=U u->g.o b=U p/\H b=U u)/\Rep B [] c t v
structure Fj(B:KT)(g:G)(H:Hp)(k:Nat)(ob:Ob)(a C dx:bp)(ns:Bi)(vs:List V):Prop where
 al:g.al[k]?=U a
 o:g.o a=U (.ob k)
 cl:iD B ob.c C ns
 h:H a=U (.ins C dx<|ns.zip vs)
 le:Kk vs<=Kk ns
 ln:Kk vs=Kk ob.fs
 f:∀j c,ob.fs[j]?=U c->∃v,vs[j]?=U v/\bI B g H (.fld k j) c v
structure Ĭ(B:KT)(g:G)(H:Hp)(k:Nat)(ob:Ob)(a:bp):Prop where
 al:g.al[k]?=U a
 nc:B.cn[ob.c]?=Y
 nf:B.fn[ob.c]?=Y
 f:∀c,ob.fs=[c]->bI B g H (.ob k) c (.ref a)
def S4(B:KT)(g:G)(H:Hp)(k:Nat)(ob:Ob):Prop:=(∃a C c ns b,Fj B g H k ob a C c ns b)\/∃a,Ĭ B g H k ob a
structure ez(B:KT)(g:G)(H:Hp)(m:FX):Prop where
 sub:aR g.HF H
 live:∀b p,g.o b=U p->g.HF b=Y/\∃u,H b=U u
 len:Kk m=Kk g.al
 at_:∀k ob,m[k]?=U ob->S4 B g H k ob
structure pJ(B:KT)(g:G)(H:Hp)(σ:St)(r:FC):Prop where
 len:Kk r=σ.length
 at_:∀i c,r[i]?=U (U c)->∃v,σ[i]?=U (U v)/\bI B g H (.loc i) c v
structure SR(B:KT)(g:G)(H:Hp)(σ:St)(s:S):Prop where
 st:ez B g H s.m
 lc:pJ B g H σ s.r
structure du(g:G)(H:Hp)(g':G)(H':Hp):Prop where
 fr:aR g.HF g'.HF
 pre:g.al <+: g'.al
 rest:∀b u,H b=U u->g.HF b=Y->g.o b=Y->H' b=U u/\g'.HF b=Y/\g'.o b=Y
 there:∀b,H' b=Y->H b=Y
variable{g g1 g2 g':G}
theorem du.refl:du g H g H:=⟨aR.refl _,e_,λ_ _ h n o=>⟨h,n,o⟩,λ_ h=>h⟩
theorem du.trans(a:du g H g1 H1)(b:du g1 H1 g2 t):du g H g2 t:=
 ⟨a.fr.trans b.fr,a.pre.trans b.pre,λc u h n o=>let⟨h1,n1,o1⟩:=a.rest c u h n o;b.rest c u h1 n1 o1,λc h=>a.there c<|b.there c h⟩
abbrev G.grow(g:G)(F:Hp):G:={g with HF:=F}
theorem bI.grow(a:Gr g.HF H F H')(lv:∀b p,g.o b=U p->g.HF b=Y/\∃u,H b=U u):∀{c:C}{v:V},bI B g H p c v->bI B (g.grow F) H' p c v
 |.val t,v,h=>h.same a.fr
 |.ol ts,v,h=>by
  obtain⟨l,d,e,o,q,r⟩:=h;exact⟨l,d,e,o,(a.rest l _ q (lv l p o).1).1,r.same a.fr⟩
 |.od ks ts,v,h=>by
  obtain⟨l,d,e,o,q,n,r⟩:=h;exact⟨l,d,e,o,(a.rest l _ q (lv l p o).1).1,n,r.same a.fr⟩
 |.yg t,v,h=>by
  obtain⟨i,f,r⟩:=h;exact⟨i,λb u e=>let⟨h2,h3⟩:=f b u e;⟨h2,(a.rest b u h3 (lv b p h2).1).1⟩,r⟩
theorem Fj.grow{a C dx:bp}(x:Fj B g H k ob a C dx ns vs)(d:Gr g.HF H F H')(lv:∀b p,g.o b=U p->g.HF b=Y/\∃u,H b=U u):Fj B (g.grow F) H' k ob a C dx ns vs:=
 ⟨x.al,x.o,x.cl,(d.rest _ _ x.h (lv _ _ x.o).1).1,x.le,x.ln,λj c e=>let⟨v,h1,h2⟩:=x.f j c e;⟨v,h1,h2.grow d lv⟩⟩
theorem S4.grow(x:S4 B g H k ob)(d:Gr g.HF H F H')(lv:∀b p,g.o b=U p->g.HF b=Y/\∃u,H b=U u):S4 B (g.grow F) H' k ob:=by
 rcases x with⟨a,C,i,ns,h,y⟩|⟨a,y⟩
 .exact .inl ⟨a,C,i,ns,h,y.grow d lv⟩
 .exact .inr ⟨a,y.al,y.nc,y.nf,λc e=>(y.f c e).grow d lv⟩
theorem ez.grow(x:ez B g H m)(a:Gr g.HF H F H'):ez B (g.grow F) H' m:=
 ⟨a.sub,λb p e=>by
  obtain⟨h,u,f⟩:=x.live b p e;obtain⟨d,c⟩:=a.rest b u f h;exact⟨c,u,d⟩,x.len,λk ob e=>(x.at_ k ob e).grow a x.live⟩
theorem SR.grow(x:SR B g H j s)(a:Gr g.HF H F H'):SR B (g.grow F) H' j s:=
 ⟨x.st.grow a,x.lc.len,λi c e=>let⟨v,h1,h2⟩:=x.lc.at_ i c e;⟨v,h1,h2.grow a x.st.live⟩⟩
theorem SR.sub(x:SR B g H j s):aR g.HF H:=x.st.sub
theorem Gr.free(c:Gr HF H F H')(a:aR HF H)(h:H' b=Y):H b=Y:=(c.same a).free h
def SR.jW(x:SR B g H j s)(a:Gr g.HF H F H'):du g H (g.grow F) H':=
 ⟨a.fr,e_,λb u h n o=>let⟨h1,h2⟩:=a.rest b u h n;⟨h1,h2,o⟩,λb h=>a.free x.sub h⟩
end D
namespace L2
open PySem PySem.Spec PyProof.Rows
def Rl(H:Hp)(R:Hp->Prop):Prop:=R H\/∃d a,H d=U (.dK a)/\∀ob,R<|upd H d<|.iy ob<|.dK a
theorem Rl.imp(h:Rl H R)(f:∀H',R H'->a H'):Rl H a:=Or.imp (f _) (λ⟨d,k,e,q⟩=>⟨d,k,e,λo=>f _<|q o⟩) h
def Inv.rl(I:Inv X i g H s)(h:Rl H R):∃H',Inv X i g H' s/\R H':=by
 rcases h with h|⟨d,a,e,h⟩
 .exact⟨H,I,h⟩
 obtain⟨z,lo,r,t,ob,v,x,l,hr⟩:=(I.bz d _ e);refine⟨_,?_,h ob⟩;have ne:∀b u,H b=U u->u≠.dK a->b≠d:=λb u q n z=>n (by lia)
 have st:∀b u,H b=U u->bQ X.prog X.w (upd H d<|.iy ob<|.dK a) s.heap b u:=λb u q=>(I.bz b u q).nJ (λ_ _ _ k=>k) (λc k=>(aq (ne c _ k (λz=>by cases z)))▸k) λc j k=>(aq (ne c _ k (λz=>by cases z)))▸k
 refine I.step (ch:=[]) (λb f=>by cases f) (λb o _ _ _ q _=>q) (λb o _ _ _ q _=>⟨o.slots,q⟩) (λb o _ _ n=>?_) (λb o _ q=>⟨o,q⟩)
  (λb j q=>(aq (ne b _ q (λz=>by cases z)))▸q) (λb o u q=>(aq (ne b _ q (λz=>by cases z)))▸q) (λb ps q=>⟨#[],by rw[aq (ne b _ q (λz=>by cases z)),q];simp⟩) (λm p=>p) (λb u q=>?_) I.bare
 .have:b≠d:=λz=>by lia
  rw[aq this];exact n
 .by_cases f:b=d
  .subst f
   rw[ak]at q;cases q;exact⟨l,st b _ e⟩
  .rw[aq f]at q
   exact st b u q
def Qc(h:PE X e t):PE X e λa H Q=>t a H λv H1=>Rl H1<|Q v:=λb s a H Q I q=>bX (h b s a H _ I q) λv d ⟨x,H1,c,r,k⟩=>let⟨H2,I2,k2⟩:=c.rl k;⟨x,H2,I2,r,k2⟩
end L2
namespace D
open PySem L2
variable{X:Cx}{a b c e:cq}{F W d:FE}{g g':G}{H H':Hp}{B:KT}{p pos:Pos}{s s':S}{R:St}
variable{al j:BM}{HF S H1 y:Hp}{m:FX}
theorem bI.mv{p:kh}(fr:aR g.HF g'.HF)(pre:g.al <+: g'.al)(k:∀l,g.o l=U p->g'.o l=U p/\H' l=H l):∀{c:C}{v:V},bI B g H p c v->bI B g' H' p c v
 |.val t,v,h=>Rep.mv pre fr h
 |.ol ts,v,h=>by
  obtain⟨l,a,e,o,q,r⟩:=h;obtain⟨d,f⟩:=k l o;exact⟨l,a,e,d,f.trans q,r.mv pre fr⟩
 |.od ks ts,v,h=>by
  obtain⟨l,a,e,o,q,n,r⟩:=h;obtain⟨d,f⟩:=k l o;exact⟨l,a,e,d,f.trans q,n,r.mv pre fr⟩
 |.yg t,v,h=>by
  obtain⟨j,i,r⟩:=h;exact⟨j,λb u e=>let⟨h2,h3⟩:=i b u e;let⟨h4,h5⟩:=k b h2;⟨h4,h5.trans h3⟩,r⟩
theorem Fj.mv{a C dx:bp}(x:Fj B g H k ob a C dx ns vs)(fr:aR g.HF g'.HF)(pre:g.al <+: g'.al)(b:∀l p,g.o l=U p->(p=.ob k\/∃j,p=.fld k j)->g'.o l=U p/\H' l=H l):Fj B g' H' k ob a C dx ns vs:=by
 obtain⟨d,i⟩:=b a _ x.o<|.inl J;exact⟨eX pre x.al,d,x.cl,i.trans x.h,x.le,x.ln,λj c e=>let⟨v,h1,h2⟩:=x.f j c e;⟨v,h1,h2.mv fr pre λl z=>b l _ z<|.inr ⟨j,J⟩⟩⟩
theorem S4.mv(x:S4 B g H k ob)(fr:aR g.HF g'.HF)(pre:g.al <+: g'.al)(b:∀l p,g.o l=U p->(p=.ob k\/∃j,p=.fld k j)->g'.o l=U p/\H' l=H l):S4 B g' H' k ob:=by
 rcases x with⟨a,C,h,ns,d,y⟩|⟨a,y⟩
 .exact .inl ⟨a,C,h,ns,d,y.mv fr pre b⟩
 .exact .inr ⟨a,eX pre y.al,y.nc,y.nf,λc e=>(y.f c e).mv fr pre λl z=>b l _ z<|.inl J⟩
theorem ez.mv(x:ez B g H m)(sub:aR g'.HF H')(live:∀b p,g'.o b=U p->g'.HF b=Y/\∃u,H' b=U u)(fr:aR g.HF g'.HF)(a:g'.al=g.al)(c:∀l p,g.o l=U p->(∀i,p≠.loc i)->g'.o l=U p/\H' l=H l):ez B g' H' m:=
 ⟨sub,live,a▸x.len,λk ob e=>(x.at_ k ob e).mv fr (by rw[a];simp) λl p h q=>c l p h (by
  lia)⟩
theorem pJ.set{c:C}(x:pJ B g H R r)(q:bI B g' H' (.loc i) c v)(b:∀j c v,j≠i->bI B g H (.loc j) c v->bI B g' H' (.loc j) c v):pJ B g' H' (R.set i<|U v)<|r.set i<|U c:=by
 refine⟨by rw[eS,eS];exact x.len,λj d h=>?_⟩
 by_cases hj:i=j
 .subst hj
  have a:=by have:=(dq.mp h).1;rw[eS]at this;exact this
  rw[fR a]at h;cases h;exact⟨v,fR<|x.len▸a,q⟩
 .rw[eV hj]at h
  obtain⟨w,f,e⟩:=x.at_ j d h;exact⟨w,by rw[eV hj];exact f,b j d w (f3 hj) e⟩
theorem SR.set(x:SR B g H R s)(r:Rep B g.al g.HF t v):SR B g H (R.set i<|U v)<|jT s i<|.val t:=
 ⟨x.st,x.lc.set r λ_ _ _ _ h=>h⟩
def G.iy(g:G)(l:bp)(o:HO):G:={g with HF:=upd g.HF l o,o:=λb=>if b=l then Y else g.o b}
def pK{p q:kh}(f:g.o l=U p)(i:g.HF l=Y)(d:q≠p){c:C}(h:bI B g H q c v):bI B (g.iy l o) (upd H l o) q c v:=
 bI.mv (g':=g.iy l o) (bg i) e_ (λb a=>by
  have:b≠l:=λe=>d (by lia)
  exact⟨by show(if b=l then Y else g.o b)=_;rw[b0 this];exact a,aq this⟩) h
def uB{p:kh}(a:g.o l=U p)(c:g.HF l=Y):du g H (g.iy l o)<|upd H l o:=
 ⟨bg c,e_,λb u h n z=>by
  have:b≠l:=λe=>by lia
  exact⟨(aq this)▸h,by show upd g.HF l o b=Y;rw[aq this];exact n,by show(if b=l then Y else g.o b)=Y;rw[b0 this];exact z⟩,λb h=>by
  by_cases hb:b=l
  .subst hb;rw[ak]at h;lia
  .rw[aq hb]at h;exact h⟩
def Bv(x:ez B g H m)(c:g.o l=U (.loc i)):ez B (g.iy l o) (upd H l o) m:=by
 have f:=(x.live l _ c).1;refine x.mv (λb u e=>?_) (λb p e=>?_) (bg f) J λb p a d=>?_
 .have e:upd g.HF l o b=U u:=e
  by_cases a:b=l
  .subst a;rw[ak]at e ⊢;exact e
  .rw[aq a]at e ⊢;exact x.sub _ _ e
 .have e:(if b=l then Y else g.o b)=U p:=e
  by_cases a:b=l
  .rw[bt a]at e;cases e
  .rw[b0 a]at e
   obtain⟨j,h⟩:=x.live b p e;exact⟨by show upd g.HF l o b=Y;rw[aq a];exact j,(aq a)▸h⟩
 .have:b≠l:=λe=>d i (by lia)
  exact⟨by show(if b=l then Y else g.o b)=_;rw[b0 this];exact a,aq this⟩
def zw(h:H l=U o):upd H l o=H:=by
 funext b
 by_cases hb:b=l
 .subst hb;rw[ak,h]
 .rw[aq hb]
theorem SR.iy(x:SR B g H R s){i:Nat}{ts:FR}(h:s.r[i]?=U (U<|.ol ts)):∃g' v,du g H g' H/\SR B g' H R (jT s i<|.val<|.lst ts)/\R[i]?=U (U v)/\Rep B g'.al g'.HF (.lst ts) v:=by
 obtain⟨v,f,l,a,rfl,b,p,r⟩:=x.lc.at_ i _ h;have e:=(x.st.live l _ b).1;have rp:Rep B _ (g.iy l _).HF (.lst ts) _:=⟨l,a,J,ak,r.mv e_<|bg e⟩;have n:=zw p;have m:=uB (H:=H) (o:=.lst a) b e;have k:=Bv (o:=.lst a) x.st b;rw[n]at m k;refine⟨g.iy l _,.ref l,m,⟨k,?_⟩,f,rp⟩
 have:=x.lc.set (c:=.val<|.lst ts) rp λj c v d q=>by
  have q1:=pK (o:=.lst a) b e (λz=>d<|by cases z;rfl) q
  rw[n]at q1;exact q1
 have t:R.set i (U<|.ref l)=R:=by
  apply A0;intro j;by_cases d:i=j
  .subst d
   rw[fR (dq.mp f).1,f]
  .rw[eV d]
 rw[t]at this;exact this
def SR.aag(x:SR B g H R s)(h:s.r[i]?=U (U<|.od ks ts)):∃v,R[i]?=U (U v)/\Rl H λH'=>∃g',du g H g' H'/\SR B g' H' R (jT s i<|.val<|.fh ks ts)/\Rep B g'.al g'.HF (.fh ks ts) v:=by
 obtain⟨v,f,l,a,rfl,b,m,k,r⟩:=x.lc.at_ i _ h;have e:=(x.st.live l _ b).1;refine⟨.ref l,f,.inr ⟨l,_,m,λob=>?_⟩⟩;have rp:Rep B _ (g.iy l _).HF (.fh ks ts) _:=⟨l,a,J,⟨ob,ak⟩,k,r.mv e_<|bg e⟩;refine⟨g.iy l _,uB b e,⟨Bv x.st b,?_⟩,rp⟩
 have:=x.lc.set (c:=.val<|.fh ks ts) rp λj c v d q=>pK b e (λz=>d<|by cases z;rfl) q
 have n:R.set i (U<|.ref l)=R:=by
  apply A0;intro j;by_cases d:i=j
  .subst d
   rw[fR (dq.mp f).1,f]
  .rw[eV d]
 rw[n]at this;exact this
def G.own(g:G)(l:bp)(p:kh):G:={g with o:=λb=>if b=l then U p else g.o b}
def wX{p q:kh}(d:g.o l=Y){c:C}(h:bI B g H q c v):bI B (g.own l p) H q c v:=
 bI.mv (g':=g.own l p) (aR.refl g.HF) e_ (λb a=>by
  have:b≠l:=λe=>by lia
  exact⟨by show(if b=l then U p else g.o b)=_;rw[b0 this];exact a,J⟩) h
def Bw{p:kh}(x:ez B g H m)(c:g.o l=Y)(f:g.HF l=Y)(d:H l=U u):ez B (g.own l p) H m:=by
 refine x.mv x.sub (λb q e=>?_) (aR.refl _) J λb q a h=>?_
 .have e:(if b=l then U p else g.o b)=U q:=e
  by_cases a:b=l
  .subst a;exact⟨f,u,d⟩
  .rw[b0 a]at e;exact x.live b q e
 .have:b≠l:=λe=>by lia
  exact⟨by show(if b=l then U p else g.o b)=_;rw[b0 this];exact a,J⟩
theorem SR.own(x:SR B g H R s)(a:g.o l=Y)(d:g.HF l=Y)(b:H l=U (.lst vs))(r:aE B g.al g.HF ts vs):SR B (g.own l<|.loc i) H (R.set i<|U<|.ref l)<|jT s i<|.ol ts:=
 ⟨Bw x.st a d b,x.lc.set ⟨l,vs,J,by show(if l=l then U _ else g.o l)=_;simp,b,r⟩ λj c v e q=>wX a q⟩
def SR.aah(x:SR B g H R s)(a:g.o l=Y)(d:g.HF l=Y)(b:H l=U (.dK<|(ks.map kJ).zip vs))(hk:Kk ks=Kk vs)(r:aE B g.al g.HF ts vs):SR B (g.own l<|.loc i) H (R.set i<|U<|.ref l)<|jT s i<|.od ks ts:=
 ⟨Bw x.st a d b,x.lc.set ⟨l,vs,J,by show(if l=l then U _ else g.o l)=_;simp,b,hk,r⟩ λj c v e q=>wX a q⟩
def Bx(x:ez B g H m)(c:g.o l=U (.loc i)):ez B g (upd H l u) m:=by
 have h:=(x.live l _ c).1;refine x.mv (λb w e=>?_) (λb q e=>?_) (aR.refl _) J λb q a f=>?_
 .have:b≠l:=λz=>by lia
  rw[aq this];exact x.sub _ _ e
 .obtain⟨d,w,j⟩:=x.live b q e
  by_cases a:b=l
  .exact⟨d,u,by rw[a,ak]⟩
  .exact⟨d,w,by rw[aq a];lia⟩
 .have:b≠l:=λe=>f i (by lia)
  exact⟨a,by rw[aq this]⟩
def ou{p:kh}(a:g.o l=U p):du g H g<|upd H l u:=
 ⟨aR.refl _,e_,λb w h n z=>by
  have:b≠l:=λe=>by lia
  exact⟨(aq this)▸h,n,z⟩,λb h=>by
  by_cases hb:b=l
  .subst hb;rw[ak]at h;lia
  .rw[aq hb]at h;exact h⟩
def SR.chg(x:SR B g H R s){ts m:FR}{d:List V}(h:s.r[i]?=U (U<|.ol ts))(a:R[i]?=U (U<|.ref l))(r:aE B g.al g.HF m d):SR B g (upd H l<|.lst d) R (jT s i<|.ol m)/\du g H g (upd H l<|.lst d):=by
 obtain⟨v,o,w,t,rfl,f,y,u⟩:=x.lc.at_ i _ h;rw[a]at o;cases o;refine⟨⟨Bx x.st f,?_⟩,ou f⟩
 have:=x.lc.set (c:=.ol m) ⟨l,d,J,f,ak,r⟩ λj c v k q=>q.mv (aR.refl _) e_ λb n=>by
  have:b≠l:=λe=>k (by lia)
  exact⟨n,aq this⟩
 have p:R.set i (U<|.ref l)=R:=by
  apply A0;intro j;by_cases k:i=j
  .subst k
   rw[fR (dq.mp a).1,a]
  .rw[eV k]
 rw[p]at this;exact this
def SR.aai(x:SR B g H R s){ks d:List Ky}(h:s.r[i]?=U (U<|.od ks ts))(a:R[i]?=U (U<|.ref l))(hk:Kk d=Kk f)(r:aE B g.al g.HF n f):SR B g (upd H l<|.dK<|(d.map kJ).zip f) R (jT s i<|.od d n)/\du g H g (upd H l<|.dK<|(d.map kJ).zip f):=by
 obtain⟨v,p,y,u,rfl,k,z,A,w⟩:=x.lc.at_ i _ h;rw[a]at p;cases p;refine⟨⟨Bx x.st k,?_⟩,ou k⟩
 have:=x.lc.set (c:=.od d n) ⟨l,f,J,k,ak,hk,r⟩ λj c v m q=>q.mv (aR.refl _) e_ λb o=>by
  have:b≠l:=λe=>m (by lia)
  exact⟨o,aq this⟩
 have t:R.set i (U<|.ref l)=R:=by
  apply A0;intro j;by_cases m:i=j
  .subst m
   rw[fR (dq.mp a).1,a]
  .rw[eV m]
 rw[t]at this;exact this
def Yg:Option kh->Option kh
 |U<|.loc _=>Y
 |x=>x
def G.ai(g:G):G:={g with o:=λb=>Yg<|g.o b}
def Ef{p:kh}:Yg q=U p ↔ q=U p/\∀i,p≠.loc i:=by
 cases q with
 |none=>exact⟨λh=>(by cases h),λh=>(by cases h.1)⟩
 |some q=>
  cases q with
  |loc i=>exact⟨λh=>(by cases h),λh=>(by obtain⟨h,n⟩:=h;grind)⟩
  |ob k=>exact⟨λh=>(by cases h;simp),λh=>h.1⟩
  |fld k j=>exact⟨λh=>(by cases h;simp),λh=>h.1⟩
def k7{b:bp}{p:kh}:g.ai.o b=U p ↔ g.o b=U p/\∀i,p≠.loc i:=Ef
theorem ez.ai(x:ez B g H m):ez B g.ai H m:=
 x.mv x.sub (λb p e=>x.live b p (k7.mp e).1) (aR.refl _) J λl p h n=>⟨k7.mpr ⟨h,n⟩,J⟩
def bkP:Option kh->Option kh->Option kh
 |U<|.loc i,_=>U<|.loc i
 |_,y=>y
def G.back(g g':G):G:={g' with o:=λb=>bkP (g.o b)<|g'.o b}
def Hm{b:bp}(h:g.o b=U (.loc i)):(G.back g g').o b=U (.loc i):=by
 show bkP ..=_;rw[h];rfl
def pL{b:bp}(h:∀i,g.o b≠U (.loc i)):(G.back g g').o b=g'.o b:=by
 show bkP ..=_;cases q:g.o b with
 |none=>rfl
 |some p=>cases p with
  |loc i=>exact dw q<|h i
  |ob k=>rfl
  |fld k j=>rfl
theorem SR.back(x:SR B g H R s)(p:du g.ai H g' H')(y:ez B g' H' m'):du g H (G.back g g') H'/\SR B (G.back g g') H' R {s with m:=m'}:=by
 have keep:∀l i,g.o l=U _->H' l=H l/\g'.HF l=Y/\g'.o l=Y:=λl i e=>by
  obtain⟨t,u,d⟩:=x.st.live l _ e;have C:g.ai.o l=Y:=by
   cases q:g.ai.o l with
   |none=>rfl
   |some p=>obtain⟨a,b⟩:=k7.mp q;rw[e]at a;cases a;exact dw J<|b i
  obtain⟨r,j,A⟩:=p.rest l u d t C;exact⟨r.trans d.symm,j,A⟩
 have D:∀l q,g'.o l=U q->∀i,g.o l≠U _:=λl q e i z=>by rw[(keep l i z).2.2]at e;lia
 refine⟨⟨p.fr,p.pre,λb u h n z=>?_,p.there⟩,⟨⟨y.sub,λb q e=>?_,y.len,λk ob e=>?_⟩,x.lc.len,λi c e=>?_⟩⟩
 .have C:g.ai.o b=Y:=by
   cases q:g.ai.o b with
   |none=>rfl
   |some p=>rw[(k7.mp q).1]at z;lia
  obtain⟨r,j,A⟩:=p.rest b u h n C;exact⟨r,j,(pL λi w=>by rw[z]at w;cases w).trans A⟩
 .by_cases f:∃i,g.o b=U (.loc i)
  .obtain⟨i,f⟩:=f
   obtain⟨t,u,d⟩:=x.st.live b _ f;obtain⟨r,j,_⟩:=keep b i f;exact⟨j,u,r.trans d⟩
  .rw[pL λi w=>f ⟨i,w⟩]at e
   exact y.live b q e
 .exact(y.at_ k ob e).mv (aR.refl _) e_ λl q h _=>⟨(pL<|D l q h).trans h,J⟩
 .obtain⟨v,t,d⟩:=x.lc.at_ i c e
  exact⟨v,t,bI.mv (g:=g) (g':=G.back g g') p.fr p.pre (λl o=>⟨Hm o,(keep l i o).1⟩) d⟩
variable{ft u:FT}
abbrev KTb:=Bi×List Bi
def _root_.L2.Cx.kt(X:Cx)(t:KTb):KT:=⟨X.K,X.prog,X.w,t.1,t.2⟩
inductive tE(B:KT)(f:FE)(R:St)(H:Hp)(Q:VK):Prop where
 |mk g s t s' (x:SR B g H R s) (h:f s=.ok (t,s')) (k:∀v g' H',du g H g' H'->SR B g' H' R s'->Rep B g'.al g'.HF t v->Q v H')
inductive tA(B:KT)(f:FL)(R:St)(H:Hp)(Q:List V->Hp->Prop):Prop where
 |mk g s ts s' (x:SR B g H R s) (h:f s=.ok (ts,s')) (k:∀vs g' H',du g H g' H'->SR B g' H' R s'->aE B g'.al g'.HF ts vs->Q vs H')
inductive tT(B:KT)(f:FT)(R:St)(H:Hp)(Q:Bool->Hp->Prop):Prop where
 |mk g s k s' (x:SR B g H R s) (h:f s=.ok (k,s')) (q:∀g' H',du g H g' H'->SR B g' H' R s'->Q k H')
inductive tP(B:KT)(f:FO)(R:St)(H:Hp)(Q:Dx->Hp->Prop):Prop where
 |mk g s k s' (x:SR B g H R s) (h:f s=.ok (k,s')) (q:∀g' H',du g H g' H'->SR B g' H' R s'->Q k H')
inductive tO(B:KT)(f:FL)(R:St)(H:Hp)(Q:VK):Prop where
 |mk g s ts s' (x:SR B g H R s) (h:f s=.ok (ts,s')) (k:∀l vs g' H',du g H g' H'->SR B g' H' R s'->H l=Y->g'.HF l=Y->g'.o l=Y->H' l=U (.lst vs)->aE B g'.al g'.HF ts vs->Q (.ref l) H')
def aV{t t':TE}(h:PE X e t)(i:∀R H Q,t' R H Q->t R H Q):PE X e t':=λa s R H Q I q=>h a s R H Q I<|i R H Q q
def By{t t':TT}(h:PT X e t)(i:∀R H Q,t' R H Q->t R H Q):PT X e t':=λa s R H Q I q=>h a s R H Q I<|i R H Q q
def Qd{t t':TT}(h:PW X e t)(i:∀R H Q,t' R H Q->t R H Q):PW X e t':=λwh a s R H Q I q=>h wh a s R H Q I<|i R H Q q
def BA{t t':TA}(h:PA X es t)(i:∀R H Q,t' R H Q->t R H Q):PA X es t':=λpo a s R H Q I q=>h po a s R H Q I<|i R H Q q
def cA{t t':TS}(h:PS X st t)(i:∀D R H,t' D R H->t D R H):PS X st t':=λa s R H D I q=>h a s R H D I<|i D R H q
def uC{t t':TS}(h:gM X st t)(i:∀D R H,t' D R H->t D R H):gM X st t':=λa s R H D I q=>h a s R H D I<|i D R H q
def Qe{e:Option cq}{t t':TO}(h:PO X e t)(i:∀R H Q,t' R H Q->t R H Q):PO X e t':=λa s R H Q I q=>h a s R H Q I<|i R H Q q
def nq{t t':TI}(h:PI X tg e t)(i:∀R H a,t' R H a->t R H a):PI X tg e t':=λb s R H a I q=>h b s R H a I<|i R H a q
def bJ:PE X e<|tE B cQ:=λ_ _ _ _ _ _ a=>by obtain⟨_,_,_,_,_,h,_⟩:=a;cases h
def ki:PT X e<|tT B rG:=λ_ _ _ _ _ _ a=>by obtain⟨_,_,_,_,_,h,_⟩:=a;cases h
def eY:PE X e<|tO B gy:=λ_ _ _ _ _ _ a=>by obtain⟨_,_,_,_,_,h,_⟩:=a;cases h
def k8(h:PE X e<|tC v)(r:∀al H,Rep B al H t v):PE X e<|tE B<|cF t:=aV h λR H Q z=>by
 obtain⟨g,s,a,s',x,h,k⟩:=z;cases h;exact k v g H .refl x<|r ..
def Yh(e:X.N[i]?=U x)(d:mX X.env.scope x)(hd:bB x)(c:f9 x):PE X (.Name x pos)<|tE B<|vF i:=by
 refine aV (Qc<|cK e d hd c) λR H Q b=>?_;obtain⟨g,s,t,s',x,h,k⟩:=b;unfold vF at h;split at h
 .rename_i j hr
  cases h;obtain⟨v,a,f⟩:=x.lc.at_ i _ hr;exact⟨v,a,.inl<|k v g H .refl x f⟩
 .rename_i ts hr
  cases h;obtain⟨g',v,p,y,a,r⟩:=x.iy hr;exact⟨v,a,.inl<|k v g' H p y r⟩
 .rename_i ks ts hr
  cases h;obtain⟨v,a,r⟩:=x.aag hr;exact⟨v,a,r.imp λH' ⟨g',p,y,r⟩=>k v g' H' p y r⟩
 .cases h
def L1(X:Cx)(f:T->FV)(r:V->Hp->VK->Prop):Prop:=∀(B:KT)(_:B.K=X.K)(al:BM)(HF H:Hp)(x:V)(t tx:T)(Q:VK),aR HF H->Rep B al HF tx x->f tx=U t->(∀v S H',Gr HF H S H'->Rep B al S t v->Q v H')->r x H Q
def sH(X:Cx)(f:T->T->FV)(r:R2):Prop:=∀(B:KT)(_:B.K=X.K)(al:BM)(HF H:Hp)(x y:V)(t tx ty:T)(Q:VK),aR HF H->Rep B al HF tx x->Rep B al HF ty y->f tx ty=U t->(∀v S H',Gr HF H S H'->Rep B al S t v->Q v H')->r x y H Q
def LN(X:Cx)(f:FR->FV)(r:List V->Hp->VK->Prop):Prop:=∀(B:KT)(_:B.K=X.K)(al:BM)(HF H:Hp)(xs:List V)(t:T)(ts:FR)(Q:VK),aR HF H->aE B al HF ts xs->f ts=U t->(∀v S H',Gr HF H S H'->Rep B al S t v->Q v H')->r xs H Q
def Qf(hB:B.K=X.K)(hr:L1 X f r):∀R H Q,tE B (dg f F) R H Q->tUn r (tE B F) R H Q:=by
 rintro R H Q ⟨g,s,t,s',x,h,k⟩
 revert h;refine abH λtx c l=>abG λm j=>λh=>?_;cases h;exact⟨g,s,tx,c,x,l,λv g1 H1 i a e=>hr B hB g1.al g1.HF H1 v _ tx Q a.sub e (ao j) λu S H' b d=>k u _ H' (i.trans<|a.jW b) (a.grow b) d⟩
def nu(hB:B.K=X.K)(hr:sH X f r):∀R H Q,tE B (bF f F W) R H Q->P0 r (tE B F) (tE B W) R H Q:=by
 rintro R H Q ⟨g,s,t,s',x,h,k⟩
 revert h;refine abH λtx c p=>abH λty s2 o=>abG λq n=>λh=>?_;cases h;exact⟨g,s,tx,c,x,p,λv g1 H1 m e l=>⟨g1,c,ty,s2,e,o,λw g2 y b a j=>
  hr B hB g2.al g2.HF y v w _ tx ty Q a.sub (l.mv b.pre b.fr) j (ao n) λu S H' d i=>k u _ H' ((m.trans b).trans<|a.jW d) (a.grow d) i⟩⟩
def Qg(hB:B.K=X.K)(hr:LN X f r):∀R H Q,tE B (aU f fl) R H Q->ū r (tA B fl) R H Q:=by
 rintro R H Q ⟨g,s,t,s',x,h,k⟩
 revert h;refine abH λts d m=>abG λn l=>λh=>?_;cases h;exact⟨g,s,ts,d,x,m,λc g1 H1 j a i=>hr B hB g1.al g1.HF H1 c _ ts Q a.sub i (ao l) λu S H' b e=>k u _ H' (j.trans<|a.jW b) (a.grow b) e⟩
def zx:PA X []<|tA B aT:=BA cT λR H Q z=>by
 obtain⟨g,s,t,s',x,h,k⟩:=z;cases h;exact k [] g H .refl x J
def uD(l:PE X e<|tE B F)(hr:PA X es<|tA B fl)(hs:c5 (e::es) X.env=(ZA,fu e X.env)::c5 es X.env):PA X (e::es)<|tA B<|bq F fl:=BA (aW l hr hs) λR H Q z=>by
 obtain⟨g,s,t,s',x,h,k⟩:=z;revert h;refine abH λtx b n=>abH λty s2 m=>λh=>?_;cases h;exact⟨g,s,tx,b,x,n,λv g1 H1 j d i=>⟨g1,b,ty,s2,d,m,λw g2 y a c f=>k (v::w) g2 y (j.trans a) c ⟨v,w,J,i.mv a.pre a.fr,f⟩⟩⟩
def zy(h:n<=1000):n<=cw:=by exact c_ h (by decide)
def Yi{x1}(h:PA X es<|tA B fl):PE X (.Tuple es x1 pos)<|tE B<|aU cz fl:=aV (zh h) λR H Q z=>by
 obtain⟨g,s,t,s',x,h,k⟩:=z;revert h;refine abH λts d j=>abG λl i=>λh=>?_;cases h;obtain⟨z,rfl⟩:=bo<|ao i;refine⟨g,s,ts,d,x,j,λb g1 H1 e x1 c=>⟨zy<|c.len▸z,λq f=>?_⟩⟩
 have a:=Gr.new (o:=.tup b) x1.sub f;exact k _ _ _ (e.trans<|x1.jW a) (x1.grow a) ⟨q,b,J,.inl<|.inl ak,c.same a.fr⟩
def Yj(h:PA X es<|tA B fl):PE X (.List es pos)<|tE B<|aU cO fl:=aV (GV h) λR H Q z=>by
 obtain⟨g,s,t,s',x,h,k⟩:=z;revert h;refine abH λts e l=>abG λm j=>λh=>?_;cases h;obtain⟨z,rfl⟩:=bo<|ao j;refine⟨g,s,ts,e,x,l,λc g1 H1 f a d=>⟨zy<|d.len▸z,λq i=>?_⟩⟩
 have b:=Gr.new (o:=.lst c) a.sub i;exact k _ _ _ (f.trans<|a.jW b) (a.grow b) ⟨q,c,J,ak,d.same b.fr⟩
def jY(fl:FL):FL:=λs=>(fl s).bind λp=>if Kk p.1<=1000 then .ok p else .bad
theorem mw{u:HO}(x:SR B g H R s)(h:H l=Y):Gr g.HF H g.HF (upd H l u)/\g.HF l=Y/\g.o l=Y:=by
 refine⟨.mw x.sub h,x.sub.free h,?_⟩;cases q:g.o l with
 |none=>rfl
 |some p=>obtain⟨_,u,z⟩:=x.st.live l p q;rw[h]at z;cases z
def S5(h:PA X es<|tA B fl):PE X (.List es pos)<|tO B<|jY fl:=aV (GV h) λR H Q z=>by
 obtain⟨g,s,t,s',x,h,k⟩:=z;revert h;refine abH λts j i=>λh=>?_;split at h
 .rename_i z
  cases h;refine⟨g,s,_,_,x,i,λb g1 H1 d a c=>⟨zy<|c.len▸z,λq e=>?_⟩⟩
  obtain⟨f,n1,n2⟩:=mw a e;exact k q b _ _ (d.trans<|a.jW f) (a.grow f) (d.there q e) n1 n2 ak c
 .cases h
def SR.zE{u:HO}(x:SR B g H R s)(j:g.HF l=Y)(f:g.o l=Y)(k:H l=U u):SR B (g.grow<|upd g.HF l u) H R s:=by
 have sl:∀p c v,bI B g H p c v->bI B _ H p c v:=λp c v h=>bI.mv (g':=g.grow<|upd g.HF l u) (bg j) e_ (λ_ q=>⟨q,J⟩) h;refine⟨x.st.mv (λb w e=>?_) (λb p e=>?_) (bg j) J λ_ _ q _=>⟨q,J⟩,x.lc.len,λi c e=>let⟨v,d,a⟩:=x.lc.at_ i c e;⟨v,d,sl _ _ _ a⟩⟩
 .have e:upd g.HF l u b=U w:=e
  by_cases hb:b=l
  .subst hb;rw[ak]at e;lia
  .rw[aq hb]at e;exact x.sub _ _ e
 .obtain⟨d,a⟩:=x.st.live b p e
  have:b≠l:=λz=>by lia
  exact⟨by show upd g.HF l u b=Y;rw[aq this];lia,a⟩
def du.zE{u:HO}(p:du g H g1 H1)(e:H l=Y)(d:g1.HF l=Y):du g H (g1.grow<|upd g1.HF l u) H1:=
 ⟨p.fr.trans<|bg d,p.pre,λb w h n z=>by
  obtain⟨a,f,c⟩:=p.rest b w h n z
  have:=aS h e
  exact⟨a,by show upd g1.HF l u b=Y;rw[aq this];exact f,c⟩,p.there⟩
def zF(h:PE X e<|tO B fl):PE X e<|tE B<|eW fl:=aV h λR H Q z=>by
 obtain⟨g,s,t,s',x,h,k⟩:=z;revert h;refine abH λts m i=>λh=>?_;cases h;refine⟨g,s,_,_,x,i,λl b g1 H1 d a j n1 n2 f c=>?_⟩;exact k _ _ H1 (d.zE j n1) (a.zE n1 n2 f) ⟨l,b,J,ak,c.same<|bg n1⟩
def S6(b:PT X a<|tT B ft):PW X (.BoolOp .And [a] pos)<|tT B ft:=Li b
def Yk(b:PT X a<|tT B ft):PW X (.BoolOp .Or [a] pos)<|tT B ft:=RZ b
def Yl{rest:Bz}(m:PT X a<|tT B ft)(l:PW X (.BoolOp .And (b::rest) pos)<|tT B u):PW X (.BoolOp .And (a::b::rest) pos)<|tT B<|iU ft u:=Qd (R0 m l) λR H Q z=>by
 obtain⟨g,s,t,s',x,h,k⟩:=z;revert h;refine abH λd e n=>λh=>?_;refine⟨g,s,d,e,x,n,λg1 H1 f c=>?_⟩;cases d with
 |true=>exact nQ ⟨g1,e,_,_,c,h,λg2 y j i=>k g2 y (f.trans j) i⟩
 |false=>cases h;exact nP<|k g1 H1 f c
def aak{rest:Bz}(m:PT X a<|tT B ft)(l:PW X (.BoolOp .Or (b::rest) pos)<|tT B u):PW X (.BoolOp .Or (a::b::rest) pos)<|tT B<|ic ft u:=Qd (WC m l) λR H Q z=>by
 obtain⟨g,s,t,s',x,h,k⟩:=z;revert h;refine abH λd e n=>λh=>?_;refine⟨g,s,d,e,x,n,λg1 H1 f c=>?_⟩;cases d with
 |true=>cases h;exact nQ<|k g1 H1 f c
 |false=>exact nP ⟨g1,e,_,_,c,h,λg2 y j i=>k g2 y (f.trans j) i⟩
def Ym(f:PT X a<|tT B ft):PT X (.UnaryOp .Not a pos)<|tT B<|dC ft:=By (R3 f) λR H Q z=>by
 obtain⟨g,s,t,s',x,h,k⟩:=z;revert h;refine abH λd c i=>λh=>?_;cases h;exact⟨g,s,d,c,x,i,λg1 H1 e b=>k g1 H1 e b⟩
def ow(h:Yb t=U k):t=.bl k:=by
 cases t<;>first|(cases h;done)|(cases h;rfl)
def Hn{op}(b:PE X a<|tE B F):PE X (.BoolOp op [a] pos)<|tE B F:=R4 b
def S7{rest:Bz}(p:PE X a<|tE B F)(o:PE X (.BoolOp .And (b::rest) pos)<|tE B W):PE X (.BoolOp .And (a::b::rest) pos)<|tE B<|k6 F W:=aV (R5 p o) λR H Q z=>by
 obtain⟨g,s,t,s',x,h,k⟩:=z;revert h;refine abH λd e r=>abG λi q=>λh=>?_;cases ow (ao q);refine⟨g,s,_,e,x,r,λv g1 H1 f c m=>⟨i,m,?_⟩⟩;cases i with
 |true=>exact nQ ⟨g1,e,_,_,c,h,λw g2 y n j l=>k w g2 y (f.trans n) j l⟩
 |false=>cases h;exact nP<|k _ g1 H1 f c J
def Yn{rest:Bz}(p:PE X a<|tE B F)(o:PE X (.BoolOp .Or (b::rest) pos)<|tE B W):PE X (.BoolOp .Or (a::b::rest) pos)<|tE B<|orV F W:=aV (WG p o) λR H Q z=>by
 obtain⟨g,s,t,s',x,h,k⟩:=z;revert h;refine abH λd e r=>abG λi q=>λh=>?_;cases ow (ao q);refine⟨g,s,_,e,x,r,λv g1 H1 f c m=>⟨i,m,?_⟩⟩;cases i with
 |true=>cases h;exact nQ<|k _ g1 H1 f c J
 |false=>exact nP ⟨g1,e,_,_,c,h,λw g2 y n j l=>k w g2 y (f.trans n) j l⟩
def S8(i:PE X a<|tE B F):PE X (.UnaryOp .Not a pos)<|tE B<|nS F:=aV (R6 i) λR H Q z=>by
 obtain⟨g,s,t,s',x,h,k⟩:=z;revert h;refine abH λd c l=>abG λm j=>λh=>?_;cases ow (ao j);cases h;exact⟨g,s,_,c,x,l,λv g1 H1 f b e=>⟨m,e,k _ g1 H1 f b J⟩⟩
def Yo(n:PT X c<|tT B ft)(p:PE X a<|tE B F)(o:PE X b<|tE B W):PE X (.IfExp c a b pos)<|tE B<|qV ft F W:=aV (wj n p o) λR H Q z=>by
 obtain⟨g,s,t,s',x,h,k⟩:=z;revert h;refine abH λd f q=>λh=>?_;refine⟨g,s,d,f,x,q,λg1 H1 m l=>?_⟩;cases d with
 |true=>exact nQ ⟨g1,f,_,_,l,h,λw g2 y j e i=>k w g2 y (m.trans j) e i⟩
 |false=>exact nP ⟨g1,f,_,_,l,h,λw g2 y j e i=>k w g2 y (m.trans j) e i⟩
def Ho(h:X8 t=U k)(c:aR HF H)(r:Rep B al HF t v):Sl B.K v H k:=by
 cases t<;>try(cases h;done)
 .cases h;cases r;rfl
 .cases h
  obtain⟨a,b,rfl,q,d⟩:=r;refine .inl ⟨b,dW.of<|c _ _ q,?_⟩
  have:=d.len
  rename_i xs;cases xs<;>cases b<;>first|rfl|(cases this)
def Qh(j:PE X a<|tE B F)(hB:B.K=X.K)(he:∀c,HC a X.env c=(do let v <- c;r4 a.pos;sg [v] (truthy v))):PT X a<|tT B<|tB F:=By (GP j he) λR H Q z=>by
 obtain⟨g,s,t,s',x,h,k⟩:=z;revert h;refine abH λd e m=>abG λn l=>λh=>?_;cases h;exact⟨g,s,_,e,x,m,λv g1 H1 i b f=>⟨_,hB▸Ho (ao l) b.sub f,k g1 H1 i b⟩⟩
def gJ(l:B1):(⟨l.toArray⟩:Str).length=Kk l:=by show l.toArray.size=_;simp
def szS(h:Kk l<=1000000):(⟨l.toArray⟩:Str).length<=cw:=by rw[et];exact c_ h (by decide)
def S9(a b:B1):(⟨a.toArray⟩:Str)++⟨b.toArray⟩=⟨(a++b).toArray⟩:=by
 show(⟨a.toArray++b.toArray⟩:Str)=_;simp
def Qi:R2:=λx y H Q=>Fb (λi j=>.int<|i+j) x y H Q\/(∃i j,x=.str i/\y=.str j/\i.length+j.length<=cw/\Q (.str<|i++j) H)\/Xn x y H Q
def L8:hU X (nL .Add) Qi:=Sg.or<|zb.or SA
def Yp:sH X X0 Qi:=λB hB al HF H x y t tx ty Q a d b h k=>by
 cases tx<;>first|(cases h;done)|(cases ty<;>try(cases h;done))
 .cases h;exact .inl ⟨_,_,d,b,k _ HF H (.refl a) J⟩
 .obtain⟨c,rfl⟩:=bo h
  obtain⟨rfl,_⟩:=d;obtain⟨rfl,_⟩:=b;refine .inr<|.inl ⟨_,_,J,J,?_,?_⟩
  .rw[gJ,gJ,et];exact c_ c (by decide)
  .rw[S9]
   exact k _ HF H (.refl a) ⟨J,cV▸c⟩
 .obtain⟨c,rfl⟩:=bo h
  obtain⟨l,xs,rfl,q,r⟩:=d;obtain⟨m,e,rfl,i,f⟩:=b;refine .inr<|.inr ⟨l,m,xs,e,J,J,a _ _ q,a _ _ i,by rw[<- r.len,<- f.len,et];exact c_ c<|by decide,λp j=>?_⟩
  have g:=Gr.new (o:=.lst<|xs++e) a j;exact k _ _ _ g ⟨p,_,J,ak,(r.app f).same g.fr⟩
def Yq{f:T->T->FV}{a:Int->Int->V}{G:Int->Int->T}(g:∀tx ty t,f tx ty=U t->∃i j,tx=.int i/\ty=.int j/\t=G i j)(e:∀B al i j H,Rep B al H (G i j)<|a i j):sH X f<|Fb a:=λB hB al HF H x y t tx ty Q b d c h k=>by
 obtain⟨i,j,rfl,rfl,rfl⟩:=g _ _ _ h;exact⟨i,j,d,c,k _ HF H (.refl b)<|e B al i j HF⟩
def Qj{f:T->T->FV}{a:Int->Int->V}{G:Int->Int->T}{C:Int->Int->Prop}(l:∀tx ty t,f tx ty=U t->∃i j,tx=.int i/\ty=.int j/\t=G i j/\C i j)(g:∀B al i j H,Rep B al H (G i j)<|a i j):sH X f<|rI C a:=λB hB al HF H x y t tx ty Q b e d h k=>by
 obtain⟨i,j,rfl,rfl,rfl,c⟩:=l _ _ _ h;exact⟨i,j,e,d,c,k _ HF H (.refl b)<|g B al i j HF⟩
def Yr:sH X X3<|Fb λi j=>.int<|i-j:=Yq (G:=λi j=>.int<|i-j) (λtx ty t h=>by
 cases tx<;>first | (cases h;done) | (cases ty<;>first | (cases h;done) | (cases h;exact⟨_,_,J,J,J⟩))) λ_ _ _ _ _=>J
def Ys:sH X X4<|rI WZ λi j=>.int<|i/j:=Qj (G:=λi j=>.int<|i/j) (λtx ty t h=>by
 cases tx<;>first | (cases h;done) | (cases ty<;>first | (cases h;done) | (obtain⟨c,rfl⟩:=bo h;exact⟨_,_,J,J,J,c⟩))) λ_ _ _ _ _=>J
def Yt:sH X X5<|rI (λ_ j=>0<j) λi j=>.int<|i % j:=Qj (G:=λi j=>.int<|i % j) (λtx ty t h=>by
 cases tx<;>first | (cases h;done) | (cases ty<;>first | (cases h;done) | (obtain⟨c,rfl⟩:=bo h;exact⟨_,_,J,J,J,c⟩))) λ_ _ _ _ _=>J
def BB(i j:Int):Prop:=Sf i j\/(i.natAbs.log2<2000000/\j.natAbs.log2<2000000)
def sI(h:i.natAbs.log2<2000000):j2 i<=2000000:=by
 unfold j2;split
 . simp
 .exact c_ h (by decide)
theorem BB.ok{i j:Int}(h:BB i j):IntMulOk i j:=by
 rcases h with h|⟨f,e⟩
 .exact h.ok
 .have a:=sI f
  have b:=sI e;intro q;rw[bP]at q;have c:=bh<|q.2;have d:bitsLine=134217728:=J
  lia
def L_:hU X (nL .Mult)<|rI BB λi j=>.int<|i*j:=ť λ_ _ _ _ _ _ _ a q=>PyProof.Rows.mul_int q a.ok
def ĭ(l:B1)(k:Nat):(cR k l).flatten.length=k*Kk l:=by
 simp
def Qk:R2:=λx y H Q=>rI BB (λi j=>.int<|i*j) x y H Q\/Xo x y H Q
def Ma:hU X (nL .Mult) Qk:=L_.or G7
def Ql:T->T->FV
 |.int i,.int j=>LY (.int i)<|.int j
 |.lst a,.int k=>LY (.lst a)<|.int k
 |_,_=>Y
def Yu:sH X Ql Qk:=λB hB al HF H x y t tx ty Q a d b h k=>by
 cases tx<;>first|(cases h;done)|(cases ty<;>try(cases h;done))
 .obtain⟨c,rfl⟩:=bo h
  exact .inl ⟨_,_,d,b,c,k _ HF H (.refl a) J⟩
 .obtain⟨c,rfl⟩:=bo h
  obtain⟨l,xs,rfl,q,r⟩:=d;refine .inr ⟨l,_,xs,J,b,a _ _ q,by lia,by lia,by rw[<- r.len,et];lia,λp e=>?_⟩
  exact k _ _ _ (Gr.new a e) ⟨p,_,J,ak,(r.flat _).same<|bg<|a.free e⟩
def jZ:o7->T->T->FV
 |.Add=>X0
 |.Sub=>X3
 |.Mult=>Ql
 |.FloorDiv=>X4
 |.Mod=>X5
 |_=>λ_ _=>Y
def Yv(hB:B.K=X.K)(op:o7)(d:PE X a<|tE B F)(c:PE X b<|tE B W):PE X (.BinOp a op b pos)<|tE B<|bF (jZ op) F W:=by
 have no:∀f:T->T->FV,(∀x y,f x y=Y)->PE X (.BinOp a op b pos) (tE B<|bF f F W):=λf g _ _ _ _ _ _ z=>by
  obtain⟨_,_,_,_,_,h,_⟩:=z;revert h;refine abH λtx j l=>abH λty s2 k=>abG λi e=>λh=>?_;rw[g]at e;cases e
 cases op
 case Add=>exact aV (r8 L8 d c)<|nu hB Yp
 case Sub=>exact aV (r8 Sh d c)<|nu hB Yr
 case Mult=>exact aV (r8 Ma d c)<|nu hB Yu
 case FloorDiv=>exact aV (r8 Lp d c)<|nu hB Ys
 case Mod=>exact aV (r8 Si d c)<|nu hB Yt
 all_goals exact no _ λ_ _=>J
def Yw(hB:B.K=X.K)(d:PE X a<|tE B F):PE X (.UnaryOp .USub a pos)<|tE B<|dg gx F:=
 aV (WW Sj d)<|Qf hB λB hB al HF H x t tx Q b c h k=>by
  cases tx<;>try(cases h;done)
  cases h;exact⟨_,c,k _ HF H (.refl b) J⟩
def zG(h:Rep B al H t v)(f:dm t=O):(t=.non/\v=.non)\/(∃b,t=.bl b/\v=.bl b)\/(∃i,t=.int i/\v=.int i)\/∃l,t=.str l/\v=.str ⟨l.toArray⟩:=by
 cases t with
 |non=>exact .inl ⟨J,h⟩
 |bl b=>exact .inr<|.inl ⟨b,J,h⟩
 |int i=>exact .inr<|.inr<|.inl ⟨i,J,h⟩
 |str l=>exact .inr<|.inr<|.inr ⟨l,J,h.1⟩
 |_=>cases f
def eZ{B:KT}{al:BM}{H:Hp}{t:T}{v:V}(h:Rep B al H t v)(f:dm t=O):fk v=O:=by
 rcases zG h f with⟨_,rfl⟩|⟨_,_,rfl⟩|⟨_,_,rfl⟩|⟨_,_,rfl⟩<;>rfl
def str_beq(l m:B1):((⟨l.toArray⟩:Str) == ⟨m.toArray⟩)=decide (l=m):=by
 by_cases h:l=m
 .subst h;simp
 .rw[b7 h,beq_eq_false_iff_ne]
  intro e;exact h (by simpa using e)
def k9{t u:T}(h:Rep B al H t v)(h':Rep B al H u w)(f:dm t=O)(f':dm u=O):G1 v w=eqT t u:=by
 rcases zG h f with⟨rfl,rfl⟩|⟨b,rfl,rfl⟩|⟨i,rfl,rfl⟩|⟨l,rfl,rfl⟩<;>rcases zG h' f' with⟨rfl,rfl⟩|⟨c,rfl,rfl⟩|⟨j,rfl,rfl⟩|⟨m,rfl,rfl⟩<;>first|rfl|exact str_beq ..
def k_{e:dG}{s:ag}{a:bp}(I:Inv X e R H s)(c:aR HF H)(h:kG X.K HF a vs):∃b:B2,Vals vs b/\s.heap.IsTuple a b.toArray:=by
 obtain⟨b,r,d,f⟩:=I.tuple<|bM c h;exact⟨b,r,d⟩
def lh{d:dG}{s:ag}{a:bp}(I:Inv X d R H s)(c:aR HF H)(h:HF a=U (.lst vs)):∃b:B2,Vals vs b/\s.heap.IsList a b.toArray:=by
 obtain⟨b,r,p,e⟩:=I.list<|dW.of<|c _ _ h;exact⟨b,r,p.isList⟩
def Hq{v:V}(f:fk v=O):G1 v v=O:=by
 cases v<;>first|(cases f;done)|rfl|(show(_ == _)=O;exact lp _)
def Hr(t u:T):shape 0 t u=(dm t&&dm u):=J
def BC(hB:B.K=X.K){C:dG}{s:ag}(I:Inv X C R H s)(m:aR HF H)(n:Nat):∀{t u:T}{v:V},Rep B al HF t v->Rep B al HF u v->shape n t u=O->eqT t u=O:=by
 have flat:∀{t u:T}{v:V},Rep B al HF t v->Rep B al HF u v->(dm t&&dm u)=O->eqT t u=O:=λh b f=>by
  obtain⟨o,z⟩:=kL.mp f;exact (k9 h b o z)▸Hq<|eZ h o
 induction n with
 |zero=>exact λ{t u v} h b sh=>flat h b<|(Hr t u).symm.trans sh
 |succ n p=>
  intro t u v h b sh;have d:∀{ts c:FR}{g:List V},aE B al HF ts g->aE B al HF c g->all2 (shape n) ts c=O->ib ts c=O:=by
   intro ts
   induction ts with
   |nil=>intro c g h b _;cases(h);cases c with
    |nil=>rfl
    |cons u c=>obtain⟨_,_,e,_⟩:=b;cases e
   |cons t ts l=>intro c g h b sh;cases c with
    |nil=>obtain⟨_,_,e,_⟩:=h;cases(b);cases e
    |cons u c=>
     obtain⟨v,r,rfl,x,w⟩:=h;obtain⟨G,i,e,E,F⟩:=b;cases e;obtain⟨Eg,k⟩:=kL.mp<|sh;show(eqT t u&&ib ts c)=O;rw[p x E Eg,l w F k];rfl
  cases t with
  |tup ts=>
   cases u with
   |tup c=>
    obtain⟨a,g,rfl,q,r⟩:=h;obtain⟨D,y,e,j,i⟩:=b;cases e;have A:=I.lW (bM m<|hB▸q)<|bM m<|hB▸j;subst A;exact d r i sh
   |_=>exact flat h b sh
  |lst ts=>
   cases u with
   |lst c=>
    obtain⟨a,g,rfl,q,r⟩:=h;obtain⟨D,y,e,j,i⟩:=b;cases e;rw[q]at j;cases j;exact d r i sh
   |_=>exact flat h b sh
  |_=>exact flat h b (by cases u<;>exact sh)
theorem wZ{p:T->T->Bool}:∀{as bs:FR},all2 p as bs=O->∀{j:Nat}{a b:T},as[j]?=U a->bs[j]?=U b->p a b=O
 |a::as,b::bs,h,0,_,_,d,c=>by
  simp at d c;subst d c;exact(kL.mp h).1
 |a::as,b::bs,h,j+1,_,_,d,c=>wZ (kL.mp h).2 (by simpa using d) (by simpa using c)
 |[],_,_,_,_,_,d,_=>by simp at d
 |_::_,[],_,_,_,_,_,c=>by simp at c
theorem gA:∀(xs ys:FR),((df<|min xs.length ys.length).all (λj=>eqT (xs.getD j .non)<|ys.getD j .non)&&xs.length == Kk ys)=ib xs ys
 |[],[]=>J
 |[],_::_=>by rfl
 |_::_,[]=>by rfl
 |x::xs,y::ys=>by
  have a:=gA xs ys;rw[ee,ee,Nat.succ_min_succ,Gb,dO,Gd];have e:(Kk xs+1 == Kk ys+1)=(Kk xs == Kk ys):=by
   lia
  rw[e];show((eqT x y&&(df _).all λj=>eqT (xs.getD j .non)<|ys.getD j .non)&&_)=(eqT x y&&ib xs ys);rw[<- a,Bool.and_assoc]
theorem pM:∀{xs ys:FR},Kk xs≠Kk ys->ib xs ys=ZA
 |[],[],h=>dw J h
 |[],_::_,_=>J
 |_::_,[],_=>J
 |x::xs,y::ys,h=>by
  show(eqT x y&&ib xs ys)=ZA;rw[pM λe=>h<|by simp[e],O3]
def in1_units(A:ew):A.in1.units=A.units+1:=J
def lj{A:ew}{s:ag}{vs d:List V}{a its':B2}(r:aE B al HF ts vs)(f:aE B al HF us d)(e:Vals vs a)(i:Vals d its')(sh:all2 (shape n) ts us=O)
  (l:∀{t u:T}{v w:V}{x y:ar},Rep B al HF t v->Rep B al HF u w->RelV v x->RelV w y->shape n t u=O->oB A s x y (eqT t u)) :
  ∀j(h:j<a.toArray.size)(g:j<its'.toArray.size),oB A s a.toArray[j] its'.toArray[j]<|(λj=>eqT (ts.getD j .non)<|us.getD j .non) j:=by
 intro j h g;have l1:=e.length;have l2:=i.length;have l3:=r.len;have l4:=f.len;have b:j<ts.length:=by rw[l3,l1];simpa using h
 have c:j<us.length:=by rw[l4,l2];simpa using g
 obtain⟨v,q,q1⟩:=r.get<|dM b;obtain⟨w,p,q2⟩:=f.get<|dM c;obtain⟨x,o,k⟩:=e.get q;obtain⟨y,m,q4⟩:=i.get p;have q5:a.toArray[j]=x:=by
  obtain⟨_,z⟩:=dq.mp o;simpa using z
 have q6:its'.toArray[j]=y:=by
  obtain⟨_,z⟩:=dq.mp m;simpa using z
 rw[q5,q6];have g1:ts.getD j .non=ts[j]:=by rw[t_,dM b];rfl
 have g2:us.getD j .non=us[j]:=by rw[t_,dM c];rfl
 show oB A s x y<|eqT ..;rw[g1,g2];exact l q1 q2 k q4<|wZ sh (dM b)<|dM c
def Mb(hB:B.K=X.K){s:ag}(I:Inv X P R H s)(g:aR HF H)(n:Nat):∀(A:ew){t u:T}{v w:V}{x y:ar},A.units+n<ll->Rep B al HF t v->Rep B al HF u w->RelV v x->RelV w y->shape n t u=O->oB A s x y (eqT t u):=by
 induction n with
 |zero=>
  intro A t u v w x y C rt f i h sh;obtain⟨o,m⟩:=kL.mp sh;rw[<- k9 rt f o m];exact zm i h (eZ rt o)<|eZ f m
 |succ n L=>
  intro A t u v w x y C rt f i h sh;have flat:(dm t&&dm u)=O->oB A s x y (eqT t u):=λsh=>by
   obtain⟨o,m⟩:=kL.mp sh;rw[<- k9 rt f o m];exact zm i h (eZ rt o)<|eZ f m
  cases t with
  |tup ts=>
   cases u with
   |tup F=>
    obtain⟨a,N,rfl,q,r⟩:=id rt;obtain⟨b,M,rfl,G,k⟩:=id f;cases i;cases h;by_cases hab:a=b
    .subst hab
     rw[BC hB I g _ rt f sh];exact SeqAt.EqAt.same _
    obtain⟨Q,j,D⟩:=k_ I g<|hB▸q;obtain⟨l,p,E⟩:=k_ I g<|hB▸G;have z:=xk D E (rh (bx _ _) C)<|lj r k j p sh λa b c d e=>L A.in1 (by lia) a b c d e
    rw[ck,ck,<- j.length,<- p.length,<- r.len,<- k.len,gA]at z;exact .of_refs hab z
   |_=>exact flat sh
  |lst ts=>
   cases u with
   |lst F=>
    obtain⟨a,N,rfl,q,r⟩:=id rt;obtain⟨b,M,rfl,G,k⟩:=id f;cases i;cases h;by_cases hab:a=b
    .subst hab
     rw[BC hB I g _ rt f sh];exact SeqAt.EqAt.same _
    obtain⟨Q,j,D⟩:=lh I g q;obtain⟨l,p,E⟩:=lh I g G;have l1:=j.length;have l2:=p.length;have l3:=r.len;have l4:=k.len;by_cases hsz:ts.length=F.length
    .have z:=y3 D E (by rw[ck,ck];lia) (rh (bx _ _) C)<|lj r k j p sh λa b c d e=>L A.in1 (by lia) a b c d e
     have e:=gA ts F;rw[<- hsz,FZ,lp,AU]at e;rw[ck,<- l1,<- l3,e]at z;exact .of_refs hab z
    .have z:=tf D E (by rw[ck,ck];lia)<|rh (bx _ _) C
     rw[<- pM hsz]at z;exact .of_refs hab z
   |_=>exact flat sh
  |_=>exact flat (by cases u<;>exact sh)
def Mc{A:ew}{s:ag}{t u:T}{x y:ar}(rt:Rep B al HF t v)(f:Rep B al HF u w)(e:RelV v x)(d:RelV w y)(h:dm t=O)(g:dm u=O):Cg A s x y (eqT t u)/\xi A s x y (!eqT t u):=by
 rw[<- k9 rt f h g];have g1:=eZ rt h;have g2:=eZ f g;cases v with
 |non=>
  cases e;cases w with
  |non=>cases d;exact⟨SeqAt.RcAt.none_none,SeqAt.RcNeAt.none_none⟩
  |bl b=>cases d;exact⟨SeqAt.RcAt.none_bool b,SeqAt.RcNeAt.none_bool b⟩
  |int b=>obtain⟨t,rfl⟩:=d;exact⟨SeqAt.RcAt.none_int b t,SeqAt.RcNeAt.none_int b t⟩
  |str b=>obtain⟨t,rfl⟩:=d;exact⟨SeqAt.RcAt.none_str b t,SeqAt.RcNeAt.none_str b t⟩
  |_=>exact dw (show ZA=O from g2) eU
 |bl a=>
  cases e;cases w with
  |non=>cases d;exact⟨SeqAt.RcAt.bool_none a,SeqAt.RcNeAt.bool_none a⟩
  |bl b=>cases d;exact⟨SeqAt.RcAt.bool_bool a b,SeqAt.RcNeAt.bool_bool a b⟩
  |int b=>obtain⟨t,rfl⟩:=d;exact⟨SeqAt.RcAt.bool_int a b t,SeqAt.RcNeAt.bool_int a b t⟩
  |str b=>obtain⟨t,rfl⟩:=d;exact⟨SeqAt.RcAt.bool_str a b t,SeqAt.RcNeAt.bool_str a b t⟩
  |_=>exact dw (show ZA=O from g2) eU
 |int a=>
  obtain⟨c,rfl⟩:=e;cases w with
  |non=>cases d;exact⟨SeqAt.RcAt.int_none a c,SeqAt.RcNeAt.int_none a c⟩
  |bl b=>cases d;exact⟨SeqAt.RcAt.int_bool a c b,SeqAt.RcNeAt.int_bool a c b⟩
  |int b=>obtain⟨t,rfl⟩:=d;exact⟨SeqAt.RcAt.int_int a c b t,SeqAt.RcNeAt.int_int a c b t⟩
  |str b=>obtain⟨t,rfl⟩:=d;exact⟨SeqAt.RcAt.int_str a c b t,SeqAt.RcNeAt.int_str a c b t⟩
  |_=>exact dw (show ZA=O from g2) eU
 |str a=>
  obtain⟨c,rfl⟩:=e;cases w with
  |non=>cases d;exact⟨SeqAt.RcAt.str_none a c,SeqAt.RcNeAt.str_none a c⟩
  |bl b=>cases d;exact⟨SeqAt.RcAt.str_bool a c b,SeqAt.RcNeAt.str_bool a c b⟩
  |int b=>obtain⟨t,rfl⟩:=d;exact⟨SeqAt.RcAt.str_int a c b t,SeqAt.RcNeAt.str_int a c b t⟩
  |str b=>obtain⟨t,rfl⟩:=d;exact⟨SeqAt.RcAt.str_str a c b t,SeqAt.RcNeAt.str_str a c b t⟩
  |_=>exact dw (show ZA=O from g2) eU
 |_=>exact dw (show ZA=O from g1) eU
def Hs(hB:B.K=X.K){s:ag}(I:Inv X P R H s)(k:aR HF H)(A:ew){t u:T}{x y:ar}(Q:A.units+6<ll)(rt:Rep B al HF t v)(D:Rep B al HF u w)(C:RelV v x)(p:RelV w y)(sh:shape 5 t u=O) :
  Cg A s x y (eqT t u)/\xi A s x y (!eqT t u):=by
 have flat:(dm t&&dm u)=O->Cg A s x y (eqT t u)/\xi A s x y (!eqT t u):=λsh=>by
  obtain⟨N,M⟩:=kL.mp sh;exact Mc rt D C p N M
 have j:A.units<ll:=by lia
 have dp:=λ{t u:T} {v w:V} {x y:ar} (a:Rep B al HF t v) (b:Rep B al HF u w) (c:RelV v x) (d:RelV w y) (e:shape 4 t u=O)=>Mb hB I k 4 A.in1 (by rw[in1_units];lia) a b c d e
 cases t with
 |tup ts=>
  cases u with
  |tup o=>
   obtain⟨a,L,rfl,q,r⟩:=id rt;obtain⟨b,G,rfl,E,m⟩:=id D;cases C;cases p;obtain⟨F,l,h⟩:=k_ I k<|hB▸q;obtain⟨f,n,i⟩:=k_ I k<|hB▸E;have it:=lj (A:=A.in1) (s:=s) r m l n sh dp;have z:=xk h i j it;have g:=SeqAt.RcNeAt.tuples h i j it;rw[ck,ck,<- l.length,<- n.length,<- r.len,<- m.len,gA]at z g;exact⟨z,g⟩
  |_=>exact flat sh
 |lst ts=>
  cases u with
  |lst o=>
   obtain⟨a,L,rfl,q,r⟩:=id rt;obtain⟨b,G,rfl,E,m⟩:=id D;cases C;cases p;obtain⟨F,l,h⟩:=lh I k q;obtain⟨f,n,i⟩:=lh I k E;have l1:=l.length;have l2:=n.length;have l3:=r.len;have l4:=m.len;by_cases hsz:ts.length=o.length
   .have it:=lj (A:=A.in1) (s:=s) r m l n sh dp
    have hs:F.toArray.size=f.toArray.size:=by rw[ck,ck];lia
    have z:=y3 h i hs j it;have g:=SeqAt.RcNeAt.lists h i hs j it;have e:=gA ts o;rw[<- hsz,FZ,lp,AU]at e;rw[ck,<- l1,<- l3,e]at z g;exact⟨z,g⟩
   .have hs:(F.toArray.size != f.toArray.size)=O:=by rw[ck,ck,bne_iff_ne];lia
    have z:=tf (s:=s) (A:=A) h i hs j;have g:=SeqAt.RcNeAt.lists_lengths (s:=s) (A:=A) h i hs j;have e:eqT (.lst ts) (.lst o)=ZA:=pM hsz;rw[e];exact⟨z,g⟩
  |_=>exact flat sh
 |_=>exact flat (by cases u<;>exact sh)
def S_(e:X.A.units+6<ll):hU X (eJ .Eq) λx y H Q=>∃B al HF t u,B.K=X.K/\aR HF H/\Rep B al HF t x/\Rep B al HF u y/\shape 5 t u=O/\Q (.bl<|eqT t u) H:=by
 intro g s R H x y v u Q I c b h;obtain⟨B,al,HF,t,f,hB,a,rt,d,sh,q⟩:=h;exact(Hs hB I a X.A e rt d c b sh).1 _ _ _ _<|jl I q J
def Tc(e:X.A.units+6<ll):hU X (eJ .NotEq) λx y H Q=>∃B al HF t u,B.K=X.K/\aR HF H/\Rep B al HF t x/\Rep B al HF u y/\shape 5 t u=O/\Q (.bl<|!eqT t u) H:=by
 intro g s R H x y v u Q I c b h;obtain⟨B,al,HF,t,f,hB,a,rt,d,sh,q⟩:=h;exact(Hs hB I a X.A e rt d c b sh).2 _ _ _ _<|jl I q J
def Ht:hU X (eJ .Is) λx y H Q=>∃a b,x=.bl a/\y=.bl b/\Q (.bl<|a == b) H:=by
 intro e s R H x y v u Q I d c h;obtain⟨a,b,rfl,rfl,q⟩:=h;cases d;cases c;exact PyProof.Rows.is_bool<|jl I q J
theorem w_{B:KT}{al:BM}{H:Hp}:∀{ts:FR}{vs:List V},aE B al H ts vs->ts.all dm=O->vs.all fk=O
 |[],_,h,_=>by cases(show _=[]from h);rfl
 |t::ts,_,h,f=>by
  obtain⟨v,r,rfl,b,a⟩:=h;rw[dO,bP]at f;rw[dO,eZ b f.1,w_ a f.2];rfl
theorem any_eq{a:V}(b:Rep B al H x a)(fx:dm x=O):∀{ts:FR}{vs:List V},aE B al H ts vs->ts.all dm=O->(vs.any λy=>G1 y a)=ts.any λy=>eqT y x
 |[],_,h,_=>by cases(h);rfl
 |t::ts,_,h,f=>by
  obtain⟨v,r,rfl,d,c⟩:=h;rw[dO,bP]at f;rw[rj,rj,k9 d b f.1 fx,any_eq b fx c f.2]
def zH{a:Type}(xs:List a)(i:Int):atT xs i=D0 xs i:=by
 unfold atT D0 G0;by_cases h0:0<=i
 .rw[bt h0,bt h0]
  by_cases h1:i<Kk xs
  .rw[bt h1,bt h1];rfl
  .rw[b0 h1,b0 h1];rfl
 .rw[b0 h0,b0 h0]
  by_cases h1:-Kk xs<=i
  .rw[bt h1,bt h1];rfl
  .rw[b0 h1,b0 h1];rfl
def uE(r:aE B al H ts vs)(h:atT ts i=U t):∃v,D0 vs i=U v/\Rep B al H t v:=by
 rw[zH]at h;unfold D0 at h ⊢;rw[<- r.len];cases e:G0 ts.length i with
 |none=>rw[e]at h;cases h
 |some j=>
  rw[e]at h;exact r.get h
def Hu{t:T}{v:V}(h:Rep B al H t v):decide (v=.non)=kZ t:=by
 cases t with
 |non=>cases(h);rfl
 |bl b=>cases(h);rfl
 |int i=>cases(h);rfl
 |str l=>obtain⟨rfl,_⟩:=h;rfl
 |tup ts=>obtain⟨a,c,rfl,_⟩:=h;rfl
 |lst ts=>obtain⟨a,c,rfl,_⟩:=h;rfl
 |scr ts=>obtain⟨a,rfl,_⟩:=h;rfl
 |obj _ _=>obtain⟨a,_,_,_,_,rfl,_⟩:=h;rfl
 |own _=>obtain⟨a,rfl,_⟩:=h;rfl
 |fh _ _=>obtain⟨a,xs,rfl,_⟩:=h;rfl
def rIs:R2:=λx y H Q=>(y=.non/\Q (.bl<|decide<|x=.non) H)\/∃a b,x=.bl a/\y=.bl b/\Q (.bl<|a == b) H
def aal:R2:=λx y H Q=>(y=.non/\Q (.bl<|!decide (x=.non)) H)\/∃a b,x=.bl a/\y=.bl b/\Q (.bl<|a != b) H
def BE{p:Bool}{tx ty t:T}(h:X7 p tx ty=U t):(ty=.non/\t=.bl (p == kZ tx))\/∃a b,tx=.bl a/\ty=.bl b/\t=.bl (p == (a == b)):=by
 cases ty<;>try(cases h;done)
 .cases h;exact .inl ⟨J,J⟩
 .cases tx<;>try(cases h;done)
  cases h;exact .inr ⟨_,_,J,J,J⟩
def aam:sH X (X7 O) rIs:=λB hB al HF H x y t tx ty Q c e d h k=>by
 rcases BE h with⟨rfl,rfl⟩|⟨a,b,rfl,rfl,rfl⟩
 .exact .inl ⟨d,(Hu e)▸(k _ HF H (.refl c)<|by cases kZ tx<;>rfl)⟩
 .exact .inr ⟨a,b,e,d,k _ HF H (.refl c)<|by cases(a == b)<;>rfl⟩
def Yy:sH X (X7 ZA) aal:=λB hB al HF H x y t tx ty Q c e d h k=>by
 rcases BE h with⟨rfl,rfl⟩|⟨a,b,rfl,rfl,rfl⟩
 .exact .inl ⟨d,by rw[Hu e];exact k _ HF H (.refl c)<|by cases kZ tx<;>rfl⟩
 .exact .inr ⟨a,b,e,d,k _ HF H (.refl c)<|by show V.bl (a != b)=V.bl (ZA == (a == b));cases a<;>cases b<;>rfl⟩
def zJ(K:bG)(neg:Bool):R2:=λx y H Q=>(∃i j,x=.str i/\y=.str j/\Q (.bl<|if neg then(!(!(ey j i 0 j.length 1).isEmpty))else(!(ey j i 0 j.length 1).isEmpty)) H)\/Ĥ K neg x y H Q
def Hv:hU X (eJ .In)<|zJ X.K ZA:=DU.or D3
def BG:hU X (eJ .NotIn)<|zJ X.K O:=um.or uy
def Me(h:LZ tx ty=U k):(∃x l,tx=.str x/\ty=.str l/\k=inS x l)\/((∃ys,(ty=.tup ys\/ty=.lst ys)/\(dm tx=O/\ys.all dm=O)/\k=ys.any λy=>eqT y tx)):=by
 cases ty<;>try(cases h)
 .cases tx<;>try(cases h;done)
  cases h;exact .inl ⟨_,_,J,J,J⟩
 .obtain⟨c,rfl⟩:=bo h
  exact .inr ⟨_,.inl J,c,J⟩
 .obtain⟨c,rfl⟩:=bo h
  exact .inr ⟨_,.inr J,c,J⟩
def BH(x l:B1):(!(ey (⟨l.toArray⟩:Str) ⟨x.toArray⟩ 0 (⟨l.toArray⟩:Str).length 1).isEmpty)=(df<|l.length+1).any λi=>decide (i+Kk x<=Kk l)&&((l.drop i).take x.length == x):=by
 rw[Bool.eq_iff_iff,StrLaws.found_iff,Pd];constructor
 .rintro⟨i,b,a⟩
  rw[o6]at a;rw[gJ,gJ]at b;exact⟨i,DF.mpr<|by lia,by rw[de b];exact a⟩
 .rintro⟨i,_,h⟩
  rw[bP,decide_eq_true_iff]at h;exact⟨i,by rw[gJ];exact h.1,by rw[o6];exact h.2⟩
def Mf(x l:B1):(!(ey (⟨l.toArray⟩:Str) ⟨x.toArray⟩ 0 (⟨l.toArray⟩:Str).length 1).isEmpty)=inS x l:=by
 match x with
 |[]=>exact BH ..
 |[c]=>exact StrLaws.found_one ..
 |_::_::_=>exact BH ..
def Hw(hB:B.K=X.K){x y:V}{Q:VK}(f:aR HF H)(e:Rep B al HF tx x)(d:Rep B al HF ty y)(h:LZ tx ty=U k)(q:Q (.bl<|if neg then !k else k) H):zJ X.K neg x y H Q:=by
 rcases Me h with⟨x,l,rfl,rfl,rfl⟩|⟨j,n,⟨i,g⟩,rfl⟩
 .obtain⟨rfl,_⟩:=e
  obtain⟨rfl,_⟩:=d;refine .inl ⟨_,_,J,J,?_⟩;rw[Mf];exact q
 .right
  have c:∀a b,y=.ref a->(dW X.K H a b\/kG X.K H a b)->aE B al HF j b->Ĥ X.K neg x y H Q:=λa b o m r=>by
   refine⟨a,b,o,m,eZ e i,w_ r g,?_⟩;unfold Ŭ;rw[any_eq e i r g];exact q
  rcases n with rfl|rfl
  .obtain⟨a,b,rfl,q1,r⟩:=d
   exact c a b J (.inr<|hB▸bM f q1) r
  .obtain⟨a,b,rfl,q1,r⟩:=d
   exact c a b J (.inl<|dW.of<|f _ _ q1) r
def aan:sH X inD<|zJ X.K ZA:=λB hB al HF H x y t tx ty Q a c b h k=>by
 unfold inD at h;cases e:LZ tx ty with
 |none=>rw[e]at h;cases h
 |some d=>rw[e]at h;cases h;exact Hw hB a c b e<|k _ HF H (.refl a) J
def Yz:sH X SY<|zJ X.K O:=λB hB al HF H x y t tx ty Q a c b h k=>by
 unfold SY at h;cases e:LZ tx ty with
 |none=>rw[e]at h;cases h
 |some d=>rw[e]at h;cases h;exact Hw hB a c b e<|k _ HF H (.refl a) J
def YA(X:Cx)(neg:Bool):R2:=λx y H Q=>∃B al HF t u,B.K=X.K/\aR HF H/\Rep B al HF t x/\Rep B al HF u y/\shape 5 t u=O/\Q (.bl<|if neg then !eqT t u else eqT t u) H
def aao:sH X X6<|YA X ZA:=λB hB al HF H x y t tx ty Q a d b h k=>by
 obtain⟨c,rfl⟩:=bo h;exact⟨B,al,HF,tx,ty,hB,a,d,b,c,k _ HF H (.refl a) J⟩
def aap:sH X ī<|YA X O:=λB hB al HF H x y t tx ty Q a d b h k=>by
 obtain⟨c,rfl⟩:=bo h;exact⟨B,al,HF,tx,ty,hB,a,d,b,c,k _ HF H (.refl a) J⟩
def BI(f:Int->Int->Bool):sH X (Hk f)<|Fb λi j=>.bl<|f i j:=Yq (G:=λi j=>.bl<|f i j) (λtx ty t h=>by
 cases tx<;>first | (cases h;done) | (cases ty<;>first | (cases h;done) | (cases h;exact⟨_,_,J,J,J⟩))) λ_ _ _ _ _=>J
def Mg:mx->T->T->FV
 |.Eq=>X6
 |.NotEq=>ī
 |.Lt=>Hk λi j=>decide<|i<j
 |.LtE=>Hk λi j=>decide<|i<=j
 |.Gt=>Hk λi j=>decide<|j<i
 |.GtE=>Hk λi j=>decide<|j<=i
 |.Is=>X7 O
 |.IsNot=>X7 ZA
 |.In=>inD
 |.NotIn=>SY
def Tf(hr:bD k X.A):∃r,hU X (eJ op) r/\sH X (Mg op) r:=by
 have a:X.A.units+6<ll:=by have:=hr.units;lia
 cases op
 case Eq=>exact⟨_,S_ a,aao⟩
 case NotEq=>exact⟨_,Tc a,aap⟩
 case Lt=>exact⟨_,W0,BI _⟩
 case LtE=>exact⟨_,W2,BI _⟩
 case Gt=>exact⟨_,W3,BI _⟩
 case GtE=>exact⟨_,W5,BI _⟩
 case Is=>exact⟨_,Sk.or Ht,aam⟩
 case IsNot=>exact⟨_,Lq.or wJ,Yy⟩
 case In=>exact⟨_,Hv,aan⟩
 case NotIn=>exact⟨_,BG,Yz⟩
def a_(a:FE):FT:=λs=>(a s).bind λp=>(bj<|Yb p.1).bind λb=>.ok (b,p.2)
def BJ{Q:Bool->Hp->Prop}(h:tT B (a_ f) R H Q):tE B f R H λx H'=>∃k,x=.bl k/\Q k H':=by
 obtain⟨g,s,t,s',x,h,k⟩:=h;revert h;refine abH λd b j=>abG λl i=>λh=>?_;cases ow (ao i);cases h;exact⟨g,s,_,b,x,j,λv g1 H1 e a c=>⟨_,c,k g1 H1 e a⟩⟩
def iE:T->T->FV
 |.fh _ _,_=>Y
 |x,y=>Bt x y
def Hx{tx ty t:T}(h:iE tx ty=U t):∃i,ty=.int i/\((∃xs,(tx=.lst xs\/tx=.tup xs)/\atT xs i=U t)\/(∃l c,tx=.str l/\atT l i=U c/\t=.str [c])\/∃ns n,tx=.scr ns/\atT ns i=U n/\t=.int n):=by
 cases tx<;>first|(cases h;done)|(cases ty<;>try(cases h;done))
 .rename_i l i
  have h:(atT l i).map (λc=>T.str [c])=U t:=h;cases e:atT l i with
  |none=>rw[e]at h;cases h
  |some c=>rw[e]at h;cases h;exact⟨i,J,.inr<|.inl ⟨l,c,J,e,J⟩⟩
 .exact⟨_,J,.inl ⟨_,.inr J,h⟩⟩
 .exact⟨_,J,.inl ⟨_,.inl J,h⟩⟩
 .rename_i l i
  have h:(atT l i).map T.int=U t:=h;cases e:atT l i with
  |none=>rw[e]at h;cases h
  |some c=>rw[e]at h;cases h;exact⟨i,J,.inr<|.inr ⟨l,c,J,e,J⟩⟩
def Tg{a b:Type}(f:a->b){l:List a}{c:a}(h:atT l i=U c):D0 (l.map f) i=U (f c):=by
 rw[zH]at h;unfold D0 at h ⊢;rw[cH];cases e:G0 l.length i with
 |none=>rw[e]at h;cases h
 |some j=>
  rw[e]at h;show(yV f _)[j]?=_;rw[eQ,show _[j]?=U c from h];rfl
def aaq:sH X iE<|rIx X.K:=λB hB al HF H x y t tx ty Q a d b h k=>by
 obtain⟨i,rfl,⟨xs,j|j,e⟩|⟨l,c,rfl,e,rfl⟩|⟨ns,n,rfl,e,rfl⟩⟩:=Hx h
 .subst j
  obtain⟨p,f,rfl,q,r⟩:=d;obtain⟨v,e,g⟩:=uE r e;exact .inl ⟨p,f,_,v,J,b,dW.of<|a _ _ q,e,k v HF H (.refl a) g⟩
 .subst j
  obtain⟨p,f,rfl,q,r⟩:=d;obtain⟨v,e,g⟩:=uE r e;exact .inr<|.inl ⟨p,f,_,v,J,b,hB▸bM a q,e,k v HF H (.refl a) g⟩
 .obtain⟨rfl,m⟩:=d
  refine .inr<|.inr ⟨_,_,c,J,b,szS m,?_,k _ HF H (.refl a) ⟨J,by simp⟩⟩
  rw[<- zH];exact e
 .obtain⟨p,rfl,q⟩:=d
  exact .inl ⟨p,_,_,.int n,J,b,hB▸a.seq q,Tg V.int e,k _ HF H (.refl a) J⟩
def Ti(hB:B.K=X.K)(d:PE X a<|tE B F)(c:PE X b<|tE B W)(hs:jH b):PE X (.Subscript a b pos)<|tE B<|bF iE F W:=aV (Bj zk d c hs)<|nu hB aaq
end D
namespace L2
open PySem PySem.Spec PyProof.Rows
theorem sJ:∀(ls:Bi)(t:Nat),Vals (ls.map V.str)<|strsFrom t ls
 |[],_=>.nil
 |x::ls,t=>.cons ⟨_,J⟩<|sJ ls _
def Hy:LC X "str.split" λx vs H Q=>∃a b,x=.str a/\vs=[.str b]/\(b.length == 0)=ZA/\a.length<=cw/\(Txt.split a b).length<=cw/\∀l,H l=Y->Q (.ref l) (upd H l<|.lst<|(Txt.split a b).map V.str):=by
 intro n s k H x vs v m Q I g i h;obtain⟨a,b,rfl,rfl,f,j,c,q⟩:=h;obtain⟨t,rfl⟩:=g;obtain⟨u,rfl,⟨t',rfl⟩⟩:=i.one;unfold Txt.split at c q;by_cases c1:(decide (a.length<b.length) ||decide (hF a<hF b))=O
 .rw[bt c1]at c q
  refine n7 F.slot_str_split (ql s a t) F.entry_str_split (F.args_str_split_2 _ _) (meets_str_split_cannot_occur a b t t' c1) ?_;exact⟨.ref s.heap.objs.size,_,I.D4 (t':=s.toks) (ys:=[V.str a]) (.cons ⟨_,J⟩ .nil) c,J,q _ I.fresh⟩
 .rw[b0 c1]at c q
  have d:(decide (a.length<b.length) ||decide (hF a<hF b))=ZA:=by
   rcases O4 (decide (a.length<b.length) ||decide (hF a<hF b))with z|z
   .exact dw z c1
   .exact z
  by_cases c2:(ey a b 0 a.length<|a.length+1).isEmpty=O
  .rw[bt c2]at c q
   refine n7 F.slot_str_split (ql s a t) F.entry_str_split (F.args_str_split_2 _ _) (meets_str_split_not_found a b t t' d f c2) ?_;exact⟨.ref s.heap.objs.size,_,I.D4 (t':=s.toks) (ys:=[V.str a]) (.cons ⟨_,J⟩ .nil) c,J,q _ I.fresh⟩
  .rw[b0 c2]at c q
   have e:(ey a b 0 a.length<|a.length+1).isEmpty=ZA:=by
    rcases O4 (ey a b 0 a.length<|a.length+1).isEmpty with z|z
    .exact dw z c2
    .exact z
   refine n7 F.slot_str_split (ql s a t) F.entry_str_split (F.args_str_split_2 _ _) (meets_str_split_sep a b t t' d f e j c) ?_;exact⟨.ref s.heap.objs.size,_,I.D4 (sJ _ _)<|by rw[cH];exact c,J,q _ I.fresh⟩
def Hz:LC X "str.find" λx vs H Q=>∃a b,x=.str a/\vs=[.str b]/\Q (.int<|Txt.find a b) H:=by
 intro i s e H x vs v f Q I c d h;obtain⟨a,b,rfl,rfl,q⟩:=h;obtain⟨t,rfl⟩:=c;obtain⟨u,rfl,⟨g,rfl⟩⟩:=d.one;exact SC.find ⟨.int _,H,I.tok _,⟨_,J⟩,q⟩
end L2
namespace D
open PySem L2
variable{X:Cx}{env:Env}{a b c e o tg:cq}{fa fb v fo:FE}{g g':G}{H H':Hp}{B:KT}{es:Bz}{bC ba p pos:Pos}{s s':S}{σ:St}{x y:Str}
section
variable{S Z:FO}
def HA(lo a:Dx)(n:Nat):gs lo a 1 n=gs (U ((D.iR n 0 lo:Nat):Int)) (U ((D.iR n n a:Nat):Int)) 1 n:=by
 have c:∀v:Int,max 0 (min (if v<0 then v+(n:Int)else v) (n:Int))=((if v<0 then(v+(n:Int)).toNat else min v.toNat n:Nat):Int):=λv=>by
  grind
 have d:∀m:Nat,m<=n->max 0 (min (if((m:Nat):Int)<0 then((m:Nat):Int)+(n:Int)else((m:Nat):Int)) (n:Int))=((m:Nat):Int):=λm b=>by
  rw[b0<|by lia];lia
 have l1:D.iR n 0 lo<=n:=by
  cases lo with
  |none=>exact dz _
  |some v=>show(if v<0 then(v+(n:Int)).toNat else min v.toNat n)<=n;split<;>lia
 have l2:D.iR n n a<=n:=by
  cases a with
  |none=>exact bL _
  |some v=>show(if v<0 then(v+(n:Int)).toNat else min v.toNat n)<=n;split<;>lia
 unfold gs;simp[show((1:Int) > 0)from by lia,Ep]
 rw[d _ l1,d _ l2]
 congr 1
 .cases lo with
  |none=>rfl
  |some v=>exact c v
 .cases a with
  |none=>rfl
  |some v=>exact c v
def HB(n d:Nat)(hd:d<=n)(o:Dx):D.iR n d o<=n:=by
 cases o with
 |none=>exact hd
 |some v=>show(if v<0 then(v+n).toNat else min v.toNat n)<=n;lia
def cut_str(l:B1)(lo a:Dx):yA ⟨l.toArray⟩ lo a=⟨(bT l lo a).toArray⟩:=by
 have h:yA ⟨l.toArray⟩ lo a=la ⟨l.toArray⟩ lo a:=J;have g:la ⟨l.toArray⟩ lo a=la ⟨l.toArray⟩ (U ((D.iR l.length 0 lo:Nat):Int)) (U ((D.iR l.length l.length a:Nat):Int)):=by
  unfold la;rw[gJ,HA]
 rw[h,g];have b:=HB l.length l.length (bL _) a;by_cases hab:D.iR l.length 0 lo<=D.iR l.length l.length a
 .rw[StrLaws.sliceText_nat _ hab<|by rw[gJ];exact b]
  rfl
 .have c:=HB l.length 0 (dz _) lo
  have f:bT l lo a=[]:=by
   unfold bT;rw[show D.iR l.length l.length a-D.iR l.length 0 lo=0 by lia,Pe]
  rw[f];have e:gs (U ((D.iR l.length 0 lo:Nat):Int)) (U ((D.iR l.length l.length a:Nat):Int)) 1 l.length=[]:=by
   have d:∀m:Nat,m<=Kk l->max 0 (min (if((m:Nat):Int)<0 then((m:Nat):Int)+(Kk l:Int)else((m:Nat):Int)) (Kk l:Int))=((m:Nat):Int):=λm i=>by
    grind
   unfold gs;simp[show((1:Int) > 0)from by decide,Ep]
   rw[d _ c,d _ b];simp only[zr];rw[bt<|by decide,b0<|by lia]
   rfl
  unfold la;rw[gJ,e];rw[b0<|by simp;lia]
  rfl
def lq{a:Type}(l:List a)(lo b:Dx):(bT l lo b).length<=Kk l:=by
 unfold bT;rw[tY,kO]
 lia
def BK(xs:List V)(lo a:Dx):DZ xs lo a=bT xs lo a:=by
 rfl
def aE.cut(r:aE B al H ts vs)(lo a:Dx):aE B al H (bT ts lo a)<|bT vs lo a:=by
 unfold bT;exact r.len▸(r.drop _).take _
def Mh{a c:Type}(f:a->c)(l:List a)(lo b:Dx):(bT l lo b).map f=bT (l.map f) lo b:=by
 unfold bT;simp
theorem xh:∀{ts:FR}{vs:List V}{ls:Ap},aE B al H ts vs->strsOf ts=U ls->vs=(ls.map λl=>(⟨l.toArray⟩:Str)).map V.str
 |[],_,_,h,e=>by cases(h);cases e;rfl
 |t::ts,_,ls,h,e=>by
  obtain⟨v,r,rfl,b,a⟩:=h;cases t<;>try(cases e)
  have e:(strsOf ts).map _=U ls:=e
  cases e':strsOf ts with
  |none=>rw[e']at e;cases e
  |some ms=>
   rw[e']at e;cases e;obtain⟨rfl,_⟩:=b;rw[xh a e'];rfl
theorem join_eq(a:B1):∀ls:Ap,Str.join ⟨a.toArray⟩ (ls.map λl=>(⟨l.toArray⟩:Str))=⟨(fm a ls).toArray⟩
 |[]=>J
 |[c]=>J
 |c::d::r=>by
  have b:=join_eq a<|d::r;show⟨c.toArray⟩++⟨a.toArray⟩++Str.join _ ((d::r).map λl=>⟨l.toArray⟩)=⟨(c++a++fm a _).toArray⟩;rw[b,S9,S9]
theorem sL(a:B1):∀ls:Ap,(fm a ls).length<=(ls.map (·.length)).sum+Kk ls*Kk a
 |[]=>by simp[fm]
 |[c]=>by simp[fm]
 |c::d::r=>by
  have b:=sL a<|d::r;show(c++a++fm a (d::r)).length<=_;rw[cV,cV,f6,Ph,ee,rf]
  lia
def HD(ls:Ap):((ls.map λl=>(⟨l.toArray⟩:Str)).map (·.length))=ls.map (·.length):=by
 rw[j5];rfl
def Tj(l s:B1):qs ⟨l.toArray⟩ ⟨s.toArray⟩=pre s l:=by
 unfold qs pre;rw[o6];show(decide (0+(⟨s.toArray⟩:Str).length<=l.toArray.size)&&((l.drop 0).take _ == s))=_;rw[gJ,ck,yO,wa]
def Tn(l s:B1):sq ⟨l.toArray⟩ ⟨s.toArray⟩=suf s l:=by
 unfold sq suf;rw[o6,gJ,gJ];show(decide _&&((l.drop _).take s.length == s))=_;rw[yO];by_cases h:Kk s<=Kk l
 . rw[Pj<|by rw[kO];lia]
 .rw[b7 h,F3,F3]
theorem my:∀{ts:FR}{vs:List V}{ks:Fs},aE B al H ts vs->boolsOf ts=U ks->vs=ks.map V.bl
 |[],_,_,h,e=>by cases(h);cases e;rfl
 |t::ts,_,a,h,e=>by
  obtain⟨v,r,rfl,c,b⟩:=h;cases t<;>try(cases e)
  have e:(boolsOf ts).map _=U a:=e
  cases e':boolsOf ts with
  |none=>rw[e']at e;cases e
  |some ms=>
   rw[e']at e;cases e;cases(c);rw[my b e'];rfl
def xj(a T:String):Option Bool:=if(pa a == pa T)=O then U O else if PySem.W.kitMeta T=O then(fastBuiltinMro a).map (·.contains<|pa T)else Y
def mz(K:bG){a T:String}{b:Bool}(h:xj a T=U b):tU K (.type a) (.type T)=U b:=h
structure kj(T:String):Prop where
 non:xj "NoneType" T=U ZA
 bl:xj "bool" T=U (T == "bool" ||T == "int")
 int:xj "int" T=U (T == "int")
 str:xj "str" T=U (T == "str")
 tup:xj "tuple" T=U (T == "tuple")
 lst:xj "list" T=U (T == "list")
 dic:xj "dict" T=U (T == "dict")
def To:kj "int" := by constructor<;>decide +kernel
def Mi:kj "bool" := by constructor<;>decide +kernel
def Tp:kj "str" := by constructor<;>decide +kernel
def HE:kj "tuple" := by constructor<;>decide +kernel
def Mj:kj "list" := by constructor<;>decide +kernel
def aP(c:Nat):B1->Ap
 |[]=>[[]]
 |d::l=>if d=c then[]::aP c l else match aP c l with
  |p::r=>(d::p)::r
  |[]=>[[d]]
theorem km{c:Nat}:∀{p:B1},c∉p->aP c p=[p]
 |[],_=>J
 |d::p,h=>by
  have hd:d≠c:=λe=>h (e▸d_ ..)
  have a:=λe=>h<|ed _ e;unfold aP;rw[b0 hd,km a]
theorem pN{c:Nat}(l:B1):∀{p:B1},c∉p->aP c (p++[c]++l)=p::aP c l
 |[],_=>by
  show aP c (c::l)=_;rw[aP,bt J]
 |d::p,h=>by
  have hd:d≠c:=λe=>h (e▸d_ ..)
  have a:=λe=>h<|ed _ e;show aP c (d::(p++[c]++l))=_;rw[aP,b0 hd,pN l a]
theorem ny{c:Nat}:∀{ls:Ap},ls≠[]->(∀p∈ls,c∉p)->aP c (fm [c] ls)=ls
 |[],h,_=>dw J h
 |[p],_,h=>km<|h p<|d_ ..
 |p::q::r,_,h=>by
  show aP c (p++[c]++fm ..)=_;rw[pN _<|h p<|d_ ..,ny (by simp) λx a=>h x<|ed _ a]
def split_len(x y:Str):(Txt.split x y).length<=x.length+2:=by
 unfold Txt.split;split
 .simp
 .split
  .simp
  .rw[length_partsBetween]
   have:=StrLaws.occ_length_le x y 0 x.length<|x.length+1
   exact gX this _
def lr(x y:Str):Txt.split x y≠[]:=by
 unfold Txt.split;split
 .simp
 .split
  .simp
  .intro e
   have:=length_partsBetween x (ey x y 0 x.length<|x.length+1) y.length
   rw[e]at this;simp at this
def HG(a:B1)(c:Nat):Txt.split ⟨a.toArray⟩ ⟨#[c]⟩=(aP c a).map λl=>(⟨l.toArray⟩:Str):=by
 obtain⟨L,f⟩:∃L:Ap,L=(Txt.split ⟨a.toArray⟩ ⟨#[c]⟩).map λp=>p.cps.toList:=⟨_,J⟩;have g:Txt.split ⟨a.toArray⟩ ⟨#[c]⟩=L.map λl=>⟨l.toArray⟩:=by
  rw[f,j5]
  conv=>lhs;rw[<- Pk<|Txt.split ..]
  rfl
 have i:L≠[]:=by
  rw[f];intro e;exact lr _ _<|List.map_eq_nil_iff.mp e
 have h:∀p∈L,c∉p:=by
  rw[f];intro p k;obtain⟨q,j,rfl⟩:=gZ.mp k;exact StrLaws.split_free _ c q j
 have b:=StrLaws.join_split ⟨a.toArray⟩ ⟨#[c]⟩;rw[g,show(⟨#[c]⟩:Str)=⟨[c].toArray⟩from J,join_eq]at b;have d:fm [c] L=a:=by
  lia
 rw[g,<- d,ny i h]
theorem sN:∀{ls:Ap},(∀l∈ls,Kk l<=1000000)->aE B al H (ls.map T.str) (ls.map λl=>SV l)
 |[],_=>J
 |l::ls,h=>⟨_,_,J,⟨J,h l<|d_ ..⟩,sN λx a=>h x<|ed _ a⟩
theorem lu(c:Nat):∀(a:B1),∀l∈aP c a,Kk l<=Kk a
 |[],l,h=>by
  rw[dJ.mp h];simp
 |d::a,l,h=>by
  have f:=lu c a;rw[aP]at h;split at h
  .rcases bH.mp h with e|e
   .rw[e];simp
   .have:=f l e;exact c_ this<|bx ..
  .split at h
   .rename_i p r b
    rcases bH.mp h with e|e
    .have:=f p (b▸d_ ..)
     rw[e];simp;exact this
    .have:=f l (b▸ed _ e)
     exact c_ this<|bx ..
   .rw[dJ.mp h];simp
def YB:PO X Y<|tP B oq:=Qe Lz λσ H Q z=>by
 obtain⟨g,s,t,s',x,h,k⟩:=z;cases h;exact k g H .refl x
def BL(h:inO t=U i):t=.int i:=by
 cases t<;>first|(cases h;done)|(cases h;rfl)
def YC(j:PE X a<|tE B fa):PO X (U a)<|tP B<|gQ fa:=Qe (LA j) λσ H Q z=>by
 obtain⟨g,s,t,s',x,h,k⟩:=z;revert h;refine abH λd c m=>abG λi l=>λh=>?_;cases BL (ao l);cases h;exact⟨g,s,_,c,x,m,λv g1 H1 f b e=>⟨_,e,k g1 H1 f b⟩⟩
def aar(K:bG):V->Dx->Dx->Hp->VK->Prop:=λx lo a H Q=>(∃z,x=.str z/\z.length<=cw/\Q (.str<|yA z lo a) H)\/Xm K x lo a H Q
def aas:P5 X<|aar X.K:=SH.or LD
def aat(hB:B.K=X.K)(E:PE X a<|tE B fa)(c:PO X Qm<|tP B S)(D:PO X Qn<|tP B Z):PE X (.Subscript a (.Slice Qm Qn Y R) pos)<|tE B<|jU fa S Z:=by
 refine aV (GZ aas E c D) λσ H Q w=>?_;obtain⟨g,s,t,s',x,h,k⟩:=w;revert h;refine abH λtx n I=>abH λlo s2 G=>abH λu N F=>abG λM d=>λh=>?_;cases h;have d:slD lo u tx=U _:=ao d;refine⟨g,s,_,n,x,I,λv g1 H1 C z A=>⟨g1,n,_,s2,z,G,λg2 P R y=>⟨g2,s2,_,_,y,F,λg3 L i b=>?_⟩⟩⟩;have e:=(A.mv R.pre R.fr).mv i.pre i.fr;have f:=(C.trans R).trans i;cases tx<;>try(cases d;done)
 .cases d
  obtain⟨rfl,p⟩:=e;refine .inl ⟨_,J,szS p,?_⟩;rw[cut_str];exact k _ g3 L f b ⟨J,c_ (lq ..) p⟩
 .cases d
  obtain⟨a,m,rfl,q,r⟩:=e;refine .inr ⟨a,m,J,dW.of<|b.sub _ _ q,λl c=>?_⟩;rw[BK];have j:=Gr.new (o:=.lst<|bT m lo u) b.sub c;exact k _ _ _ (f.trans<|b.jW j) (b.grow j) ⟨l,_,J,ak,(r.cut ..).same j.fr⟩
 .cases d
  obtain⟨a,rfl,q⟩:=e;refine .inr ⟨a,_,J,hB▸b.sub.seq q,λl c=>?_⟩;rw[BK,<- Mh];exact k _ _ _ (f.trans<|b.jW<|Gr.new b.sub c) (b.grow<|Gr.new b.sub c) ⟨l,_,J,ak,aE.ints _⟩
end
def noStar:cq->Bool
 |.Starred _ _=>ZA
 |_=>O
def au(h:noStar e=O):c5 (e::es) env=(ZA,fu e env)::c5 es env:=by
 cases e<;>first|rfl|(cases h)
theorem cY:∀{es:Bz},es.all noStar=O->(ij pos<|c5 es env).any (·.1)=ZA
 |[],_=>J
 |e::es,h=>by
  rw[dO,bP]at h;rw[au h.1];show(ZA ||(ij pos<|c5 es env).any (·.1))=ZA
  rw[cY h.2];rfl
theorem pO:∀{es:Bz},es.all noStar=O->(ij pos<|c5 es env).all (λx=>!x.1)=O
 |[],_=>J
 |e::es,h=>by
  rw[dO,bP]at h;rw[au h.1];show(O&&(ij pos _).all _)=O;rw[pO h.2];rfl
def Ed(h:(e::es).all noStar=O)(a:Kk es<29):((ij ba<|c5 (e::es) env).all (λx=>!x.1)&&(pB ba<|mq [] env).all (λx=>x.1.isSome)
   && decide ((e::es).length+([]:List qz).length+(if([]:List qz).isEmpty then 0 else 1)<30))=O:=by
 rw[pO h,bP];exact⟨J,de<|rh a<|by decide⟩
def bV:cq->Bool
 |.Call (.Name _ _) [] [] _=>ZA
 |_=>O
def fM{a:Sem ar}(h:bV o=O):ke o f env a=a:=by
 unfold ke;split
 .cases h
 .rfl
def LM(X:Cx)(f:B1->FR->FV)(r:V->List V->Hp->VK->Prop):Prop:=∀(B:KT)(_:B.K=X.K)(al:BM)(HF H:Hp)(l:B1)(xs:List V)(t:T)(ts:FR)(Q:VK),aR HF H->Kk l<=1000000->aE B al HF ts xs->f l ts=U t->(∀v a H',Gr HF H a H'->Rep B al a t v->Q v H')->r (SV l) xs H Q
def YD:T->Option B1
 |.str l=>U l
 |_=>Y
def nV(f:B1->FR->FV)(o:FE)(fl:FL):FE:=λs=>(o s).bind λp=>(bj<|YD p.1).bind λl=>(fl p.2).bind λq=>(bj<|f l q.1).bind λt=>.ok (t,q.2)
def HJ(h:YD t=U l):t=.str l:=by
 cases t<;>first|(cases h;done)|(cases h;rfl)
def aau(hB:B.K=X.K)(hr:LM X f r):∀σ H Q,tE B (nV f fo fl) σ H Q->tBM X.K "str" r (tE B fo) (tA B fl) σ H Q:=by
 rintro σ H Q ⟨g,s,t,s',x,h,k⟩
 revert h;refine abH λtx b z=>abG λl y=>abH λts s2 w=>abG λD q=>λh=>?_;cases h;cases HJ (ao y);refine⟨g,s,_,b,x,z,λv g1 H1 o d m=>?_⟩;obtain⟨rfl,p⟩:=m;exact⟨J,g1,b,_,_,d,w,λe g2 C n a j=>hr B hB g2.al g2.HF C l e _ ts Q a.sub p j (ao q) λu A H' c i=>k u _ H' ((o.trans n).trans<|a.jW c) (a.grow c) i⟩
def K4(l:B1):FR->FV
 |[.str s]=>U<|.bl<|pre s l
 |_=>Y
def ewM(l:B1):FR->FV
 |[.str s]=>U<|.bl<|suf s l
 |_=>Y
def joinM(l:B1):FR->FV
 |[t]=>P_ (.str l) t
 |_=>Y
def splitM(l:B1):FR->FV
 |[.str [c]]=>gd (l.length<=100000)<|.lst<|(aP c l).map .str
 |_=>Y
open PySem.Spec PyProof.Rows in
def BN(l:B1):FR->FV
 |[.str s]=>U<|.int<|Txt.find ⟨l.toArray⟩ ⟨s.toArray⟩
 |_=>Y
def dI(r:aE B al H [t] xs):∃v,xs=[v]/\Rep B al H t v:=by
 obtain⟨v,w,rfl,h,e⟩:=r;cases(e);exact⟨v,J,h⟩
def Į(r:aE B al H [t,u] xs):∃v w,xs=[v,w]/\Rep B al H t v/\Rep B al H u w:=by
 obtain⟨v,b,rfl,h,e⟩:=r;obtain⟨w,rfl,a⟩:=dI e;exact⟨v,w,J,h,a⟩
def aav:LM X K4 λx vs H Q=>∃a b,x=.str a/\vs=[.str b]/\Q (.bl<|qs a b) H:=λB hB al HF H l xs t ts Q c d r h k=>by
 match ts,h with
 |[.str s],h=>
  cases h;obtain⟨v,rfl,rfl,_⟩:=dI r;refine⟨_,_,J,J,?_⟩;rw[Tj];exact k _ HF H (.refl c) J
def aaw:LM X ewM λx vs H Q=>∃a b,x=.str a/\vs=[.str b]/\Q (.bl<|sq a b) H:=λB hB al HF H l xs t ts Q c d r h k=>by
 match ts,h with
 |[.str s],h=>
  cases h;obtain⟨v,rfl,rfl,_⟩:=dI r;refine⟨_,_,J,J,?_⟩;rw[Tn];exact k _ HF H (.refl c) J
def Tq:LM X joinM λx vs H Q=>∃b l ys,x=.str b/\vs=[.ref l]/\dW X.K H l (ys.map V.str)/\(ys.map (·.length)).sum+ys.length*b.length<=16777216/\Q (.str<|Str.join b ys) H:=λB hB al HF H l xs t ts Q c j r h k=>by
 match ts,h with
 |[u],h=>
  obtain⟨v,rfl,f⟩:=dI r;have h:=h;cases u with
  |lst d=>
   have h:=h
   revert h;refine abc λi g=>λh=>?_;obtain⟨z,rfl⟩:=bo h;obtain⟨a,vs,rfl,q,r⟩:=f;have e:=xh r g;subst e;refine⟨_,a,_,J,J,dW.of<|c _ _ q,?_,?_⟩
   .rw[HD,cH];exact c_ z (by decide)
   .rw[join_eq]
    exact k _ HF H (.refl c) ⟨J,c_ (sL ..) z⟩
  |_=>cases h
def m_find:LM X BN λx vs H Q=>∃a b,x=.str a/\vs=[.str b]/\Q (.int<|Txt.find a b) H:=λB hB al HF H l xs t ts Q c d r h k=>by
 match ts,h with
 |[.str s],h=>
  cases h;obtain⟨v,rfl,rfl,_⟩:=dI r;exact⟨_,_,J,J,k _ HF H (.refl c) J⟩
def m_split:LM X splitM λx vs H Q=>∃a b,x=.str a/\vs=[.str b]/\(b.length == 0)=ZA/\a.length<=cw/\(Txt.split a b).length<=cw/\∀l,H l=Y->Q (.ref l) (upd H l<|.lst<|(Txt.split a b).map V.str):=λB hB al HF H l xs t ts Q d f r h k=>by
 match ts,h with
 |[.str [c]],h=>
  obtain⟨z,rfl⟩:=bo h;obtain⟨v,rfl,rfl,_⟩:=dI r;have j:=split_len ⟨l.toArray⟩ ⟨([c]:B1).toArray⟩;rw[gJ]at j;refine⟨_,_,J,J,J,by rw[gJ,et];exact c_ z<|by decide,by rw[et];lia,λq g=>?_⟩
  have e:(Txt.split ⟨l.toArray⟩ ⟨([c]:B1).toArray⟩).map V.str=(aP c l).map λl=>SV l:=by
   rw[show(⟨([c]:B1).toArray⟩:Str)=⟨#[c]⟩from J,HG,j5];rfl
  rw[e];refine k _ _ _ (Gr.new d g) ⟨q,_,J,ak,sN λm i=>?_⟩
  have:=lu c l m i
  exact c_ this f
 |[.str []],h=>cases h
 |[.str<|_::_::_],h=>cases h
structure SMt(X:Cx)(n:Str)(f:B1->FR->FV):Prop where
 ex:∃id r,Slot "str" n id/\G4 (.builtin id)=pure (.type "method_descriptor")/\LC X id r/\LM X f r
def YF(M:SMt X n f)(hB:B.K=X.K)(b:PE X o<|tE B fo)(g:PA X (e::es)<|tA B fl)(d:bV o=O)(hs:(e::es).all noStar=O)(c:Kk es<29)(l:(bC.endLine == ba.line)=O) :
  PE X (.Call (.Attribute o n bC) (e::es) [] ba)<|tE B<|nV f fo fl:=by
 obtain⟨id,r,k,j,i,h⟩:=M.ex;have a:=hs;rw[dO,bP]at a;exact aV (wF PySem.F.plainAttrs_str k j i b g (fM d) (Ed hs c) l (au a.1)<|cY a.2)<|aau hB h
def zK:List<|Str×(B1->FR->FV):=[("startswith",K4),("endswith",ewM),("join",joinM),("split",splitM),("find",BN)]
def Tr:∀p∈zK,SMt X p.1 p.2:=by
 intro p h;simp[zK,bH,j4,i4]at h;rcases h with rfl|rfl|rfl|rfl|rfl
 .exact⟨_,_,PySem.F.slot_str_startswith,PySem.F.type_str_startswith,rD,aav⟩
 .exact⟨_,_,PySem.F.slot_str_endswith,PySem.F.type_str_endswith,wH,aaw⟩
 .exact⟨_,_,PySem.F.slot_str_join,PySem.F.type_str_join,LU,Tq⟩
 .exact⟨_,_,PySem.F.slot_str_split,PySem.F.type_str_split,Hy,m_split⟩
 .exact⟨_,_,PySem.F.slot_str_find,PySem.F.type_str_find,Hz,m_find⟩
def bZ:FR->FV
 |[t]=>(match t with
  |.fh _ _=>Y
  |t=>aaf t)
 |_=>Y
def YG:LN X bZ λxs H Q=>∃x n,xs=[x]/\W7 X.K x H n/\Q (.int n) H:=λB hB al HF H xs t ts Q b r h k=>by
 match ts,h with
 |[tx],h=>
  obtain⟨v,rfl,c⟩:=dI r;cases tx<;>try(cases h;done)
  .cases h
   obtain⟨rfl,e⟩:=c;exact⟨_,_,J,⟨szS e,(gJ _).symm⟩,k _ HF H (.refl b) J⟩
  .cases h
   obtain⟨a,d,rfl,q,r⟩:=c;exact⟨_,_,J,.inr ⟨d,hB▸bM b q,r.len⟩,k _ HF H (.refl b) J⟩
  .cases h
   obtain⟨a,d,rfl,q,r⟩:=c;exact⟨_,_,J,.inl ⟨d,dW.of<|b _ _ q,r.len⟩,k _ HF H (.refl b) J⟩
  .cases h
   obtain⟨a,rfl,q⟩:=c;exact⟨_,_,J,.inl ⟨_,hB▸b.seq q,(cH _).symm⟩,k _ HF H (.refl b) J⟩
def Eh:FR->FV
 |[t]=>wU t
 |_=>Y
def Ei:FR->FV
 |[t]=>X_ t
 |_=>Y
def YH:LN X Eh λxs H Q=>∃(p:bp)(ks:Fs),xs=[.ref p]/\dW X.K H p (ks.map V.bl)/\Q (.bl<|ks.all id) H:=λB hB al HF H xs t ts Q b r h k=>by
 match ts,h with
 |[tx],h=>
  obtain⟨v,rfl,d⟩:=dI r;have h:=h;cases tx with
  |lst c=>
   obtain⟨ks,f,h⟩:=bW.mp<|h;obtain⟨a,g,rfl,q,r⟩:=d;have e:=my r f;subst e h;exact⟨a,ks,J,dW.of<|b _ _ q,k _ HF H (.refl b) J⟩
  |_=>cases h
def YI:LN X Ei λxs H Q=>∃(p:bp)(ks:Fs),xs=[.ref p]/\dW X.K H p (ks.map V.bl)/\Q (.bl<|ks.any id) H:=λB hB al HF H xs t ts Q b r h k=>by
 match ts,h with
 |[tx],h=>
  obtain⟨v,rfl,d⟩:=dI r;have h:=h;cases tx with
  |lst c=>
   obtain⟨ks,f,h⟩:=bW.mp<|h;obtain⟨a,g,rfl,q,r⟩:=d;have e:=my r f;subst e h;exact⟨a,ks,J,dW.of<|b _ _ q,k _ HF H (.refl b) J⟩
  |_=>cases h
def ko(i:Int):B1:=(toString i).toList.map va
def strN:FR->FV
 |[.int i]=>gd (i.natAbs.log2<1920/\(ko i).length<=1000000)<|.str<|ko i
 |_=>Y
def YJ:LN X strN λxs H Q=>∃i,xs=[.int i]/\i.natAbs.log2<1920/\Q (.str<|toString i) H:=λB hB al HF H xs t ts Q a r h k=>by
 match ts,h with
 |[.int i],h=>
  obtain⟨v,rfl,b⟩:=dI r;obtain⟨⟨d,c⟩,rfl⟩:=bo h;cases b;refine⟨i,J,d,k _ HF H (.refl a) ⟨?_,c⟩⟩;show V.str _=_;rw[Str.ofString_eq_toList];rfl
def Ml:FR->FV
 |[.str l]=>(pW ⟨l.toArray⟩).bind λn=>gd (Kk l<=640)<|.int n
 |[.bl b]=>U<|.int<|if b then 1 else 0
 |_=>Y
abbrev YK:List V->Hp->VK->Prop:=λxs H Q=>(∃y n,xs=[.str y]/\pW y=U n/\y.length<=640/\Q (.int n) H)\/∃b,xs=[.bl b]/\Q (.int<|if b then 1 else 0) H
def Ej:fT X (.type "int") YK:=by
 intro f s σ H xs d Q I r h;rcases h with⟨y,n,rfl,a,c,q⟩|⟨b,rfl,q⟩
 .obtain⟨u,rfl,t,rfl⟩:=vals1 r
  exact PySem.W.KIN.call_text a c ⟨.int n,H,I.tok _,⟨_,J⟩,q⟩
 .obtain⟨u,rfl,e⟩:=vals1 r
  cases(e);exact PySem.call_int_bool ⟨.int _,H,I.tok _,⟨_,J⟩,q⟩
def YL:LN X Ml YK:=λB hB al HF H xs t ts Q c r h k=>by
 match ts,h with
 |[.str l],h=>
  obtain⟨v,rfl,a⟩:=dI r;revert h;refine abc λn d=>λh=>?_;obtain⟨z,rfl⟩:=bo h;obtain⟨rfl,_⟩:=a;exact .inl ⟨_,n,J,d,by exact z,k _ HF H (.refl c) J⟩
 |[.bl b],h=>
  obtain⟨v,rfl,a⟩:=dI r;cases h;cases a;exact .inr ⟨b,J,k _ HF H (.refl c) J⟩
def BO:FR->FV
 |[t]=>Qa t
 |_=>Y
def Tt:LN X BO λxs H Q=>∃p ys,xs=[.ref p]/\(dW X.K H p ys\/kG X.K H p ys)/\∀l,H l=Y->Q (.ref l) (upd H l<|.lst ys):=λB hB al HF H xs t ts Q a r h k=>by
 match ts,h with
 |[tx],h=>
  obtain⟨v,rfl,c⟩:=dI r;have h:Qa tx=U t:=h;cases tx<;>try(cases h;done)
  .cases h
   obtain⟨l,xs,rfl,q,r⟩:=c;exact⟨l,xs,J,.inr<|hB▸bM a q,λp b=>k _ _ _ (Gr.new a b) ⟨p,_,J,ak,r.same<|bg<|a.free b⟩⟩
  .cases h
   obtain⟨l,xs,rfl,q,r⟩:=c;exact⟨l,xs,J,.inl<|dW.of<|a _ _ q,λp b=>k _ _ _ (Gr.new a b) ⟨p,_,J,ak,r.same<|bg<|a.free b⟩⟩
structure Blt(X:Cx)(n:Str)(f:FR->FV):Prop where
 ex:∃r,LN X f r/\((∃id,i5 n=U (.builtin id)/\fT X (.builtin id) r)\/∃ty,i5 n=U (.type ty)/\fT X (.type ty) r)
 nn:n ≠ "__name__"
 nd:bB n
def YM(M:Blt X x f)(hB:B.K=X.K)(d:Gl X x)(c:X.mg x=Y)(g:PA X (e::es)<|tA B fl)(hs:(e::es).all noStar=O):PE X (.Call (.Name x p) (e::es) [] pos)<|tE B<|aU f fl:=by
 obtain⟨⟨r,h,i⟩,nn,nd⟩:=M;rw[dO,bP]at hs;rcases i with⟨id,b,a⟩|⟨ty,b,a⟩
 .exact aV (jm a d c b g nn nd (au hs.1)<|cY hs.2)<|Qg hB h
 .exact aV (iA a d c b g nn nd (au hs.1)<|cY hs.2)<|Qg hB h
def zL:List<|Str×(FR->FV):=[("str",strN),("len",bZ),("all",Eh),("any",Ei),("int",Ml),("list",BO)]
def Tu(a:X.calm=O):∀p∈zL,Blt X p.1 p.2:=by
 intro p h;simp[zL,bH,j4,i4]at h;rcases h with rfl|rfl|rfl|rfl|rfl|rfl
 .exact⟨⟨_,YJ,.inr ⟨_,PU,uq⟩⟩,by decide,by rfl⟩
 .exact⟨⟨_,YG,.inl ⟨_,PySem.boot_len,GQ⟩⟩,by decide,by rfl⟩
 .exact⟨⟨_,YH,.inl ⟨_,PyProof.Rows.boot_all,Hc a⟩⟩,by decide,by rfl⟩
 .exact⟨⟨_,YI,.inl ⟨_,PyProof.Rows.boot_any,Hd a⟩⟩,by decide,by rfl⟩
 .exact⟨⟨_,YL,.inr ⟨_,PV,Ej⟩⟩,by decide,by rfl⟩
 .exact⟨⟨_,Tt,.inr ⟨_,wd,iS⟩⟩,by decide,by rfl⟩
structure Pg where
 cn:Bi
 an:Bi
 tab:Ap
 sub:Ap
def Pg.fn(P:Pg):List Bi:=P.tab.map λl=>l.map λi=>P.an.getD i y0
structure Wi(K:bG)(mg:Str->D2)(n:Str)(ns:Bi)(C:bp):Prop where
 at_:qY K eR n=U (U<|.ref C)
 gl:mg n=U (.ref C)
 nd:ns.Nodup
 Ed:Kk ns<=100
 cl:qU K C
 na:∀f∈ns,bK K C f
 ca:fQ K (.ref C) "__class__" = U (U<|.builtin Kj)
 mo:DB K C (.type "object")=U O
structure nW(K:bG)(mg:Str->D2)(P:Pg):Prop where
 cls:∀(c:Nat)(n:Str)(ns:Bi),P.cn[c]?=U n->P.fn[c]?=U ns->∃C,Wi K mg n ns C
 sub:∀(c d:Nat)(n n':Str)(C D:bp)(l:B1),P.cn[c]?=U n->P.cn[d]?=U n'->mg n=U (.ref C)->mg n'=U (.ref D)->P.sub[c]?=U l->tU K (.ref C) (.ref D)=U (decide<|d∈l)
 gt:AM K (.builtin Kj) "__get__" = U (U<|.builtin "getset_descriptor.__get__")/\AN K (.builtin Kj)=U O
abbrev Pg.kt(P:Pg)(X:Cx):KT:=⟨X.K,X.prog,X.w,P.cn,P.fn⟩
variable{P:Pg}
def nW.of(g:nW X.K X.mg P){c:Nat}{C:bp}(h:iD (P.kt X) c C ns):∃n,P.cn[c]?=U n/\P.fn[c]?=U ns/\Wi X.K X.mg n ns C:=by
 obtain⟨n,b,a,f,d⟩:=h;obtain⟨e,F⟩:=g.cls c n ns b a
 have:C=e:=by
  have:=(d).symm.trans F.at_
  lia
 subst this;exact⟨n,b,a,F⟩
theorem iW:∀{ns:Bi}{vs:List V}{j:Nat},ns.Nodup->ns[j]?=U f->(ns.zip vs).lookup f=vs[j]?
 |[],vs,j,_,h=>by simp at h
 |n::ns,[],j,_,_=>by simp
 |n::ns,v::vs,0,nd,h=>by
  simp at h;subst h;rw[rn,List.lookup_cons_self];rfl
 |n::ns,v::vs,j+1,nd,h=>by
  simp at h;have e:(f == n)=ZA:=beq_eq_false_iff_ne.mpr λz=>by subst z;exact(oX.mp nd).1<|jf h
  rw[rn,j3,e];simpa using iW (oX.mp nd).2 h
theorem jA:∀{ns:Bi}{vs:List V},f∉ns->(ns.zip vs).lookup f=Y
 |[],vs,_=>by simp
 |n::ns,[],_=>by simp
 |n::ns,v::vs,h=>by
  have e:(f == n)=ZA:=beq_eq_false_iff_ne.mpr λz=>h (by rw[z];exact d_ ..)
  rw[rn,j3,e];exact jA λz=>h<|ed _ z
theorem BP{v:V}:∀{ns:Bi}{vs:List V}{j:Nat},ns.Nodup->ns[j]?=U f->Kk vs<=Kk ns->j<Kk vs->L2.eu f v (ns.zip vs)=ns.zip (vs.set j v)
 |[],vs,j,_,h,_,_=>by simp at h
 |n::ns,[],j,_,_,_,h=>by simp at h
 |n::ns,w::vs,0,nd,h,_,_=>by
  simp at h;subst h;show(if n=n then(n,v)::ns.zip vs else(n,w)::L2.eu n v _)=_
  rw[bt J];rfl
 |n::ns,w::vs,j+1,nd,h,a,b=>by
  simp at h a b;show(if n=f then(n,v)::ns.zip vs else(n,w)::L2.eu f v (ns.zip vs))=_
  rw[b0 λz=>(oX.mp nd).1<|by rw[z];exact jf h,BP (oX.mp nd).2 h a b]
  rfl
theorem uF{v:V}:∀{ns:Bi}{vs:List V},ns.Nodup->ns[Kk vs]?=U f->L2.eu f v (ns.zip vs)=ns.zip (vs++[v])
 |[],vs,_,h=>by simp at h
 |n::ns,[],nd,h=>by
  simp at h;subst h;simp[L2.eu]
 |n::ns,w::vs,nd,h=>by
  show(if n=f then(n,v)::ns.zip vs else(n,w)::L2.eu f v (ns.zip vs))=_
  rw[b0 λz=>(oX.mp nd).1<|by rw[z];exact jf h,uF (oX.mp nd).2 h]
  rfl
def Mm{l:B1}(h:l.idxOf? f=U j):l[j]?=U f:=by
 rw[Pn,Po]at h;obtain⟨a,b,_⟩:=h;rw[dM a,eq_of_beq b]
def oz{c f j:Nat}(b:P.an[f]?=U n)(a:P.fn[c]?=U ns)(h:iV P.tab c f=U j):ns[j]?=U n:=by
 obtain⟨l,e,d⟩:=cj.mp h;unfold Pg.fn at a;rw[eQ,e]at a;cases a;rw[eQ,Mm d];show U (P.an.getD f y0)=_;rw[t_,b];rfl
def Qp(qD:nW X.K X.mg P)(G:P.an[f]?=U n)(he:PE X e<|tE (P.kt X) fa)(W:bV e=O):PE X (.Attribute e n pos)<|tE (P.kt X)<|az P.tab f fa:=by
 refine aV (GU he<|fM W) λσ H Q L=>?_;obtain⟨g,s,t,s',x,h,k⟩:=L;revert h;refine abH λtx R h1=>λh=>?_;refine⟨g,s,_,R,x,h1,λv g1 H1 E d D=>?_⟩;cases tx<;>try(cases h)
 . revert h;refine abG λu A=>λh=>?_;cases h;obtain⟨j,y,p⟩:=cj.mp<|ao A;obtain⟨a,C,B,ns,N,rfl,hC,T,hl,hd,r⟩:=D;obtain⟨m,V,i,F⟩:=qD.of hC;have b:=oz G i y;obtain⟨w,o,M⟩:=r.get p;exact⟨a,C,B,_,w,J,d.sub _ _ T,F.cl,F.na _<|jf b,by rw[iW F.nd b,o],k _ g1 H1 E d M⟩
 .rename_i S
  revert h;refine abG λc A=>λh=>?_;obtain⟨ob,y,p⟩:=cj.mp<|ao A;obtain⟨j,I,h6⟩:=cj.mp p;obtain⟨a,rfl,ha⟩:=D;rcases d.st.at_ S ob y with⟨a',C,B,ns,N,Z⟩|⟨a',Z⟩
  case inr=>
   obtain⟨l,q,_⟩:=cj.mp I;have z:(P.tab.map _)[ob.c]?=Y:=Z.nf;rw[eQ,q]at z;cases z
  have:=Z.al.symm.trans ha
  cases this;obtain⟨m,V,i,F⟩:=qD.of Z.cl;have b:=oz G i I;obtain⟨w,o,sl⟩:=Z.f j c h6;cases c with
  |val t'=>
   cases h;exact⟨a,C,B,_,w,J,Z.h,F.cl,F.na _<|jf b,by rw[iW F.nd b,o],k _ g1 H1 E d sl⟩
  |ol ts=>cases h
  |od ks ts=>cases h
  |yg t=>cases h
def tyB(ty:String):T->Option Bool
 |.non=>U ZA
 |.bl _=>U<|ty == "bool" ||ty == "int"
 |.int _=>U<|ty == "int"
 |.str _=>U<|ty == "str"
 |.tup _=>U<|ty == "tuple"
 |.lst _=>U<|ty == "list"
 |_=>Y
def yJ(ty:String):T->FV:=λt=>(tyB ty t).map .bl
def Tv{v:V}(c:kj Ty)(r:Rep B al H t v)(h:tyB Ty t=U u):∃d,jR B.K H v d/\tU B.K d (.type Ty)=U u:=by
 cases t with
 |non=>cases(r);cases h;exact⟨_,.non,mz B.K c.non⟩
 |bl b=>cases(r);cases h;exact⟨_,.bl _,mz B.K c.bl⟩
 |int i=>cases(r);cases h;exact⟨_,.int _,mz B.K c.int⟩
 |str l=>obtain⟨rfl,_⟩:=r;cases h;exact⟨_,.str _,mz B.K c.str⟩
 |tup ts=>obtain⟨a,e,rfl,q,_⟩:=r;cases h;exact⟨_,.tup q,mz B.K c.tup⟩
 |lst ts=>obtain⟨a,e,rfl,q,_⟩:=r;cases h;exact⟨_,.lst q,mz B.K c.lst⟩
 |_=>cases h
def xl:List<|Str×String:=[("int","int"),("bool","bool"),("str","str"),("tuple","tuple"),("list","list")]
def YN:∀q∈xl,kj q.2/\i5 q.1=U (.type q.2)/\q.1 ≠ "__name__" /\ (q.1 == ("__debug__" : Str))=ZA:=by
 intro p h;simp only[xl,bH,j4,i4]at h;rcases h with rfl|rfl|rfl|rfl|rfl
 .exact⟨To,PV,by decide,by decide⟩
 .exact⟨Mi,PyProof.Rows.boot_bool,by decide,by decide⟩
 .exact⟨Tp,PU,by decide,by decide⟩
 .exact⟨HE,PyProof.Rows.boot_tuple,by decide,by decide⟩
 .exact⟨Mj,wd,by decide,by decide⟩
def Tw(hB:B.K=X.K)(m:(y,ty)∈xl)(o:X.mg "isinstance" = Y)(c:X.mg y=Y)(w:PE X a<|tE B fa)(q:Gl X "isinstance")(d:Gl X y)(hs:noStar a=O) :
  PE X (.Call (.Name "isinstance" p) [a,.Name y py] [] pos)<|tE B<|dg (yJ ty) fa:=by
 obtain⟨l,s,n,hd⟩:=YN _ m;have D:c5 [Expr.Name y py] X.env=(ZA,fu (.Name y py) X.env)::c5 [] X.env:=J;refine aV (jm wK q o Gy (aW w (aW (Lg d c s (v:=.ty ty) J n hd) cT D)<|au hs) (he:=au hs) (hpl:=J))
 <|Qf hB (r:=λx H Q=>∃e g t b,[x,.ty ty]=[e,.ty g]/\jR X.K H e t/\tU X.K t (.type g)=U b/\Q (.bl b) H) λB hB al HF H x t tx Q f j h k=>?_
 obtain⟨u,C,rfl⟩:=bW.mp h;obtain⟨i,A,z⟩:=Tv l (j.same f) C;exact⟨x,ty,i,u,J,hB▸A,hB▸z,k _ HF H (.refl f) J⟩
def gi(sub:Ap)(ds:B1):T->FV
 |.obj c _=>(sub[c]?).map λl=>.bl<|ds.any λd=>decide<|d∈l
 |_=>Y
def HL:fT X (.builtin "isinstance") λxs H Q=>∃x D t b,xs=[x,.ref D]/\jR X.K H x t/\tU X.K t (.ref D)=U b/\Q (.bl b) H:=by
 intro g s σ H xs d Q I r h;obtain⟨x,D,t,b,rfl,ty,e,q⟩:=h;obtain⟨u,f,rfl,a,c⟩:=vals2 r;cases c;exact r_ I a ty e λtk=>⟨.bl b,H,I.tok _,J,q⟩
def YO(qD:nW X.K X.mg P)(i:P.cn[d]?=U y)(z:X.mg "isinstance" = Y)(I:PE X a<|tE (P.kt X) fa)(E:Gl X "isinstance")(e:Gl X y)(hs:noStar a=O)(hd:bB y)(R:(P.fn[d]?).isSome=O) :
  PE X (.Call (.Name "isinstance" p) [a,.Name y py] [] pos)<|tE (P.kt X)<|dg (gi P.sub [d]) fa:=by
 obtain⟨ns,o⟩:=AW.mp R;obtain⟨D,j⟩:=qD.cls d y ns i o;have S:c5 [Expr.Name y py] X.env=(ZA,fu (.Name y py) X.env)::c5 [] X.env:=J;refine aV (jm HL E z Gy (aW I (aW (ue (v:=.ref D) e j.gl J hd) cT S)<|au hs) (he:=au hs) (hpl:=J)) λσ H Q n=>?_;obtain⟨g,s,t,s',x,h,k⟩:=n;revert h;refine abH λtx Z M=>abG λW b=>λh=>?_;cases h;refine⟨g,s,_,_,x,M,λv g1 H1 u f q=>?_⟩;have b:=ao b;cases tx<;>try(cases b;done)
 obtain⟨l,B,rfl⟩:=bW.mp b;obtain⟨a,C,dx,Fi,T,rfl,L,w,A,G,r⟩:=q;obtain⟨m,c,N,F⟩:=qD.of L;refine⟨_,D,_,_,J,.ins (f.sub _ _ w) F.cl F.ca qD.gt.1 qD.gt.2 F.mo,qD.sub _ d m y C D l c i F.gl j.gl B,?_⟩
 have:=k (V.bl<|decide<|d∈l) g1 H1 u f (by show _=V.bl (([d]:B1).any λd=>decide<|d∈l);simp)
 exact this
abbrev ig(P:Pg)(K:bG)(Pr:c4)(w:da):KT:=⟨K,Pr,w,P.cn,P.fn⟩
inductive qW(B:KT)(f:Fn)(vs:List V)(H:Hp)(Q:VK)(_:XK):Prop where
 |mk g ts m t m' (x:ez B g H m) (r:aE B g.al g.HF ts vs) (h:f ts m=.ok (t,m')) (k:∀v g' H',du g H g' H'->ez B g' H' m'->Rep B g'.al g'.HF t v->Q v H')
structure į(P:Pg)(Pr:c4)(w:da)(K:bG)(mg:Str->D2)(base:eI)(k:Nat)(x:Str)(ds:FR)(f:Fn):Prop where
 ex:∃(fa:bp)(fd:eh)(ps:Bi)(gF:B2)(dV:List V),cX Pr w K mg base kH k fa fd ps (qW (ig P K Pr w) f)/\mg x=U (.ref fa)/\kK K (.ref fa)=O/\Binds K fd ps gF/\Vals dV gF/\∀al H,aE (ig P K Pr w) al H ds dV
def gB(h:aj f ds fl s=.ok (t,s')):∃ts s1 m',fl s=.ok (ts,s1)/\f (ts++ds) s1.m=.ok (t,m')/\s'={s1 with m:=m'}:=by
 revert h;refine abH λts s1 a=>λh=>?_;cases q:f _ s1.m with
 |ok r=>rw[q]at h;cases h;exact⟨ts,s1,r.2,a,q,J⟩
 |bad=>rw[q]at h;cases h
 |exc c fs s2=>rw[q]at h;cases h
def xm{Q:VK}(x:SR B g H σ s)(r:aE B g.al g.HF ts vs)(h:f ts s.m=.ok (t,m'))(k:∀v g' H',du g H g' H'->SR B g' H' σ {s with m:=m'}->Rep B g'.al g'.HF t v->Q v H'):qW B f vs H Q E:=
 ⟨g.ai,ts,s.m,t,m',x.st.ai,r,h,λv g' H' p y a=>let⟨p2,x2⟩:=x.back p y;k v _ H' p2 x2 a⟩
def s_call(D:į P X.prog X.w X.K X.mg X.base k x ds f)(hr:bD j X.A)(q:k<=j)(z:PA X (e::es)<|tA (P.kt X) fl)(u:Gl X x)(B:bB x)(hs:(e::es).all noStar=O) :
  PE X (.Call (.Name x p) (e::es) [] pos)<|tE (P.kt X)<|aj f ds fl:=by
 obtain⟨M,fd,ps,L,N,F,r,hk,y,hd,b⟩:=D.ex;rw[dO,bP]at hs;refine aV (uu F (hr.mono q) u r hk y hd kY z B (au hs.1)<|cY hs.2) λσ H Q a=>?_;obtain⟨g,s,t,s',x,h,k⟩:=a;obtain⟨ts,i,I,E,C,rfl⟩:=gB h;exact⟨g,s,ts,i,x,E,λG g1 H1 o d m=>xm d (m.app<|b ..) C λv g' H' n c l=>k v g' H' (o.trans n) c l⟩
def Mn(D:į P X.prog X.w X.K X.mg X.base k x ds f)(hr:bD j X.A)(i:k<=j)(m:Gl X x)(o:bB x) :
  PE X (.Call (.Name x p) [] [] pos)<|tE (P.kt X)<|aj f ds aT:=by
 obtain⟨C,fd,ps,B,u,F,l,hk,n,hd,b⟩:=D.ex;refine aV (GW F (hr.mono i) m l hk n hd kY o) λσ H Q a=>?_;obtain⟨g,s,t,s',x,h,k⟩:=a;obtain⟨ts,y,z,r,q,rfl⟩:=gB h;cases r;exact xm x (b ..) q λv g' H' e c d=>k v g' H' e c d
structure İ(P:Pg)(Pr:c4)(w:da)(K:bG)(mg:Str->D2)(base:eI)(k:Nat)(c:Nat)(m:Str)(f:Fn):Prop where
 ex:∃(C fa:bp)(fd:eh)(ps:Bi)(ns:Bi),iD (ig P K Pr w) c C ns/\qU K C/\Meth K C m fa/\cX Pr w K mg base kH k fa fd ps (qW (ig P K Pr w) f)/\Binds K fd ps []/\m∉ns
def Qq{ι:Type}{t:ι->TE}{t':TE}{C:ι->Prop}(h:∀i,C i->PE X e (t i))(k:∀σ H Q,t' σ H Q->∃i,C i/\t i σ H Q):PE X e t':=λc s σ H Q I q=>by
 obtain⟨i,b,a⟩:=k σ H Q q;exact h i b c s σ H Q I a
def xo(X:Cx)(o:cq)(m:Str)(bC:Pos)(es:Bz)(pos:Pos):Prop:=∃a,fu (.Call (.Attribute o m bC) es [] pos) X.env=(do
   let ov <- fu o X.env
   r4 bC.atName
   let(f,first) <- sg [ov] (vl ov m a)
   callWith pos f first (ij pos<|c5 es X.env) (pB pos<|mq [] X.env))
def xq(h:aG gm fo fl s=.ok (t,s')):∃tx s1 c f ts s2 m',fo s=.ok (tx,s1)/\((∃k ob,tx=.own k/\s1.m[k]?=U ob/\ob.c=c)\/∃fs,tx=.obj c fs)/\gm c=U f/\fl s1=.ok (ts,s2)/\f (tx::ts) s2.m=.ok (t,m')/\s'={s2 with m:=m'}:=by
 revert h;refine abH λtx s1 i=>λh=>?_;cases tx<;>try(cases h)
 .rename_i c fs
  revert h;refine abG λf g=>λh=>?_;obtain⟨j,s2,m',e,a,rfl⟩:=gB h;obtain⟨⟨ts,l⟩,d,b⟩:=aa e;cases b;rw[cJ]at a;exact⟨_,s1,c,f,ts,_,m',i,.inr ⟨fs,J⟩,ao g,d,a,J⟩
 .rename_i n
  revert h;refine abG λf g=>λh=>?_;obtain⟨ob,p,o⟩:=cj.mp<|ao g;obtain⟨j,s2,m',e,a,rfl⟩:=gB h;obtain⟨⟨ts,l⟩,d,b⟩:=aa e;cases b;rw[cJ]at a;exact⟨_,s1,ob.c,f,ts,_,m',i,.inl ⟨n,ob,J,p,J⟩,o,d,a,J⟩
def uG{C:bp}{c:Nat}{v:V}(x:SR B g H σ s)(d:iD B c C ns)(r:Rep B g.al g.HF tx v)(h:(∃k ob,tx=.own k/\s.m[k]?=U ob/\ob.c=c)\/∃fs,tx=.obj c fs):∃a dx vs,v=.ref a/\H a=U (.ins C dx<|ns.zip vs):=by
 rcases h with⟨k,ob,rfl,i,rfl⟩|⟨fs,rfl⟩
 .obtain⟨a,rfl,f⟩:=r
  rcases x.st.at_ k ob i with⟨j,o,dx,l,vs,Z⟩|⟨j,Z⟩
  case inr=>
   obtain⟨n,q,_⟩:=d;rw[Z.nc]at q;cases q
  have:=Z.al.symm.trans f
  cases this;obtain⟨rfl,rfl⟩:=Z.cl.eq d;exact⟨a,dx,vs,J,Z.h⟩
 .obtain⟨a,o,dx,l,vs,rfl,b,e,_⟩:=r
  obtain⟨rfl,rfl⟩:=b.eq d;exact⟨a,dx,vs,J,x.sub _ _ e⟩
def Tz{gm:Nat->Option Fn}(D:∀c f,gm c=U f->İ P X.prog X.w X.K X.mg X.base k c m f)(hr:bD j X.A)(R:k<=j)(S:PE X o<|tE (P.kt X) fo)(Z:PA X (e::es)<|tA (P.kt X) fl)(hs:(e::es).all noStar=O)(d:xo X o m bC (e::es) pos) :
  PE X (.Call (.Attribute o m bC) (e::es) [] pos)<|tE (P.kt X)<|aG gm fo fl:=by
 obtain⟨pl,d⟩:=d;rw[dO,bP]at hs;refine Qq (ι:=bp×Fn) (C:=λi=>∃c fa fd ps ns,iD (P.kt X) c i.1 ns/\gm c=U i.2/\qU X.K i.1/\Meth X.K _ m fa/\cX X.prog X.w X.K X.mg X.base kH k fa fd ps (qW (P.kt X) i.2)/\Binds X.K fd ps []/\m∉ns)
  (by rintro i ⟨c,fa,fd,ps,ns,n,_,cl,M,F,l,_⟩;exact Bf S cl M F (hr.mono R) l .nil kY Z (au hs.1) (cY hs.2) d) ?_
 rintro σ H Q ⟨g,s,t,s',x,h,k⟩
 obtain⟨tx,r,c,f,ts,s2,m',h1,W,z,h3,h4,rfl⟩:=xq h;obtain⟨C,fa,fd,ps,ns,n,cl,M,F,l,y⟩:=(D c f z).ex;refine⟨(C,f),⟨c,fa,fd,ps,ns,n,z,cl,M,F,l,y⟩,g,s,_,r,x,h1,λv g1 H1 N p u=>?_⟩;obtain⟨a,dx,vs,rfl,T⟩:=uG p n u W;refine⟨a,dx,_,J,T,jA y,g1,r,ts,s2,p,h3,λq g2 H2 b E I=>?_⟩;show qW _ _ _ H2 Q E0;rw[cJ];exact xm (ts:=tx::ts) E ⟨_,q,J,u.mv b.pre b.fr,I⟩ h4 λv g' H' L B G=>k v g' H' ((N.trans b).trans L) B G
def Mp{gm:Nat->Option Fn}(D:∀c f,gm c=U f->İ P X.prog X.w X.K X.mg X.base k c m f)(hr:bD j X.A)(G:k<=j)(I:PE X o<|tE (P.kt X) fo)(b:xo X o m bC [] pos) :
  PE X (.Call (.Attribute o m bC) [] [] pos)<|tE (P.kt X)<|aG gm fo aT:=by
 obtain⟨pl,b⟩:=b;refine Qq (ι:=bp×Fn) (C:=λi=>∃c fa fd ps ns,iD (P.kt X) c i.1 ns/\gm c=U i.2/\qU X.K i.1/\Meth X.K _ m fa/\cX X.prog X.w X.K X.mg X.base kH k fa fd ps (qW (P.kt X) i.2)/\Binds X.K fd ps []/\m∉ns)
  (by rintro i ⟨c,fa,fd,ps,ns,e,_,cl,M,F,d,_⟩;exact wA I cl M F (hr.mono G) d .nil kY b) ?_
 rintro σ H Q ⟨g,s,t,s',x,h,k⟩
 obtain⟨tx,u,c,f,ts,s2,W,T,N,q,S,R,rfl⟩:=xq h;cases S;obtain⟨C,fa,fd,ps,ns,e,cl,M,F,d,p⟩:=(D c f q).ex;refine⟨(C,f),⟨c,fa,fd,ps,ns,e,q,cl,M,F,d,p⟩,g,s,_,u,x,T,λv g1 H1 B l n=>?_⟩;obtain⟨a,V,vs,rfl,L⟩:=uG l e n N;exact⟨a,V,_,J,L,jA p,xm l (.one n) R λv g' H' z r y=>k v g' H' (B.trans z) r y⟩
def spI(C:bp)(ns:Bi):Sp:=λc H Q _=>∃x b a,c=.ref x::a/\a.length=Kk ns/\H x=U (.ins C b [])/\Q .non (upd H x<|.ins C b<|ns.zip a)
structure DnC(P:Pg)(Pr:c4)(w:da)(K:bG)(mg:Str->D2)(base:eI)(k:Nat)(c n:Nat)(x:Str):Prop where
 ex:∃(C fi:bp)(fd:eh)(ps:Bi)(ns:Bi),iD (ig P K Pr w) c C ns/\ns.length=n/\mg x=U (.ref C)/\Mk K C fi/\cX Pr w K mg base kH k fi fd ps (spI C ns)/\Binds K fd ps []
def uH{c:Nat}{C x dx:bp}(f:SR B g H σ s)(e:iD B c C ns)(d:Kk vs<=Kk ns)(r:aE B g.al g.HF ts vs)(nx:H x=Y)(nd:H dx=Y)(b:dx≠x) :
  ∃h:Gr g.HF H (upd (upd g.HF dx<|.own x) x<|.ins C dx<|ns.zip vs) (upd (upd H dx<|.own x) x<|.ins C dx<|ns.zip vs),Rep B g.al (upd (upd g.HF dx<|.own x) x<|.ins C dx<|ns.zip vs) (.obj c ts)<|.ref x:=by
 have g2:=Gr.new (o:=.own x) f.sub nd;have a:upd H dx (.own x) x=Y:=(aq<|f3 b)▸nx
 have g3:=Gr.new (o:=.ins C dx<|ns.zip vs) g2.sub a;exact⟨g2.trans g3,x,C,dx,ns,vs,J,e,ak,d,by rw[aq b,ak],r.same<|g2.fr.trans g3.fr⟩
def YQ{k j c n:Nat}(D:DnC P X.prog X.w X.K X.mg X.base k c n x)(hr:bD j X.A)(r:k+1<=j)(E:PA X (e::es)<|tA (P.kt X) fl)(z:Gl X x)(G:bB x)(hs:(e::es).all noStar=O) :
  PE X (.Call (.Name x p) (e::es) [] pos)<|tE (P.kt X)<|dR c n fl:=by
 obtain⟨C,f,fd,ps,ns,I,u,v,M,F,B⟩:=D.ex;rw[dO,bP]at hs;refine aV (om M F (hr.mono r) z v B .nil kY E G (au hs.1)<|cY hs.2) λσ H Q m=>?_;obtain⟨g,s,t,s',x,h,k⟩:=m;revert h;refine abH λts R L=>λh=>?_;split at h
 .rename_i y
  cases h;refine⟨g,s,ts,_,x,L,λb g1 H1 q a d x N nx nd o=>?_⟩;have l:Kk b=Kk ns:=by rw[<- d.len,y,u]
  refine⟨x,N,b++[],J,by rw[cJ,l],ak,J,?_⟩
  rw[cJ,ua];obtain⟨i,rp⟩:=uH a I (q_ l) d nx nd o;exact k _ _ _ (q.trans<|a.jW i) (a.grow i) rp
 .cases h
structure Mk0(K:bG)(C:bp):Prop where
 makes:vV K C=O
 init:fQ K (.ref C) "__init__" = U (U<|.builtin "object.__init__")
 kp:kK K (.ref C)=O
def aay(C:bp):TE:=λ_ H Q=>∀x a,H x=Y->H a=Y->a≠x->Q (.ref x) (upd (upd H a<|.own x) x<|.ins C a [])
open PySem.W in
def TH{C:bp}(M:Mk0 X.K C)(hg:Gl X x)(hm:X.mg x=U (.ref C))(h_:bB x:=by decide):PE X (.Call (.Name x p) [] [] pos)<|aay C:=by
 intro ae s σ H Q I h;refine f5<|f_ I hg hm ?_ h_;refine FI I.jg M.kp ?_;have hq:=h (s.heap.objs.size+1) s.heap.objs.size (I.bz.fresh<|vX _) (I.bz.fresh<|bL _)<|eM<|oW _;have I2:=Inv.made (C:=C) I;have KX:=I.jg;obtain⟨hh,g,d,t,os⟩:=s;apply ma;have a:=makes_of (M:=cx X.prog X.w) KX M.makes;refine make_core a (uj KX M.init) (λself=>Looks.of_pure<|oi_bind self) (.inr ⟨J,J⟩) ?_;have hz:(hh.push Ew).objs.size=hh.objs.size+1:=lx ..;have gt:((hh.push Ew).push<|instObj C hh.objs.size).get? (hh.objs.size+1)=U (instObj C hh.objs.size):=by
  rw[<- hz];exact c3 _ J
 have t1:Looks (cx X.prog X.w) ((hh.push Ew).push<|instObj C hh.objs.size) (G4<|.ref<|hh.objs.size+1)<|.ref C:=(Looks.ld gt).andThen .now;have t2:Looks (cx X.prog X.w) ((hh.push Ew).push<|instObj C hh.objs.size) (zQ (.ref<|hh.objs.size+1)<|.type "object") O:=t1.andThen<|a.top.keeps λb o e=>av _<|av _ e;refine kv oi_plain entry_oi<|@check_slot (cx X.prog X.w) _ _ _ "object.__init__" "object" "__init__" (.ref<|hh.objs.size+1) [] [] _ oi_kind oi_split t2 (oi_args<|.ref<|hh.objs.size+1) ?_;show cC _ _ (Builtin.«object.__init__» ⟨[Value.ref<|hh.objs.size+1],[]⟩) _ _ _;rw[oi_run];exact dv<|And.intro J ⟨V.ref<|hh.objs.size+1,_,I2,J,hq⟩
structure YS(P:Pg)(Pr:c4)(w:da)(K:bG)(mg:Str->D2)(c:Nat)(x:Str):Prop where
 ex:∃(C:bp)(ns:Bi),iD (ig P K Pr w) c C ns/\mg x=U (.ref C)/\Mk0 K C
def TJ{c:Nat}(D:YS P X.prog X.w X.K X.mg c x)(i:Gl X x)(j:bB x):PE X (.Call (.Name x p) [] [] pos)<|tE (P.kt X)<|dR c 0 aT:=by
 obtain⟨C,ns,l,f,M⟩:=D.ex;refine aV (TH M i f j) λσ H Q b=>?_;obtain⟨g,s,t,s',z,h,k⟩:=b;cases h;intro x m nx nd d;obtain⟨a,rp⟩:=uH (ts:=[]) z l (dz _) J nx nd d;have e:ns.zip ([]:List V)=[]:=Pp
 have:=k _ _ _ (z.jW a) (z.grow a) rp
 rw[e]at this;exact this
structure Walk(B:KT)(al:BM)(a:It)(HF:Hp)(ts:FR):Prop where
 go:∀i H,aR HF H->i<Kk ts->a.go i H
 yld:∀i H x H',aR HF H->i<Kk ts->a.yld i H x H'->∃t,ts[i]?=U t/\∀xu,aR HF xu->aR xu H->∃K5,Gr xu H K5 H'/\Rep B al K5 t x
 stop:∀i H,aR HF H->i=Kk ts->a.stop i H
def Ek(h:HF l=U (.lst vs))(r:aE B al HF ts vs):Walk B al (Ġ B.K l) HF ts:=by
 refine⟨λi H a b=>?_,λi H x H' a b y=>?_,λi H a b=>⟨vs,dW.of<|a _ _ h,by rw[b,r.len];simp⟩⟩
 .obtain⟨v,e,_⟩:=r.get<|dM b
  exact⟨vs,v,dW.of<|a _ _ h,e⟩
 .obtain⟨rfl,y⟩:=y
  have e:=y vs<|dW.of<|a _ _ h;obtain⟨t,g,f⟩:=r.zu e;exact⟨t,g,λc d s2=>⟨c,.refl s2,f.same d⟩⟩
def HM(h:kG B.K HF l vs)(r:aE B al HF ts vs):Walk B al (š B.K l) HF ts:=by
 refine⟨λi H a b=>?_,λi H x H' a b y=>?_,λi H a b=>⟨vs,bM a h,by rw[b,r.len];simp⟩⟩
 .obtain⟨v,e,_⟩:=r.get<|dM b
  exact⟨vs,v,bM a h,e⟩
 .obtain⟨rfl,y⟩:=y
  have e:=y vs<|bM a h;obtain⟨t,g,f⟩:=r.zu e;exact⟨t,g,λc d s2=>⟨c,.refl s2,f.same d⟩⟩
def lA(d:ħ j src λ_=>True)(r:aE B al HF ts src):Walk B al j HF ts:=by
 refine⟨λi H b a=>d.go i H trivial<|r.len▸a,λi H x H' b a y=>?_,λi H b a=>d.stop i H trivial<|r.len▸a⟩
 obtain⟨rfl,e⟩:=d.yld i H x H' trivial (r.len▸a) y
 obtain⟨t,h,g⟩:=r.zu e;exact⟨t,h,λc f s2=>⟨c,.refl s2,g.same f⟩⟩
theorem aE.lT(lo:Int)(n:Nat):aE B al H (D.lT lo n)<|(df n).map λk=>V.int<|lo+(k:Nat):=by
 have b:D.lT lo n=((df n).map λk=>lo+((k:Nat))).map T.int:=by rw[j5];rfl
 have a:((df n).map λk=>V.int<|lo+(k:Nat))=((df n).map λk=>lo+((k:Nat))).map V.int:=by rw[j5];rfl
 rw[b,a];exact aE.ints _
def HN(a:Int)(n:Nat):ħ (Ž a n) ((df n).map λk=>V.int<|a-(k:Nat)) λ_=>True:=
 ⟨λi H _ h=>by rw[cH,lS]at h;exact h,
  λi H x H' _ a y=>by
  obtain⟨e,ex⟩:=y;refine⟨e,?_⟩;have a:=by rw[cH,lS]at a;exact a
  rw[eQ,Ga a,ex];rfl,
  λi H _ h=>by rw[cH,lS]at h;exact q_ h.symm⟩
def aE.dwn(a:Int)(n:Nat):aE B al H ((df n).map λk=>T.int<|a-(k:Nat))<|(df n).map λk=>V.int<|a-(k:Nat):=by
 have c:((df n).map λk=>T.int<|a-(k:Nat))=((df n).map λk=>a-((k:Nat))).map T.int:=by rw[j5];rfl
 have b:((df n).map λk=>V.int<|a-(k:Nat))=((df n).map λk=>a-((k:Nat))).map V.int:=by rw[j5];rfl
 rw[c,b];exact aE.ints _
structure Sets(B:KT)(al:BM)(HF:Hp)(S:B1)(σ σ':St)(ρ ρ':FC):Prop where
 len:σ'.length=σ.length
 lenR:ρ'.length=ρ.length
 off:∀(i:Nat),i∉S->σ'[i]?=σ[i]?/\ρ'[i]?=ρ[i]?
 on:∀(i:Nat),i∈S->i<ρ.length->∃(t:T)(v:V),ρ'[i]?=U (U<|.val t)/\σ'[i]?=U (U v)/\Rep B al HF t v
structure rH(B:KT)(g:TG)(fg:FG)(S:B1):Prop where
 ok:∀(al:BM)(HF H:Hp)(σ:St)(ρ:FC)(t:T)(v:V)(ρ':FC)(Q:St->Hp->Prop),aR HF H->Rep B al HF t v->fg t ρ=U ρ'->ρ.length=σ.length->(∀σ',Sets B al HF S σ σ' ρ ρ'->Q σ' H)->g v σ H Q
def Sets.one{a:FC}{v:V}(d:Kk a=σ.length)(r:Rep B al HF t v):Sets B al HF [i] σ (σ.set i<|U v) a<|a.set i<|U<|.val t:=by
 refine⟨eS,eS,λj b=>?_,λj b c=>?_⟩
 .have:i≠j:=λe=>b (by simp[e])
  rw[eV this,eV this];simp
 .have:=by simpa using b
  subst this;exact⟨t,v,by rw[fR c],by rw[fR<|by lia],r⟩
def BQ(i:Nat):rH B (Ba i) (setG i) [i]:=⟨λal HF H σ c t v a Q d r h b q=>by
 cases h;exact q _<|.one b r⟩
def Sets.cons{B:KT}{al:BM}{HF:Hp}{i:Nat}{S:B1}{σ d:St}{g e:FC}{t:T}{v:V}(q:Kk g=σ.length)(r:Rep B al HF t v)(h:Sets B al HF S (σ.set i<|U v) d (g.set i<|U<|.val t) e):Sets B al HF (i::S) σ d g e:=by
 have o:=Sets.one (i:=i) q r;refine⟨h.len.trans o.len,h.lenR.trans o.lenR,λj f=>?_,λj f m=>?_⟩
 .obtain⟨l,k⟩:=h.off j λz=>f<|by simp[z]
  obtain⟨u,s⟩:=o.off j λz=>f<|by simp at z;simp[z]
  exact⟨l.trans u,k.trans s⟩
 .by_cases hs:j∈S
  .exact h.on j hs (by rw[eS];exact m)
  .obtain⟨l,k⟩:=h.off j hs
   obtain⟨p,n,a,b,c⟩:=o.on j (by rcases bH.mp f with z|z;exact(by simp[z]);exact dw z hs) m
   exact⟨p,n,k.trans a,l.trans b,c⟩
def pP:B1->PY
 |[]=>WN
 |i::is=>PZ (Ba i)<|pP is
theorem sO:∀(is:B1)(HF H:Hp)(σ:St)(c:FC)(ts:FR)(vs:List V)(a:FC)(Q:St->Hp->Prop),aR HF H->aE B al HF ts vs->Bu is ts c=U a->Kk c=σ.length->(∀b,Sets B al HF is σ b c a->Q b H)->pP is vs σ H Q
 |[],HF,H,σ,c,ts,vs,a,Q,e,r,h,d,q=>by
  cases ts with
  |cons t ts=>cases h
  |nil=>
   cases h;cases(r);exact⟨J,q _ ⟨J,J,λ_ _=>⟨J,J⟩,λi k=>by cases k⟩⟩
 |i::is,HF,H,σ,c,ts,vs,a,Q,e,r,h,d,q=>by
  cases ts with
  |nil=>cases h
  |cons t ts=>
   obtain⟨v,f,rfl,j,g⟩:=r;refine⟨v,f,J,?_⟩;exact sO is HF H _ _ ts f a Q e g h (by rw[eS,eS];exact d) λb s=>q b<|.cons d j s
def HP(is:B1)(g:Kk is=n:=by rfl):rH B (R8 B.K n<|pP is) (dc is) is:=⟨λal HF H σ c t v b Q e r h j q=>by
 cases t<;>try(cases h;done)
 .rename_i ts
  obtain⟨a,d,rfl,q1,r⟩:=r;have k:∀(is:B1)(ts:FR)(c:FC),Bu is ts c=U b->Kk is=Kk ts:=by
   intro is
   induction is with
   |nil=>intro ts c h;cases ts with
    |nil=>rfl
    |cons=>cases h
   |cons i is f=>intro ts c h;cases ts with
    |nil=>cases h
    |cons t ts=>simp[f ts _ h]
  exact⟨a,d,J,bM e q1,by rw[<- r.len,<- k _ _ _ h,g],sO is HF H σ c ts d b Q e r h j q⟩
⟩
theorem Walk.mv{al b:BM}{HF a:Hp}(w:Walk B al f HF ts)(p:al <+: b)(s:aR HF a):Walk B b f a ts:=
 ⟨λi H h=>w.go i H<|s.trans h,λi H x H' h e y=>let⟨t,h1,h2⟩:=w.yld i H x H' (s.trans h) e y;⟨t,h1,λc d s2=>let⟨K5,gr,r⟩:=h2 c (s.trans d) s2;⟨K5,gr,r.mv p<|aR.refl _⟩⟩,λi H h=>w.stop i H<|s.trans h⟩
inductive tI(B:KT)(f:FL)(σ:St)(H:Hp)(R:It->Hp->Prop):Prop where
 |mk g s ts s' (x:SR B g H σ s) (h:f s=.ok (ts,s')) (k:∀a g' H',du g H g' H'->SR B g' H' σ s'->Walk B g'.al a g'.HF ts->R a H')
def xw:PI X tg e<|tI B gy:=λ_ _ _ _ _ _ a=>by obtain⟨_,_,_,_,_,h,_⟩:=a;cases h
def Qs(h:PI X tg e t)(h':PI X tg e t'):PI X tg e λσ H R=>t σ H R\/t' σ H R:=λa s σ H R I q=>by
 rcases q with q|q
 .exact h a s σ H R I q
 .exact h' a s σ H R I q
def TL:T->Bool
 |.str _=>ZA
 |_=>O
def TM:T->FK
 |.str _=>Y
 |t=>Yc t
def Mq(a:FE):FL:=λs=>(a s).bind λp=>(bj<|TM p.1).bind λts=>.ok (ts,p.2)
def El{a:bp}{ns:Ee}(h:dW B.K HF a<|ns.map V.int):Walk B al (Ġ B.K a) HF<|ns.map T.int:=by
 refine⟨λi H c b=>?_,λi H x H' c b y=>?_,λi H c b=>⟨_,c.seq h,by rw[b,cH,cH];simp⟩⟩
 .rw[cH]at b
  exact⟨_,.int ns[i],c.seq h,by rw[eQ,dM b];rfl⟩
 . obtain⟨rfl,y⟩:=y;have e:=y _<|c.seq h;obtain⟨t,j,g⟩:=(aE.ints ns).zu e;exact⟨t,j,λd f s2=>⟨d,.refl s2,g.same f⟩⟩
def Qt(hB:B.K=X.K)(m:PE X e<|tE B fa):PI X tg e<|tI B<|Mq fa:=by
 refine nq (Qs (Lm m)<|Sd m) λσ H R n=>?_;obtain⟨g,s,t,s',x,h,k⟩:=n;revert h;refine abH λtx o j=>abG λts c=>λh=>?_;cases h;have b:=hB.symm;cases tx<;>try(cases c;done)
 .cases c
  refine .inr ⟨g,s,_,_,x,j,λv g1 H1 f a d=>?_⟩;obtain⟨l,i,rfl,q,r⟩:=d;refine⟨l,J,⟨i,hB▸bM a.sub q⟩,?_⟩;rw[b];exact k _ g1 H1 f a<|HM q r
 .cases c
  refine .inl ⟨g,s,_,_,x,j,λv g1 H1 f a d=>?_⟩;obtain⟨l,i,rfl,q,r⟩:=d;refine⟨l,J,⟨i,dW.of<|a.sub _ _ q⟩,?_⟩;rw[b];exact k _ g1 H1 f a<|Ek q r
 .cases c
  refine .inl ⟨g,s,_,_,x,j,λv g1 H1 f a d=>?_⟩;obtain⟨l,rfl,q⟩:=d;refine⟨l,J,⟨_,hB▸a.sub.seq q⟩,?_⟩;rw[b];exact k _ g1 H1 f a<|El q
def YT(hB:B.K=X.K)(b:PE X e<|tE B fa):PI X (.Name x j) e<|tI B<|jV fa:=by
 refine nq (Qs (Qt hB b)<|SE b) λσ H R d=>?_;obtain⟨g,s,t,s',z,h,k⟩:=d;revert h;refine abH λtx m c=>abG λts a=>λh=>?_;cases h;by_cases hs:TL tx=O
 .refine .inl ⟨g,s,t,_,z,?_,k⟩
  unfold Mq;rw[c];show(bj _).bind _=_;have e:TM tx=Yc tx:=by cases tx<;>first|rfl|(cases hs)
  rw[e,a];rfl
 .cases tx<;>first|(exact dw J hs)|skip
  cases a;refine .inr ⟨g,s,_,_,z,c,λv g1 H1 l f i=>?_⟩;obtain⟨rfl,n⟩:=i;exact⟨_,J,k _ g1 H1 l f<|lA (LS _)<|aE.signs _⟩
def HQ(m:Gl X "range")(l:X.mg "range" = Y)(n:PE X a<|tE B fa)(hs:noStar a=O):PI X tg (.Call (.Name "range" p) [a] [] pos)<|tI B<|Fg zt<|bq fa aT:=by
 have d:c5 [a] X.env=[(ZA,fu a X.env)]:=au hs;refine nq (DR m l (aW n cT d) d) λσ H R e=>?_;obtain⟨g,s,t,s',x,h,k⟩:=e;revert h;refine abH λts r c=>abG λq b=>λh=>?_;cases h;revert c;refine abH λtx s2 o=>λc=>?_;cases c;have b:=ao b;cases tx<;>try(cases b;done)
 obtain⟨z,rfl⟩:=bo b;refine⟨g,s,_,_,x,o,λv g1 H1 j f i=>?_⟩;cases i;exact⟨_,J,by lia,by lia,k _ g1 H1 j f<|lA (sD 0 _)<|aE.lT 0 _⟩
def HR{a b:T}(h:zt [a,b]=U us):∃i j,a=.int i/\b=.int j/\(i<1000000/\-1000000<i/\j<1000000/\-1000000<j)/\lT i (j-i).toNat=us:=by
 cases a<;>try(cases h)
 cases b<;>try(cases h)
 obtain⟨z,e⟩:=bo h;exact⟨_,_,J,J,z,e⟩
def HU(z:Gl X "range")(y:X.mg "range" = Y)(C:PE X a<|tE B fa)(A:PE X b<|tE B fb)(hs:noStar a=O)(hs':noStar b=O):PI X tg (.Call (.Name "range" p) [a,b] [] pos)<|tI B<|Fg zt<|bq fa<|bq fb aT:=by
 have d:c5 [b] X.env=[(ZA,fu b X.env)]:=au hs';have c:c5 [a,b] X.env=[(ZA,fu a X.env),(ZA,fu b X.env)]:=by rw[au hs,d]
 refine nq (DS z y (aW C (aW A cT d)<|by rw[c,d]) c d) λσ H R l=>?_
 obtain⟨g,s,t,s',x,h,k⟩:=l;revert h;refine abH λts T f=>abG λN F=>λh=>?_;cases h;revert f;refine abH λtx s2 E=>abH λty S e=>λf=>?_;cases f;revert e;refine abH λP Q D=>λe=>?_;cases e;obtain⟨i,j,rfl,rfl,⟨M,L,K,I⟩,rfl⟩:=HR<|ao F;refine⟨g,s,_,_,x,E,λv g1 H1 u n q=>⟨g1,_,_,_,n,D,λw g2 G r m o=>?_⟩⟩;cases q;cases o;exact⟨_,_,J,⟨by lia,by lia,by lia,by lia⟩,k _ g2 G (u.trans r) m<|lA (sD _ _)<|aE.lT _ _⟩
def pJ.sets{a:St}(x:pJ B g H σ r)(d:al=g.al)(t:Sets B al g.HF k σ a r j):pJ B g H a j:=by
 subst d;refine⟨by rw[t.lenR,t.len];exact x.len,λi c h=>?_⟩
 by_cases hi:i∈k
 .have m:i<Kk r:=t.lenR▸(dq.mp h).1
  obtain⟨u,v,b,f,e⟩:=t.on i hi m;rw[h]at b;cases b;exact⟨v,f,e⟩
 .obtain⟨b,f⟩:=t.off i hi
  rw[f]at h;obtain⟨v,e,l⟩:=x.at_ i c h;exact⟨v,b.trans e,l⟩
def zM{S:B1}{c:St}{g f:FC}(l:∀i∈S,i<k)(s:Sets B al HF S (dH k js σ) c g f):dQ (dH k js σ) c:=by
 have gen:∀(a b:St),Kk a=Kk b->(∀(i:Nat)(v:V),a[i]?=U (U v)->b[i]?=U (U v))->dQ a b:=by
  intro a
  induction a with
  |nil=>intro b d _;cases b with
   |nil=>trivial
   |cons=>cases d
  |cons x a j=>intro b d h;cases b with
   |nil=>cases d
   |cons y b=>
    have hr:=j b (by simpa using d) λi v e=>by simpa using h (i+1) v (by simpa using e)
    cases x with
    |none=>exact hr
    |some v=>
     have:=h 0 v J
     simp at this;subst this;exact⟨J,hr⟩
 refine gen _ _ s.len.symm λi v e=>?_;by_cases hi:i∈S
 .have hk:=l i hi
  unfold dH at e;rw[jP<|vZ▸hk,yS,bt hk]at e
  lia
 .rw[(s.off i hi).1];exact e
section
variable{js S':B1}{j elt:cq}
theorem SR.kg:∀(js:B1){g:G}{s:S},SR B g H σ s->∃g',du g H g' H/\SR B g' H σ {s with r:=kg js s.r}
 |[],g,s,x=>⟨g,.refl,x⟩
 |j::js,g,s,x=>by
  show ∃g',du g H g' H/\SR B g' H σ {s with r:=D.kg js (L7 s.r j)}
  have one:∃g1,du g H g1 H/\SR B g1 H σ {s with r:=L7 s.r j}:=by
   unfold L7;split
   .rename_i ts h
    obtain⟨g1,v,p,y,_⟩:=x.iy h;exact⟨g1,p,y⟩
   .exact⟨g,.refl,x⟩
  obtain⟨g1,d,b⟩:=one;obtain⟨g2,c,a⟩:=SR.kg js b;exact⟨g2,d.trans c,a⟩
def pJ.block(x:pJ B g H σ r)(k:Nat)(js:B1):pJ B g.ai H (dH k js σ)<|jz k js r:=by
 refine⟨by unfold jz dH;simp,λi c h=>?_⟩
 unfold jz at h;unfold dH;by_cases hi:i<k
 .rw[jP<|by simpa using hi,yS,bt hi]at h
  cases h
 .rw[iw<|by simpa using hi,vZ,eQ]at h
  rw[iw<|by simpa using hi,vZ,eQ]
  cases a:js[i-k]? with
  |none=>rw[a]at h;cases h
  |some j=>
   rw[a]at h;have h:(match r[j]? with|U<|U<|.val t=>U<|C.val t|_=>Y)=U c:=by injection h
   split at h
   .rename_i t hr
    cases h;obtain⟨v,d,b⟩:=x.at_ j _ hr;exact⟨v,by show U ((σ[j]?).join)=_;rw[d];rfl,b⟩
   .cases h
def SR.TN(x:SR B g H σ s)(j:g.HF D=Y)(f:g.o D=Y)(k:∃w,H D=U w):SR B g (upd H D u) σ s:=by
 have ne:∀b p,g.o b=U p->b≠D:=λb p e z=>by lia
 refine⟨x.st.mv (λb w e=>?_) (λb p e=>?_) (aR.refl _) J λl p h _=>⟨h,aq<|ne l p h⟩,x.lc.len,λi c e=>?_⟩
 .have:b≠D:=λz=>by lia
  rw[aq this];exact x.sub _ _ e
 .obtain⟨d,w,a⟩:=x.st.live b p e
  exact⟨d,w,(aq<|ne b p e)▸a⟩
 .obtain⟨v,d,a⟩:=x.lc.at_ i c e
  exact⟨v,d,bI.mv (aR.refl _) e_ (λl h=>⟨h,aq<|ne l _ h⟩) a⟩
def du.TN(p:du g H g1 H1)(a:H D=Y):du g H g1<|upd H1 D u:=
 ⟨p.fr,p.pre,λb w h n z=>by
  have:=aS h a
  rw[aq this];exact p.rest b w h n z,λb h=>by
  by_cases hb:b=D
  .subst hb;exact a
  .rw[aq hb]at h;exact p.there b h⟩
def YU:KZ X []<|tT B fj:=λa s σ H Q I z=>by
 obtain⟨g,st,t,s',x,h,k⟩:=z;cases h;exact LL a s σ H Q I<|k g H .refl x
def YV(h:PT X c<|tT B ft):KZ X [c]<|tT B ft:=LP h
def zN(Fp:rH B gt fg S')(hS:∀i∈S',i<k):∀σ H Q,tO B (dh rY k js fg ft fe) σ H Q->tComp (tI B rY) k js gt (tT B ft) (tE B fe) σ H Q:=by
 rintro σ H Q ⟨g,s,ys,s',x,h,kk⟩
 revert h;refine abH λxs M h1=>λh=>?_;split at h
 case isFalse=>cases h
 revert h;refine abH λrs mm h2=>λh=>?_;cases h;unfold tComp;refine⟨g,s,xs,M,x,h1,λqD g1 H1 p1 x1 wk D E=>?_⟩;obtain⟨g2,p2,L⟩:=x1.kg js;have wk:=wk.mv p2.pre p2.fr;obtain⟨b,hb⟩:∃b,b=jz k js (_root_.D.kg js M.r):=⟨_,J⟩;rw[<- hb]at h2;have A:=p1.trans p2;have hD0:=A.there D E;have nD:∀{I:G}{ss:S},SR B I H1 σ ss->I.HF D=Y/\I.o D=Y:=λ{I ss} x=>⟨x.sub.free E,by
  cases q:I.o D with
  |none=>rfl
  |some p=>obtain⟨_,u,z⟩:=x.st.live D p q;rw[E]at z;cases z⟩
 obtain⟨f2,o2⟩:=nD L;obtain⟨F,_,_⟩:=mw L E;refine⟨λi m zs d=>m=Kk xs-i/\i<=Kk xs/\∃g3 m3 done rest,du g2 H1 g3 d/\SR B g3 d σ ⟨_root_.D.kg js M.r,m3⟩/\g3.HF D=Y/\g3.o D=Y/\d D=U (.lst zs)/\aE B g3.al g3.HF done zs/\done.length<=i/\bu fg ft fe b (xs.drop i) m3=.ok (rest,mm)/\rs=done++rest,
  ⟨Kk xs,by simp,dz _,g2.grow g2.HF,M.m,[],rs,L.jW F,L.grow F,f2,o2,ak,J,bL _,by exact h2,J⟩,?_⟩
 rintro i m zs d ⟨rfl,hi,g3,m3,done,rest,l,a,T,o3,P,rd,C,hr,rfl⟩
 by_cases fq:i<Kk xs
 .have w:=l.fr.trans a.sub
  refine .inr ⟨wk.go i d w fq,λv H3 y=>?_⟩;obtain⟨t,ht,y2⟩:=wk.yld i d v H3 w fq y;obtain⟨K,j,rx⟩:=y2 g3.HF l.fr a.sub;have YX:xs.drop i=t::xs.drop (i+1):=by
   obtain⟨hh,e⟩:=dq.mp ht;rw[Gh hh,e]
  rw[YX]at hr;revert hr;refine abG λb1 q1=>abH λc Z q2=>λhr=>?_;have n:=a.grow j;have p4:=l.trans<|a.jW j;have eb:=n.lc.block k js;rw[<- hb]at eb;refine Fp.ok g3.al K H3 _ _ t v b1 _ n.sub (rx.mv l.pre<|aR.refl _) (ao q1) eb.len λV Ln=>⟨zM hS Ln,?_⟩;have xb:SR B _ H3 V ⟨b1,m3⟩:=⟨n.st.ai,eb.sets J Ln⟩;refine⟨(g3.grow K).ai,⟨b1,m3⟩,c,Z,xb,q2,λg6 H6 p6 x6=>?_⟩;cases c with
  |true=>
   revert hr;refine abH λy' s7 q3=>abH λW m8 q4=>λhr=>?_;cases hr;refine nQ ⟨g6,Z,y',s7,x6,q3,λv7 g7 H7 p7 x7 r7=>?_⟩;obtain⟨f,X⟩:=n.back (p6.trans p7) x7.st;have p8:=p4.trans f;obtain⟨ı,R,N⟩:=(a.jW j |>.trans f).rest D _ P T o3;have hzl:Kk zs<cw:=by rw[<- rd.len,et];lia
   refine⟨ı,hzl,Kk xs-(i+1),AR fq<|oW i,J,fq,G.back _ g7,s7.m,done++[y'],W,p8.TN E,X.TN R N ⟨_,ı⟩,R,N,ak,?_,by simp;exact C,q4,by simp⟩
   have st:=(a.jW j).trans f;exact(rd.mv st.pre st.fr).app<|.one r7
  |false=>
   obtain⟨f,X⟩:=n.back p6 x6.st;obtain⟨ı,R,N⟩:=(a.jW j |>.trans f).rest D _ P T o3;have st:=(a.jW j).trans f;exact nP ⟨Kk xs-(i+1),AR fq<|oW i,J,fq,G.back _ g6,Z.m,done,rest,p4.trans f,X,R,N,ı,rd.mv st.pre st.fr,c_ C<|bx ..,hr,J⟩
 .have e:=F0 hi<|AQ fq
  subst e;rw[Gi]at hr;cases hr;rw[cJ]at kk;exact .inl ⟨wk.stop _ d (l.fr.trans a.sub) J,kk D zs g3 d (A.trans l) a hD0 T o3 P rd⟩
def TR(ls:Bi)(e:X.calm=O)(g:gP X scope)(F:gq X scope js fs)(c:PI X tg j<|tI B rY)(d:∀cl C a s H,PG (X.block (ls++fs) scope cl C a s H) tg gt)(h:rH B gt fg S')
  (b:∀cl C a s H,KZ (X.block (ls++fs) scope cl C a s H) t<|tT B ft) (he:∀cl C a s H,PE (X.block (ls++fs) scope cl C a s H) elt<|tE B fe)
  (f:∀i∈S',i<Kk ls) (hs:∀x,fC j X.env x=pure x):PE X (.ListComp elt [⟨tg,j,t,0⟩] scope pos)<|tO B<|dh rY ls.length js fg ft fe:=
 aV (LQ ls e g F c d b he hs)<|zN h f
end
def zP(B:KT)(g:G)(H:Hp)(D:Ends):Out->S->Prop
 |.nx,s'=>∀a g' H',du g H g' H'->SR B g' H' a s'->D.nx a H'
 |.rt t,s'=>∀v g' H',du g H g' H'->ez B g' H' s'.m->Rep B g'.al g'.HF t v->D.rt v H'
 |.bk,s'=>∀a g' H',du g H g' H'->SR B g' H' a s'->D.bk a H'
 |.ct,s'=>∀a g' H',du g H g' H'->SR B g' H' a s'->D.ct a H'
inductive tS(B:KT)(f:FS)(D:Ends)(σ:St)(H:Hp):Prop where
 |mk g s o s' (x:SR B g H σ s) (h:f s=.ok (o,s')) (k:zP B g H D o s')
section
variable{cL j:Pos}{H1:Hp}{g1:G}{F u:FS}{st:f7}{rest d:Fh}{i:Nat}
def zP.mv{o:Out}(k:zP B g H D o s')(p:du g H g1 H1):zP B g1 H1 D o s':=by
 cases o with
 |nx=>exact λa g' H' q x=>k a g' H' (p.trans q) x
 |rt t=>exact λv g' H' q x r=>k v g' H' (p.trans q) x r
 |bk=>exact λa g' H' q x=>k a g' H' (p.trans q) x
 |ct=>exact λa g' H' q x=>k a g' H' (p.trans q) x
def YY:gM X d<|tS B b9:=λ_ _ _ _ _ _ a=>by obtain⟨_,_,_,_,_,h,_⟩:=a;cases h
def dj:PS X st<|tS B b9:=λ_ _ _ _ _ _ a=>by obtain⟨_,_,_,_,_,h,_⟩:=a;cases h
def YZ:gM X []<|tS B aL:=uC oi λD σ H z=>by
 obtain⟨g,s,o,s',x,h,k⟩:=z;cases h;exact k σ g H .refl x
def TU(f:PS X st<|tS B F)(e:gM X rest<|tS B u):gM X (st::rest)<|tS B<|ah F u:=uC (kQ f e) λD σ H z=>by
 obtain⟨g,s,o,s',x,h,k⟩:=z;revert h;refine abH λo1 a i=>λh=>?_;refine⟨g,s,o1,a,x,i,?_⟩;cases o1 with
 |nx=>exact λb g1 H1 d c=>⟨g1,a,o,s',c,h,k.mv d⟩
 |rt t=>cases h;exact k
 |bk=>cases h;exact k
 |ct=>cases h;exact k
def Y0(h:PS X st<|tS B F):gM X [st]<|tS B F:=kR h
def TV:PS X (.Pass pos)<|tS B aL:=cA Lj λD σ H z=>by
 obtain⟨g,s,o,s',x,h,k⟩:=z;cases h;exact k σ g H .refl x
def Qu(m:X.N.Nodup)(j:X.N[i]?=U x)(f:Loc X.env.scope x)(he:PE X e<|tE B fa)(hs:fv e (U<|.Name x cL) pos.line X.env=pure ZA)(l:J2 X x) :
  PS X (.Assign [.Name x cL] e pos)<|tS B<|aH i fa:=cA (lX m j f he hs l) λD σ H z=>by
 obtain⟨g,s,o,s',x,h,k⟩:=z;revert h;refine abH λt b n=>λh=>?_;cases h;exact⟨g,s,t,b,x,n,λv g1 H1 d a c=>k _ g1 H1 d<|a.set c⟩
def BR(k:zP B g H D .nx<|jT s1 i<|.ol ts)(d:du g H g1 H1)(x1:SR B g1 H1 σ s1)(f:H l=Y)(n1:g1.HF l=Y)(n2:g1.o l=Y)(e:H1 l=U (.lst vs))(r:aE B g1.al g1.HF ts vs):D.nx (σ.set i<|U<|.ref l) H1:=by
 refine k _ (g1.own l _) H1 ⟨d.fr,d.pre,λb u h n z=>?_,d.there⟩<|x1.own n2 n1 e r;obtain⟨a,j,c⟩:=d.rest b u h n z
 have:=aS h f
 exact⟨a,j,by show(if b=l then U _ else g1.o b)=Y;rw[b0 this];exact c⟩
def Qv(n:X.N.Nodup)(j:X.N[i]?=U x)(d:Loc X.env.scope x)(he:PE X e<|tO B fl)(hs:fv e (U<|.Name x cL) pos.line X.env=pure ZA)(m:J2 X x) :
  PS X (.Assign [.Name x cL] e pos)<|tS B<|iC i fl:=cA (lX n j d he hs m) λD σ H z=>by
 obtain⟨g,s,o,s',x,h,k⟩:=z;revert h;refine abH λts b q=>λh=>?_;cases h;exact⟨g,s,ts,b,x,q,λl t g1 H1 c a p n1 n2 f r=>BR k c a p n1 n2 f r⟩
section
variable{js S:B1}
def TY(ls:Bi)(A:X.calm=O)(F:X.N.Nodup)(w:X.N[i]?=U x)(u:Loc X.env.scope x)(G:gP X scope)(Fr:gq X scope js fs)(a:PI X tg Q<|tI B M)(y:∀cl C b s H,PG (X.block (ls++fs) scope cl C b s H) tg gt)(K:rH B gt R S)
  (v:∀cl C b s H,KZ (X.block (ls++fs) scope cl C b s H) L<|tT B ft) (he:∀cl C b s H,PE (X.block (ls++fs) scope cl C b s H) elt<|tE B fe)
  (E:∀i∈S,i<Kk ls) (hs:∀x,fC Q X.env x=pure x) (z:J2 X x)
  (I:fv (.ListComp elt [⟨tg,Q,L,0⟩] scope ba) (U<|.Name x cL) pos.line X.env=pure O) :
  PS X (.Assign [.Name x cL] (.ListComp elt [⟨tg,Q,L,0⟩] scope ba) pos) (tS B<|iC i<|dh M ls.length js R ft fe) /\
  PS X (.Assign [.Name x cL] (.ListComp elt [⟨tg,Q,L,0⟩] scope ba) pos) (tS B<|aH i<|eW<|dh M ls.length js R ft fe):=by
 constructor
 .refine cA (Bo ls A F w u G Fr a y v he hs z I) λD σ H c=>?_
  obtain⟨g,s,o,s',x,h,k⟩:=c;revert h;refine abH λts f p=>λh=>?_;cases h;exact zN K E σ H _ ⟨g,s,ts,f,x,p,λl e g1 H1 j d n n1 n2 m r=>BR k j d n n1 n2 m r⟩
 .refine cA (Bo ls A F w u G Fr a y v he hs z I) λD σ H c=>?_
  obtain⟨g,s,o,s',x,h,k⟩:=c;revert h;refine abH λt s2 q=>λh=>?_;revert q;refine abH λts f p=>λq=>?_;cases q;cases h;exact zN K E σ H _ ⟨g,s,ts,f,x,p,λl e g1 H1 j d n n1 n2 m r=>k _ _ H1 (j.zE n n1)<|(d.zE n1 n2 m).set ⟨l,e,J,ak,r.same<|bg n1⟩⟩
end
def Y3{gt:TG}{d:FG}{u:B1}(he:PE X e<|tE B fa)(m:PG X tg gt)(w:rH B gt d u)(hs:swapsWithSole [tg] e pos.line X.env=pure ZA)(l:tc [tg] e X.env=pure Y)
  (n:(jb [tg] X.env).map (·.2)=[tq tg X.env]):PS X (.Assign [tg] e pos)<|tS B<|nU d fa:=cA (GN he m hs l n) λD σ H z=>by
 obtain⟨g,s,o,s',x,h,k⟩:=z;revert h;refine abH λt c q=>abG λi p=>λh=>?_;cases h;exact⟨g,s,t,c,x,q,λv g1 H1 j a f=>w.ok g1.al g1.HF H1 σ c.r t v i _ a.sub f (ao p) a.lc.len λb st=>k b g1 H1 j ⟨a.st,a.lc.sets J st⟩⟩
def Y4(he:PE X e<|tE B fa):PS X (.Return (U e) pos)<|tS B<|aD fa:=cA (GI he) λD σ H z=>by
 obtain⟨g,s,o,s',x,h,k⟩:=z;revert h;refine abH λt b f=>λh=>?_;cases h;exact⟨g,s,t,b,x,f,λv g1 H1 d a c=>k v g1 H1 d a.st c⟩
def TZ:PS X (.Return Y pos)<|tS B<|aD<|cF .non:=cA Lk λD σ H z=>by
 obtain⟨g,s,o,s',x,h,k⟩:=z;cases h;exact k _ g H .refl x.st J
def T_(he:PE X e<|tE B fa)(hs:fv e Y pos.line X.env=pure ZA):PS X (.Expr e pos)<|tS B<|aQ fa:=cA (iP he hs) λD σ H z=>by
 obtain⟨g,s,o,s',x,h,k⟩:=z;revert h;refine abH λt b d=>λh=>?_;cases h;exact⟨g,s,t,b,x,d,λv g1 H1 c a f=>k σ g1 H1 c a⟩
def aaz{A f:Fh}(i:PT X c<|tT B ft)(l:gM X A<|tS B F)(j:gM X f<|tS B u):PS X (.If c A f pos)<|tS B<|aZ ft F u:=cA (GJ i l j) λD σ H z=>by
 obtain⟨g,s,o,s',x,h,k⟩:=z;revert h;refine abH λd a m=>λh=>?_;refine⟨g,s,d,a,x,m,λg1 H1 e b=>?_⟩;cases d with
 |true=>exact nQ ⟨g1,a,o,s',b,h,k.mv e⟩
 |false=>exact nP ⟨g1,a,o,s',b,h,k.mv e⟩
def ef{r:FC}(h:mj r[i]?=U ts):r[i]?=U (U<|.ol ts):=by
 unfold mj at h;split at h
 .rename_i a;cases h;exact a
 .cases h
def SR.nX(x:SR B g H σ s)(h:s.r[i]?=U (U<|.ol ts)):∃l vs,σ[i]?=U (U<|.ref l)/\g.o l=U (.loc i)/\H l=U (.lst vs)/\aE B g.al g.HF ts vs:=by
 obtain⟨v,d,l,vs,rfl,c,b,a⟩:=x.lc.at_ i _ h;exact⟨l,vs,d,c,b,a⟩
def Y5(he:PE X e<|tE B fa)(G:X.N[i]?=U y)(E:mX X.env.scope y)(hd:bB y)(C:f9 y)(hs:noStar e=O)(I:(bC.endLine == ba.line)=O) :
  PS X (.Expr (.Call (.Attribute (.Name y py) "append" bC) [e] [] ba) pos)<|tS B<|fU i fa:=by
 refine cA (iP (wF hJ oT oP jJ (cK G E hd C) (aW he cT<|au hs) (fM J) (Ed (by rw[dO,hs];rfl)<|by decide) I (au hs) J) J) λD σ H f=>?_
 obtain⟨g,s,o,s',x,h,k⟩:=f;revert h;refine abG λS P=>abH λt q M=>abG λts L=>abG λR K=>λh=>?_;obtain⟨z,rfl⟩:=bo<|ao K;cases h;obtain⟨l0,n,q1,q2,u,q4⟩:=x.nX<|ef<|ao P;refine⟨_,q1,.inl ⟨J,_,dW.of u⟩,g,s,t,q,x,M,λv g1 H1 A a r=>?_⟩;have d:=ef<|ao L;obtain⟨l,p,c,Q,m,b⟩:=a.nX d;rw[q1]at c;cases c;obtain⟨j,w⟩:=a.chg d q1<|b.app<|.one r;exact⟨l0,p,v,J,J,m,b.len▸fB z<|by decide,k σ g1 _ (A.trans w) j⟩
def Y6{d:cq}(hc:X.calm=O)(hi:PI X tg d<|tI B fl)(hg:PG X tg gt)(Fp:rH B gt M S')(hb:gM X l<|tS B F)(hp:n9 (cx X.prog X.w) X.A X.env X.xe)
  (hs:∀x,fC d X.env x=pure x):PS X (.For tg d l [] pos)<|tS B<|dD fl M F:=by
 refine cA (GO hp hc hi hg hb hs) λD σ H zz=>?_;obtain⟨g,s,o,s',x,h,k⟩:=zz;revert h;refine abH λxs R e1=>λh=>?_;refine⟨g,s,xs,R,x,e1,λqD g1 H1 P x1 wk=>?_⟩;refine⟨λi m f u=>m=Kk xs-i/\i<=Kk xs/\∃g2 s2,du g1 H1 g2 u/\SR B g2 u f s2/\aX M F (xs.drop i) s2=.ok _,
  ⟨Kk xs,by simp,dz _,g1,R,.refl,x1,by exact h⟩,?_⟩
 rintro i m f u ⟨rfl,Ī,g2,s2,E,C,j⟩
 have Q:=E.fr.trans C.sub;by_cases fq:i<Kk xs
 .have hx:=dM fq
  rw[Gh fq]at j;revert j;refine abG λS q1=>abH λT N q2=>λj=>?_;refine .inr ⟨wk.go i u Q fq,λz H'=>∃g' K,du g1 H1 g' H'/\SR B g' H' z K/\aX M F _ K=.ok _,
   by rintro z H' ⟨g',K,a,b,c⟩;exact⟨Kk xs-(i+1),AR fq<|oW i,J,fq,g',K,a,b,c⟩,λv H3 y=>?_⟩
  obtain⟨t,V,y2⟩:=wk.yld i u v H3 Q fq y;rw[hx]at V;cases V;obtain⟨Z,W,rx⟩:=y2 g2.HF E.fr C.sub;have I:=C.grow W;have L:=E.trans<|C.jW W;refine Fp.ok g2.al Z H3 f s2.r _ v S _ I.sub (rx.mv E.pre<|aR.refl _) (ao q1) I.lc.len λσ4 st=>⟨g2.grow Z,⟨S,s2.m⟩,T,N,⟨I.st,I.lc.sets J st⟩,q2,?_⟩;cases T with
  |nx=>exact λn g5 G q p=>⟨g5,N,L.trans q,p,j⟩
  |ct=>exact λn g5 G q p=>⟨g5,N,L.trans q,p,j⟩
  |bk=>
   cases j;exact λn g5 G q p=>k n g5 G ((P.trans L).trans q) p
  |rt t=>
   cases j;exact λv g5 G q p r=>k v g5 G ((P.trans L).trans q) p r
 .have e:=F0 Ī<|AQ fq
  subst e;rw[Gi]at j;cases j;exact .inl ⟨wk.stop _ u Q J,k f g2 u (P.trans E) C⟩
def Mr(n:Nat)(R:PT X c<|tT B ft)(S:gM X f<|tS B F)(Q:n9 (cx X.prog X.w) X.A X.env X.xe):PS X (.While c f [] pos)<|tS B<|ie n ft F:=by
 refine cA (wo Q R S) λD σ H N=>?_;obtain⟨g,s,o,s',x,h,k⟩:=N;refine⟨λm j E=>∃g2 s2,du g H g2 E/\SR B g2 E j s2/\bU ft F m s2=.ok _,⟨n,g,s,.refl,x,h⟩,?_⟩
 rintro m j E ⟨g2,s2,L,P,e⟩
 cases m with
 |zero=>cases e
 |succ m=>
  revert e;refine abH λd I q1=>λe=>?_;refine⟨g2,s2,d,I,P,q1,λg3 T K G=>?_⟩;cases d with
  |false=>
   cases e;exact nP<|k j g3 T (L.trans K) G
  |true=>
   revert e;refine abH λM C q2=>λe=>?_;refine nQ ⟨λq H'=>∃g' y,du g H g' H'/\SR B g' H' q y/\bU ft F m y=.ok _,by rintro q H' ⟨g',y,a,b,c⟩;exact⟨m,oW m,g',y,a,b,c⟩,?_⟩
   refine⟨g3,I,M,C,G,q2,?_⟩;have z:=L.trans K;cases M with
   |nx=>exact λi g5 u p l=>⟨g5,C,z.trans p,l,e⟩
   |ct=>exact λi g5 u p l=>⟨g5,C,z.trans p,l,e⟩
   |bk=>
    cases e;exact λi g5 u p l=>k i g5 u (z.trans p) l
   |rt t=>
    cases e;exact λv g5 u p l r=>k v g5 u (z.trans p) l r
end
section
def mD(r:aE B g.al g.HF ts vs):pJ B g H (L2.start N vs)<|ts.map (λt=>U<|C.val t)++cR (Kk N-Kk ts) Y:=by
 refine⟨by unfold L2.start;simp[r.len],λi c h=>?_⟩
 by_cases hi:i<Kk ts
 .rw[jP<|by simpa using hi,eQ,dM hi]at h
  cases h;obtain⟨v,b,a⟩:=r.get<|dM hi;refine⟨v,?_,a⟩;unfold L2.start;rw[jP<|by rw[cH,<- r.len];exact hi,eQ,b];rfl
 .rw[iw<|by simpa using hi,yS]at h
  split at h<;>cases h
def oF{a n:Nat}(h:aC a n F ts m=.ok (t,m')):Kk ts=a/\∃o s',F ⟨ts.map (λt=>U<|.val t)++cR (n-Kk ts) Y,m⟩=.ok (o,s')/\s'.m=m'/\(o=.rt t\/(o=.nx/\t=.non)):=by
 unfold aC at h;split at h
 .rename_i b
  revert h;refine abH λo s' c=>λh=>?_;refine⟨b,o,s',c,?_⟩;cases o with
  |rt u=>cases h;exact⟨J,.inl J⟩
  |nx=>cases h;exact⟨J,.inr ⟨J,J⟩⟩
  |bk=>cases h
  |ct=>cases h
 .cases h
variable{P:c4}{K:bG}
structure xx(K:bG)(x qual:Str)(st:f7)(f:bp)(fd:eh):Prop where
 ex:∃(oc:ar)(od:Option bp)(dV kV doc pm:ar)(an:Option bp)(iz ct:ar)(sy:Array D2),
  fd=yN x qual (iT st) (cP st) (aJ st) dV kV doc pm an iz ct/\K.lookup f=U ⟨oc,od,.func fd,sy⟩/\FJ K iz qual=O
 kp:kK K (.ref f)=O
def xx.ok{sp:Sp}(F:xx K x qual st f fd)(e:gO N ps<|aJ st)(len:∀vs H Q E,sp vs H Q E->Kk vs=Kk ps)
  (g:∀(a:ar)(A:ew)(outer:List Env)(s:ag)(H:Hp)(vs:List V)(Q:VK)(E:XK),bD k (A.deeper<|Gz qual (aJ st) s.heap.objs.size f a)->sp vs H Q E ->
   ∃t,gM (mf kH P w K mg base N qual (aJ st) f a A outer s H E).wm (cP st) t/\t {nx:=λ_ H'=>Q .non H',rt:=Q} (L2.start N vs) H):cX P w K mg base kH (k+1) f fd ps sp:=by
 obtain⟨l,od,m,kV,c,j,an,a,ct,i,rfl,lk,b⟩:=F.ex;refine P4 lk b e len λA outer s H vs Q E hr d=>?_;obtain⟨t,h,q⟩:=g a A outer s H vs Q E hr d;exact⟨t,h.wm,q⟩
def Ub(Fn:xx K x qual st f fd)(n:gO N ps<|aJ st)
  (a:∀(b:ar)(A:ew)(outer:List Env)(s:ag)(H:Hp)(E:XK),bD k (A.deeper<|Gz qual (aJ st) s.heap.objs.size f b)->gM (mf kH P w K mg base N qual (aJ st) f b A outer s H E).wm (cP st) (tS B F)) :
  cX P w K mg base kH (k+1) f fd ps<|qW B<|aC ps.length N.length F:=by
 refine Fn.ok n (λd H Q E h=>?_) λb A outer s H d Q E hr h=>?_
 .obtain⟨g,ts,m,t,i,x,r,h,_⟩:=h
  rw[<- r.len,(oF h).1]
 .obtain⟨g,ts,m,t,i,x,r,h,q⟩:=h
  obtain⟨_,o,s',l,rfl,j⟩:=oF h;refine⟨_,a b A outer s H E hr,g,_,o,s',⟨x,mD r⟩,l,?_⟩;rcases j with rfl|⟨rfl,rfl⟩
  .exact λv g' H' p y e=>q v g' H' p y e
  .exact λc g' H' p y=>q _ g' H' p y.st J
def Ms(F:cX P w K mg base kH k f fd ps<|qW B fn):cX P w K mg base kH k f fd ps<|qW B<|aK fn:=F.imp λI H Q E h=>by
 obtain⟨g,ts,m,t,L,x,r,h,q⟩:=h;unfold aK at h;split at h
 case isFalse=>cases h
 rename_i C;cases e:fn ts []with
 |bad=>rw[e]at h;cases h
 |exc c fs s=>rw[e]at h;dsimp only at h;split at h<;>cases h
 |ok z=>
  rw[e]at h;dsimp only at h;split at h
  case isFalse=>cases h
  rename_i G;cases h;refine⟨⟨g.HF,λ_=>Y,[]⟩,ts,[],z.1,z.2,⟨x.sub,λb p e=>(by cases e),J,λk ob e=>(by simp at e)⟩,aE.no C r,e,λv g0 H' p y A=>?_⟩
  have keep:∀b p,g.o b=U p->H' b=H b/\g0.HF b=Y:=λb q D=>by
   obtain⟨j,u,i⟩:=x.live b q D;obtain⟨d,a,_⟩:=p.rest b u i j J;exact⟨d.trans i.symm,a⟩
  refine q v ⟨g0.HF,g.o,g.al⟩ H' ⟨p.fr,e_,λb u h n z=>?_,p.there⟩ (x.mv y.sub (λb p e=>?_) p.fr J λl p h _=>⟨h,(keep l p h).1⟩)<|Rep.no G A
  .obtain⟨d,a,_⟩:=p.rest b u h n J
   exact⟨d,a,z⟩
  .obtain⟨j,u,i⟩:=x.live b p e
   obtain⟨d,a⟩:=keep b p e;exact⟨a,u,d.trans i⟩
end
def SR.Qw{ob nz:Ob}{a C dx:bp}(x:SR B g H σ s)(Z:Fj B g H k ob a C dx ns vs)(hk:s.m[k]?=U ob)(E:nz.c=ob.c)(y:Kk d<=Kk ns)(Ĳ:Kk d=Kk nz.fs)
  (A:∀j c,nz.fs[j]?=U c->∃v,d[j]?=U v/\bI B g H (.fld k j) c v) :
  du g H g (upd H a<|.ins C dx<|ns.zip d)/\SR B g (upd H a<|.ins C dx<|ns.zip d) σ {s with m:=s.m.set k nz}:=by
 have ne:∀l q,g.o l=U q->q≠.ob k->upd H a (.ins C dx<|ns.zip d) l=H l:=λl q p n=>aq λz=>n (by rw[z,Z.o]at p;lia)
 have sl:∀{q:kh}{c:_root_.D.C}{v:V},q≠.ob k->bI B g H q c v->bI B g _ q c v:=λn h=>bI.mv (aR.refl _) e_ (λl p=>⟨p,ne l _ p n⟩) h;refine⟨ou Z.o,⟨⟨λb w e=>?_,λb q e=>?_,by rw[eS];exact x.st.len,λu t e=>?_⟩,x.lc.len,λi c e=>?_⟩⟩
 .have:b≠a:=λz=>by rw[z,(x.st.live a _ Z.o).1]at e;lia
  rw[aq this];exact x.sub _ _ e
 .obtain⟨f,w,r⟩:=x.st.live b q e
  by_cases hb:b=a
  .exact⟨f,_,by rw[hb,ak]⟩
  .exact⟨f,w,by rw[aq hb];lia⟩
 .by_cases rJ:k=u
  .subst rJ
   have F:=(dq.mp hk).1;have e:=e;rw[fR F]at e;cases e;exact .inl ⟨a,C,dx,ns,d,Z.al,Z.o,E▸Z.cl,ak,y,Ĳ,λj c h=>let⟨v,f,r⟩:=A j c h;⟨v,f,sl (λz=>by lia) r⟩⟩
  .have e:=e
   rw[eV rJ]at e;refine(x.st.at_ u t e).mv (aR.refl _) e_ λl q h n=>⟨h,ne l q h ?_⟩;lia
 .obtain⟨v,f,r⟩:=x.lc.at_ i c e
  exact⟨v,f,sl (λz=>by lia) r⟩
def En{fs a:List C}{c:C}(h:setAt fs j c=U a):(j<Kk fs/\a=fs.set j c)\/(j=Kk fs/\a=fs++[c]):=by
 unfold setAt at h;split at h
 .rename_i q;cases h;exact .inl ⟨q,J⟩
 .split at h
  .rename_i q;cases h;exact .inr ⟨q,J⟩
  .cases h
def BS(I:nW X.K X.mg P){a C dx:bp}{v:V}(y:P.an[f]?=U n)(x:SR (P.kt X) g H σ s)(Z:Fj (P.kt X) g H k ob a C dx ns vs)(hk:s.m[k]?=U ob)(h:gz P.tab f c' ob=U nz)
  (t:∀j,bI (P.kt X) g H (.fld k j) c' v):qU X.K C/\bK X.K C n/\(ns.zip vs).length<1000 /\
  ∃p,L2.eu n v (ns.zip vs)=ns.zip p/\du g H g (upd H a<|.ins C dx<|ns.zip p)/\SR (P.kt X) g (upd H a<|.ins C dx<|ns.zip p) σ {s with m:=s.m.set k nz}:=by
 obtain⟨j,B,A⟩:=cj.mp h;obtain⟨E,z,rfl⟩:=bW.mp A;obtain⟨m,G,u,F⟩:=I.of Z.cl;have b:=oz y u B;have d:=(dq.mp b).1;refine⟨F.cl,F.na _<|jf b,by rw[wb];have:=F.Ed;lia,?_⟩
 rcases En z with⟨q,rfl⟩|⟨rfl,rfl⟩
 .refine⟨vs.set j v,BP F.nd b Z.le<|Z.ln▸q,?_⟩
  refine x.Qw Z hk J (by rw[eS];exact Z.le) (by rw[eS,eS];exact Z.ln) λi c e=>?_
  by_cases hi:j=i
  .subst hi
   rw[fR q]at e;cases e;exact⟨v,by rw[fR<|Z.ln▸q],t j⟩
  .rw[eV hi]at e
   obtain⟨w,o,l⟩:=Z.f i c e;exact⟨w,by rw[eV hi];exact o,l⟩
 .refine⟨vs++[v],uF F.nd<|Z.ln▸b,?_⟩
  refine x.Qw Z hk J (by rw[cV,Z.ln];exact d) (by rw[cV,cV,Z.ln];rfl) λi c e=>?_
  by_cases hi:i<Kk ob.fs
  .rw[jP hi]at e
   obtain⟨w,o,l⟩:=Z.f i c e;exact⟨w,by rw[jP<|Z.ln▸hi];exact o,l⟩
  .rw[iw<|by lia]at e
   have r:=by
    have:=(dq.mp e).1
    simp at this;exact this
   rw[r]at e;cases e;exact⟨v,by rw[iw<|by rw[Z.ln];lia,Z.ln,r];rfl,t i⟩
def Y8(qD:nW X.K X.mg P)(L:P.an[f]?=U n)(G:PE X o<|tE (P.kt X) fo)(he:PE X e<|tE (P.kt X) fa)(hs:fv e (U<|.Attribute o n cL) pos.line X.env=pure ZA) :
  PS X (.Assign [.Attribute o n cL] e pos)<|tS (P.kt X)<|aO P.tab f fo fa:=cA (zd G he hs) λD σ H z=>by
 obtain⟨g,s,oo,s',x,h,k⟩:=z;revert h;refine abH λt i R=>abH λtx s2 Q=>λh=>?_;cases tx<;>try(cases h;done)
 rename_i F;revert h;refine abG λnz N=>λh=>?_;cases h;obtain⟨ob,p,m⟩:=cj.mp<|ao N;refine⟨g,s,t,i,x,R,λv g1 H1 E u A=>⟨g1,i,_,s2,u,Q,λw g2 H2 b d y=>?_⟩⟩;obtain⟨a,rfl,M⟩:=y;rcases d.st.at_ F ob p with⟨V,C,T,ns,W,Z⟩|⟨V,Z⟩
 case inr=>
  obtain⟨j,q,_⟩:=cj.mp m;obtain⟨l,q,_⟩:=cj.mp q;have z:(P.tab.map _)[ob.c]?=Y:=Z.nf;rw[eQ,q]at z;cases z
 have:=Z.al.symm.trans M
 cases this;obtain⟨cl,na,I,gb,S,B,r⟩:=BS qD L d Z p m (v:=v) λj=>A.mv b.pre b.fr;refine⟨a,C,T,_,J,Z.h,cl,na,I,?_⟩;rw[S];exact k σ g2 _ ((E.trans b).trans B) r
end D
namespace L2
open PySem PySem.Spec PyProof.Rows
end L2
namespace D
open PySem L2
variable{X:Cx}{a b c e o tg:cq}{g g':G}{H H':Hp}{B:KT}{es:Bz}{i k n:Nat}{P:Pg}{bC ba p pos cL:Pos}{s s':S}{x y:Str}
theorem BU:∀{Ds:BM}{a:B2},Vals (Ds.map V.ref) a->a=Ds.map Value.ref
 |[],_,h=>by cases h;rfl
 |D::Ds,_,h=>by
  cases h with
  |cons p q=>
   cases p;rw[BU q];rfl
def HW:fT X (.builtin "isinstance") λxs H Q=>∃(a C dx tp:bp)(fs:List (Str×V))(Ds:BM)(b:Bool),xs=[.ref a,.ref tp]/\H a=U (.ins C dx fs)/\qU X.K C/\fQ X.K (.ref C) "__class__" = U (U<|.builtin Kj) /\
  AM X.K (.builtin Kj) "__get__" = U (U<|.builtin "getset_descriptor.__get__")/\AN X.K (.builtin Kj)=U O/\DB X.K C (.type "object")=U O /\
  H tp=U (.tup<|Ds.map V.ref)/\FN X.K (.ref C) (Ds.map Value.ref)=U b/\Q (.bl b) H:=by
 intro F s σ H xs y Q I r h;obtain⟨a,C,dx,tp,fs,Ds,b,rfl,p,cl,k,i,x,j,l,e,q⟩:=h;obtain⟨u,A,rfl,d,v⟩:=vals2 r;cases d;cases v;obtain⟨E,G,_⟩:=kW I.bz p;obtain⟨od,L,_⟩:=G.look;obtain⟨_,t,c,o,g1,g2,n,g3⟩:=(I.bz tp _ l);have m:=BU c;obtain⟨D,g,f,B⟩:=o;cases g2;cases g3;rw[m]at g1;exact PySem.W.kia_tup (OT (cl.get _) cl.hd k i x j) I.jg L g1 e (λz=>nomatch z) λtk=>⟨.bl b,H,I.tok _,J,q⟩
def G.e9(g:G)(a:bp):G:={g with o:=λb=>if b=a then U (.ob g.al.length)else g.o b,al:=g.al++[a]}
theorem SR.e9{c:Nat}{C q dx:bp}(x:SR B g H σ s)(E:iD B c C ns)(nx:H q=Y)(nd:H dx=Y)(G:dx≠q) :
  du g H (g.e9 q) (upd (upd H dx<|.own q) q<|.ins C dx [])/\SR B (g.e9 q) (upd (upd H dx<|.own q) q<|.ins C dx []) σ {s with m:=s.m++[⟨c,[]⟩]}:=by
 have nf:=x.sub.free nx;have w:=x.sub.free nd;have no:∀l a,g.o l=U a->l≠q/\l≠dx:=λl a h=>by
  obtain⟨_,u,z⟩:=x.st.live l a h;exact⟨aS z nx,aS z nd⟩
 have p:∀l,l≠q->l≠dx->upd (upd H dx<|.own q) q (.ins C dx []) l=H l:=λl d f=>by rw[aq d,aq f]
 have A:∀l a,g.o l=U a->(g.e9 q).o l=U a:=λl a h=>by
  show(if l=q then U _ else g.o l)=_
  rw[b0 (no l a h).1];exact h
 have pre:g.al <+: (g.e9 q).al:=A1 _ _;refine⟨⟨aR.refl _,pre,λb u h n z=>?_,λb h=>?_⟩,⟨⟨λb u e=>?_,λb a e=>?_,?_,λk ob e=>?_⟩,x.lc.len,λi F e=>?_⟩⟩
 .have d:=aS h nx
  have f:=aS h nd;refine⟨(p b d f).trans h,n,?_⟩;show(if b=q then U _ else g.o b)=Y
  rw[b0 d];exact z
 .by_cases d:b=q
  .subst d;exact nx
  .by_cases f:b=dx
   .subst f;exact nd
   .rw[p b d f]at h;exact h
 .have d:b≠q:=λz=>by rw[z]at e;have e:g.HF q=U u:=e;rw[nf]at e;cases e
  have f:b≠dx:=λz=>by rw[z]at e;have e:g.HF dx=U u:=e;rw[w]at e;cases e
  rw[p b d f];exact x.sub _ _ e
 .have e:(if b=q then U _ else g.o b)=U a:=e
  by_cases hb:b=q
  .subst hb;exact⟨nf,_,ak⟩
  .rw[b0 hb]at e
   obtain⟨d,u,f⟩:=x.st.live b a e;obtain⟨t,r⟩:=no b a e;exact⟨d,u,(p b t r).trans f⟩
 .show(s.m++[_]).length=(g.al++[q]).length
  rw[cV,cV,x.st.len];rfl
 .have e:=e
  by_cases hk:k<Kk s.m
  .rw[jP hk]at e
   refine(x.st.at_ k ob e).mv (aR.refl _) pre λl a h _=>⟨A l a h,?_⟩;obtain⟨t,r⟩:=no l a h;exact p l t r
  .rw[iw<|by lia]at e
   have y:=by
    have:=(dq.mp e).1
    simp at this;exact this
   rw[y]at e;cases e;have D:k=Kk g.al:=by have:=x.st.len;lia
   subst D;refine .inl ⟨q,C,dx,ns,[],?_,?_,E,?_,dz _,J,λj c h=>by simp at h⟩
   .show(g.al++[q])[Kk g.al]?=U q
    rw[iw<|bL _,nH];rfl
   .show(if q=q then U _ else g.o q)=_
    rw[bt J]
   .rw[ak,Pp]
 .obtain⟨v,d,f⟩:=x.lc.at_ i F e
  refine⟨v,d,bI.mv (g:=g) (g':=g.e9 q) (aR.refl _) pre (λl h=>⟨A l _ h,?_⟩) f⟩;obtain⟨t,r⟩:=no l _ h;exact p l t r
structure DnN(P:Pg)(Pr:c4)(w:da)(K:bG)(mg:Str->D2)(base:eI)(k:Nat)(c:Nat)(x:Str)(f:Fn):Prop where
 ex:∃(C fi:bp)(fd:eh)(ps:Bi)(ns:Bi),iD (ig P K Pr w) c C ns/\mg x=U (.ref C)/\Mk K C fi/\cX Pr w K mg base kH k fi fd ps (qW (ig P K Pr w) f)/\Binds K fd ps []
def Mu{c:Nat}(h:kc c f fl s=.ok (t,s')):∃ts s1 m',fl s=.ok (ts,s1)/\f (.own s1.m.length::ts) (s1.m++[⟨c,[]⟩])=.ok (.non,m')/\t=.own s1.m.length/\s'={s1 with m:=m'}:=by
 revert h;refine abH λts s1 a=>λh=>?_;cases q:f .. with
 |ok r=>
  rw[q]at h;obtain⟨u,m'⟩:=r;cases u<;>try(cases h;done)
  cases h;exact⟨ts,s1,m',a,q,J,J⟩
 |bad=>rw[q]at h;cases h
 |exc c fs s2=>rw[q]at h;cases h
def Mv{c:Nat}{C:bp}{Q:VK}(o:iD B c C ns)(x1:SR B g H σ s)(l:aE B g.al g.HF ts vs)(p:f (.own s.m.length::ts) (s.m++[⟨c,[]⟩])=.ok (.non,m'))
  (k:∀v g' H',du g H g' H'->SR B g' H' σ {s with m:=m'}->Rep B g'.al g'.HF (.own s.m.length) v->Q v H'):∀q a,H q=Y->H a=Y->a≠q->qW B f (.ref q::(vs++[])) (upd (upd H a<|.own q) q<|.ins C a []) (λv r=>v=.non/\Q (.ref q) r) E0:=λq a nx nd n=>by
 obtain⟨b,i⟩:=x1.e9 o nx nd n;rw[cJ];have e:=by
  show(g.al++[q])[Kk s.m]?=U q;rw[x1.st.len,iw<|bL _,nH];rfl
 refine xm (ts:=.own s.m.length::ts) i ⟨_,vs,J,⟨q,J,e⟩,l.mv b.pre b.fr⟩ p λv g' H' d h j=>⟨j,k _ g' H' (b.trans d) h ⟨q,J,eX d.pre e⟩⟩
def Uc{k j c:Nat}(D:DnN P X.prog X.w X.K X.mg X.base k c x f)(hr:bD j X.A)(q:k+1<=j)(z:PA X (e::es)<|tA (P.kt X) fl)(u:Gl X x)(B:bB x)(hs:(e::es).all noStar=O) :
  PE X (.Call (.Name x p) (e::es) [] pos)<|tE (P.kt X)<|kc c f fl:=by
 obtain⟨C,R,fd,ps,ns,E,r,M,F,y⟩:=D.ex;rw[dO,bP]at hs;refine aV (om M F (hr.mono q) u r y .nil kY z B (au hs.1)<|cY hs.2) λσ H Q a=>?_;obtain⟨g,s,t,s',x,h,k⟩:=a;obtain⟨ts,i,N,I,G,rfl,rfl⟩:=Mu h;exact⟨g,s,ts,i,x,I,λL g1 H1 o d m=>Mv E d m G λv g' H' n b l=>k v g' H' (o.trans n) b l⟩
def pQ:cq->Option (cq×Bz×List qz×Pos)
 |.Call f a k p=>U (f,a,k,p)
 |_=>Y
def asName:cq->Option Str
 |.Name x _=>U x
 |_=>Y
def iX:cq->Option (cq×Str×Pos)
 |.Attribute o f p=>U (o,f,p)
 |_=>Y
def mF(e:cq):Option<|Str×Bz×List qz:=(pQ e).bind λq=>(asName q.1).map λf=>(f,q.2.1,q.2.2.1)
def jK{q}(h:pQ e=U q):e=.Call q.1 q.2.1 q.2.2.1 q.2.2.2:=by
 cases e<;>first|(cases h;done)|(cases h;rfl)
def cZ(h:asName e=U x):∃p,e=.Name x p:=by
 cases e<;>first|(cases h;done)|(cases h;exact⟨_,J⟩)
def iY{q}(h:iX e=U q):e=.Attribute q.1 q.2.1 q.2.2:=by
 cases e<;>first|(cases h;done)|(cases h;rfl)
def gC{q}(h:mF e=U q):∃p pos,e=.Call (.Name q.1 p) q.2.1 q.2.2 pos:=by
 obtain⟨w,d,c⟩:=cj.mp h;obtain⟨f,b,rfl⟩:=bW.mp c;obtain⟨p,a⟩:=cZ b;rw[jK d,a];exact⟨_,_,J⟩
def rK{b c:Type}:List b->List c->Option b
 |[a],[]=>U a
 |_,_=>Y
def gD{c d:Type}{a:c}{as:List c}{ks:List d}(h:rK as ks=U a):as=[a]/\ks=[]:=by
 match as,ks,h with
 |[b],[],h=>cases h;exact⟨J,J⟩
def nm1(e:cq):Option<|Str×cq:=(mF e).bind λq=>(rK q.2.1 q.2.2).map λa=>(q.1,a)
def BV{q}(h:nm1 e=U q):∃p pos,e=.Call (.Name q.1 p) [q.2] [] pos:=by
 revert h;refine abc λu c=>λh=>?_;obtain⟨a,b,rfl⟩:=bW.mp h;obtain⟨p,r,g⟩:=gC c;obtain⟨f,d⟩:=gD b;exact⟨p,r,by rw[g,f,d]⟩
def at1(e:cq):Option<|cq×Str×cq:=(pQ e).bind λq=>(iX q.1).bind λw=>(rK q.2.1 q.2.2.1).bind λa=>if noStar a=O/\(w.2.2.endLine == q.2.2.2.line)=O then U (w.1,w.2.1,a)else Y
def BW(h:at1 e=U (o,m,a)):noStar a=O/\∃c cp,e=.Call (.Attribute o m c) [a] [] cp/\(c.endLine == cp.line)=O:=by
 revert h;refine abc λu g=>abc λw f=>abc λb d=>λh=>?_;obtain⟨⟨q1,q2⟩,h⟩:=lQ.mp h;cases h;obtain⟨j,i⟩:=gD d;exact⟨q1,_,_,by rw[jK g,iY f,j,i],q2⟩
def BX:f7->Option (Str×Str×cq)
 |.Assign ts e _=>(match ts with
  |[t]=>(iX t).bind λq=>(asName q.1).map λs=>(s,q.2.1,e)
  |_=>Y)
 |_=>Y
def uI{q}(h:BX st=U q):∃b a pos,st=.Assign [.Attribute (.Name q.1 b) q.2.1 a] q.2.2 pos:=by
 cases st<;>try(cases h)
 rename_i ts e pos
 match ts,h with
 |[t],h=>
  obtain⟨w,g,f⟩:=cj.mp<|h;obtain⟨s,d,rfl⟩:=bW.mp f;obtain⟨p,c⟩:=cZ d;rw[iY g,c];exact⟨_,_,_,J⟩
def uJ(st:f7):Option<|Str×Str×Str:=(BX st).bind λw=>(asName w.2.2).map λq=>(w.1,w.2.1,q)
def zR(h:uJ st=U z):∃b a c pos,st=.Assign [.Attribute (.Name z.1 b) z.2.1 a] (.Name z.2.2 c) pos:=by
 obtain⟨w,g,f⟩:=cj.mp h;obtain⟨q,e,rfl⟩:=bW.mp f;obtain⟨b,a,pos,rfl⟩:=uI g;obtain⟨p,d⟩:=cZ e;exact d▸⟨_,_,_,_,J⟩
def pR(N:Bi):Nat->Fh->Bi->Bool
 |_,[],[]=>O
 |i,st::rest,n::ns=>(match uJ st with
  |some z=>decide (N[0]?=U z.1)&&decide (N[i]?=U z.2.2)&&decide (z.2.1=n)
  |none=>ZA)&&pR N (i+1) rest ns
 |_,_,_=>ZA
def ĳ(K:bG):Nat->Bi->TS
 |_,[]=>GH
 |i,n::ns=>WH (Xb K (GD 0) (GD i) n)<|ĳ K (i+1) ns
theorem BY(c:∀(i:Nat)(x:Str),X.N[i]?=U x->mX X.env.scope x/\bB x/\f9 x):∀(a:Fh)(ns:Bi)(i:Nat),pR X.N i a ns=O->gM X a (ĳ X.K i ns)
 |[],[],_,_=>oi
 |[],_::_,_,h=>by cases h
 |st::rest,[],_,h=>by cases h
 |st::rest,n::ns,i,h=>by
  have h:((match uJ st with
   |some z=>decide (X.N[0]?=U z.1)&&decide (X.N[i]?=U z.2.2)&&decide (z.2.1=n)
   |none=>ZA)&&pR X.N (i+1) rest ns)=O:=h
  rw[bP]at h;obtain⟨b,p⟩:=h;cases e:uJ st with
  |none=>rw[e]at b;cases b
  |some z=>
   rw[e]at b;simp only[bP,eg]at b;obtain⟨⟨f,d⟩,rfl⟩:=b;obtain⟨s,r,q,pos,rfl⟩:=zR e;obtain⟨o,m,l⟩:=c 0 _ f;obtain⟨k,j,g⟩:=c i _ d;exact kQ (zd (cK f o m l) (cK d k j g) J)<|BY c rest ns (i+1) p
theorem BZ{C q dx:bp}(cl:qU K C):∀(ns d:Bi)(as c:List V)(H:Hp),(∀f∈ns,bK K C f)->(d++ns).Nodup->(d++ns).length<=100->Kk c=Kk d->Kk as=Kk ns->all=.ref q::(c++as)->H q=U (.ins C dx<|d.zip c) ->
  D.nx (L2.start N all) (upd H q<|.ins C dx<|(d++ns).zip<|c++as)->ĳ K (Kk c+1) ns D (L2.start N all) H
 |[],d,as,c,H,_,_,_,m,l,g,o,k=>by
  have:=List.length_eq_zero_iff.mp l
  subst this;rw[cJ,cJ]at k;have e:upd H q (.ins C dx<|d.zip c)=H:=by
   funext b
   by_cases hb:b=q
   .subst hb;rw[ak,o]
   .rw[aq hb]
  rw[e]at k;exact k
 |n::ns,d,[],c,H,_,_,_,m,l,g,o,k=>by cases l
 |n::ns,d,v::as,c,H,j,nd,i,m,l,g,o,k=>by
  have t:(L2.start N all)[Kk c+1]?=U (U v):=by
   unfold L2.start;rw[jP<|by rw[g];simp,eQ,g,List.getElem?_cons_succ,iw<|bL _,nH];rfl
  have w:(L2.start N all)[0]?=U (U<|.ref q):=by
   rw[g];rfl
  have B:=λz=>by
   rw[A2]at nd;exact nd.2.2 n z n (d_ ..) J
  refine⟨v,t,.ref q,w,q,C,dx,d.zip c,J,o,cl,j n<|d_ ..,?_,?_⟩
  .rw[wb];rw[cV]at i;lia
  .have A:L2.eu n v (d.zip c)=(d++[n]).zip (c++[v]):=by
    have:=uF (v:=v) (by
     rw[show d++n::ns=(d++[n])++ns by simp]at nd
     exact(A2.mp nd).1) (by rw[m,iw<|bL _,nH];rfl)
    rw[<- this]
    congr 1
    have:∀(a:Bi)(b:List V)(r:Bi),Kk b=Kk a->a.zip b=(a++r).zip b:=by
     intro a
     induction a with
     |nil=>intro b r h;cases b with
      |nil=>simp
      |cons=>cases h
     |cons x a s=>intro b r h;cases b with
      |nil=>cases h
      |cons y b=>rw[rn,List.cons_append,rn,s b r<|by simpa using h]
    exact this d c _ m
   rw[A];have p:=BZ (all:=all) cl ns _ as _ (upd H q<|.ins C dx<|(d++[n]).zip<|c++[v]) (λf u=>j f<|ed _ u) (by simpa using nd) (by simpa using i) (by simp[m]) (by simpa using l) (by rw[g];simp) ak (by
    rw[ua];simpa using k)
   rw[show(c++[v]).length+1=Kk c+1+1 by simp]at p
   exact p
theorem pS:∀(k:Int)(ts:FR),(eG k ts).length=Kk ts
 |_,[]=>J
 |k,_::ts=>ej (· + 1)<|pS _ ts
theorem B0:∀(k:Nat)(ts:FR)(i:Nat)(t:T),ts[i]?=U t->(eG (k:Int) ts)[i]?=U (.tup [.int ((k+i:Nat):Int),t])
 |_,[],_,_,h=>by simp at h
 |k,_::ts,0,_,h=>by simp at h;subst h;rfl
 |k,_::ts,i+1,t,h=>by
  have:=B0 (k+1) ts i t (by simpa using h)
  exact (show k+(i+1)=k+1+i by lia)▸this
def Y9(hB:B.K=X.K)(m:Nat):∀σ H R,tI B (jc (m:Int) fa) σ H R->SW X.K m (tA B<|bq fa aT) σ H R:=by
 rintro σ H R ⟨g,s,t,s',x,h,k⟩
 revert h;refine abH λtx D G=>abG λts f=>λh=>?_;cases h;obtain⟨c,rfl,rfl⟩:∃c,tx=.lst c/\t=eG m c:=by
  cases tx<;>first|(cases f;done)|(cases f;exact⟨_,J,J⟩)
 have F:bq fa aT s=.ok ([.lst c],D):=by
  show(fa s).bind _=_;rw[G];rfl
 refine⟨g,s,_,_,x,F,λM g1 H1 E n b=>?_⟩;obtain⟨v,rfl,l,z,rfl,q1,b⟩:=dI b;refine⟨l,z,J,dW.of<|n.sub _ _ q1,k _ g1 H1 E n ⟨λi u e a=>?_,λi u x N e a y=>?_,λi u e a=>?_⟩⟩
 .rw[pS,b.len]at a
  exact⟨a,dW.of<|e _ _ q1⟩
 .obtain⟨p,d,r,L,rfl,rfl⟩:=y
  obtain⟨t1,I,j⟩:=b.zu L;refine⟨_,B0 m c i t1 I,λw C q=>⟨upd w p<|.tup [.int ((m+i)),d],.new q r,p,[.int ((m+i)),d],J,kG.of ak,?_⟩⟩;have A:=C.trans<|bg (o:=.tup [.int ((m+i)),d])<|q.free r;exact⟨.int ((m+i)),[d],J,J,.one<|j.same A⟩
 .rw[pS,b.len]at a
  exact⟨a,dW.of<|e _ _ q1⟩
def Za(hB:B.K=X.K){b:Bz}{c:Pos}(e:Gl X "enumerate")(d:X.mg "enumerate" = Y)(f:PE X a<|tE B fa)(hs:noStar a=O):PI X (.Tuple b x1 c) (.Call (.Name "enumerate" p) [a] [] pos)<|tI B<|jc 0 fa:=
 nq (XZ e d (uD f zx<|au hs)<|au hs)<|Y9 hB 0
def Zb(hB:B.K=X.K){b:Bz}{x1 k1:Nat}{d c kp:Pos}(f:Gl X "enumerate")(e:X.mg "enumerate" = Y)(g:PE X a<|tE B fa)(hs:noStar a=O):PI X (.Tuple b x1 d) (.Call (.Name "enumerate" p) [a] [⟨U<|hG "start",.Constant (.int 1) k1 c,kp⟩] pos)<|tI B<|jc 1 fa:=
 nq (SX f e (uD g zx<|au hs)<|au hs)<|Y9 hB 1
def B3(d:bV o=O)(hs:es.all noStar=O)(b:Kk es<30)(a:(bC.endLine == pos.line)=O):xo X o m bC es pos:=by
 have c:methodCallForm (Kk es+0) (ij pos<|c5 es X.env) (pB pos<|mq [] X.env)=O:=by
  unfold methodCallForm;rw[pO hs];show(O&&O&&decide (Kk es+0+0<30))=O;rw[de<|show Kk es+0+0<30 from fB b<|by decide];rfl
 refine⟨(do return(<- importBound o X.env).getD O),?_⟩
 show(do
  let ov <- ke o m X.env _
  r4 bC.atName
  methodCall o m bC pos X.env ov (Kk es+0) _ _)=_
 rw[fM d];unfold methodCall;rw[c];unfold calleeOf methodCallPos;rw[a];rfl
def Mw{n qual:Str}{f C:bp}(Fn:xx K n qual st f fd)(o:gO N ps<|aJ st)
  (g:∀(i:Nat)(x:Str),N[i]?=U x->mX (aJ st) x/\bB x/\f9 x) (l:pR N 1 (cP st) ns=O) (j:Kk ps=Kk ns+1) (cl:qU K C) (na:∀f∈ns,bK K C f) (nd:ns.Nodup) (Ed:Kk ns<=100) :
  cX Pr w K mg base kH (k+1) f fd ps<|spI C ns:=by
 refine Fn.ok o (λc H Q E h=>?_) λd A outer s H c Q E hr h=>?_
 .obtain⟨x,m,a,rfl,b,_⟩:=h
  rw[ee,b,j]
 .obtain⟨x,m,a,rfl,b,e,q⟩:=h
  refine⟨ĳ K 1 ns,BY g _ ns 1 l,?_⟩;exact BZ cl ns [] a [] H na (by simpa using nd) (by simpa using Ed) J b J (by simpa using e) (by simpa using q)
def spP(K:bG)(C:bp)(n:Str):Sp:=λc H Q _=>∃x b p a,c=[.ref x,.ref p]/\H x=U (.ins C b [])/\dW K H p a/\∀l,H l=Y->Q .non (upd (upd H l<|.lst a) x<|.ins C b [(n,.ref l)])
def uM(st:f7):Option<|Str×Str×Str:=(BX st).bind λw=>(mF w.2.2).bind λc=>(match c.2.1,c.2.2 with
 |[a],[]=>if c.1=("list" : Str)then(asName a).map λq=>(w.1,w.2.1,q)else Y
 |_,_=>Y)
def xy(h:uM st=U z):∃i g d pl pc pos,st=.Assign [.Attribute (.Name z.1 i) z.2.1 g] (.Call (.Name "list" pl) [.Name z.2.2 d] [] pc) pos:=by
 obtain⟨w,n,m⟩:=cj.mp h;obtain⟨⟨f,as,ks⟩,c,b⟩:=cj.mp m
 match as,ks,c,b with
 |[a],[],c,b=>
  dsimp only at b;split at b
  .rename_i e
   obtain⟨q,l,rfl⟩:=bW.mp b;obtain⟨i,g,pos,rfl⟩:=uI n;obtain⟨pl,pc,k⟩:=gC c;obtain⟨d,j⟩:=cZ l;rw[k,j,e];exact⟨_,_,_,_,_,_,J⟩
  .cases b
def HX{nm qual d q n:Str}{f C:bp}(Fn:xx K nm qual st f fd)(R:gO N ps<|aJ st)
  (M:cP st=[r]) (P:uM r=U (d,n,q)) (m:N[0]?=U d) (j:N[1]?=U q) (g:∀(i:Nat)(x:Str),N[i]?=U x->mX (aJ st) x/\bB x/\f9 x) (I:mg "list" = Y) (L:(aJ st).names.lookup ("list" : Str)=U .globalImplicit) (a:Kk ps=2) (cl:qU K C) (na:bK K C n) :
  cX Pr w K mg base kH (k+1) f fd ps<|spP K C n:=by
 obtain⟨W,V,S,T,pc,pos,rfl⟩:=xy P;refine Fn.ok R (λy H Q E h=>?_) λF A outer s H y Q E hr h=>?_
 .obtain⟨x,o,p,c,rfl,_⟩:=h
  exact a.symm
 .obtain⟨x,o,p,c,rfl,b,G,k⟩:=h
  obtain⟨D,B,z⟩:=g 0 _ m;obtain⟨v,u,t⟩:=g 1 _ j;rw[M];refine⟨_,kR<|zd (cK m D B z) (iA iS L I wd<|aW (cK j v u t) cT) J,?_⟩;refine⟨.ref p,J,p,c,J,.inl G,λl a=>⟨.ref x,J,x,C,o,[],J,?_,cl,na,by decide,k l a⟩⟩
  rw[aq (λe=>by subst e;rw[a]at b;cases b)]
  exact b
structure DnP(P:Pg)(Pr:c4)(w:da)(K:bG)(mg:Str->D2)(base:eI)(k:Nat)(c:Nat)(x:Str):Prop where
 ex:∃(C fi:bp)(fd:eh)(ps:Bi)(n:Str),iD (ig P K Pr w) c C [n]/\mg x=U (.ref C)/\Mk K C fi/\cX Pr w K mg base kH k fi fd ps (spP K C n)/\Binds K fd ps []
def Ud{k j c:Nat}(D:DnP P X.prog X.w X.K X.mg X.base k c x)(hr:bD j X.A)(W:k+1<=j)(ha:PE X e<|tE (P.kt X) fa)(hg:Gl X x)(h_:bB x)(hs:noStar e=O) :
  PE X (.Call (.Name x p) [e] [] pos)<|tE (P.kt X)<|dg (S3 c) fa:=by
 obtain⟨C,fi,fd,ps,n,hC,hm,M,F,f⟩:=D.ex;refine aV (om M F (hr.mono W) hg hm f .nil kY (aW ha cT<|au hs) h_ (au hs) J) λσ H Q N=>?_;obtain⟨g,s,t,s',z,h,k⟩:=N;revert h;refine abH λtx s1 h1=>abG λt' u=>λh=>?_;cases h;cases tx<;>try(cases u;done)
 cases u;refine⟨g,s,_,_,z,h1,λv g1 H1 V m S x a nx nd L=>?_⟩;obtain⟨q,d,rfl,Z,R⟩:=S;have g2:=Gr.new (o:=.own x) m.sub nd;have B:upd H1 a (.own x) x=Y:=by rw[aq<|f3 L];lia
 have i:=m.sub _ _ Z;have T:q≠a:=λe=>by lia
 have qx:q≠x:=λe=>by lia
 refine⟨x,a,q,d,J,ak,dW.of<|by rw[aq qx,aq T];exact i,λl r=>⟨J,?_⟩⟩
 have E:l≠x:=λe=>by subst e;rw[ak]at r;lia
 have I:=by rw[aq E]at r;exact r
 have ld:l≠a:=λe=>by subst e;rw[ak]at I;lia
 have g3:=Gr.new (o:=.lst d) g2.sub I;have y:upd (upd H1 a<|.own x) l (.lst d) x=Y:=(aq<|f3 E)▸B
 have g4:=Gr.new (o:=.ins C a [(n,.ref l)]) g3.sub y;have e:upd (upd (upd (upd H1 a<|.own x) x<|.ins C a []) l<|.lst d) x (.ins C a [(n,.ref l)])=upd (upd (upd H1 a<|.own x) l<|.lst d) x (.ins C a [(n,.ref l)]):=by
  funext b
  by_cases f:b=x
  .subst f;rw[ak,ak]
  .rw[aq f,aq f]
   by_cases Qx:b=l
   .subst Qx;rw[ak,ak]
   .rw[aq Qx,aq Qx,aq f]
 rw[e];have G:=(g2.trans g3).trans g4;refine k _ _ _ (V.trans<|m.jW G) (m.grow G) ⟨x,C,a,[n],[.ref l],J,hC,ak,bL _,?_,.one ⟨l,d,J,?_,R.same G.fr⟩⟩
 .show upd _ x _ a=_
  rw[aq L,aq<|f3 ld,ak]
 .show upd _ x _ l=_
  rw[aq E,ak]
theorem B4:∀{cs:B2}{bs:Fs},Kk cs=Kk bs->(∀(i:Nat)(c:ar)(b:Bool),cs[i]?=U c->bs[i]?=U b->tU K t c=U b)->FN K t cs=U (bs.any id)
 |[],[],_,_=>J
 |[],_::_,h,_=>by cases h
 |_::_,[],h,_=>by cases h
 |c::cs,b::bs,a,h=>by
  have e:=h 0 c b J J;have d:=B4 (by simpa using a) λi c b g f=>h (i+1) c b (by simpa using g) (by simpa using f)
  unfold FN;rw[e];cases b with
  |true=>rfl
  |false=>exact d
def namesOf:Bz->Option Bi
 |[]=>U []
 |.Name x _::es=>(namesOf es).map (x::·)
 |_=>Y
theorem xA{Ds:BM}:∀{es:Bz}{ys:Bi}{Ds:BM},namesOf es=U ys->Kk ys=Kk Ds->(∀(i:Nat)(y:Str)(D:bp),ys[i]?=U y->Ds[i]?=U D->Gl X y/\X.mg y=U (.ref D)/\bB y)->PA X es (λ_ H Q=>Q (Ds.map V.ref) H)
 |[],_,Ds,h,a,_=>by
  cases h;cases Ds with
  |nil=>exact cT
  |cons=>cases a
 |e::es,ys,Ds,h,a,k=>by
  cases e<;>try(cases h)
  rename_i x f;obtain⟨zs,b,rfl⟩:=bW.mp<|h
  cases Ds with
  |nil=>cases a
  |cons D Ds=>
   obtain⟨k1,k2,k3⟩:=k 0 x D J J;exact aW (ue (v:=.ref D) k1 k2 J k3) (xA (Ds:=Ds) b (by simpa using a) λi y D d c=>k (i+1) y D (by simpa using d)<|by simpa using c) J
def Zd(qD:nW X.K X.mg P)(u:namesOf es=U ys)(hd:Kk ys=Kk ds)(G:∀(i d:Nat)(y:Str),ds[i]?=U d->ys[i]?=U y->P.cn[d]?=U y/\(P.fn[d]?).isSome=O/\Gl X y/\bB y)
  (w:Kk es<=100) (hm:X.mg "isinstance" = Y) (ha:PE X a<|tE (P.kt X) fa) (hg:Gl X "isinstance") (hs:noStar a=O) :
  PE X (.Call (.Name "isinstance" p) [a,.Tuple es x1 jQ] [] pos)<|tE (P.kt X)<|dg (gi P.sub ds) fa:=by
 have cls:∀(ds:B1)(ys:Bi),Kk ys=Kk ds->(∀(i d:Nat)(y:Str),ds[i]?=U d->ys[i]?=U y->P.cn[d]?=U y/\(P.fn[d]?).isSome=O/\Gl X y/\bB y)->∃Ds:BM,Kk Ds=Kk ds/\∀(i:Nat)(y:Str)(D:bp),ys[i]?=U y->Ds[i]?=U D->X.mg y=U (.ref D):=by
  intro ds
  induction ds with
  |nil=>intro ys w _;exact⟨[],J,λi y D _ h=>by simp at h⟩
  |cons d ds E=>
   intro ys w h;cases ys with
   |nil=>cases w
   |cons y ys=>
    obtain⟨A,q,_⟩:=h 0 d y J J;obtain⟨ns,Z⟩:=AW.mp q;obtain⟨D,F⟩:=qD.cls d y ns A Z;obtain⟨Ds,hD,k⟩:=E ys (by simpa using w) λi d y f j=>h (i+1) d y (by simpa using f) (by simpa using j)
    refine⟨D::Ds,by simp[hD],λi T D' f j=>?_⟩
    cases i with
    |zero=>simp at f j;subst f j;exact F.gl
    |succ i=>exact k i T D' (by simpa using f) (by simpa using j)
 obtain⟨Ds,n,z⟩:=cls ds ys hd G;have get:∀(i:Nat)(y:Str),ys[i]?=U y->∃d,ds[i]?=U d:=λi y h=>by
  have:=(dq.mp h).1
  exact⟨_,dM<|by lia⟩
 have names:=xA (Ds:=Ds) u (by rw[hd,n]) λi y D f j=>by
  obtain⟨d,M⟩:=get i y f;obtain⟨_,_,h3,h4⟩:=G i d y M f;exact⟨h3,z i y D f j,h4⟩
 refine aV (jm HW hg hm Gy (aW ha (aW (zh names) cT J)<|au hs) (he:=au hs)) λσ H Q S=>?_;obtain⟨g,s,t,s',x,h,k⟩:=S;revert h;refine abH λtx s1 A=>abG λt' q=>λh=>?_;cases h;refine⟨g,s,_,_,x,A,λv g1 H1 p1 x1 r1=>?_⟩;have q:=ao q;cases tx<;>try(cases q)
 obtain⟨l,Lf,rfl⟩:=bW.mp q;obtain⟨b,C,dx,Fi,vs,rfl,hC,hq,hle,hdx,r⟩:=r1;obtain⟨m,L,aax,F⟩:=qD.of hC;have dX:=by
  have:∀(es:Bz)(ys:Bi),namesOf es=U ys->Kk ys=Kk es:=by
   intro es
   induction es with
   |nil=>intro ys h;cases h;rfl
   |cons e es E=>
    intro ys h;cases e<;>try(cases h)
    obtain⟨zs,A,rfl⟩:=bW.mp<|h
    rw[ee,ee,E zs A]
  exact this es ys u
 refine⟨by rw[cH,n,<- hd,dX];exact c_ w<|by decide,λW I=>?_⟩
 have g2:=Gr.new (o:=.tup<|Ds.map V.ref) x1.sub I;have B:=B4 (cs:=Ds.map Value.ref) (bs:=ds.map λd=>decide _) (by rw[cH,cH,n]) λi c bb f j=>by
  rw[eQ]at f j;obtain⟨D,M,rfl⟩:=bW.mp f;obtain⟨d,R,rfl⟩:=bW.mp j;have hi:i<Kk ys:=by rw[hd];exact(dq.mp R).1
  have N:=dM hi;obtain⟨f1,_⟩:=G i d _ R N;exact qD.sub _ d m _ C D l L f1 F.gl (z i _ D N M) Lf
 refine⟨b,C,dx,W,_,Ds,_,J,g2.sub _ _<|g2.fr _ _ hq,F.cl,F.ca,qD.gt.1,qD.gt.2,F.mo,ak,B,?_⟩
 have:=k _ _ _ (p1.trans<|x1.jW g2) (x1.grow g2) J
 rw[Pa];exact this
def Ue{o:Pos}(z:X.N[i]?=U y)(r:mX X.env.scope y)(hd:bB y)(q:f9 y)(u:PE X b<|tE B fb)(hs:jH b) :
  PE X (.Subscript (.Name y o) b pos)<|tE B<|wV i fb:=by
 refine aV (Bj Bk (cK z r hd q) u hs) λσ H Q f=>?_;obtain⟨g,s,t,s',x,h,k⟩:=f;revert h;refine abG λL D=>abH λty P C=>abG λts A=>abG λM a=>λh=>?_;cases h;obtain⟨l,K,d,I,G,F⟩:=x.nX<|ef<|ao D;refine⟨_,d,g,s,ty,_,x,C,λv g1 H1 p c m=>?_⟩;obtain⟨R,E,q1,q2,n,q4⟩:=c.nX<|ef<|ao A;rw[d]at q1;cases q1;have a:=ao a;cases ty<;>try(cases a)
 obtain⟨w,e,j⟩:=uE q4<|a;exact⟨l,E,_,w,J,m,dW.of n,e,k w g1 H1 p c j⟩
def jB:T->T->FV
 |.int i,.int j=>U<|.int<|i+j
 |_,_=>Y
def Ze(r:X.N.Nodup)(p:X.N[i]?=U x)(m:Loc X.env.scope x)(he:PE X e<|tE B fa)(q:J2 X x) :
  PS X (.AugAssign (.Name x cL) .Add e pos)<|tS B<|Hl jB i fa:=cA (R_ r p m he Sa q) λD σ H b=>by
 obtain⟨g,s,o,s',z,h,k⟩:=b;unfold Hl at h;split at h
 .rename_i tx hr
  revert h;refine abH λty d u=>abG λt a=>λh=>?_;cases h;obtain⟨v,n,f⟩:=z.lc.at_ i _ hr;have a:=ao a;cases tx<;>first|(cases a;done)|(cases ty<;>try(cases a;done))
  cases a;cases(show v=V.int _ from f);refine⟨_,n,g,s,_,d,z,u,λw g1 H1 l c j=>?_⟩;cases(show w=V.int _ from j);exact⟨_,_,J,J,k _ g1 H1 l<|c.set (t:=.int _) J⟩
 .cases h
def B5(K:bG)(mg:Str->D2)(x:Str)(t:T):Prop:=∃u v,mg x=U u/\RelV v u/\∀(B:KT)(al:BM)(H:Hp),B.K=K->Rep B al H t v
def Zf(h:B5 X.K X.mg x t)(hB:B.K=X.K)(a:Gl X x)(hd:bB x):PE X (.Name x pos)<|tE B<|cF t:=by
 obtain⟨u,v,d,c,b⟩:=h;exact k8 (ue a d c hd) λal H=>b B al H hB
def Zg{a:Fh}(b:X.xe=λ_ _=>False)(h:gM X a t):PS X (.Try a (d::hs) [] [] pos) t:=λg s σ H D I q=>by
 refine wpAny_Try_except<|eP (h g s σ H D I q) (λf c z=>?_) λe c z=>?_
 .cases f with
  |next=>exact hW z
  |brk=>exact z
  |cont=>exact z
  |ret u=>exact z
 .rw[b]at z;exact z.elim
def My(neg:Bool):T->T->FV
 |x,.fh ks _=>(jy x).map λk=>.bl<|if neg then !decide (k∈ks)else decide (k∈ks)
 |_,_=>Y
def aM(op:mx)(x y:T):FV:=match op,y with
 |.In,.fh ks a=>My ZA x<|.fh ks a
 |.NotIn,.fh ks a=>My O x<|.fh ks a
 |op,y=>Mg op x y
def Wk:Option (Option C)->Option (List Ky×FR)
 |U<|U<|.od ks ts=>U (ks,ts)
 |_=>Y
def nA:mx->Option Bool
 |.In=>U ZA
 |.NotIn=>U O
 |_=>Y
def Mz(neg:Bool)(i:Nat)(a:FE):FE:=λs=>(a s).bind λp=>(bj<|Wk p.2.r[i]?).bind λd=>(bj<|jy p.1).bind λk=>.ok (.bl<|if neg then !decide (k∈d.1)else decide (k∈d.1),p.2)
def Zh(i:Nat)(s:S):Bool:=(mj s.r[i]?).isSome
def B6(i:Nat):FS:=λs=>.ok (.nx,jT s i<|.od [] [])
def bw(ks:List Ky)(ts:FR)(k:Ky)(t:T):List Ky×FR:=if k∈ks then(ks,(ks.zip ts).map λp=>if p.1=k then t else p.2)else(ks++[k],ts++[t])
def Qy(i:Nat)(b a:FE):FS:=λs=>(a s).bind λp=>(b p.2).bind λq=>(bj<|Wk p.2.r[i]?).bind λ_=>(bj<|Wk q.2.r[i]?).bind λd=>(bj<|jy q.1).bind λk=>(bj<|gd (Kk d.1<1000000) ()).bind λ_=>.ok (.nx,jT q.2 i<|let z:=bw d.1 d.2 k p.1;.od z.1 z.2)
section
variable{d p1:Pos}{al:BM}
def uN{a b:Ky}(h:kJ a=kJ b):a=b:=by
 cases a<;>cases b
 .injection h with h;rw[h]
 .cases h
 .cases h
 .injection h with h
  lia
def gR{k:Ky}(h:jy t=U k)(r:Rep B al H t v):v=kV (kJ k):=by
 cases t<;>try(cases h;done)
 .cases h;exact r
 .cases h;exact r.1
theorem pT:∀{ks:List Ky}{vs:List V},Kk ks=Kk vs->∀k,(j9 ((ks.map kJ).zip vs)<|kJ k).isSome=decide (k∈ks)
 |[],_,_,k=>by rfl
 |q::ks,[],h,_=>by cases h
 |q::ks,v::vs,h,k=>by
  rw[f6,rn];by_cases e:q=k
  .rw[jt<|by rw[e]]
   simp[e]
  .rw[ju λz=>e<|uN z,pT (tW.inj h) k]
   have:(k∈q::ks) ↔ (k∈ks):=⟨λz=>(bH.mp z).elim (λz=>dw z.symm e) id,ed _⟩
   simp[this]
theorem B7{k:Ky}(rt:Rep B al H t v):∀{ks:List Ky}{vs:List V}{ts:FR},Kk ks=Kk vs->aE B al H ts vs ->
  ((ks.map kJ).zip vs).map (λa=>if a.1=kJ k then(a.1,v)else a)=(ks.map kJ).zip ((ks.zip vs).map λp=>if p.1=k then v else p.2)/\ks.length=((ks.zip vs).map λp=>if p.1=k then v else p.2).length/\aE B al H ((ks.zip ts).map λp=>if p.1=k then t else p.2) ((ks.zip vs).map λp=>if p.1=k then v else p.2)
 |[],[],_,_,r=>⟨J,J,by rfl⟩
 |q::ks,[],_,h,_=>by cases h
 |[],_::_,_,h,_=>by cases h
 |q::ks,u::vs,ts,h,r=>by
  cases ts with
  |nil=>cases(r)
  |cons i ts=>
   obtain⟨g,j,e,c,rs⟩:=r;cases e;obtain⟨b,f,d⟩:=B7 rt (tW.inj h) rs;refine⟨?_,?_,?_⟩
   .simp only[f6,rn]at b ⊢
    rw[b];by_cases e:q=k
    .rw[bt<|by rw[e],bt e]
    .rw[b0 λz=>e<|uN z,b0 e]
   .simp only[rn,f6,ee]
    rw[<- f]
   .simp[rn,f6]
    refine⟨_,_,J,?_,d⟩;by_cases e:q=k
    .rw[bt e,bt e];exact rt
    lia
def HZ{k:Ky}(a:Kk ks=Kk vs)(r:aE B al H ts vs)(rt:Rep B al H t v) :
  ∃b,L2.putK ((ks.map kJ).zip vs) (kJ k) v=((bw ks ts k t).1.map kJ).zip b/\(bw ks ts k t).1.length=Kk b/\aE B al H (bw ks ts k t).2 b:=by
 unfold L2.putK bw;rw[pG,pT a];by_cases e:k∈ks
 .rw[bt<|de e,bt e]
  obtain⟨f,d,c⟩:=B7 rt a r;exact⟨_,f,d,c⟩
 .rw[b0<|by simpa using e,b0 e]
  refine⟨vs++[v],?_,by simp[a],r.app<|.one rt⟩
  rw[gk,List.zip_append<|by rw[cH];exact a]
  rfl
def Wl(neg:Bool):R2:=λx y H Q=>∃a o,y=.ref a/\rF H a x o/\Q (.bl<|if neg then !o.isSome else o.isSome) H
def H0(d:X.A.units+1<ll):hU X (eJ .In)<|Wl ZA:=λi s σ H x y v u Q I c b z=>by
 obtain⟨a,o,e,g,q⟩:=z;subst e
 obtain rfl:u=Value.ref a:=b
 exact aad d I g c λh f=>⟨.bl o.isSome,H,f,J,q⟩
def B8(d:X.A.units+1<ll):hU X (eJ .NotIn)<|Wl O:=λi s σ H x y v u Q I c b z=>by
 obtain⟨a,o,e,g,q⟩:=z;subst e
 obtain rfl:u=Value.ref a:=b
 exact LW d I g c λh f=>⟨.bl _,H,f,J,q⟩
def Qz(neg:Bool):sH X (My neg)<|Wl neg:=λB hB al HF H x y t tx ty Q b d c h k=>by
 unfold My at h;split at h
 case h_2=>cases h
 obtain⟨j,g,rfl⟩:=bW.mp h;obtain⟨a,i,rfl,f,e,l⟩:=c;rw[gR g d];refine⟨a,_,J,.inl ⟨_,_,(f.same b).rd,J,J⟩,?_⟩;rw[pT e];exact k _ HF H (.refl b) J
def B9(hr:bD k X.A):∃r,hU X (eJ op) r/\sH X (aM op) r:=by
 have g:X.A.units+1<ll:=by have:=hr.units;lia
 obtain⟨r,e,d⟩:=Tf (op:=op) hr;have f:(∀x y,aM op x y=Mg op x y)->∃r,hU X (eJ op) r/\sH X (aM op) r:=λz=>⟨r,e,by
  have:aM op=Mg op:=z3 λx=>z3 λy=>z x y
  rw[this];exact d⟩
 cases op
 case In=>exact⟨_,e.or<|H0 g,λB hB al HF H x y t tx ty Q a c b h k=>by
  unfold aM at h;split at h
  .exact .inr<|Qz ZA B hB al HF H x y t tx _ Q a c b h k
  .rename_i q;cases q
  .exact .inl<|d B hB al HF H x y t tx _ Q a c b h k⟩
 case NotIn=>exact⟨_,e.or<|B8 g,λB hB al HF H x y t tx ty Q a c b h k=>by
  unfold aM at h;split at h
  .rename_i q;cases q
  .exact .inr<|Qz O B hB al HF H x y t tx _ Q a c b h k
  .exact .inl<|d B hB al HF H x y t tx _ Q a c b h k⟩
 all_goals exact f λx y=>by cases y<;>rfl
def Ug(hB:B.K=X.K)(hr:bD k X.A)(g:PE X a<|tE B fa)(f:PE X b<|tE B fb)(d:fA op b=ZA):PE X (.Compare a [op] [b] pos)<|tE B<|bF (aM op) fa fb:=by
 obtain⟨r,c,e⟩:=B9 (op:=op) hr;exact aV (oj c g f d)<|nu hB e
def MA(hB:B.K=X.K)(hr:bD k X.A)(g:PE X a<|tE B fa)(f:PE X b<|tE B fb)(d:fA op b=ZA):PT X (.Compare a [op] [b] pos)<|tT B<|a_<|bF (aM op) fa fb:=by
 obtain⟨r,c,e⟩:=B9 (op:=op) hr;exact By (kU c g f d) λσ H Q q=>nu hB e σ H _<|BJ q
def uO{d:List Ky×FR}(h:Wk q=U d):q=U (U<|.od d.1 d.2):=by
 unfold Wk at h;split at h
 .cases h;rfl
 .cases h
def SR.Uh(x:SR B g H σ s)(h:s.r[i]?=U (U<|.od ks ts)):∃l vs,σ[i]?=U (U<|.ref l)/\g.o l=U (.loc i)/\H l=U (.dK<|(ks.map kJ).zip vs)/\ks.length=Kk vs/\aE B g.al g.HF ts vs:=by
 obtain⟨v,e,l,vs,rfl,d,c,b,a⟩:=x.lc.at_ i _ h;exact⟨l,vs,e,d,c,b,a⟩
def zS:∀σ H Q,tE B (Mz neg i fa) σ H Q->P0 (Wl neg) (tE B fa) (GD i) σ H Q:=by
 rintro σ H Q ⟨g,s,t,s',x,h,k⟩
 revert h;refine abH λtx r n=>abG λd m=>abG λu j=>λh=>?_;cases h;refine⟨g,s,tx,_,x,n,λv g1 H1 p1 a f=>?_⟩;obtain⟨l,q,e,p,c,b,o⟩:=a.Uh<|uO<|ao m;refine⟨_,e,?_⟩;rw[gR (ao j) f];refine⟨l,_,J,.k c,?_⟩;rw[pT b];exact k _ g1 H1 p1 a J
def jC(a:X.A.units+1<ll)(h:nA op=U neg):hU X (eJ op)<|Wl neg:=by
 cases op<;>try(cases h;done)
 .cases h;exact H0 a
 .cases h;exact B8 a
def Ui(hr:bD k X.A)(e:nA op=U neg)(j:PE X a<|tE B fa)(l:X.N[i]?=U y)(c:mX X.env.scope y)(hd:bB y)(b:f9 y) :
  PE X (.Compare a [op] [.Name y py] pos) (tE B<|Mz neg i fa)/\PT X (.Compare a [op] [.Name y py] pos) (tT B<|a_<|Mz neg i fa):=by
 have d:X.A.units+1<ll:=by have:=hr.units;lia
 have f:fA op (.Name y py)=ZA:=by cases op<;>rfl
 have o:=kU (pos:=pos) (jC d e) j (cK l c hd b) f;refine⟨aV (oj (jC d e) j (cK l c hd b) f) zS,λp m σ H Q I q=>?_⟩;obtain⟨g,s,t,s',x,h,n⟩:=BJ q;exact o p m σ H Q I<|zS σ H _ ⟨g,s,t,s',x,h,n⟩
def Uj(p:X.N.Nodup)(l:X.N[i]?=U x)(j:Loc X.env.scope x)(m:J2 X x) :
  PS X (.Assign [.Name x cL] (.Dict [] [] dp) pos)<|tS B<|B6 i:=cA (lX p l j wQ J m) λD σ H z=>by
 obtain⟨g,s,o,s',x,h,k⟩:=z;cases h;intro q d;obtain⟨e,n1,n2⟩:=mw x d;have f:=x.grow e;have p1:=x.jW e;refine k _ ((g.grow g.HF).own q _) _ ⟨p1.fr,p1.pre,λb u h n z=>?_,p1.there⟩<|f.aah n2 n1 ak J J;obtain⟨a,r,c⟩:=p1.rest b u h n z
 have:=aS h d
 exact⟨a,r,by show(if b=q then U _ else g.o b)=Y;rw[b0 this];exact c⟩
def Uk(hr:bD k X.A)(he:PE X e<|tE B fa)(L:PE X b<|tE B fb)(M:X.N[i]?=U y)(I:mX X.env.scope y)(hd:bB y)(G:f9 y)
  (hs:fv e (U<|.Subscript (.Name y py) b cL) pos.line X.env=pure ZA) :
  PS X (.Assign [.Subscript (.Name y py) b cL] e pos)<|tS B<|Qy i fb fa:=by
 have K:X.A.units+1<ll:=by have:=hr.units;lia
 refine cA (Bs K (cK M I hd G) L he hs) λD σ H p=>?_;obtain⟨g,s,o,s',x,h,k⟩:=p;revert h;refine abH λt m V=>abH λtk s2 T=>abG λd0 S=>abG λd R=>abG λF Q=>abG λ_ P=>λh=>?_;obtain⟨z,_⟩:=bo<|ao P;cases h;refine⟨g,s,t,m,x,V,λv g1 H1 p1 j w=>?_⟩;obtain⟨l,vs,a,w2,w3,w4,w5⟩:=j.Uh<|uO<|ao S;refine⟨_,a,g1,m,tk,s2,j,T,λu g2 H2 c f r=>?_⟩;have n:=uO<|ao R;obtain⟨l',gb,q1,q2,C,q4,q5⟩:=f.Uh n;rw[a]at q1;cases q1;obtain⟨Fq,e1,Z,W⟩:=HZ (k:=F) q4 q5<|w.mv c.pre c.fr;obtain⟨q,E⟩:=f.aai n a Z W;rw[gR (ao Q) r];refine⟨l,_,J,.k C ?_,?_⟩
 .rw[wb,cH,et]
  have:Kk d.1<1000000:=z
  lia
 .rw[e1]
  exact k σ g2 _ ((p1.trans c).trans E) q
end
def uP(n:Nat)(m:FX):T->Option (Nat×C)
 |.own k=>(m[k]?).bind λob=>(match ob.fs with
  |[c]=>if ob.c=n then U (k,c)else Y
  |_=>Y)
 |_=>Y
def aaB:C->FK
 |.ol ts=>U ts
 |_=>Y
def aaC:C->Option (List Ky×FR)
 |.od ks ts=>U (ks,ts)
 |_=>Y
def zT(n:Nat)(m:FX)(t:T):Option<|Nat×FR:=(uP n m t).bind λz=>(aaB z.2).map λts=>(z.1,ts)
def kq(n:Nat)(m:FX)(t:T):Option<|Nat×List Ky×FR:=(uP n m t).bind λz=>(aaC z.2).map λd=>(z.1,d.1,d.2)
def setB(n:Nat)(s:S)(k:Nat)(c:C):S:={s with m:=s.m.set k ⟨n,[c]⟩}
def mG(n:Nat):FE:=λs=>.ok (.own s.m.length,{s with m:=s.m++[⟨n,[.od [] []]⟩]})
def gS(n:Nat)(o a:FE):FS:=λs=>(o s).bind λp=>(bj<|zT n p.2.m p.1).bind λ_=>(a p.2).bind λq=>(bj<|zT n q.2.m p.1).bind λz=>(bj<|gd (Kk z.2<1000000) ()).bind λ_=>.ok (.nx,setB n q.2 z.1<|.ol<|z.2++[q.1])
def nY(n:Nat)(o b a:FE):FS:=λs=>(a s).bind λv=>(o v.2).bind λp=>(b p.2).bind λq=>(bj<|kq n q.2.m p.1).bind λz=>(bj<|jy q.1).bind λk=>(bj<|gd (Kk z.2.1<1000000) ()).bind λ_=>.ok (.nx,setB n q.2 z.1<|let y:=bw z.2.1 z.2.2 k v.1;.od y.1 y.2)
def xC(n:Nat)(neg:Bool)(a o:FE):FE:=λs=>(a s).bind λp=>(o p.2).bind λq=>(bj<|kq n q.2.m q.1).bind λz=>(bj<|jy p.1).bind λk=>.ok (.bl<|if neg then !decide (k∈z.2.1)else decide (k∈z.2.1),q.2)
def zU(n:Nat)(o b:FE):FE:=λs=>(o s).bind λp=>(b p.2).bind λq=>(bj<|kq n q.2.m p.1).bind λz=>(bj<|jy q.1).bind λk=>(bj<|fG z.2.1 z.2.2 k).bind λt=>.ok (t,q.2)
def rL(n:Nat)(o b d:FE):FE:=λs=>(o s).bind λp=>(bj<|kq n p.2.m p.1).bind λ_=>(b p.2).bind λq=>(d q.2).bind λw=>(bj<|kq n w.2.m p.1).bind λz=>(bj<|jy q.1).bind λk=>.ok ((fG z.2.1 z.2.2 k).getD w.1,w.2)
section
variable{f:cq}
def pU(h:uP n m t=U z):t=.own z.1/\m[z.1]?=U ⟨n,[z.2]⟩:=by
 cases t<;>try(cases h)
 obtain⟨ob,a,h⟩:=cj.mp<|h;obtain⟨d,fs⟩:=ob
 lia
def xF(h:zT n m t=U z):t=.own z.1/\m[z.1]?=U ⟨n,[.ol z.2]⟩:=by
 obtain⟨w,d,b⟩:=cj.mp h;obtain⟨ts,a,rfl⟩:=bW.mp b;obtain⟨f,e⟩:=pU d;obtain⟨k,c⟩:=w;cases c<;>try(cases a;done)
 cases a;exact⟨f,e⟩
def iF(h:kq n m t=U z):t=.own z.1/\m[z.1]?=U ⟨n,[.od z.2.1 z.2.2]⟩:=by
 obtain⟨w,e,b⟩:=cj.mp h;obtain⟨d,a,rfl⟩:=bW.mp b;obtain⟨g,f⟩:=pU e;obtain⟨k,c⟩:=w;cases c<;>try(cases a;done)
 cases a;exact⟨g,f⟩
def SR.uQ(x:SR B g H σ s)(b:B.cn[n]?=Y){c:C}(a:s.m[k]?=U ⟨n,[c]⟩)(d:g.al[k]?=U l):Ĭ B g H k ⟨n,[c]⟩ l/\bI B g H (.ob k) c (.ref l):=by
 rcases x.st.at_ k _ a with⟨e,C,i,ns,h,Z⟩|⟨e,Z⟩
 .obtain⟨m,q,_⟩:=Z.cl
  rw[b]at q;cases q
 .have:=Z.al.symm.trans d
  cases this;exact⟨Z,Z.f c J⟩
def SR.xG{c:C}(x:SR B g H σ s)(w:B.cn[n]?=Y)(t:B.fn[n]?=Y)(n1:g.HF l=Y)(n2:g.o l=Y)(q:H l=U u)(r:bI B (g.e9 l) H (.ob g.al.length) c<|.ref l):SR B (g.e9 l) H σ {s with m:=s.m++[⟨n,[c]⟩]}:=by
 have j:∀b a,g.o b=U a->(g.e9 l).o b=U a:=λb a h=>by
  show(if b=l then U _ else g.o b)=_
  rw[b0 λz=>by lia];exact h
 have pre:g.al <+: (g.e9 l).al:=A1 ..;refine⟨⟨x.sub,λb a e=>?_,?_,λk ob e=>?_⟩,x.lc.len,λi D e=>?_⟩
 .have e:(if b=l then U _ else g.o b)=U a:=e
  by_cases hb:b=l
  .subst hb;exact⟨n1,_,q⟩
  .rw[b0 hb]at e;exact x.st.live b a e
 .show(s.m++[_]).length=(g.al++[l]).length
  rw[cV,cV,x.st.len];rfl
 .have e:=e
  by_cases hk:k<Kk s.m
  .rw[jP hk]at e
   exact(x.st.at_ k ob e).mv (aR.refl _) pre λb a h _=>⟨j b a h,J⟩
  .rw[iw<|by lia]at e
   have f:=by
    have:=(dq.mp e).1
    simp at this;exact this
   rw[f]at e;cases e;have p:k=Kk g.al:=by have:=x.st.len;lia
   subst p;refine .inr ⟨l,?_,w,t,λd z=>by cases z;exact r⟩
   show(g.al++[l])[Kk g.al]?=U l;rw[iw<|bL _,nH];rfl
 .obtain⟨v,A,y⟩:=x.lc.at_ i D e
  exact⟨v,A,bI.mv (g:=g) (g':=g.e9 l) (aR.refl _) pre (λb h=>⟨j b _ h,J⟩) y⟩
def B_:(g.e9 l).o l=U (.ob g.al.length):=by
 show(if l=l then U _ else g.o l)=_
 simp
def du.xG(q:du g H g1 H1)(e:H l=Y):du g H (g1.e9 l) H1:=⟨q.fr,q.pre.trans<|A1 ..,λb u h n z=>by
 obtain⟨d,c,a⟩:=q.rest b u h n z;refine⟨d,c,?_⟩;show(if b=l then U _ else g1.o b)=Y
 rw[b0<|aS h e];exact a,q.there⟩
def xH(x:SR B g H σ s):Rep B (g.e9 l).al (g.e9 l).HF (.own s.m.length)<|.ref l:=⟨l,J,by
 show(g.al++[l])[Kk s.m]?=U l;rw[x.st.len,iw<|bL _,nH];rfl⟩
def Ul(m:B.cn[n]?=Y)(j:B.fn[n]?=Y)(he:PE X e<|tO B fl):PE X e<|tE B<|wW n fl:=aV he λσ H Q z=>by
 obtain⟨g,s,t,s',x,h,k⟩:=z;revert h;refine abH λts f o=>λh=>?_;cases h;exact⟨g,s,ts,f,x,o,λl d g1 H1 i a p n1 n2 b r=>k _ _ H1 (i.xG p) (a.xG m j n1 n2 b ⟨l,d,J,B_,b,r.mv (A1 ..)<|aR.refl _⟩)<|xH a⟩
def Um(f:B.cn[n]?=Y)(e:B.fn[n]?=Y):PE X (.Dict [] [] dp)<|tE B<|mG n:=aV wQ λσ H Q z=>by
 obtain⟨g,s,t,s',x,h,k⟩:=z;cases h;intro q b;obtain⟨d,n1,n2⟩:=mw x b;have a:=x.grow d;exact k _ _ _ ((x.jW d).xG b) (a.xG f e n1 n2 ak ⟨q,[],J,B_,ak,J,J⟩)<|xH a
def SR.QA{c c':C}(x:SR B g H σ s)(Z:Ĭ B g H k ⟨n,[c]⟩ l)(hk:s.m[k]?=U ⟨n,[c]⟩)(y:g.o l=U (.ob k))(r:bI B g (upd H l u) (.ob k) c'<|.ref l) :
  du g H g (upd H l u)/\SR B g (upd H l u) σ (setB n s k c'):=by
 have ne:∀b q,g.o b=U q->q≠.ob k->upd H l u b=H b:=λb q a t=>aq λz=>t (by lia)
 refine⟨ou y,⟨⟨λb w e=>?_,λb q e=>?_,by show(s.m.set k _).length=_;rw[eS];exact x.st.len,λp D e=>?_⟩,x.lc.len,λi c e=>?_⟩⟩
 .have:b≠l:=λz=>by rw[z,(x.st.live l _ y).1]at e;lia
  rw[aq this];exact x.sub _ _ e
 .obtain⟨f,w,A⟩:=x.st.live b q e
  by_cases a:b=l
  .exact⟨f,_,by rw[a,ak]⟩
  .exact⟨f,w,by rw[aq a];lia⟩
 .have e:(s.m.set k _)[p]?=U D:=e
  by_cases rJ:k=p
  .subst rJ
   rw[fR (dq.mp hk).1]at e;cases e;exact .inr ⟨l,Z.al,Z.nc,Z.nf,λd z=>by lia⟩
  .rw[eV rJ]at e
   refine(x.st.at_ p D e).mv (aR.refl _) e_ λb q h t=>⟨h,ne b q h ?_⟩;lia
 .obtain⟨v,f,A⟩:=x.lc.at_ i c e
  exact⟨v,f,bI.mv (aR.refl _) e_ (λb a=>⟨a,ne b _ a λz=>by lia⟩) A⟩
def Uo(q:B.cn[n]?=Y)(I:PE X o<|tE B fo)(K:bV o=O)(he:PE X e<|tE B fa)(hs:noStar e=O)(R:(bC.endLine == ba.line)=O) :
  PS X (.Expr (.Call (.Attribute o "append" bC) [e] [] ba) pos)<|tS B<|gS n fo fa:=by
 refine cA (iP (wF hJ oT oP jJ I (aW he cT<|au hs) (fM K) (Ed (by rw[dO,hs];rfl)<|by decide) R (au hs) J) J) λD σ H z=>?_
 obtain⟨g,s,W,s',x,h,k⟩:=z;revert h;refine abH λtx j Q=>abG λz0 P=>abH λt s2 N=>abG λz M=>abG λ_ L=>λh=>?_;obtain⟨G,_⟩:=bo<|ao L;cases h;obtain⟨r,m1⟩:=xF<|ao P;obtain⟨a,m2⟩:=xF<|ao M;subst r;refine⟨g,s,_,j,x,Q,λv g1 H1 E i A=>?_⟩;obtain⟨l,rfl,d⟩:=A;obtain⟨Z,l1,w,q1,o1,c,_⟩:=i.uQ q m1 d;cases q1;refine⟨.inl ⟨J,_,dW.of c⟩,g1,j,t,s2,i,N,λv g2 H2 p f y=>?_⟩;have S:z.1=z0.1:=by injection a with a;exact a.symm
 rw[<- S]at d;obtain⟨T,l2,V,q2,o2,b,m⟩:=f.uQ q m2<|eX p.pre d;cases q2;obtain⟨C,u⟩:=f.QA (c':=.ol _) T m2 o2 ⟨l,_,J,o2,ak,m.app<|.one y⟩;exact⟨l,V,v,J,J,b,m.len▸fB G<|by decide,k σ g2 _ ((E.trans p).trans C) u⟩
def Zi(R:B.cn[n]?=Y)(hr:bD K X.A)(he:PE X e<|tE B fa)(N:PE X o<|tE B fo)(S:PE X b<|tE B fb)(hs:fv e (U<|.Subscript o b cL) pos.line X.env=pure ZA) :
  PS X (.Assign [.Subscript o b cL] e pos)<|tS B<|nY n fo fb fa:=by
 have M:X.A.units+1<ll:=by have:=hr.units;lia
 refine cA (Bs M N S he hs) λD σ H z=>?_;obtain⟨g,s,oo,s',x,h,k⟩:=z;revert h;refine abH λt j h1=>abH λtx s2 h2=>abH λtk r h3=>abG λz h4=>abG λf W=>abG λ_ V=>λh=>?_;obtain⟨L,_⟩:=bo<|ao V;cases h;obtain⟨c,m1⟩:=iF<|ao h4;dsimp only at c;subst c;refine⟨g,s,t,j,x,h1,λv g1 H1 I q F=>⟨g1,j,_,s2,q,h2,λw g2 H2 d p E=>⟨g2,s2,tk,r,p,h3,λu g3 H3 a i C=>?_⟩⟩⟩;obtain⟨l,rfl,T⟩:=E;obtain⟨Z,l1,vs,q1,o1,Q,P,y⟩:=i.uQ R m1<|eX a.pre T;cases q1;obtain⟨Fq,c,e2,e3⟩:=HZ (k:=f) P y<|(F.mv d.pre d.fr).mv a.pre a.fr;obtain⟨G,m⟩:=i.QA (c':=.od (bw z.2.1 z.2.2 f t).1 (bw z.2.1 z.2.2 f t).2) Z m1 o1 ⟨l,Fq,J,o1,ak,e2,e3⟩;rw[gR (ao W) C];refine⟨l,_,J,.k Q ?_,?_⟩
 .rw[wb,cH,et]
  have:Kk z.2.1<1000000:=L
  lia
 .rw[c]
  exact k σ g3 _ (((I.trans d).trans a).trans G) m
def QC(p:B.cn[n]?=Y):∀σ H Q,tE B (xC n neg fa fo) σ H Q->P0 (Wl neg) (tE B fa) (tE B fo) σ H Q:=by
 rintro σ H Q ⟨g,s,t,s',x,h,k⟩
 revert h;refine abH λtx b A=>abH λty s2 y=>abG λz u=>abG λF r=>λh=>?_;cases h;obtain⟨c,m1⟩:=iF<|ao u;subst c;refine⟨g,s,tx,b,x,A,λv g1 H1 j d f=>⟨g1,b,_,s2,d,y,λw g2 C i a e=>?_⟩⟩;obtain⟨l,rfl,q⟩:=e;obtain⟨Z,l1,D,q1,o1,o,m,E⟩:=a.uQ p m1 q;cases q1;rw[gR (ao r) f];refine⟨l,_,J,.k o,?_⟩;rw[pT m];exact k _ g2 C (j.trans i) a J
def Up{b:Nat}(f:B.cn[n]?=Y)(hr:bD b X.A)(d:nA op=U neg)(g:PE X a<|tE B fa)(c:PE X o<|tE B fo)(e:fA op o=ZA):PE X (.Compare a [op] [o] pos)<|tE B<|xC n neg fa fo:=
 aV (oj (jC (by have:=hr.units;lia) d) g c e)<|QC f
def Uq{b:Nat}(f:B.cn[n]?=Y)(hr:bD b X.A)(d:nA op=U neg)(g:PE X a<|tE B fa)(c:PE X o<|tE B fo)(e:fA op o=ZA):PT X (.Compare a [op] [o] pos)<|tT B<|a_<|xC n neg fa fo:=
 By (kU (jC (by have:=hr.units;lia) d) g c e) λσ H Q q=>QC f σ H _<|BJ q
theorem oG{k:Ky}:∀{ks:List Ky}{ts:FR}{vs:List V},Kk ks=Kk vs->aE B al HF ts vs->(∀t,fG ks ts k=U t->∃v,j9 ((ks.map kJ).zip vs) (kJ k)=U v/\Rep B al HF t v)/\(fG ks ts k=Y->j9 ((ks.map kJ).zip vs) (kJ k)=Y)
 |[],ts,[],_,r=>by
  refine⟨λt h=>?_,λ_=>J⟩;cases ts<;>cases h
 |[],_,_::_,h,_=>by cases h
 |q::ks,_,[],h,_=>by cases h
 |q::ks,[],u::vs,h,r=>by cases(r)
 |q::ks,t::ts,u::vs,h,r=>by
  obtain⟨c,f,e,b,rs⟩:=r;cases e;rw[f6,rn];by_cases e:q=k
  .rw[jt<|by rw[e]]
   refine⟨λd a=>?_,λa=>?_⟩
   .rw[fG,bt e]at a
    lia
   .rw[fG,bt e]at a;lia
  .rw[ju λz=>e<|uN z,fG,b0 e]
   exact oG (tW.inj h) rs
def Zj(F:B.cn[n]?=Y)(hr:bD u X.A)(C:PE X o<|tE B fo)(G:PE X b<|tE B fb)(hs:SM b):PE X (.Subscript o b pos)<|tE B<|zU n fo fb:=by
 refine aV (Br (by have:=hr.units;lia) C G hs) λσ H Q z=>?_
 obtain⟨g,s,t,s',x,h,k⟩:=z;revert h;refine abH λtx c P=>abH λty s2 N=>abG λz M=>abG λr L=>abG λT K=>λh=>?_;cases h;obtain⟨e,m1⟩:=iF<|ao M;subst e;refine⟨g,s,_,c,x,P,λv g1 H1 q f p=>⟨g1,c,ty,s2,f,N,λw g2 R d a m=>?_⟩⟩;obtain⟨l,rfl,I⟩:=p;obtain⟨Z,l1,S,q1,o1,E,D,j⟩:=a.uQ F m1<|eX d.pre I;cases q1;obtain⟨v,y,i⟩:=(oG D j).1 _<|ao K;rw[gR (ao L) m];exact⟨l,v,J,y▸.k E,k v g2 R (q.trans d) a i⟩
def Zk{V:Nat}(D:B.cn[n]?=Y)(hr:bD V X.A)(ho:PE X o<|tE B fo)(hb:PE X b<|tE B fb)(hd:PE X f<|tE B fc)(m:M2 X o "get" bC b f ba):PE X (.Call (.Attribute o "get" bC) [b,f] [] ba)<|tE B<|rL n fo fb fc:=by
 refine aV (Hi (by have:=hr.units;lia) ho hb hd m) λσ H Q z=>?_
 obtain⟨g,s,t,s',x,h,k⟩:=z;revert h;refine abH λtx r h1=>abG λz0 h2=>abH λty s2 h3=>abH λK M h4=>abG λz h5=>abG λC h6=>λh=>?_;cases h;obtain⟨E,m1⟩:=iF<|ao h2;obtain⟨a,m2⟩:=iF<|ao h5;subst E;refine⟨g,s,_,r,x,h1,λv g1 H1 u q T=>?_⟩;obtain⟨l,rfl,p⟩:=T;obtain⟨Z1,l1,I,q1,o1,j,_⟩:=q.uQ D m1 p;cases q1;refine⟨l,J,.inl ⟨_,.inl j⟩,g1,r,ty,s2,q,h3,λw g2 H2 i G S=>⟨g2,s2,K,M,G,h4,λy g3 F d c R=>?_⟩⟩;have ek:z.1=z0.1:=by injection a with a;exact a.symm
 rw[<- ek]at p;obtain⟨Z,l2,vs,q2,o2,hh,hl,P⟩:=c.uQ D m2<|eX d.pre<|eX i.pre p;cases q2;rw[gR (ao h6) S];obtain⟨g4,g5⟩:=oG hl P;refine⟨_,.k hh,?_⟩;cases e:fG _ _ C with
 |none=>rw[e]at k;rw[g5 e];exact k _ g3 F ((u.trans i).trans d) c R
 |some L=>
  rw[e]at k;obtain⟨v,W,N⟩:=g4 L e;exact W▸k _ g3 F ((u.trans i).trans d) c N
end
section
variable{c c':C}{a Q dx:bp}
def ez.one(x:ez B g H m)(hk:m[k]?=U ob)(Z:Fj B g H k ob a Q dx ns vs)(t:vs[j]?=U w)(sub:aR g'.HF H')(live:∀b p,g'.o b=U p->g'.HF b=Y/\∃u,H' b=U u)(fr:aR g.HF g'.HF)(A:g'.al=g.al)
  (r:∀l p,g.o l=U p->p≠.fld k j->(∀i,p≠.loc i)->g'.o l=U p/\H' l=H l) (q:bI B g' H' (.fld k j) c' w):ez B g' H'<|m.set k ⟨ob.c,ob.fs.set j c'⟩:=by
 have pre:g.al <+: g'.al:=by rw[A];simp
 refine⟨sub,live,by rw[eS,A];exact x.len,λs D e=>?_⟩
 by_cases rJ:k=s
 .subst rJ
  rw[fR (dq.mp hk).1]at e;cases e;obtain⟨C,G⟩:=r a _ Z.o (λz=>by lia) (λi z=>by lia)
  refine .inl ⟨a,Q,dx,ns,vs,eX pre Z.al,C,Z.cl,G.trans Z.h,Z.le,by rw[eS];exact Z.ln,λn d e=>?_⟩
  by_cases hj:j=n
  .subst hj
   have I:j<Kk ob.fs:=Z.ln▸(dq.mp t).1
   have e:=e;rw[fR I]at e;cases e;exact⟨w,t,q⟩
  .have e:=e
   rw[eV hj]at e;obtain⟨v,F,E⟩:=Z.f n d e;exact⟨v,F,E.mv fr pre λl z=>r l _ z (λz=>hj<|by lia) (λi z=>by lia)⟩
 .rw[eV rJ]at e
  refine(x.at_ s D e).mv fr pre λl p h y=>r l p h ?_ ?_
  . lia
  lia
end
def jd(tab:Ap)(f:Nat)(m:FX):T->Option (Nat×Ob×Nat×C)
 |.own k=>(m[k]?).bind λob=>(iV tab ob.c f).bind λj=>(ob.fs[j]?).map λc=>(k,ob,j,c)
 |_=>Y
def H_(m:FX)(z:Nat×Ob×Nat×C)(c:C):FX:=m.set z.1 ⟨z.2.1.c,z.2.1.fs.set z.2.2.1 c⟩
def Ur:C->FV
 |.ol ts=>U<|.lst ts
 |.od ks ts=>U<|.fh ks ts
 |_=>Y
def iZ(n:Nat)(tab:Ap)(f:Nat)(a:FE):FE:=λs=>(a s).bind λp=>(bj<|jd tab f p.2.m p.1).bind λz=>match z.2.2.2 with
 |.val t=>(match uP n p.2.m t with
  |some y=>(bj<|Ur y.2).bind λu=>.ok (u,{p.2 with m:=H_ (p.2.m.set y.1 ⟨n,[]⟩) z (.val u)})
  |none=>.ok (t,p.2))
 |_=>.bad
def zV(tab:Ap)(f:Nat)(b:T->T->FV)(o a:FE):FS:=λs=>(o s).bind λp=>(bj<|jd tab f p.2.m p.1).bind λz=>match z.2.2.2 with
 |.val t=>(a p.2).bind λq=>(bj<|jd tab f q.2.m p.1).bind λy=>(bj<|gd (y.2.1.c=z.2.1.c) ()).bind λ_=>(bj<|b t q.1).bind λu=>.ok (.nx,{q.2 with m:=H_ q.2.m y (.val u)})
 |_=>.bad
def SR.MB(G:nW X.K X.mg P){n:Str}(u:P.an[f]?=U n)(x:SR (P.kt X) g H σ s)(h:jd P.tab f s.m t=U z)(r:Rep (P.kt X) g.al g.HF t v) :
  ∃a b dx ns vs w,v=.ref a/\Fj (P.kt X) g H z.1 z.2.1 a b dx ns vs/\s.m[z.1]?=U z.2.1/\vs[z.2.2.1]?=U w/\bI (P.kt X) g H (.fld z.1 z.2.2.1) z.2.2.2 w/\qU X.K b/\bK X.K b n/\(ns.zip vs).lookup n=U w:=by
 cases t<;>try(cases h)
 rename_i k;obtain⟨ob,o,h⟩:=cj.mp<|h;revert h;refine abc λj i=>λh=>?_;obtain⟨c,A,rfl⟩:=bW.mp h;obtain⟨a,rfl,y⟩:=r;rcases x.st.at_ k ob o with⟨B,b,dx,ns,vs,Z⟩|⟨B,Z⟩
 case inr=>
  obtain⟨l,q,_⟩:=cj.mp i;have z:(P.tab.map _)[ob.c]?=Y:=Z.nf;rw[eQ,q]at z;cases z
 have:=Z.al.symm.trans y
 cases this;obtain⟨D,E,p,F⟩:=G.of Z.cl;have e:=oz u p i;obtain⟨w,d,sl⟩:=Z.f j c A;exact⟨a,b,dx,ns,vs,w,J,Z,o,d,sl,F.cl,F.na _<|jf e,by rw[iW F.nd e,d]⟩
def SR.aaD{c:C}(x:SR B g H σ s)(Z:Ĭ B g H k ⟨n,[c]⟩ l)(hk:s.m[k]?=U ⟨n,[c]⟩)(f:g.o l=U (.ob k)) :
  du g H (g.iy l u) (upd H l u)/\SR B (g.iy l u) (upd H l u) σ {s with m:=s.m.set k ⟨n,[]⟩}:=by
 have y:=(x.st.live l _ f).1;have ne:∀b p,g.o b=U p->p≠.ob k->(g.iy l u).o b=U p:=λb p a r=>by
  have:b≠l:=λe=>r (by lia)
  show(if b=l then Y else g.o b)=_
  lia
 refine⟨uB f y,⟨⟨λb w e=>?_,λb q e=>?_,by rw[eS];exact x.st.len,λt E e=>?_⟩,x.lc.len,λi d e=>?_⟩⟩
 .have e:upd g.HF l u b=U w:=e
  by_cases a:b=l
  .subst a;rw[ak]at e ⊢;exact e
  .rw[aq a]at e ⊢;exact x.sub _ _ e
 .have e:(if b=l then Y else g.o b)=U q:=e
  by_cases a:b=l
  . lia
  .rw[b0 a]at e
   obtain⟨D,A⟩:=x.st.live b q e;exact⟨by show upd g.HF l u b=Y;rw[aq a];lia,(aq a)▸A⟩
 .have e:=e
  by_cases rJ:k=t
  .subst rJ
   rw[fR (dq.mp hk).1]at e;cases e;exact .inr ⟨l,Z.al,Z.nc,Z.nf,λd z=>by lia⟩
  .rw[eV rJ]at e
   refine(x.st.at_ t E e).mv (bg y) e_ λb q h F=>?_;have r:q≠.ob k:=by
    lia
   exact⟨ne b q h r,aq λz=>r<|by lia⟩
 .obtain⟨v,D,A⟩:=x.lc.at_ i d e
  exact⟨v,D,pK f y (λz=>by lia) A⟩
def SR.aaE{a c dx:bp}(x:SR B g H σ s)(hk:s.m[z.1]?=U z.2.1)(Z:Fj B g H z.1 z.2.1 a c dx ns vs)(b:vs[z.2.2.1]?=U w)(q:bI B g H (.fld z.1 z.2.2.1) c' w):SR B g H σ {s with m:=H_ s.m z c'}:=
 ⟨x.st.one hk Z b x.st.sub x.st.live (aR.refl _) J (λ_ _ h _ _=>⟨h,J⟩) q,x.lc⟩
def sQ(h:jd tab f m t=U z):t=.own z.1/\m[z.1]?=U z.2.1/\iV tab z.2.1.c f=U z.2.2.1/\z.2.1.fs[z.2.2.1]?=U z.2.2.2:=by
 cases t<;>try(cases h)
 obtain⟨ob,d,h⟩:=cj.mp<|h;revert h;refine abc λj b=>λh=>?_;obtain⟨c,a,rfl⟩:=bW.mp h;exact⟨J,d,b,a⟩
def MC{c:C}(h:Ur c=U u)(q:bI B g H (.ob k) c<|.ref l)(lv:g.HF l=Y):g.o l=U (.ob k)/\Rl H λH'=>∃b,H'=upd H l b/\Rep B (g.iy l b).al (g.iy l b).HF u (.ref l):=by
 cases c<;>try(cases h;done)
 .cases h
  obtain⟨i,a,e,d,f,r⟩:=q;cases e;exact⟨d,.inl ⟨_,(zw f).symm,l,a,J,ak,r.mv e_<|bg lv⟩⟩
 .cases h
  obtain⟨i,a,e,d,f,j,r⟩:=q;cases e;exact⟨d,.inr ⟨l,_,f,λob=>⟨_,J,l,a,J,⟨ob,ak⟩,j,r.mv e_<|bg lv⟩⟩⟩
def Us(qD:nW X.K X.mg P)(V:P.cn[n]?=Y)(T:P.an[f]?=U nm)(he:PE X e<|tE (P.kt X) fa)(o:bV e=O):PE X (.Attribute e nm pos)<|tE (P.kt X)<|iZ n P.tab f fa:=by
 refine aV (Qc<|GU he<|fM o) λσ H Q z=>?_;obtain⟨g,s,t,s',x,h,k⟩:=z;revert h;refine abH λtx d h1=>abG λz h2=>λh=>?_;have S:=ao h2;refine⟨g,s,_,d,x,h1,λv g1 H1 R b N=>?_⟩;obtain⟨a,Ca,dx,ns,vs,w,rfl,Z,hk,hw,sl,cl,na,lk⟩:=b.MB qD T S N;refine⟨a,Ca,dx,_,w,J,Z.h,cl,na,lk,?_⟩;obtain⟨A,ob,j,c⟩:=z;cases c<;>try(cases h)
 rename_i tv;dsimp only at h;cases o:uP n d.m tv with
 |none=>
  rw[o]at h;cases h;exact .inl<|k w g1 H1 R b sl
 |some y=>
  rw[o]at h;revert h;refine abG λu B=>λh=>?_;cases h;obtain⟨p,m1⟩:=pU o;subst p;obtain⟨l,rfl,W⟩:=sl;obtain⟨ZB,C⟩:=b.uQ V m1 W;have E:g1.HF l=Y:=by
   obtain⟨kb,cb⟩:=y;cases cb<;>try(cases B)
   .obtain⟨D,_,e,i,_⟩:=C
    cases e;exact(b.st.live l _ i).1
   .obtain⟨D,_,e,i,_⟩:=C
    cases e;exact(b.st.live l _ i).1
  obtain⟨i,rl⟩:=MC (ao B) C E;refine rl.imp λH2 zz=>?_;obtain⟨hu,rfl,M⟩:=zz;obtain⟨r,L⟩:=b.aaD (u:=hu) ZB m1 i;obtain⟨e0,p,I,e3⟩:=sQ S;dsimp only at e0 p I e3;have rJ:y.1≠A:=λz=>by
   rw[z,p]at m1;cases m1;obtain⟨mm,q2,_⟩:=Z.cl;rw[V]at q2;lia
  have F:(d.m.set y.1 ⟨n,[]⟩)[A]?=U ob:=by rw[eV rJ];exact p
  have Zl:jd P.tab f (d.m.set y.1 ⟨n,[]⟩) tx=U (A,ob,j,.val<|.own y.1):=by
   rw[e0];show((d.m.set _ _)[A]?).bind _=_;rw[F];show(iV P.tab ob.c f).bind _=_;rw[I];show(ob.fs[j]?).map _=_;rw[e3];rfl
  obtain⟨a',Ca',ģ,Fi,gb,w',e4,Z',G,Ĵ,V6,_⟩:=L.MB qD T Zl<|N.mv r.pre r.fr;obtain⟨D,e5,Ħ⟩:=V6
  have:=by
   have q:=eX r.pre W;rw[q]at Ħ;exact kM.inj Ħ
  subst this;subst e5;exact k _ _ _ (R.trans r) (L.aaE G Z' Ĵ M) M
def Er(h:jB t u=U w):∃i j,t=.int i/\u=.int j/\w=.int (i+j):=by
 cases t<;>first|(cases h;done)|(cases u<;>first|(cases h;done)|(cases h;exact⟨_,_,J,J,J⟩))
def Zm(qD:nW X.K X.mg P)(m:P.an[f]?=U nm)(ho:PE X o<|tE (P.kt X) fo)(he:PE X e<|tE (P.kt X) fa):PS X (.AugAssign (.Attribute o nm cL) .Add e pos)<|tS (P.kt X)<|zV P.tab f jB fo fa:=by
 refine cA (DW ho he Sn) λD σ H z=>?_;obtain⟨g,s,oo,s',x,h,k⟩:=z;revert h;refine abH λtx B h1=>abG λz h2=>λh=>?_;have S:=ao h2;refine⟨g,s,_,B,x,h1,λv g1 H1 Q A C=>?_⟩;obtain⟨a,Ca,dx,ns,vs,w,rfl,Z,hk,hw,sl,cl,na,lk⟩:=A.MB qD m S C;refine⟨a,Ca,dx,_,w,J,Z.h,cl,na,lk,?_⟩;obtain⟨k0,ob,j,c⟩:=z;cases c<;>try(cases h)
 revert h;refine abH λty s2 h3=>abG λy h4=>abG λ_ h5=>λh=>?_;obtain⟨r,_⟩:=bo<|ao h5;revert h;refine abG λu n=>λh=>?_;cases h;have n:=ao n;obtain⟨i,d,rfl,rfl,rfl⟩:=Er n;cases(sl);refine⟨g1,B,_,s2,A,h3,λL g2 H2 l t M=>?_⟩;cases(M);refine⟨_,_,J,J,?_⟩;have F:=ao h4;obtain⟨a2,Ca2,p,R,Fq,w3,e4,q,hk2,T,_,_⟩:=t.MB qD m F<|C.mv l.pre l.fr;cases e4;obtain⟨k2,b,E,c2⟩:=y;have r:=r;have G:=q.cl;rw[r]at G;obtain⟨rfl,rfl⟩:=G.eq Z.cl;obtain⟨e0,e1,e2,e3⟩:=sQ F;have W:gz P.tab f (.val<|.int<|i+d) b=U ⟨b.c,b.fs.set E<|.val<|.int<|i+d⟩:=by
  unfold gz;rw[e2];show(setAt b.fs E _).map _=_;unfold setAt;rw[bt (dq.mp e3).1];rfl
 obtain⟨_,_,hl,gb,e5,N,I⟩:=BS qD m t q e1 W λj=>J;refine⟨p,_,q.h,hl,?_⟩;exact e5▸k σ g2 _ ((Q.trans l).trans N) I
def Zn(c:FT)(a b:FL):FL:=λs=>(c s).bind λp=>if p.1 then a p.2 else b p.2
def cpO:T->FK
 |.tup ts=>U ts
 |.lst ts=>U ts
 |_=>Y
def o1(g:T->FK)(a:FE):FL:=λs=>(a s).bind λp=>(bj<|g p.1).bind λts=>.ok (ts,p.2)
def Ib:T->T->FK
 |.lst a,.int k=>gd (k<1000000/\-1000000<k/\a.length*k.toNat<=1000000) (cR k.toNat a).flatten
 |_,_=>Y
def o2(g:T->T->FK)(a b:FE):FL:=λs=>(a s).bind λp=>(b p.2).bind λq=>(bj<|g p.1 q.1).bind λts=>.ok (ts,q.2)
def Es:T->FK
 |.int j=>gd (0<=j/\j<1000000)<|lT 0 j.toNat
 |_=>Y
def Et:FR->FK
 |[.int i,.int j,.int k]=>gd (j=-1/\k=-1/\-1<=i/\i<1000000)<|(df (i+1).toNat).map λk=>.int<|i-(k:Nat)
 |_=>Y
def Ut:T->FK
 |.lst ts=>U ts.reverse
 |_=>Y
def isSlice:cq->Bool
 |.Slice _ _ _ _=>O
 |_=>ZA
def K6(i:Nat)(b a:FE):FS:=λs=>match Zh i s with
 |true=>eu i b a s
 |false=>Qy i b a s
def Zo(q:PT X c<|tT B ft)(u:PE X a<|tO B fl)(r:PE X b<|tO B gl):PE X (.IfExp c a b pos)<|tO B<|Zn ft fl gl:=aV (wj q u r) λσ H Q z=>by
 obtain⟨g,s,t,s',x,h,k⟩:=z;revert h;refine abH λd j v=>λh=>?_;refine⟨g,s,d,j,x,v,λg1 H1 e p=>?_⟩;cases d with
 |true=>exact nQ ⟨g1,j,_,_,p,h,λl i g2 o m f n=>k l i g2 o (e.trans m) f<|e.there l n⟩
 |false=>exact nP ⟨g1,j,_,_,p,h,λl i g2 o m f n=>k l i g2 o (e.trans m) f<|e.there l n⟩
def Zp(hB:B.K=X.K)(n:X.mg "list" = Y)(o:Gl X "list")(w:PE X a<|tE B fa)(hs:noStar a=O):PE X (.Call (.Name "list" p) [a] [] pos)<|tO B<|o1 cpO fa:=by
 refine aV (iA iS o n wd (aW w cT<|au hs) (by decide) (by rfl) (au hs) J) λσ H Q z=>?_
 obtain⟨g,s,t,s',x,h,k⟩:=z;revert h;refine abH λtx m y=>abG λts d=>λh=>?_;cases h;refine⟨g,s,tx,m,x,y,λv g1 H1 f c e=>?_⟩;have b:=λ{xs} r l i=>by
  obtain⟨j,n1,n2⟩:=mw c i;exact k l xs _ _ (f.trans<|c.jW j) (c.grow j) (f.there l i) n1 n2 ak r
 cases tx<;>try(cases d;done)
 .cases d
  obtain⟨l,xs,rfl,q,r⟩:=e;exact⟨l,xs,J,.inr<|hB▸bM c.sub q,b r⟩
 .cases d
  obtain⟨l,xs,rfl,q,r⟩:=e;exact⟨l,xs,J,.inl<|dW.of<|c.sub _ _ q,b r⟩
def Uu(D:PE X a<|tE B fa)(C:PE X b<|tE B fb):PE X (.BinOp a .Mult b pos)<|tO B<|o2 Ib fa fb:=by
 refine aV (r8 G7 D C) λσ H Q z=>?_;obtain⟨g,s,t,s',x,h,k⟩:=z;revert h;refine abH λtx i F=>abH λty s2 E=>abG λts d=>λh=>?_;cases h;have d:=ao d;refine⟨g,s,tx,i,x,F,λv g1 H1 j o A=>⟨g1,i,ty,s2,o,E,λw g2 G f e y=>?_⟩⟩;cases tx<;>first|(cases d;done)|(cases ty<;>try(cases d;done))
 obtain⟨c,rfl⟩:=bo d;obtain⟨l,xs,rfl,q,r⟩:=A.mv f.pre f.fr;refine⟨l,_,xs,J,y,e.sub _ _ q,by lia,by lia,by rw[<- r.len,et];lia,λp m=>?_⟩
 obtain⟨n,n1,n2⟩:=mw (u:=.lst (cR _ xs).flatten) e m;exact k p _ _ _ ((j.trans f).trans<|e.jW n) (e.grow n) (j.there p<|f.there p m) n1 n2 ak<|r.flat _
def MD(h:Es t=U ts):∃j,t=.int j/\(0<=j/\j<1000000)/\ts=lT 0 j.toNat:=by
 cases t<;>try(cases h)
 obtain⟨c,rfl⟩:=bo h;exact⟨_,J,c,J⟩
def QD(L:X.calm=O)(o:X.mg "list" = Y)(n:X.mg "range" = Y)(y:Gl X "list")(w:Gl X "range")(M:PE X a<|tE B fa)(hs:noStar a=O) :
  PE X (.Call (.Name "list" p) [.Call (.Name "range" d) [a] [] D] [] pos)<|tO B<|o1 Es fa:=by
 refine aV (iA (rE L) y o wd (aW (iA D_ w n PyProof.Rows.boot_range (aW M cT<|au hs) (by decide) (by rfl) (au hs) J) cT<|au J) (by decide) (by rfl) (au J) J) λσ H Q z=>?_
 obtain⟨g,s,t,s',x,h,k⟩:=z;revert h;refine abH λtx E N=>abG λts A=>λh=>?_;cases h;have A:=ao A;obtain⟨j,rfl,c,rfl⟩:=MD A;refine⟨g,s,_,E,x,N,λv g1 H1 d m F=>?_⟩;cases F;refine⟨j,J,λq K=>⟨q,j,J,ak,c.1,by lia,λl f=>?_⟩⟩
 obtain⟨C,n1,n2⟩:=mw m K;have i:=m.grow C;obtain⟨b,I,G⟩:=mw i f;have P:=(aS ak f).symm;have r:H1 l=Y:=by rw[aq P]at f;exact f
 have e:((df j.toNat).map λk=>V.int (k:Nat))=(df j.toNat).map λk=>V.int<|0+((k:Nat)):=by
  simp
 refine k l _ _ _ ((d.trans<|m.jW C).trans<|i.jW b) (i.grow b) (d.there l r) I G ak ?_;exact e▸aE.lT 0 _
theorem aE.rev:∀{ts:FR}{vs:List V},aE B al H ts vs->aE B al H ts.reverse vs.reverse
 |[],_,h=>by have h:=h;subst h;rfl
 |t::ts,_,h=>by
  obtain⟨v,r,rfl,b,a⟩:=h;rw[Pq,Pq];exact a.rev.app<|.one b
def ME{a b c:T}(h:Et [a,b,c]=U ts):∃i,a=.int i/\b=.int (-1)/\c=.int (-1)/\-1<=i/\i<1000000/\ts=(df (i+1).toNat).map λk=>.int<|i-(k:Nat):=by
 cases a<;>first|(cases h;done)|(cases b<;>first|(cases h;done)|(cases c<;>try(cases h;done)))
 obtain⟨⟨rfl,rfl,e,d⟩,rfl⟩:=bo h;exact⟨_,J,J,J,e,d,J⟩
def Uv(E:Gl X "range")(D:X.mg "range" = Y)(I:PE X a<|tE B fa)(G:PE X b<|tE B fb)(F:PE X c<|tE B fc)(hs:[a,b,c].all noStar=O):PI X tg (.Call (.Name "range" p) [a,b,c] [] pos)<|tI B<|Fg Et<|bq fa<|bq fb<|bq fc aT:=by
 simp only[dO,Pu,AU,bP]at hs;obtain⟨k1,k2,k3⟩:=hs;have P:c5 [c] X.env=[(ZA,fu c X.env)]:=au k3;have j:c5 [b,c] X.env=[(ZA,fu b X.env),(ZA,fu c X.env)]:=by rw[au k2,P]
 have Q:c5 [a,b,c] X.env=[(ZA,fu a X.env),(ZA,fu b X.env),(ZA,fu c X.env)]:=by rw[au k1,j]
 refine nq (LR E D (aW I (aW G (aW F cT<|au k3)<|au k2)<|au k1) Q j) λσ H R z=>?_;obtain⟨g,s,t,s',x,h,k⟩:=z;revert h;refine abH λts s1 f=>abG λT N=>λh=>?_;cases h;revert f;refine abH λtx s2 M=>abH λty s3 e=>λf=>?_;cases f;revert e;refine abH λV s4 L=>abH λW s5 d=>λe=>?_;cases e;revert d;refine abH λZ s6 K=>λd=>?_;cases d;obtain⟨i,rfl,rfl,rfl,l1,l2,rfl⟩:=ME<|ao N;refine⟨g,s,_,_,x,M,λv g1 H1 C n r=>⟨g1,_,_,_,n,L,λw g2 H2 A m q=>⟨g2,_,_,_,m,K,λu g3 S y l o=>?_⟩⟩⟩;cases r;cases q;cases o;exact⟨_,J,l1,by lia,k _ g3 S ((C.trans A).trans y) l<|lA (HN _ _)<|aE.dwn _ _⟩
def Zq(C:Gl X "reversed")(A:X.mg "reversed" = Y)(D:PE X a<|tE B fa)(hs:noStar a=O):PI X tg (.Call (.Name "reversed" p) [a] [] pos)<|tI B<|o1 Ut fa:=by
 have m:c5 [a] X.env=[(ZA,fu a X.env)]:=au hs;refine nq (SG C A (aW D cT m) m) λσ H R z=>?_;obtain⟨g,s,t,s',x,h,k⟩:=z;revert h;refine abH λtx c E=>abG λts d=>λh=>?_;cases h;have d:=ao d;cases tx<;>try(cases d;done)
 cases d;refine⟨g,s,_,c,x,E,λv g1 H1 w f u=>?_⟩;obtain⟨l,j,rfl,q,r⟩:=u;refine⟨l,j,J,dW.of<|f.sub _ _ q,k _ g1 H1 w f ⟨λi H1 c b=>?_,λi H1 x I c b y=>?_,λi H1 c b=>?_⟩⟩
 .rw[Gj,r.len]at b
  exact⟨b,dW.of<|c _ _ q⟩
 .rw[Gj,r.len]at b
  obtain⟨rfl,e⟩:=y;have e':j.reverse[i]?=U x:=by rw[List.getElem?_reverse b];exact e
  obtain⟨t,G,F⟩:=r.rev.zu e';exact⟨t,G,λn s2 o=>⟨n,.refl o,F.same s2⟩⟩
 .rw[Gj,r.len]at b
  exact b
def Zr(K:PE X b<|tE B fb)(he:PE X e<|tE B fa)(L:X.N[i]?=U y)(I:mX X.env.scope y)(hd:bB y)(G:f9 y)(hs:fv e (U<|.Subscript (.Name y py) b m) pos.line X.env=pure ZA)(W:isSlice b=ZA) :
  PS X (.Assign [.Subscript (.Name y py) b m] e pos)<|tS B<|eu i fb fa:=by
 refine cA (GN he (R9 (cK L I hd G) K set_list λv=>?_) hs J J) λD σ H z=>?_
 .cases b<;>first|rfl|(cases W)
 obtain⟨g,s,oo,s',x,h,k⟩:=z;revert h;refine abH λt n T=>abG λMF S=>abH λtk s2 R=>abG λts Q=>abG λj P=>abG λus M=>λh=>?_;obtain⟨⟨q,Z⟩,rfl⟩:=bo<|ao M;cases h;have V:tk=.int j:=BL<|ao P;subst V;refine⟨g,s,t,n,x,T,λv g1 H1 F f A=>?_⟩;obtain⟨l,vs,a,w2,w3,w4⟩:=f.nX<|ef<|ao S;refine⟨_,a,g1,n,_,s2,f,R,λu g2 H2 c d w=>?_⟩;have o:=ef<|ao Q;obtain⟨l',p,q1,q2,C,q4⟩:=d.nX o;rw[a]at q1;cases q1;cases w;obtain⟨r,E⟩:=d.chg o a<|q4.set (A.mv c.pre c.fr) j.toNat;have hl:Kk ts=Kk p:=q4.len;refine⟨l,p,j,j.toNat,J,J,C,?_,k σ g2 _ ((F.trans c).trans E) r⟩;unfold G0;rw[bt q,bt<|by lia]
def aaF{py a:Pos}(hr:bD k X.A)(l:PE X b<|tE B fb)(he:PE X e<|tE B fa)(m:X.N[i]?=U y)(f:mX X.env.scope y)(hd:bB y)(d:f9 y)(hs:fv e (U<|.Subscript (.Name y py) b a) pos.line X.env=pure ZA)(o:isSlice b=ZA) :
  PS X (.Assign [.Subscript (.Name y py) b a] e pos)<|tS B<|K6 i fb fa:=λn sh σ H D I z=>by
 obtain⟨g,s,c,s',x,h,k⟩:=z;unfold K6 at h;cases j:Zh i s with
 |true=>
  rw[j]at h;exact Zr l he m f hd d hs o n sh σ H D I ⟨g,s,c,s',x,h,k⟩
 |false=>
  rw[j]at h;exact Uk hr he l m f hd d hs n sh σ H D I ⟨g,s,c,s',x,h,k⟩
def fP:cq->Option Const
 |.Constant c _ _=>U c
 |_=>Y
def aaG:T->Bool
 |.fh _ _=>O
 |_=>ZA
def Zs(hB:B.K=X.K)(hr:bD L X.A)(m:PE X a<|tE B fa)(j:PE X b<|tE B fb)(hs:jH b):PE X (.Subscript a b pos)<|tE B<|bF Bt fa fb:=λr sh σ H Q I z=>by
 obtain⟨g,s,t,s',x,h,k⟩:=z;obtain⟨⟨tx,c⟩,p,f⟩:=aa h;revert f;refine abH λty s2 o=>abG λV n=>λf=>?_;cases f;cases hd:aaG tx with
 |false=>
  refine Ti hB m j hs r sh σ H Q I ⟨g,s,t,_,x,?_,k⟩;have e:iE tx ty=Bt tx ty:=by cases tx<;>first|rfl|(cases hd)
  unfold bF;rw[p];show(fb c).bind _=_;rw[o];show(bj _).bind _=_;rw[e,n];rfl
 |true=>
  cases tx<;>try(cases hd)
  obtain⟨G,R,P⟩:=cj.mp<|ao n;refine Br (by have:=hr.units;lia) m j hs r sh σ H Q I ⟨g,s,_,c,x,p,λv g1 H1 F u E=>⟨g1,c,ty,s2,u,o,λw g2 S d i D=>?_⟩⟩
  obtain⟨l,T,rfl,q,N,C⟩:=E.mv d.pre d.fr;obtain⟨v,M,y⟩:=(oG N C).1 _ P;rw[gR R D];exact⟨l,v,J,M▸.inl ⟨_,_,(q.same i.sub).rd,J,J⟩,k v g2 S (F.trans d) i y⟩
def iG{q}(h:fP e=U q):∃k p,e=.Constant q k p:=by
 cases e<;>first|(cases h;done)|(cases h;exact⟨_,_,J⟩)
end D
namespace PySem
open Sem (wp)
end PySem
namespace L2
open PySem PySem.Spec PyProof.Rows
end L2
namespace D
open PySem L2
def Zt:FR->FV
 |[.int i,.int j]=>U<|.int<|if j > i then j else i
 |_=>Y
def Zu:LN X Zt λxs H Q=>∃i j,xs=[.int i,.int j]/\Q (.int<|if j > i then j else i) H:=λB hB al HF H xs t ts Q a r h k=>by
 match ts,h with
 |[.int i,.int j],h=>
  cases h;obtain⟨v,e,rfl,c,r⟩:=r;obtain⟨w,d,rfl,b,r⟩:=r;cases r;cases c;cases b;exact⟨i,j,J,k _ HF H (.refl a) J⟩
end D
namespace Ts
open PySem PyProof.Rows
variable{A:ew}
def pV(j:s.heap.get? a=U (seqObj "list" vs.toArray n))(c:yB vs g)(k:vs.length<64)
  (h:∀(o:Array ar)(b:Bi),yB o.toList b->b.Perm g->sortedS b=O->P (.done<|.ret .none) {s with heap:=sortedHeap s.heap a vs o}) :
  cC (cx prog w) A (Builtin.«list.sort» ⟨[.ref a],[]⟩) P E s:=by
 refine list_sort_treeK strKind_oneLt j c.keysOf (λf d rest e=>keyKind_strs<|e▸c) k λq i hs=>?_
 obtain⟨b,p,m,l⟩:=sorted_out_str c i hs;exact h _ b p m l
end Ts
namespace L2
open PySem PySem.Spec PyProof.Rows PySem.W
def pX(l:Ap):Ap:=l.mergeSort λa b=>!decide (b<a)
def mH(l:Ap):(pX l).Perm l:=List.mergeSort_perm ..
def sR{a b c:B1}(e:¬ b<a)(d:¬ c<b):¬ c<a:=λh=>by
 have e:=e;have d:=d;exact dw h<|List.le_trans e d
def Ic(l:Ap):(pX l).Pairwise λa b=>¬ b<a:=by
 have:=List.pairwise_mergeSort (le:=λa b:B1=>!decide (b<a)) (λa b c e d=>by
  simp only[yQ,n3]at e d ⊢;exact sR e d) (λa b=>by
  simp only[vY,yQ,n3];exact List.le_total a b) l
 exact this.imp λh=>by simpa using h
theorem Ie:∀{l:Bi}{p:Str},risingS p l=O->((p::l).map λx=>x.cps.toList).Pairwise λa b=>¬ b<a
 |[],p,_=>List.pairwise_singleton ..
 |x::l,p,h=>by
  have h:(!ltCps x.cps.toList p.cps.toList&&risingS x l)=O:=h;rw[bP,ltCps_eq]at h;have d:=Ie h.2;refine Pw.mpr ⟨λy c=>?_,d⟩;have e:=by simpa using h.1
  rcases bH.mp c with rfl|c
  .exact e
  .exact sR e<|(Pw.mp d).1 y c
def Ig(p:c.Perm d)(h:sortedS c=O):(c.map λx=>x.cps.toList)=pX (d.map λx=>x.cps.toList):=by
 refine List.Perm.eq_of_pairwise (λa b _ _ f e=>List.le_antisymm f e) ?_ (Ic _)<|(p.map _).trans (mH _).symm;cases c with
 |nil=>exact Px.nil
 |cons x l=>exact Ie h
theorem jL:∀{vs:B2}{a:Bi},yB vs a->Vals (a.map V.str) vs
 |_,_,.nil=>.nil
 |_,_,.cons x t h=>.cons ⟨t,J⟩<|jL h
variable{X:Cx}{A:ew}
def MG:∀{vs:B2},vs.length=a.length->(∀(j:Nat)(v:ar),vs[j]?=U v->∃x t,a[j]?=U x/\v=Value.str x t)->yB vs a:=by
 induction a with
 |nil=>intro vs b _;cases vs with
  |nil=>exact .nil
  |cons _ _=>simp at b
 |cons x a c=>
  intro vs b h;cases vs with
  |nil=>simp at b
  |cons v vs=>
   obtain⟨y,t,e,rfl⟩:=h 0 v J;cases e;exact .cons x t<|c (by simpa using b) λj u d=>h (j+1) u d
def zW{g:Bi}(K:KdlSrc X.prog X.w T r d n P S)(D:A.handled=Y)(I:Inv X N R H s)(bz:S s.heap)(M:n<64)(y:g.length=n)(L:∀(i:Nat)(v:ar),P i v->∃x t,g[i]?=U x/\v=Value.str x t)
  (q:∀(l:bp)(f:Bi),H l=Y->(f.map λx=>x.cps.toList)=pX (g.map λx=>x.cps.toList)->Q (.ref l) (upd H l<|.lst<|f.map V.str)):cC (cx X.prog X.w) A (call (.builtin "sorted") [.ref r]) (EP X N R Q) E s:=by
 have p:n<=16777216:=by lia
 refine Calls.call_function_entry kind_sorted plain_sorted entry_sorted (args_sorted1 _) ?_;refine ax<|dv ?_;refine ax<|kdu_collect K D bz (by exact p) λa tk c hk Zv=>?_
 have h:c.toList.length=n:=by exact Zv.1
 have G:=MG (h.trans y.symm) λj v e=>L j v<|Zv.2 j v<|y6▸e
 refine ax<|wpAny_newList ?_<|h▸p
 have k:(a.push _).get? a.objs.size=U (seqObj "list" c.toList.toArray 0):=c3 _ J;refine ax<|lb<|wpAny_call_entry slot_list_sort ⟨_,k,J⟩ entry_list_sort (Ts.pV k G (h▸M) λout f a1 a2 a3=>⟨_,J,?_⟩)<|args_list_sort _
 obtain⟨e,F⟩:=sortedHeap_at k;have C:=I.kept (t':=tk) hk
 have kp:∀b u,a.get? b=U u->(sortedHeap (a.push<|seqObj "list" c.toList.toArray 0) a.objs.size c.toList out).get? b=U u:=λb u z=>by
  have B:=cv z;rw[sortedHeap_old (eM B)<|by rw[size_push'];exact FY B]
  exact av _ z
 have lo:out.toList.length=n:=by
  rw[<- (jL a1).length,cH,a2.length_eq];exact y
 refine dv ⟨_,J,⟨.ref a.objs.size,_,C.laid kp (bL _) (o:=.lst _) ⟨?_,out.toList,e,jL a1,?_⟩,J,q _ f ?_<|Ig a2 a3⟩⟩
 .rw[(jL a1).length,lo];exact p
 . exact F
 .exact C.bz.fresh<|bL _
def Zw(kvs:List<|Key×V)(a:Bi):Prop:=kvs.map (·.1)=a.map λx=>(.inr x:Key)
def Zw.at_(h:Zw kvs a)(r:KV kvs vs){i:Nat}(e:vs[i]?=U (k,x))(b:(cu X.prog X.w).is k u=O):∃y t,a[i]?=U y/\u=Value.str y t:=by
 have c:(vs.map (·.1))[i]?=U k:=by rw[eQ,e];rfl
 rw[<- r.keys,h,eQ]at c;obtain⟨y,d,rfl⟩:=bW.mp c;obtain⟨t,rfl⟩:=Bm<|b;exact⟨y,t,d,J⟩
def uR(n:X.calm=O):fT X (.builtin "sorted") λxs H Q=>∃d kvs a,xs=[.ref d]/\Rd H d (.dK kvs)/\Zw kvs a/\a.length<64/\∀(l:bp)(e:Bi),H l=Y->(e.map λx=>x.cps.toList)=pX (a.map λx=>x.cps.toList)->Q (.ref l) (upd H l<|.lst<|e.map V.str):=by
 intro N s R H xs A Q I r h;obtain⟨d,kvs,a,rfl,hd,hk,o,q⟩:=h;obtain⟨u,rfl,j⟩:=vals1 r;cases j;obtain⟨z,lo,c,f,y⟩:=nj I.bz hd;obtain⟨ep,b⟩:=y.dictAt;have g:a.length=c.length:=by have:=ej F9 hk;simp[cH]at this;rw[<- this,f.length]
 refine zW (kdl_dict lo) (I.ok.hd n) I b (g▸o) g (λi v m=>?_) q
 obtain⟨k,x,t,p⟩:=m;exact hk.at_ f t p
end L2
namespace D
open PySem L2
def xJ:List Ky->Option Ap
 |[]=>U []
 |.s x::r=>(xJ r).map (x::·)
 |_::_=>Y
theorem sU:∀{ks:List Ky}{xs:Ap},xJ ks=U xs->ks=xs.map Ky.s
 |[],_,h=>by cases h;rfl
 |.s x::r,_,h=>by
  obtain⟨y,a,rfl⟩:=bW.mp h;rw[f6,<- sU a]
 |.i _::_,_,h=>by cases h
def Ih(ks:List Ky):FV:=(xJ ks).bind λxs=>gd (Kk xs<64/\(xs.all λx=>decide<|x.length<=1000000)=O)<|.lst<|(pX xs).map T.str
def Ii(n:Nat)(o:FE):FE:=λs=>(o s).bind λp=>(bj<|kq n p.2.m p.1).bind λz=>(bj<|Ih z.2.1).bind λt=>.ok (t,p.2)
section
variable{B:KT}{a b o:cq}{n i:Nat}
def MH{xs:Ap}{a:Bi}(h:(a.map λx=>x.cps.toList)=xs):a.map V.str=xs.map SV:=by
 subst h;simp
theorem Cb:∀{l:Ap},(∀x∈l,Kk x<=1000000)->aE B al HF (l.map T.str) (l.map SV)
 |[],_=>J
 |x::l,h=>⟨SV x,_,J,⟨J,h x<|d_ ..⟩,Cb λy a=>h y<|ed _ a⟩
def MI{t:T}(h:Ih ks=U t)(i:Kk ks=Kk vs)(x:SR B g H N s){Q:VK}
  (k:∀v g' H',du g H g' H'->SR B g' H' N s->Rep B g'.al g'.HF t v->Q v H') :
  ∃a:Bi,Zw ((ks.map kJ).zip vs) a/\a.length<64/\∀(l:bp)(b:Bi),H l=Y->(b.map λx=>x.cps.toList)=pX (a.map λx=>x.cps.toList)->Q (.ref l) (upd H l<|.lst<|b.map V.str):=by
 revert h;refine abc λxs m=>λh=>?_;obtain⟨⟨j,f⟩,rfl⟩:=bo h;have e:=sU m;refine⟨xs.map λx=>⟨x.toArray⟩,?_,by rw[cH];exact j,λl b n hs=>?_⟩
 .unfold Zw
  rw[List.map_fst_zip<|by rw[cH,i];simp,e,j5,j5]
  rfl
 .rw[j5,show((λx:Str=>x.cps.toList)∘λx:B1=>⟨x.toArray⟩)=id from z3 λx=>by simp,Pk]at hs
  rw[MH hs];have c:=Gr.new (o:=.lst<|(pX xs).map SV) x.sub n;refine k _ _ _ (x.jW c) (x.grow c) ⟨l,_,J,ak,Cb λy d=>?_⟩;exact bh<|dP.mp f y<|(mH xs).mem_iff.mp d
def Zx(a:X.calm=O)(A:B.cn[n]?=Y)(m:PE X o<|tE B P)(hs:noStar o=O)(y:Gl X "sorted")(q:X.mg "sorted" = Y):PE X (.Call (.Name "sorted" p) [o] [] pos)<|tE B<|Ii n P:=by
 refine aV (jm (uR a) y q PyProof.Rows.boot_sorted (aW m cT<|au hs) (he:=au hs)) λN H Q z=>?_;obtain⟨g,s,t,L,x,h,k⟩:=z;revert h;refine abH λtx e F=>abG λz E=>abG λt D=>λh=>?_;cases h;obtain⟨c,m1⟩:=iF<|ao E;subst c;refine⟨g,s,_,e,x,F,λv g1 H1 j b f=>?_⟩;obtain⟨l,rfl,C⟩:=f;obtain⟨Z,l1,K,q1,o1,w,u,M⟩:=b.uQ A m1 C;cases q1;obtain⟨d,q2,i⟩:=MI (ao D) u b λv G I p x r=>k v G I (j.trans p) x r;exact⟨_,_,d,J,.inl w,q2,i⟩
def aI:FR->Option Ee
 |[]=>U []
 |.int i::r=>(aI r).map (i::·)
 |_::_=>Y
end
end D
namespace PySem
open Sem (wp)
end PySem
namespace L2
open PySem PySem.Spec PyProof.Rows
end L2
namespace D
open PySem L2
end D
namespace L2
open PySem PySem.Spec PyProof.Rows
end L2
namespace D
open PySem L2
end D
namespace L2
open PySem
def Ij(f:Array ar->Array ar)(o:Obj):(k4 f o).dict=o.dict:=by
 unfold k4;split<;>rfl
def Wm(h:eI)(e:bp)(d:Option bp×ar):Prop:=∃o a,h.get? e=U o/\o.dict=d.1/\o.data=.fields a/\a[2]?=U d.2
variable{A:ew}{s:ag}
def Ik
  (v:A.frames=U (env::outer)) (k:s.heap.FunFrames base<|env::outer) (x:env.frame=U L)
  (he:s.heap.get? e=U f) (QF:base.StaysIn s.heap) (D:base.get? e=Y) (hd:f.data=.fields vs) (hsz:1<vs.size) (C:vs[0]?=U a0) (B:vs[2]?=U c2)
  (h:∀h',Heap.NotedW base (env::outer) e f.cls a0 (qr L) s.heap h'->Wm h' e (f.dict,c2)->Q () {s with heap:=h'}) :
  cC M A (do let a <- frameOf env;let j <- entryPlaceOf L w;let b <- wx c a .none (qr L) .none j;setField (.ref e) 1 b) Q E s:=by
 have ne:e∉(env::outer).filterMap _:=λz=>by
  obtain⟨_,o,q,n⟩:=k.mem z;rw[he]at q;cases q;exact n vs hd
 refine ax<|wpAny_frameOf_fun v k x λg l=>ax<|wpAny_entryPlaceOf λj i=>?_;refine ax<|wpAny_newObj_type ?_<|i.sizeOk5 ..;have t:=(l.2.1 e ne).trans he;have b1:base.StaysIn g:=λb o q=>(l.2.1 b λz=>by rw[(k.mem z).1]at q;lia).trans<|QF b o q
 obtain⟨tb,d⟩:∃tb:Obj,tb={cls:=.type "traceback",dict:=Y,data:=.fields ([c,.ref L,.none,qr L,.none]++(if j.isEmpty then cR 6 iq else j)).toArray}:=⟨_,J⟩
 rw[<- d];have r:=av tb t;have u:=DC<|cv t;have d3:=rX hd (·.setIfInBounds 1<|Value.ref g.objs.size)
 have p:=mB _ r<|Bp d3
 have t3:=(gI (g.push tb) (k4 (·.setIfInBounds 1<|Value.ref g.objs.size))<|f3 u).trans<|c3 g<|by rw[d];rfl
 have keep:∀b o,b≠e->g.get? b=U o->((g.push tb).update e<|k4 (·.setIfInBounds 1<|Value.ref g.objs.size)).get? b=U o:=λb o y q=>(gI _ _<|f3 y).trans<|av _ q
 have m:∀b o,s.heap.get? b=U o->(∀vs,o.data≠.fields vs)->b≠e:=λb o q n z=>by
  rw[z,he]at q;cases q;exact n vs hd
 refine y8 r hd hsz<|h _ ⟨λb o q=>keep b o (λz=>by rw[z,D]at q;lia)<|b1 b o q,k.of_keeps λb o q n=>?_,?_,λb o q n=>?_⟩ ⟨_,_,p,Ij ..,d3,by rw[sm<|by lia];exact B⟩
 .obtain⟨sl,z⟩:=l.2.2 b o q
  exact⟨_,keep b _ (m b o q n) z,J⟩
 .refine⟨_,_,g.objs.size,_,_,p,⟨Obj.cls_mapFields ..,by rw[sm<|by decide];lia⟩,d3,by simp[hsz],b1.fresh,u,t3,by rw[d],?_⟩
  rfl
 .obtain⟨sl,z⟩:=l.2.2 b o q
  exact⟨sl,keep b _ (m b o q n) z⟩
def Cd
  (QF:base.StaysIn s.heap) (w:s.heap.FunFrames base l) (v:s.heap.TracedAtW base e cls a0 fl) (i:Wm s.heap e d)
  (h:∀h',base.StaysIn h'->h'.FunFrames base l->h'.TracedW base e cls a0->Wm h' e d->(∀b o,s.heap.get? b=U o->(∀vs,o.data≠.fields vs)->h'.get? b=U o)->Q () {s with heap:=h'}) :
  cC M A (vi (.ref e) Y) Q E s:=by
 obtain⟨t,vs,T,C,ts,m,x,hd,p,ĵ,j,g,c,y⟩:=v;obtain⟨u,B,r,i⟩:=i;have sz:=(Array.getElem?_eq_some_iff.mp y).1;have a:∀b,b≠T->(s.heap.update T<|k4 (·.setIfInBounds 3<|(Y:Option bp).elim iq λf=>qr f)).get? b=s.heap.get? b:=λb z=>gI _ _<|f3 z
 have k:∀b o,s.heap.get? b=U o->(∀vs,o.data≠.fields vs)->b≠T:=λb o q n z=>by
  rw[z,g]at q;cases q;exact n ts c
 refine ax<|wD m hd p ?_;rw[bt<|by simp]
 exact y8 g c sz<|h _ (λb o q=>(a b λz=>by lia).trans<|QF b o q) (w.of_keeps λb o q n=>⟨o,(a b<|k b o q n).trans q,J⟩)
  ⟨t,vs,T,_,_,(a e<|f3 j).trans m,x,hd,p,ĵ,j,mB _ g<|Bp<|rX c _,rX c _,by simp[sz]⟩
  ⟨u,B,(a e<|f3 j).trans r,i⟩ λb o q n=>(a b<|k b o q n).trans q
def lC(base:eI)(l:List Env)(e:bp)(cls a0:ar)(d:Option bp×ar)(h:eI):Prop:=Heap.FlyingW base l e cls a0 h/\Wm h e d
section
variable{base:eI}{Q:JN}
def nOn(t:A.frames=U (env::outer))(m:env.frame=U L)(F:lC base (env::outer) e cls a0 d s.heap)
  (h:∀h',Heap.NotedW base (env::outer) e cls a0 (qr L) s.heap h'->Wm h' e d->Q () {s with heap:=h'}):cC M A (sb (.ref e) env) Q E s:=by
 obtain⟨⟨QF,I,y,N,i,T,P,ts,c,⟨B,H⟩,hd,r,ĵ,K,f,g,p⟩,R,S,j,C,l,G⟩:=F;obtain⟨d1,d2⟩:=d;rw[c]at j;cases j;rw[hd]at l;cases l;subst B C;unfold sb;simp only[m];refine ax<|wD c hd r ?_;rw[bt<|by simp]
 refine ax<|wD f g p ?_;rw[b0<|by simp[qr]]
 refine ax<|y8 f g (Array.getElem?_eq_some_iff.mp p).1 ?_;have a:∀b,b≠T->(s.heap.update T<|k4 (·.setIfInBounds 3 iq)).get? b=s.heap.get? b:=λb z=>gI _ _<|f3 z
 have k:∀b o,s.heap.get? b=U o->(∀i,o.data≠.fields i)->b≠T:=λb o q n z=>by
  rw[z,f]at q;cases q;exact n ts g
 exact Ik t (y.of_keeps λb o q n=>⟨o,(a b<|k b o q n).trans q,J⟩) m ((a e<|f3 K).trans c)
  (λb o q=>(a b λz=>by lia).trans<|QF b o q) I hd (Array.getElem?_eq_some_iff.mp r).1 H G
  λh' ⟨x,w,v,u⟩ D=>h h' ⟨x,w,v,λb o q n=>u b o ((a b<|k b o q n).trans q) n⟩ D
def Zy(base:eI)(l:List Env)(e:bp)(cls a0:ar)(d:Option bp×ar)(L:bp)(h:eI):Prop:=Heap.HeldW base l e cls a0 L h/\Wm h e d
def QI(a:A.frames=U (env::outer))(c:env.frame=U L)(F:lC base (env::outer) e cls a0 d s.heap)
  (h:∀h',Zy base (env::outer) e cls a0 d L h'->s.heap.UpToSlots h'->Q () {s with heap:=h'}):cC M A (sb (.ref e) env) Q E s:=
 nOn a c F λh' ⟨k1,k2,k3,b⟩ D=>h h' ⟨⟨k1,F.1.2.1,k2,k3⟩,D⟩ b
def Il(H:Zy base l e cls a0 d L s.heap)(h:∀h',lC base l e cls a0 d h'->s.heap.UpToSlots h'->Q () {s with heap:=h'}):cC M A (vi (.ref e) Y) Q E s:=by
 obtain⟨⟨j,i,g,f⟩,D⟩:=H;exact Cd j g f D λh' k1 k2 k3 c a=>h h' ⟨⟨k1,i,k2,k3⟩,c⟩ λb o q n=>⟨o.slots,a b o q n⟩
def upTo{h f e:eI}(a:h.UpToSlots f)(b:f.UpToSlots e):h.UpToSlots e:=λc o q n=>by
 obtain⟨sl,q1⟩:=a c o q n;obtain⟨d,q2⟩:=b c _ q1 n;exact⟨d,q2⟩
def Uw(b:A.frames=U (env::outer))(g:env.frame=U L)(F:lC base (env::outer) e cls a0 d s.heap)
  (h:∀h',lC base outer e cls a0 d h'->s.heap.UpToSlots h'->Q () {s with heap:=h'}):cC M A (yy env<|.ref e) Q E s:=by
 refine ax<|QI b g F λj H1 f=>Il H1 λi a c=>h i ⟨⟨a.1.1,a.1.2.1,?_,a.1.2.2.2⟩,a.2⟩<|upTo f c;obtain⟨_,_,k⟩:=a.1.2.2.1;exact k
def Im(j:A.frames=U (env::outer))(g:env.frame=U L)(QF:base.StaysIn h)(v:h.FunFrames base<|env::outer)(kp:∀b o,h.get? b=U o->s.heap.get? b=U o)(new:h.get? e=Y)
  (he:s.heap.get? e=U c) (hd:c.data=.fields vs) (y:vs[0]?=U (.ref t)) (f:vs[1]?=U .none) (d:vs[2]?=U c2)
  (w:∀h',lC base outer e c.cls (.ref t) (c.dict,c2) h'->s.heap.UpToSlots h'->Q () {s with heap:=h'}):cC M A (yy env<|.ref e) Q E s:=by
 have fr:base.get? e=Y:=by
  cases q:base.get? e with
  |none=>rfl
  |some u=>have:=QF e u q;lia
 apply ax;unfold sb;simp only[g];refine ax<|wD he hd f ?_;refine Ik j (v.of_keeps λb o q _=>⟨o,kp b o q,J⟩) g he (λb o q=>kp b o<|QF b o q) fr hd (Array.getElem?_eq_some_iff.mp f).1 y d λf i D=>?_;obtain⟨p,n,m,l⟩:=i;refine Il ⟨⟨p,fr,n,m⟩,D⟩ λd a r=>w d ⟨⟨a.1.1,a.1.2.1,?_,a.1.2.2.2⟩,a.2⟩<|upTo l r;obtain⟨_,_,k⟩:=a.1.2.2.1;exact k
end
section
variable{os:jI}
variable{bs bm G sub rest:B2}
def Eu(F:ExcBaseFacts B newId H G)(T:OwnTail h G bm){Q:Fin->ag->Prop}
  (c:h.get? C=U (oy nm q C N bs bm hdct sn sub ab col dd k0 k1 k2 k3 k5 newId)) (s:h.Ns N mN) (u:mN "__init__" = U (.ref D)) (l:h.get? D=U oI) (k:oI.cls=.type "function")
  (p:∀h' e,u5 h h' e (.ref C) rest->h.objs.size<=e->cC (cx prog w) A (call (.ref D)<|.ref e::rest) (λr s'=>r=.none/\Q (.done<|.ret<|.ref e) s') E ⟨h',g,d,t,os⟩) (hr:rest.length<=cw) :
  cC (cx prog w) A (Builtin.«type.__call__» ⟨.ref C::rest,[]⟩) Q E ⟨h,g,d,t,os⟩:=by
 repeat (first|with_reducible refine mI c ?_|with_reducible refine wpAny_madeBy_exc c ?_|wp_step)
 refine codeAny_call_builtin_code (ri _ F.quiet)<|wpAny_check_new_subT F T c<|codeAny_exc_new_subT F T c ?_ hr;show cC _ _ _ _ _ _;obtain⟨f,j⟩:∃f:Obj,f={cls:=.ref C,data:=.fields #[.ref h.objs.size,.none,.none,.none,.bool ZA,.none]}:=⟨_,J⟩;obtain⟨a,i⟩:∃a,a=(h.push {cls:=.type "tuple",data:=.seq rest.toArray}).push f:=⟨_,J⟩;have kp:∀b o,h.get? b=U o->a.get? b=U o:=λb o z=>by rw[i];exact av _<|av _ z
 have m:a.get? (h.objs.size+1)=U f:=by rw[i];exact si (by simp only[lx]) (by rw[j];rfl)
 have n:a.get? h.objs.size=U {cls:=.type "tuple",data:=.seq rest.toArray}:=by rw[i];exact av _<|si J J
 rw[<- j,<- i];have n1:a.Ns N mN:=let⟨o,es,ep,z,r⟩:=s;⟨o,es,ep,kp _ _ z,r⟩;have y:(Value.ref C::bm).contains (.ref C)=O:=by simp
 have v:f.cls=.ref C:=by rw[j]
 unfold zQ
 repeat (first|(with_reducible refine mI m ?_;rw[v])|(with_reducible refine wpAny_isSubtype_exc (kp _ _ c) ?_;rw[y])|wp_step)
 show cC _ _ (ti (.ref C) _) _ _ _;refine wpAny_typeLookup_tail (kp _ _ c) n1 (T.keeps kp) F.mroIs F.init.lookup ?_;rw[u];refine lb<|ax ?_;unfold bindSpecial;refine ax<|wpAny_typeOf (T := "function") ⟨_,kp _ _ l,k⟩ ?_;rw[bt<|by decide]
 refine dv<|ax<|eP (p a (h.objs.size+1) ⟨kp,n5<|vX _,h.objs.size,by rw[m,j],n5<|bL _,n⟩<|vX _) (λr s' z=>?_) λ_ _ x=>x
 obtain⟨rfl,z⟩:=z
 wp_walk
 exact z
def Ey(F:ExcBaseFacts B newId H G)(T:OwnTail h G bm){Q:Jn}
  (a:h.get? C=U (oy nm q C N bs bm hdct sn sub ab col dd k0 k1 k2 k3 k5 newId)) (i:h.Ns N mN) (j:mN "__init__" = U (.ref D)) (c:h.get? D=U oI) (b:oI.cls=.type "function")
  (f:∀h' e,u5 h h' e (.ref C) rest->h.objs.size<=e->cC (cx prog w) (A.under<|.builtin "type.__call__" ⟨.ref C::rest,[]⟩) (call (.ref D)<|.ref e::rest) (λr s'=>r=.none/\Q (.ref e) s') E ⟨h',g,d,t,os⟩) (hr:rest.length<=cw) :
  cC (cx prog w) A (call (.ref C) rest) Q E ⟨h,g,d,t,os⟩:=by
 have m:=tc_lookup;have l:=tc_bind<|.ref C;refine ma<|codeAny_of_tree ?_;show cC ..
 repeat (any_goals (first|wp_step))
 exact⟨J,codeAny_call_builtin_at (ri _<|by decide +kernel) entry_typeCall<|wpAny_check_type_call_sub a<|Eu F T a i j c b f hr⟩
end
def Uy(j:bm.contains (.type "BaseException")=O)(c:A.handled=Y)
  (h:cC M A x (λv s1=>∃e a t,v=.ref e/\s1.heap.get? C=U (oy nm q C N bs bm hdct sn sub ab col dd k0 k1 k2 k3 k5 newId)/\s1.heap.get? e=U a/\a.cls=.ref C/\a.data=.fields #[.ref t,.none,.none,.none,.bool ZA,.none]/\E (.ref e) s1) E s) :
  cC M A (raiseStmt env (U x) Y) Q E s:=by
 have cB:(Value.ref C::bm).contains (.type "BaseException")=O:=by rw[List.contains_cons,j,Bool.or_true]
 unfold raiseStmt;refine ax<|eP h (λv s1 z=>?_) λ_ _ x=>x;obtain⟨e,a,t,rfl,b,f,i,hd,k⟩:=z;obtain⟨l,g,d,tk,os⟩:=s1
 repeat (first|(with_reducible refine mI f ?_;first|rw[i]|simp only[hd])|with_reducible refine mI b ?_|(with_reducible refine wpAny_isSubtype_exc b ?_;rw[cB])|simp only[hd]|wp_step)
 exact wpAny_raiseNew_none c k
end L2
namespace L2
open PySem PySem.W PyProof.Rows
end L2
namespace L2
open PySem PySem.W PyProof.Rows Builtin Builtin.ObjectAttr
abbrev Uz:B2:=[.type "ValueError",.type "Exception",.type "BaseException",.type "object"]
def Ce:B2->Bool
 |.ref _::.ref _::r=>r == Uz
 |_=>ZA
def xK(h:Ce l=O):∃a b,l=.ref a::.ref b::Uz:=by
 unfold Ce at h;split at h
 .exact⟨_,_,by rw[beq_iff_eq.mp h]⟩
 .cases h
structure mJ(K:C1)(C:bp):Prop where
 ga:rB K (.ref C) "__getattribute__" = U (U<|.builtin Ki)
 gn:rB K (.ref C) "__getattr__" = U Y
 sa:rB K (.ref C) "__setattr__" = U (U<|.builtin "object.__setattr__")
 hd:hasDictIn K C=O
 ov:(clsIn K C).any (λcd=>Ce cd.mro)=O
section
variable{prog:c4}{w:da}{A:ew}{E:Jn}{s:ag}{K:C1}{x C d:bp}{S:Obj}{od:Option Obj}{name:Str}{v:ar}{V:Str->D2}{T:Array ar}
def QJ{tk:Tok}{R:Result->ag->Prop}(X:K.In s.heap)(I:InstAt s.heap x S C od)(Z:mJ K C)(c:rB K (.ref C) name=U Y)
  (h:cC (cx prog w) A.in1 (storeInOwnDict (.ref x) (.ref C) (.str name tk) name v ZA)
   (λfin s'=>match fin with|.done f=>R (.ok f) s'|.again c'=>c'.quiet=O/\nr (cx prog w) A c' R s') (λe s'=>R (.error e) s') s) :
  nr (cx prog w) A (.call (.builtin "object.__setattr__") ⟨[.ref x,.str name tk,v],[]⟩) R s:=by
 have SF:=PySem.F.store_object;obtain⟨i,a,d⟩:=uA Z.ov;obtain⟨p,q,b⟩:=xK d;have sub:Looks (cx prog w) s.heap (zQ (.ref x)<|.type "object") O:=I.type.andThen<|looks_mroIn X<|by unfold mroIn;rw[a,O6,b];rfl
 refine kv SF.slot.plain SF.entry<|@check_slot (cx prog w) _ _ s "object.__setattr__" "object" "__setattr__" (.ref x) [.str name tk,v] [] _ SF.kind SF.split sub (SF.args (.ref x) (.str name tk) v) ?_;have g:Looks (cx prog w) s.heap (mroOf<|.ref C) i.mro:=(looks_clsIn X a).andThen .now;have L3:Looks (cx prog w) s.heap (storeTaker? Y) Y:=.now;rw[osa_eq,refuse_eq];refine ax<|ax<|I.type.here<|ax<|g.here ?_;rw[b,refuseLoop_ref,refuseLoop_ref,PySem.F.store_ValueError.passes];exact dv<|ax<|I.type.here<|ax<|(uj X c).here<|ax<|L3.here h
def Zz{Q:JN}(X:K.In s.heap)(Z:mJ K C)(r:rB K (.ref C) name=U Y)(f:s.heap.get? x=U S)(i:S.cls=.ref C)(l:S.data=.fields T)(m:S.dict=Y)
  (h:∀h' t',h'.get? x=U {S with dict:=U s.heap.objs.size}->h'.Ns1 s.heap.objs.size (λy=>if y=name then U v else Y)->(∀b o,b≠x->s.heap.get? b=U o->h'.get? b=U o)->Q () {s with heap:=h',toks:=t'}) :
  cC (cx prog w) A (xM (.ref x) name v) Q E s:=by
 obtain⟨N,p,q,k⟩:=S;subst i l m;have R:InstAt s.heap x _ C Y:=⟨f,J,J,trivial⟩;refine set_plain X R Z.sa<|QJ X R Z r ?_
 obtain⟨P,i,M⟩:=uA Z.hd;obtain⟨c,g,F,t,os⟩:=s;refine ax<|dv<|ax<|ax<|zi f<|ax<|FH.here (looks_clsIn X i) ?_;rw[M];have a:(c.push {cls:=.type "dict",data:=.dict #[]}).get? x=U _:=av _ f;have d:=eM<|cv f;refine ax<|wpAny_alloc' ?_;refine ax<|wpAny_update' a ?_;apply dv;have j:((c.push _).update x λo=>{cls:=o.cls,dict:=U c.objs.size,data:=o.data,slots:=o.slots}).get? c.objs.size=U {cls:=.type "dict",data:=.dict #[]}:=
  (CC _ _ _ _ d.symm).trans<|si J J
 have G:((c.push _).update x λo=>{cls:=o.cls,dict:=U c.objs.size,data:=o.data,slots:=o.slots}).Ns c.objs.size λ_=>Y:=
  ⟨_,#[],_,j,J,λe u=>dw u<|by simp,λ_=>J⟩
 show cC ..;refine ax<|dv<|ax<|F6 (Bb G) λh' n hs=>?_;obtain⟨oD,B,D,L,I,H⟩:=n.count<|Within.cons name v Within.nil;refine ax<|vb L (I▸vk<|c_ H<|by simp) ?_
 refine dv<|h h' _ ((hs.2 x d).trans<|mB _ a J) n λb o z e=>(hs.2 b<|eM<|cv e).trans<|(CC _ _ _ _ z).trans<|av _ e
def ZC{Q:JN}{ns:Bi}(X:K.In s.heap)(Z:mJ K C)(o:rB K (.ref C) name=U Y)(e:s.heap.get? x=U S)(b:S.cls=.ref C)(f:S.data=.fields T)(g:S.dict=U d)(c:s.heap.Ns1 d V)(j:n8 V ns)(n:ns.length<=cw)
  (h:∀h' t',h'.Ns1 d (λy=>if y=name then U v else V y)->pk d s.heap h'->Q () {s with heap:=h',toks:=t'}) :
  cC (cx prog w) A (xM (.ref x) name v) Q E s:=by
 obtain⟨F,l,m,k⟩:=S;subst b f g;obtain⟨od,p,_⟩:=lZ c;have H:InstAt s.heap x _ C<|U od:=⟨e,J,J,p⟩;refine set_plain X H Z.sa<|QJ X H Z o ?_
 obtain⟨G,b,B⟩:=uA Z.hd;refine ax<|dv<|ax<|ax<|zi e<|ax<|FH.here (looks_clsIn X b) ?_
 rw[B];refine dv<|ax<|dv<|ax ?_;refine F6 c λh' i D=>?_
 obtain⟨oD,q,r,z,u,t⟩:=i.count<|PySem.Within.cons name v j;refine ax<|vb z (u▸vk<|c_ t<|by exact gX n _) ?_
 exact dv<|h _ _ i D
def zX(Z:mJ K C)(X:K.In s.heap)(he:s.heap.get? x=U S)(h:S.cls=.ref C)(c:Q () s) :
  cC M A (vu Ki ⟨[.ref x,a],[]⟩) Q E s:=by
 obtain⟨f,g,d,t,os⟩:=s;obtain⟨l,b,e⟩:=uA Z.ov;obtain⟨p,q,i⟩:=xK e;have L0:Looks M f (G4<|.ref x)<|.ref C:=h▸(Looks.ld he).andThen .now;have L4:=looks_mroIn (M:=M) (base:=.type "BaseException") (r:=O) X (by unfold mroIn;rw[b,O6,i];rfl)
 have hk:builtinKind Ki = U .slot:=by decide +kernel
 have j:splitId Ki = U ("BaseException","__getattribute__"):=by decide +kernel
 have k:=F.args_bexc_ga (.ref x) a;simp only[vu,hk,j];apply ax;unfold zQ;refine ax<|L0.at<|L4.at ?_
 repeat (first|wp_step)
 exact c
def aaH(X:K.In s.heap)(Z:mJ K C)(q:rB K (.ref C) name=U Y)(f:s.heap.get? x=U S)(k:S.cls=.ref C)(i:S.data=.fields T)(j:S.dict=U d)(m:s.heap.Ns1 d V)(p:V name=U v)(z:handedIn v=O)
  (h:Q v {s with toks:=s.toks+1}):cC (cx prog w) A (HI (.ref x) name a) Q E s:=by
 obtain⟨D,n,o,l⟩:=S;dsimp only at k i j;subst k i j;obtain⟨od,u,y⟩:=lZ m;have L:InstAt s.heap x ⟨.ref C,U d,.fields T,l⟩ C<|U od:=⟨f,J,J,u⟩;obtain⟨G,g,H,t,os⟩:=s;have L0:=L.type (M:=cx prog w);have L1:=uj (M:=cx prog w) X Z.ga;have L2:=uj (M:=cx prog w) X Z.gn;have I:=looks_find (M:=cx prog w) (name:=name) (r:=.value v) X L<|findObj_own Z.hd q J<|by rw[y,p]
 have B:=F.excAttr_ValueError.ga.bind<|.ref x;have e:(a&&onTheHeap (o5 Ki))=ZA:=by cases a<;>rfl
 have b:(o5 Ki == o5 "object.__getattribute__")=ZA:=by decide +kernel
 have c:(onTheHeap (Value.ref C)&&o5 Ki == o5 "object.__getattribute__")=ZA:=by rw[b];rfl
 unfold HI getAttrBy;refine ax<|wpAny_mkText<|lb<|ax<|L0.at<|ax<|L1.at ?_;dsimp only;rw[c,b0<|by decide]
 unfold getAttrByItsOwn;apply ax;show cC _ _ (ti (.ref C) "__getattr__") _ _ _;refine L2.at ?_;refine ax<|wpAny_attempt<|lb ?_;unfold callGetattribute;rw[e];show cC _ _ (boundAndCalled _ _ _) _ _ _;unfold boundAndCalled;rw[B];refine ax<|dv ?_;refine ma<|kv F.excAttr_ValueError.ga.plain F.entry_bexc_ga ?_;refine zX Z X f J ?_;unfold «object.__getattribute__»
 repeat lk
 show cC _ _ (handedOut v) _ _ _;rw[handedOut_of z];exact dv h
end
end L2
namespace L2
open PySem PyProof.Rows
def EX(a:bp)(b:Obj):HO:=.ext λh=>h.get? a=U b
def XD(d:bp)(fs:List<|Str×V):HO:=.ext λh=>∃a,h.Ns1 d a/\n8 a (fs.map (·.1))/\∀f,gH (fs.lookup f)<|a f
variable{f:Str}
section
variable{P:c4}{w:da}{H:Hp}{h:eI}{a d:bp}{fs:List<|Str×V}
def EX.mk(e:h.get? a=U j):bQ P w H h a<|EX a j:=⟨e,⟨_,e⟩,λ_ _ p k=>k _ p⟩
def EX.at_(x:bQ P w H h a<|EX a j):h.get? a=U j:=x.1
def XD.mk{a:Str->D2}(n:h.Ns1 d a)(b:n8 a<|fs.map (·.1))(r:∀f,gH (fs.lookup f)<|a f):bQ P w H h d<|XD d fs:=
 ⟨⟨a,n,b,r⟩,(let⟨o,_,_,e,_⟩:=n;⟨o,e⟩),by rintro _ _ ⟨a,n,b,r⟩ k;exact⟨a,n.at k,b,r⟩⟩
end
section
variable{A:ew}{u y:V}
def SI(x:Str):fS x [(f,u)]=if x=f then U u else Y:=by
 by_cases h:x=f
 .have a:(x == f)=O:=beq_iff_eq.mpr h
  simp only[fS,a,bt h]
 .have a:(x == f)=ZA:=beq_eq_false_iff_ne.mpr h
  simp only[fS,a,b0 h]
def MJ{Q:JN}(I:Inv X P R H s)(Z:mJ X.K C)(nf:bK X.K C f)(i:H a=U (EX a M))(p:M.cls=.ref C)(l:M.data=.fields S)(n:M.dict=Y)(k:RelV u N)
  (h:∀d s',H d=Y->d≠a->Inv X P R (upd (upd H d<|XD d [(f,u)]) a<|EX a {M with dict:=U d}) s'->Q () s'):cC (cx X.prog X.w) A (xM (.ref a) f N) Q E s:=by
 have c:=EX.at_<|I.bz a _ i;refine Zz I.jg Z nf c p l n λh' t' j ns keep=>h s.heap.objs.size _ (I.bz.fresh<|bL _) (DC<|cv c) ?_;obtain⟨oD,y,z,g,r⟩:=id ns;have m:(s.heap.push oD).get? s.heap.objs.size=U oD:=c3 _ (Heap.get?_some_iff.mp g).2;have v:=I.laid (o:=XD s.heap.objs.size [(f,u)]) (t':=s.toks) (λb u q=>av _ q) (bL _)
 <|XD.mk (ns.at λo q=>by rw[g]at q;cases q;exact m) (λx c=>?_) λx=>?_
 .refine v.write (by rw[aq<|eM<|cv c,i];exact gL) (.inl J) (λb o t q=>?_) ⟨_,j⟩<|EX.mk j
  rcases Heap.get?_push_cases q with⟨rfl,rfl⟩|q
  .exact g
  .exact keep b o t q
 .by_cases q:x=f
  .rw[q];simp
  .exact dw (b0 q) c
 .rw[SI]
  by_cases q:x=f
  .rw[bt q,bt q];exact k
  .rw[b0 q,b0 q];trivial
def MK(I:Inv X P R H s)(Z:mJ X.K C)(nf:bK X.K C f)(D:H a=U (EX a M))(B:M.cls=.ref C)(t:M.data=.fields S)(v:M.dict=U d)(m:H d=U (XD d [(g,y)]))(ne:d≠a)(F:f≠g)(p:RelV u N)
  (h:∀s',Inv X P R (upd H d<|XD d [(g,y),(f,u)]) s'->Q () s'):cC (cx X.prog X.w) A (xM (.ref a) f N) Q E s:=by
 have j:=EX.at_<|I.bz a _ D;obtain⟨⟨l,ns,k,r⟩,_⟩:=(show bQ X.prog X.w H s.heap d (XD d [(g,y)])from I.bz d _ m);refine ZC (ns:=[g]) I.jg Z nf j B t v ns k (by show 1<=cw;decide) λL G n2 n=>h _ ?_
 refine I.write (x:=d) (e:=d) (by rw[m];exact gL) (.inl J) (λb o i q=>(n.2 b i).trans q) (let⟨o,_,_,e,_⟩:=n2;⟨o,e⟩)<|XD.mk n2 (λx j=>?_) λx=>?_
 .by_cases q:x=f
  .rw[q];simp
  .have:=k x λz=>j (by show(if x=f then U N else l x)=Y;rw[b0 q];exact z)
   simp only[f6,yU,bH,j4,i4]at this ⊢;exact .inl this
 .have c:=r x
  rw[SI]at c;show gH (fS x [(g,y),(f,u)])<|if x=f then U N else l x
  by_cases q:x=g
  .have i:(x == g)=O:=beq_iff_eq.mpr q
   have nf:x≠f:=λz=>F<|z▸q;rw[b0 nf];rw[bt q]at c;simp only[fS,i];exact c
  .have i:(x == g)=ZA:=beq_eq_false_iff_ne.mpr q
   rw[b0 q]at c;have e:fS x [(g,y),(f,u)]=fS x [(f,u)]:=by simp only[fS,i]
   rw[e,SI];by_cases q2:x=f
   .rw[bt q2,bt q2];exact p
   .rw[b0 q2,b0 q2];exact c
def Ip{x y z:HO}(ne:d≠a):upd (upd (upd H d x) a y) d z=upd (upd H d z) a y:=by
 funext b
 unfold upd;lia
end
def Iq(C:bp)(f g:Str):Sp:=λe H Q _=>∃a u v b c,e=[.ref a,u,v]/\H a=U (EX a b)/\b.cls=.ref C/\b.data=.fields c/\b.dict=Y/\∀d,H d=Y->d≠a->Q .non (upd (upd H d<|XD d [(f,u),(g,v)]) a<|EX a {b with dict:=U d})
def ML(Z:mJ X.K C)(nf:bK X.K C f)(S:bK X.K C g)(W:g≠f)(m:X.N=[sn,p,q])(r:mX X.env.scope sn)(L:mX X.env.scope p)(G:mX X.env.scope q)
  (d1:bB sn/\f9 sn) (d2:bB p/\f9 p) (d3:bB q/\f9 q) :
  gM X [.Assign [.Attribute (.Name sn a1) f a2] (.Name p a3) a4,.Assign [.Attribute (.Name sn b1) g b2] (.Name q b3) b4] λD i H=>∃vs,i=vs.map U/\Iq C f g vs H (λ_ H'=>D.nx i H') λ_ _ _=>False:=by
 intro e s i H D I h;obtain⟨vs,l,a,u,v,oe,ws,rfl,V,w,t,T,k⟩:=h;subst l;have A:X.N[0]?=U sn:=by rw[m];rfl
 have e1:X.N[1]?=U p:=by rw[m];rfl
 have e2:X.N[2]?=U q:=by rw[m];rfl
 refine kx<|n6 (bX (cK e1 L d2.1 d2.2 e s _ H (λy H1=>y=u/\H1=H) I ⟨u,J,J,J⟩) λu' Q b=>?_) J;obtain⟨y,H1,I1,R,n,c⟩:=b;subst n c;refine bX (cK A r d1.1 d1.2 e Q _ _ (λx E=>x=.ref a/\E=H1) I1 ⟨.ref a,J,J,J⟩) λo s2 b=>?_;obtain⟨x,E,I2,j,ex,c⟩:=b;subst ex c
 obtain rfl:o=Value.ref a:=j
 refine MJ I2 Z nf V w t T R λd P n1 n2 I3=>?_;refine kx<|n6 (bX (cK e2 G d3.1 d3.2 e P _ _ (λy H1=>y=v/\H1=_) I3 ⟨v,J,J,J⟩) λw' M b=>?_) J;obtain⟨z,H4,I4,F,n,c⟩:=b;subst n c;refine bX (cK A r d1.1 d1.2 e M _ _ (λx B=>x=.ref a/\B=_) I4 ⟨.ref a,J,J,J⟩) λo s5 b=>?_;obtain⟨x,B,I5,j,ex,c⟩:=b;subst ex c
 obtain rfl:o=Value.ref a:=j
 refine MK I5 Z S ak w t J (by rw[aq n2,ak]) n2 W F λs6 I6=>hW ⟨_,_,I6,?_⟩
 rw[Ip n2];exact k d n1 n2
end L2
namespace L2
open PySem PySem.W PyProof.Rows
structure Lies(P:c4)(w:da)(stack:List Env)(H:Hp)(s:ag)(H':Hp)(B h:eI):Prop where
 un:Un (kP stack) [] H H' s.heap h
 bz:j7 P w H' h
 KW:∀c u,H' c=U u->∃o,B.get? c=U o
 old:∀b o,s.heap.get? b=U o->b∉kP stack->∃o',B.get? b=U o'
variable{C:bp}{X:Cx}{B:eI}{H H':Hp}{s:ag}{E:XK}
section
variable{stack outer:List Env}
def Lies.on(L:Lies P w stack H s H' B h)(st:B.StaysIn h)(r:B.StaysIn h')(up:h.UpToSlots h')(t:h.FunFrames B stack):Lies P w stack H s H' B h':=by
 have g:∀b o,b∈kP stack->h.get? b=U o->∃sl,h'.get? b=U _:=λb o i e=>by
  obtain⟨_,j,e',d⟩:=t.mem i;rw[e]at e';cases e';exact up b o e d
 have f:∀b o,(∃j,B.get? b=U j)->h.get? b=U o->h'.get? b=U o:=λb o ⟨j,q⟩ e=>by
  have:=st b j q
  rw[e]at this;cases this;exact r b _ q
 refine⟨⟨λb o e n i k=>f b o (L.old b o e i)<|L.un.keep b o e n i k,λb o e n i k=>?_,L.un.free,λb o e k=>?_,L.un.nK,L.un.lU,L.un.nM⟩,λa o e=>?_,L.KW,L.old⟩
 .obtain⟨sl,l⟩:=L.un.slot b o e n i k
  obtain⟨v,p⟩:=g b _ i l;exact⟨v,p⟩
 .obtain⟨j,l⟩:=L.un.there b o e k
  by_cases i:b∈kP stack
  .obtain⟨sl,p⟩:=g b _ i l
   exact⟨_,p⟩
  .exact⟨j,f b j (L.old b o e i) l⟩
 .refine(L.bz a o e).nJ (λc u m q=>f c u ?_ q) (λ_ q=>q) λ_ _ q=>q
  rcases m with rfl|m
  .exact L.KW _ _ e
  .exact L.KW _ _ m
end
def sV(P:c4)(w:da):Fc:=λstack H s E e b=>∃a t C d c2 H' B,e=.ref a/\b.os=s.os/\n0 b.gens/\Lies P w stack H s H' B b.heap/\lC B stack a (.ref C) (.ref t) (d,c2) b.heap/\(d=Y->c2=.none)/\E (.ref C) d H'
def nB(x:bQ P w H h a o):∃ob,h.get? a=U ob:=by
 induction o with
 |lst xs=>obtain⟨_,_,_,_,e⟩:=x;exact⟨_,e⟩
 |tup xs=>obtain⟨_,_,_,ob,e,_⟩:=x;exact⟨ob,e⟩
 |dK b=>obtain⟨_,_,_,_,ob,_,_,e,_⟩:=x;exact⟨ob,e⟩
 |dT b=>obtain⟨_,_,_,_,ob,_,_,e,_⟩:=x;exact⟨ob,e⟩
 |set S n=>obtain⟨ob,_,_,_,e,_⟩:=x;exact⟨ob,e⟩
 |ins C g fs=>obtain⟨_,_,_,e,_⟩:=x;exact⟨_,e⟩
 |own y=>exact x
 |xd fs=>obtain⟨_,⟨ob,_,_,e,_⟩,_⟩:=x;exact⟨ob,e⟩
 |lT lo d=>obtain⟨_,_,_,e⟩:=x;exact⟨_,e⟩
 |iy o u _=>exact⟨o,x.1⟩
 |tbl ps=>exact⟨_,x⟩
 |met f y=>exact⟨_,x⟩
 |ext c=>exact x.2.1
structure Fv(X:Cx)(E:XK):Prop where
 lv:∀e s',Kb X (yy X.env e) (λ_ Lx=>sV X.prog X.w X.outer X.H₀ X.s₀ E e Lx) (λe' Lx=>sV X.prog X.w X.outer X.H₀ X.s₀ E e' Lx) s'->X.xe e s'
 st:X.stack=X.env::X.outer
 ex:X.ex=[]
 fr:X.env.frame=U X.env.locals
 cm:X.calm=O
def Cf(Z:Fv X E)(I:Inv X Q N H s)(old:∀b o,s.heap.get? b=U o->b∉kP X.stack->∃a,B.get? b=U a) :
  ∀b o,X.s₀.heap.get? b=U o->b∉kP X.outer->∃a,B.get? b=U a:=λb o e c=>by
 obtain⟨a,d⟩:=I.base.there b o e (by rw[Z.ex];simp)
 refine old b a d λz=>?_;rcases bH.mp (I.j8 b z)with q|q
 .exact dw q<|eM<|fB (cv e) I.ok.above
 .exact c q
def ZD(Z:Fv X E):Passes (sV X.prog X.w) X E:=by
 rintro Q N H s e f I ⟨a,t,C,d,c2,H',B,rfl,i,g,L,F,j,q⟩
 apply Z.lv;have c:=I.GC i L.un L.bz g λb z=>dw z<|by simp
 rw[Z.st]at F;refine Uw (by rw[I.ok.frames,Z.st]) Z.fr F λk h up=>?_
 refine⟨a,t,C,d,c2,H',B,J,c.os,g,?_,h,j,q⟩;have L2:Lies X.prog X.w X.outer X.H₀ X.s₀ H' B f.heap:=⟨by have:=c.base;rw[Z.ex]at this;exact this,c.bz,L.KW,Cf Z I L.old⟩
 exact L2.on F.1.1 h.1.1 up F.1.2.2.1.2.2
def rM(H:Hp)(e:bp):Hp:=λb=>if b=e then Y else H b
def UB(Z:Fv X E)(I:Inv X Q N H s)(r:H e=U (EX e d))(G:d.cls=.ref C)(hd:d.data=.fields vs)(z0:vs[0]?=U (.ref t))(A:vs[1]?=U .none)(x:vs[2]?=U c2)(F:d.dict=Y->c2=.none)(K:X.s₀.heap.get? e=Y)
  (q:E (.ref C) d.dict<|rM H e):X.xe (.ref e) s:=by
 apply Z.lv;have j:=EX.at_<|I.bz e _ r;have l:s.heap.FunFrames (ot s.heap<|e::kP X.stack) X.stack:=funFrames_hide I.stack λenv j b k=>ed _<|DG.mpr ⟨env,j,k⟩;have Ķ:(ot s.heap<|e::kP X.stack).StaysIn s.heap:=λb o q=>zv _ q;have i:(ot s.heap [e]).FunFrames _ X.stack:=l.of_keeps λb o q n=>⟨o,pf _ q λz=>by
  have z:=by simpa using z
  rw[z,j]at q;cases q;exact n _ hd,J⟩
 rw[Z.st]at i;refine Im (base:=ot s.heap<|e::kP X.stack) (by rw[I.ok.frames,Z.st]) Z.fr (λb o q=>?_) (by rw[Z.st];exact i) (λb o q=>zv _ q) (hideAll_none _<|by simp) j hd z0 A x λM p up=>?_
 .refine pf _ (zv _ q) λz=>?_
  have z:=by simpa using z
  rw[z,hideAll_none _<|d_]at q;cases q
 rw[G]at p;refine⟨e,t,C,d.dict,c2,rM H e,_,J,I.os,I.bare,?_,p,F,q⟩;have off:∀{b u},H b=U u->(∀v,u≠.ext v)->rM H e b=U u:=λ{b u} z n=>by
  unfold rM;rw[b0 λy=>by rw[y,r]at z;exact n _ (kM.inj z).symm]
  exact z
 have g:∀{b u},rM H e b=U u->b≠e/\H b=U u:=λ{b u} z=>by
  unfold rM at z;split at z
  .cases z
  .rename_i n;exact⟨n,z⟩
 have a:=I.base;rw[Z.ex]at a;have L2:Lies X.prog X.w X.outer X.H₀ X.s₀ (rM H e) (ot s.heap<|e::kP X.stack) s.heap:=by
  refine⟨⟨a.keep,a.slot,λb o z n D=>?_,a.there,λb xs z=>off (a.nK b xs z) (λ_ y=>nomatch y),λb o u z=>off (a.lU b o u z) (λ_ y=>nomatch y),λb ps z=>?_⟩,λb u z=>?_,λc u z=>?_,λb o z k=>?_⟩
  .unfold rM
   split
   .rfl
   .exact a.free b o z n D
  .obtain⟨f,z⟩:=a.nM b ps z
   exact⟨f,off z λ_ y=>nomatch y⟩
  .obtain⟨n,z⟩:=g z
   exact(I.bz b u z).nJ (λ_ _ _ q=>q) (λc q=>off q λ_ y=>nomatch y) λc xs q=>off q λ_ y=>nomatch y
  .obtain⟨n,z⟩:=g z
   obtain⟨ob,m⟩:=nB<|I.bz c u z;refine⟨ob,pf _ m λy=>?_⟩;rcases bH.mp y with y|y
   .exact n y
   .rw[I.oh c y]at z;cases z
  .obtain⟨B,m⟩:=a.there b o z (by simp)
   refine⟨B,pf _ m λy=>?_⟩;rcases bH.mp y with y|y
   .rw[y,K]at z;cases z
   .rcases bH.mp (I.j8 b y)with q|q
    .exact dw q<|eM<|fB (cv z) I.ok.above
    .exact k q
 rw[Z.st]at l;exact L2.on Ķ p.1.1 up (by rw[Z.st];exact l.2.2)
def QM:Data->Option ClassData
 |.cls c=>U c
 |_=>Y
def Ez(h:QM d=U c):d=.cls c:=by
 cases d<;>cases h;rfl
def MM(K:C1)(C b:bp):Bool:=(K.lookup C).any λo=>(QM o.data).any λa=>o.cls == .type "type" && a.mro == .ref C::a.mro.tail&&o.slots == #[o.slots.getD 0 Y,o.slots.getD 1 Y,o.slots.getD 2 Y,o.slots.getD 3 Y,U (.builtin "ValueError.__new__"),o.slots.getD 5 Y]&&a.hasDel == ZA&&tailIn K Uz a.mro.tail&&nsOkIn K a.ns&&nsIn K a.ns "__init__" == U (U<|.ref b)
def zY{K:C1}(X:K.In h)(G:h.Ns N mg)(e:nsIn K N n=U (U v)):mg n=U v:=by
 obtain⟨o,g,i,b,hd,_,c⟩:=G;unfold nsIn at e;split at e
 .rename_i c1 d1 f n1 a hk
  have:=X _ _ hk
  rw[b]at this;cases this;cases hd;split at e
  .rename_i j d
   cases e
   have:=c n
   unfold nsFind findBy at this;rw[<- DX,d]at this;exact this.symm
  lia
 .cases e
def Ir{K:C1}(X:K.In h)(q:MM K C c=O) :
  ∃bm N nm g bs hd sn sub ab col dd k0 k1 k2 k3 k5,h.get? C=U (oy nm g C N bs bm hd sn sub ab col dd k0 k1 k2 k3 k5 "ValueError.__new__")/\h.Ns N (h.nsMap N)/\h.nsMap N "__init__" = U (.ref c)/\OwnTail h Uz bm:=by
 obtain⟨o,lo,q⟩:=uA q;obtain⟨a,j,q⟩:=uA q;simp only[bP,beq_iff_eq]at q;obtain⟨⟨⟨⟨⟨⟨ct,i⟩,f⟩,k⟩,b⟩,d⟩,ķ⟩:=q;have e:o=oy a.name a.qualname C a.ns a.bases a.mro.tail a.hasDict a.slotNames a.subclasses a.abstract a.collection o.dict (o.slots.getD 0 Y) (o.slots.getD 1 Y) (o.slots.getD 2 Y) (o.slots.getD 3 Y) (o.slots.getD 5 Y) "ValueError.__new__" := by
  unfold oy;rw[<- ct,<- i,<- f,<- k,<- Ez j]
 exact⟨_,_,_,_,_,_,_,_,_,_,_,_,_,_,_,_,(X _ _ lo).trans<|ej U e,.of_isNs<|isNs_of_in X d,zY X (.of_isNs<|isNs_of_in X d) ķ,tail_of_in X b⟩
def MN{e d:bp}(fr:H1 e=Y)(n2:d≠e)(c:H'=upd (upd (upd H1 e o1) d o2) e a):rM H' e=upd H1 d o2:=by
 rw[c]
 funext b
 unfold rM upd;lia
def zZ(Z:Fv X E)(q:MM X.K C fI=O)(kp:keepIn X.K (.ref C)=O)(p:isFn X.K (.ref fI)=O)(F:cX X.prog X.w X.K X.mg X.base kH 1 fI fd ps<|Iq C f g)(hb:Binds X.K fd ps [])(hr:bD 2 X.A)(hm:X.mg x=U (.ref C))(ha:PA X (e::es) t)(hg:Gl X x)(h_:bB x)
  (he:c5 (e::es) X.env=(ZA,fu e X.env)::c5 es X.env) (hpl:(ij ba<|c5 es X.env).any (·.1)=ZA) :
  PS X (.Raise (U<|.Call (.Name x np) (e::es) [] ba) Y pos) λ_ m H=>t m H λvs H1=>∃u v,vs=[u,v]/\∀d,H1 d=Y->E (.ref C) (U d) (upd H1 d<|XD d [(f,u),(g,v)]):=by
 intro ae s m H D I h;obtain⟨bm,N,nm,qn,bs,hd,sn,sub,ab,col,dd,k0,k1,k2,k3,k5,S,hN,B,T⟩:=Ir I.mod.kin q;have FB:=tw;have hf:∃oI,X.base.get? fI=U oI/\oI.cls=.type "function" := by
  have p:=beq_iff_eq.mp p;obtain⟨o,ho,e⟩:=bW.mp<|show(X.K.lookup fI).map (·.cls)=U (.type "function")from p
  exact⟨o,I.mod.kin _ _ ho,e⟩
 obtain⟨oI,y,G⟩:=hf;rw[arm_exec_Raise];refine ax<|og<|Uy (C:=C) (nm:=nm) (q:=qn) (N:=N) (bs:=bs) (bm:=bm) (hdct:=hd) (sn:=sn) (sub:=sub) (ab:=ab) (col:=col) (dd:=dd) (k0:=k0) (k1:=k1) (k2:=k2) (k3:=k3) (k5:=k5) (newId := "ValueError.__new__")
  (T.hasType FB.hasBase) (I.ok.hd Z.cm)<|ax<|eP (f5<|f_ I hg hm ?_ h_) (λv Q k=>ax<|og<|dv k) λ_ _ x=>x
 refine callWith_K (h₀:=X.base) I.ok.mod.kin kp (bX (ha ba ae s m H _ I h) λb s1 zz=>?_) he hpl;obtain⟨vs,H1,i,r,u,v,M,q1⟩:=zz;refine⟨i.jg,?_⟩;subst M;obtain⟨hp,gn,dr,tk,os⟩:=s1;refine Ey (rest:=b) FB (T.keeps i.bk) (i.bk _ _ S) (hN.keeps i.bk) B (i.bk _ _ y) G (λh' e Ĺ L=>?_) (by rw[<- r.length];show 2<=cw;decide)
 obtain⟨n,ĺ,_,_⟩:=Ĺ.there;obtain⟨c,j⟩:∃c:Obj,c={cls:=.ref C,data:=.fields #[.ref n,.none,.none,.none,.bool ZA,.none]}:=⟨_,J⟩;rw[<- j]at ĺ;have P:Inv X ae m (upd H1 e<|EX e c) ⟨h',gn,dr,tk,os⟩:=i.laid (a:=e) (h':=h') (t':=tk) Ĺ.keeps L<|EX.mk ĺ;have R:Vals (V.ref e::[u,v])<|Value.ref e::b:=.cons J r;have sp:Iq C f g (V.ref e::[u,v]) (upd H1 e<|EX e c) (λw H'=>w=.non/\∃d,H1 d=Y/\d≠e/\H'=upd (upd (upd H1 e<|EX e c) d<|XD d [(f,u),(g,v)]) e (EX e {c with dict:=U d})) λ_ _ _=>False:=
  ⟨e,u,v,c,_,J,ak,by rw[j],by rw[j],by rw[j],λd n1 n2=>⟨J,d,by rw[aq n2]at n1;exact n1,n2,J⟩⟩
 have hl:(Value.ref e::b).length=ps.length:=by rw[<- R.length];exact F.len _ _ _ _ sp
 have Ff:=hb ⟨h',gn,dr,tk,os⟩ (Value.ref e::b) P.jg (by rw[cJ];exact hl)
 rw[cJ]at Ff;refine ma<|ih (F.run _ X.stack _ _ ⟨Value.ref e::b,[]⟩ (Value.ref e::b) _ _ _ (hr.make C b []) (P.Lw.make C b []) Ff R sp) λr s' l=>?_;cases r with
 |error e=>exact l.elim
 |ok fl=>
  cases fl with
  |next=>exact l.elim
  |brk=>exact l.elim
  |cont=>exact l.elim
  |ret u'=>
   obtain⟨v',H',I3,rv,M,d,n1,n2,eH⟩:=P.after l;subst M;have W:H' e=U (EX e {c with dict:=U d}):=by rw[eH];exact ak
   refine⟨rv,e,_,n,J,I3.bk _ _ S,EX.at_<|I3.bz e _ W,by rw[j],by rw[j],UB (t:=n) Z I3 W (by rw[j]) (by rw[j]) J J J (λz=>nomatch z) (n5<|c_ i.sz L) ?_⟩
   rw[MN (i.bz.fresh L) n2 eH];exact q1 d n1
def MO{K:C1}(X:K.In h)(q:excIn K C l newId=O) :
  ∃bm N nm d bs hd sn sub ab col dd k0 k1 k2 k3 k5,h.get? C=U (oy nm d C N bs bm hd sn sub ab col dd k0 k1 k2 k3 k5 newId)/\h.Ns N (h.nsMap N)/\h.nsMap N "__init__" = Y/\OwnTail h l bm:=by
 unfold excIn at q;split at q
 .rename_i f g c lo
  split at q
  .rename_i x b s r p o u n k j
   simp only[bP,beq_iff_eq,yQ]at q;obtain⟨⟨⟨⟨⟨rfl,rfl⟩,m⟩,a⟩,i⟩,ķ⟩:=q;obtain⟨nm,bs,v,ns,d,e,sn,sub,ab,col,w⟩:=g;subst k m;obtain⟨t⟩:=c;subst j;refine⟨b,ns,nm,d,bs,e,sn,sub,ab,col,f,s,r,p,o,n,X _ _ lo,?_,?_,tail_of_in X a⟩
   .exact .of_isNs<|isNs_of_in X i
   .exact nsMap_none_of_in X i ķ
  .cases q
 .cases q
def UC(Z:Fv X E)(I:Inv X m j H s){e:bp}(d:u5 s.heap h' e (.ref C) a)(q:E (.ref C) Y H):X.xe (.ref e) {s with heap:=h'}:=by
 apply Z.lv;have g:=funFrames_hide I.stack λenv k b f=>DG.mpr ⟨env,k,f⟩;rw[Z.st]at g;have Ķ:(ot s.heap<|kP X.stack).StaysIn s.heap:=λb o q=>zv _ q;obtain⟨t,ĺ,_,_⟩:=d.there;refine Im (by rw[I.ok.frames,Z.st]) Z.fr Ķ (by exact Z.st▸g) d.keeps d.new ĺ J J J J λn i up=>?_
 refine⟨e,t,C,Y,.none,H,ot s.heap _,J,I.os,I.bare,?_,i,λ_=>J,q⟩;have L2:Lies X.prog X.w X.outer X.H₀ X.s₀ H _ s.heap:=⟨by have:=I.base;rw[Z.ex]at this;exact this,I.bz,λc u e=>?_,Cf Z I λb o e f=>⟨o,pf _ e f⟩⟩
 .exact L2.on Ķ i.1.1 ((Heap.UpToSlots.of_keeps d.keeps).trans up) (Z.st▸g.2.2)
 .obtain⟨ob,l⟩:=nB<|I.bz c u e
  refine⟨ob,pf _ l λz=>?_⟩;rw[I.oh c z]at e;cases e
def Iu{f:TE}(Z:Fv X E)(q:excIn X.K C Uz "ValueError.__new__" = O)(m:X.mg x=U (.ref C))(o:PE X e f)(n:Gl X x)(p:bB x)
  (he:c5 [e] X.env=(ZA,fu e X.env)::c5 [] X.env):PS X (.Raise (U<|.Call (.Name x np) [e] [] ba) Y pos) λ_ b H=>f b H λv H1=>[v].length=1/\E (.ref C) Y H1:=by
 intro w s b H D I h;obtain⟨bm,N,nm,l,bs,hd,sn,sub,ab,col,dd,k0,k1,k2,k3,k5,u,t,c,T⟩:=MO I.mod.kin q;have i:=tw;refine wpAny_Raise_call_subT (C:=C) (nm:=nm) (q:=l) (N:=N) (bs:=bs) (bm:=bm) (hdct:=hd) (sn:=sn) (sub:=sub) (ab:=ab) (col:=col) (dd:=dd) (k0:=k0) (k1:=k1) (k2:=k2) (k3:=k3) (k5:=k5) (newId := "ValueError.__new__")
  i (mN:=X.base.nsMap N) (T.hasType i.hasBase) (I.ok.hd Z.cm) (by rw[he];rfl) c<|f_ I n m ⟨J,?_⟩ p
 have g:=aW o (cT (X:=X)) he ba w s b H (λd H1=>d.length=1/\E (.ref C) Y H1) I ?_
 .rw[he]at g ⊢
  refine qb<|eP g (λk s2 j=>?_) λ_ _ y=>y;obtain⟨d,H1,a,r,l1,q1⟩:=j;refine⟨J,?_,a.bk _ _ u,t.keeps a.bk,T.keeps a.bk,λz e Ĺ=>?_⟩
  .show k.length<=cw
   rw[<- r.length,l1];decide
  .exact UC Z a Ĺ q1
 .exact h
abbrev Wq(X:Cx)(a:bp)(E:Jn):Cx:={X with A:=X.A.mark (U<|.ref a),calm:=ZA,xe:=E}
section
variable{ae:dG}{σ:L2.St}{s':ag}{a t CB:bp}{d:Option bp}{c2:ar}{oe:Obj}{Eo:Jn}
def Inv.ZE(I:Inv X ae σ H s):Inv (Wq X a Eo) ae σ H s:=
 ⟨⟨I.ok.mod,I.ok.kind,I.ok.glob,I.ok.blt,I.ok.above,I.ok.inj,I.ok.has,I.ok.cab,(λz=>nomatch z),I.ok.frames,I.ok.stk,I.ok.exf,I.ok.bs,I.ok.bsz,I.ok.noex,I.ok.exfs,I.ok.lV,I.ok.frf⟩,I.os,I.bare,I.base,I.loc,I.cell,I.free,I.freeC,I.pin,I.bz,I.len⟩
def Inv.aaJ(ok:X.Ok)(I:Inv (Wq X a Eo) ae σ H s):Inv X ae σ H s:=⟨ok,I.os,I.bare,I.base,I.loc,I.cell,I.free,I.freeC,I.pin,I.bz,I.len⟩
def name_goes{A:ew}{E:Jn}{Q:JN}(I:Inv X ae σ H s)(T:X.N.Nodup)(R:X.N[i]?=U x)(hk:X.env.scope.names.lookup x=U .local)
  (h:∀s',Inv X ae (σ.set i Y) H s'->Q () s'):cC M A (do bindName X.env x .none;rr X.env x pos) Q E s:=by
 obtain⟨m,w,P⟩:=id I.loc;have RT:(X.env.scope.kind == .class ||(X.env.scope.kind == .module&&X.env.locals != X.env.globals))=ZA:=by rw[I.ok.kind];rfl
 refine wpAny_nameGoes_keeps hk w RT λh' v V7 hs=>h _ ?_;obtain⟨oL,V,W,L,S,_⟩:=id w;have a:∀b o,X.s₀.heap.get? b=U o->b≠X.env.locals:=λb o e=>eM<|fB (cv e) I.ok.above;refine⟨I.ok,I.os,I.bare,⟨λb o e n t l=>(hs.2 b<|a b o e).trans<|I.base.keep b o e n t l,λb o e n t l=>?_,I.base.free,λb o e l=>?_,I.base.nK,I.base.lU,I.base.nM⟩,⟨_,V7,λj y C g f Z=>?_⟩,λy c e=>?_,I.free,I.freeC,λp K=>?_,λb ob e=>?_,by simpa using I.len⟩
 .obtain⟨sl,g⟩:=I.base.slot b o e n t l
  exact⟨sl,(hs.2 b<|a b o e).trans g⟩
 .obtain⟨G,g⟩:=I.base.there b o e l
  exact⟨G,(hs.2 b<|a b o e).trans g⟩
 .have B:j≠i:=by
   rintro rfl
   by_cases fq:j<σ.length
   .rw[fR fq]at f;cases f
   .rw[Gk<|by simpa using fq]at f;cases f
  rw[eV<|f3 B]at f;obtain⟨D,F,q⟩:=P j y C g f Z;refine⟨D,F,?_⟩;rcases q with⟨k,e⟩|⟨k,c,e,z⟩
  .refine .inl ⟨k,?_⟩
   have:y≠x:=λe=>B<|oZ T g<|e▸R
   simp[this,e]
  .exact .inr ⟨k,c,e,z.sameBut hs<|I.Le y c e⟩
 .obtain⟨u,z⟩:=I.cell y c e
  exact⟨u,z.sameBut hs<|I.Le y c e⟩
 .obtain⟨e,n,ne,nf,d⟩:=I.pin p K
  exact⟨(hs.2 p.1 ne).trans e,n,ne,nf,d⟩
 .refine(I.bz b ob e).nJ (λc u r q=>(hs.2 c ?_).trans q) (λ_ q=>q) λ_ _ q=>q
  rintro rfl
  rcases r with z|r
  .have:=I.free;rw[z,e]at this;cases this
  .have:=I.free;rw[r]at this;cases this
def Ci(I:Inv X ae σ H s)(R:s'.os=s.os)(S:n0 s'.gens)(L:Lies X.prog X.w X.stack H s H' B g)(F:lC B X.stack a (.ref C) (.ref t) (d,c2) g) :
  ∃oe j,oe.cls=.ref C/\oe.data=.fields j/\oe.dict=d/\j[2]?=U c2/\g.get? a=U oe/\H' a=Y/\Inv X ae σ (upd H' a<|EX a oe) {s' with heap:=g}:=by
 have f:=I.GC (s':={s' with heap:=g}) R L.un L.bz S λb z=>dw z<|by simp
 obtain⟨oe,j,i,E,l,_⟩:=F.1.first
 obtain⟨h,gb,G,T,M,V⟩:=F.2;rw[i]at G;cases G;rw[l]at M;cases M;have new:H' a=Y:=by
  cases e:H' a with
  |none=>rfl
  |some u=>
   obtain⟨o,q⟩:=L.KW a u e;rw[F.1.2.1]at q;lia
 have D:a∉kP X.stack:=λz=>by
  obtain⟨_,h,e',d'⟩:=F.1.2.2.1.mem z;rw[i]at e';cases e';exact d' j l
 have ZG:∀b o,s.heap.get? b=U o->b∉kP X.stack->b≠a:=λb o e n z=>by
  obtain⟨h,q⟩:=L.old b o e n;rw[z,F.1.2.1]at q;lia
 have Q:X.env.locals≠a:=λz=>by
  obtain⟨m,⟨h,es,ep,r,P,_⟩,_⟩:=f.loc;lia
 refine⟨oe,j,E,l,T,V,i,new,⟨f.ok,f.os,f.bare,⟨f.base.keep,f.base.slot,λb o e n K=>?_,f.base.there,λb xs z=>?_,λb o u z=>?_,λb ps z=>?_⟩,f.loc,f.cell,?_,λx c e=>?_,λp N=>?_,λb u z=>?_,f.len⟩⟩
 .rw[aq λz=>?_]
  .exact f.base.free b o e n K
  .subst z
   obtain⟨h,W⟩:=I.base.there b o e K;exact ZG b h W D J
 .have q:=f.base.nK b xs z
  rw[aq λy=>by lia];exact q
 .have q:=f.base.lU b o u z
  rw[aq λy=>by lia];exact q
 .obtain⟨k,q⟩:=f.base.nM b ps z
  exact⟨k,by rw[aq λy=>by lia];exact q⟩
 .rw[aq Q];exact f.free
 .rw[aq λz=>?_]
  .exact f.freeC x c e
  .obtain⟨v,o,q,hd⟩:=f.cell x c e
   lia
 .obtain⟨e,n,ne,nf,dd⟩:=f.pin p N
  obtain⟨Z,_,_,_,_⟩:=I.pin p N;refine⟨e,?_,ne,nf,dd⟩;rw[aq<|ZG _ _ Z λz=>?_]
  .exact n
  .rcases bH.mp (I.j8 _ z)with q|q
   . lia
   lia
 .by_cases q:b=a
  .subst q
   rw[ak]at z;cases z;exact EX.mk i
  .rw[aq q]at z
   exact(f.bz b u z).nJ (λ_ _ _ y=>y) (λc y=>by rw[aq λA=>by lia];exact y) λc xs y=>by rw[aq λA=>by lia];lia
def uS{A:ew}{E:Jn}{d:Option bp×ar}{Q:JN}(F:lC base l e cls a0 d s.heap)
  (h:∀h',lC base l e cls a0 d h'->s.heap.UpToSlots h'->Q () {s with heap:=h'}):cC M A (vi (.ref e) Y) Q E s:=by
 obtain⟨⟨m,k,j,i⟩,D⟩:=F;exact Cd m j i.at D λh' k1 k2 k3 c a=>h h' ⟨⟨k1,k,k2,k3⟩,c⟩ λb o g f=>⟨o.slots,a b o g f⟩
def UD{Q:Flow->ag->Prop}{y:Str}{N pos:Pos}{i:Option Str}{v:Fh}{rest:List pv}(I:Inv X ae σ H s)(m:X.stack=X.env::X.outer)(G:X.env.frame=U X.env.locals)(R:s'.os=s.os)(V:n0 s'.gens)
  (L:Lies X.prog X.w X.stack H s H' B s'.heap) (F:lC B X.stack a (.ref C) (.ref t) (d,c2) s'.heap) (S:X.mg y=U (.ref CB)) (P:exmOne X.K (.ref C) (.ref CB)=U O)
  (k:∀j,Lies X.prog X.w X.stack H s H' B j->lC B X.stack a (.ref C) (.ref t) (d,c2) j ->
   nr (cx X.prog X.w) (X.A.mark<|U<|.ref a) (.handlers (.ref a) [.ExceptHandler Y i v pos] X.env) (λr b=>match r with
     |.ok f=>(match i with
      |none=>Q f b
      |some n=>Kb X (do bindName X.env n .none;rr X.env n pos) (λ_ g=>Q f g) Eo b)
     |.error x=>cameBackBy (cx X.prog X.w) X.A X.env Eo x b) {s' with heap:=j})
  (T:Gl X y) (W:bB y) :
  Kb X (sb (.ref a) X.env) (λ_ b=>Kb X (vi (.ref a) Y) (λ_ g=>
   Kb X (handleBy (.ref a) X.env<|.ExceptHandler (U<|.Name y N) i v pos::rest) Q Eo g) Eo b) Eo s':=by
 have E:=F;rw[m]at E;refine QI (L:=X.env.locals) (by rw[I.ok.frames,m]) G E λh4 c p=>?_
 have L4:=L.on F.1.1 c.1.1 p F.1.2.2.1;refine Il c λj l o=>?_;have z:=L4.on c.1.1 l.1.1 o (by rw[m];exact c.1.2.2.1)
 rw[<- m]at l;obtain⟨oe,ws,u,_,_,_,Z,_,D⟩:=Ci (s':=s') I R V z l;refine wpAny_handleBy_cons (codeAny_handlers_test ?_) (by intro q;cases q)
 refine f_ (X:=Wq X a λ_ _=>False) (Inv.ZE D) T S ?_ W;have LT:Looks (cx X.prog X.w) j (G4<|.ref a)<|.ref C:=u▸(Looks.ld Z).andThen .now;refine exm_one (M:=cx X.prog X.w) (h:=j) D.jg LT P _ _ _ _ (λ_ _ e=>e) ?_;exact k j z l
def MP{Q:Flow->ag->Prop}{pos:Pos}{n:Str}{i:Nat}{st:f7}{m:Fh}{j:eI}(I:Inv X ae σ H s)(P:s'.os=s.os)(S:n0 s'.gens)(D:X.N.Nodup)(y:X.N[i]?=U n)(hk:X.env.scope.names.lookup n=U .local)
  (L:Lies X.prog X.w X.stack H s H' B j) (F:lC B X.stack a (.ref C) (.ref t) (d,c2) j)
  (k:∀oe g u,oe.cls=.ref C->oe.data=.fields g->oe.dict=d->H' a=Y->Inv (Wq X a λ_ _=>False) ae (σ.set i<|U<|.ref a) (upd H' a<|EX a oe) u->cC (cx X.prog X.w) (X.A.mark<|U<|.ref a) (execs (st::m) X.env) (λf p=>∃c l,Inv (Wq X a λ_ _=>False) ae c l p/\∀o,Inv X ae (c.set i Y) l o->Q f o) (λ_ _=>False) u) :
  nr (cx X.prog X.w) (X.A.mark<|U<|.ref a) (.handlers (.ref a) [.ExceptHandler Y (U n) (st::m) pos] X.env) (λr b=>match r with
     |.ok f=>Kb X (do bindName X.env n .none;rr X.env n pos) (λ_ e=>Q f e) (λ_ _=>False) b
     |.error x=>cameBackBy (cx X.prog X.w) X.A X.env (λ_ _=>False) x b) {s' with heap:=j}:=by
 refine codeAny_handlers_suite_as<|uS F λh6 E h=>?_;have T:=L.on F.1.1 E.1.1 h F.1.2.2.1;obtain⟨oe,g,R,M,hd,_,he,new,Z⟩:=Ci (s':=s') I P S T E;refine jk Z D y (Or.inl hk) (v:=.ref a) J (λK W=>?_)<|Or.inr hk;refine eP (k oe g K R M hd new<|Inv.ZE W) (λf p G=>?_) λ_ _ z=>z.elim;obtain⟨c,l,V,q⟩:=G;exact name_goes (Inv.aaJ I.ok V) D y hk q
end
end L2
namespace D
open PySem L2 PyProof.Rows
def z7:Res b->Res b
 |.ok a=>.ok a
 |_=>.bad
def qX(f:FE):FE:=λs=>z7<|f s
def lP(F:FS):FS:=λs=>z7<|F s
def mK(c:FT):FT:=λs=>z7<|c s
def rN(f:FL):FL:=λs=>z7<|f s
def ik{a:b}(h:z7 x=.ok a):x=.ok a:=by cases x<;>first|exact h|cases h
def i6{x:Res a}(h:z7 x=.exc c fs s):False:=by cases x<;>cases h
def bA{x:Res b}{f:b->Res d}(h:x.bind f=.exc c fs s):x=.exc c fs s\/∃a,x=.ok a/\f a=.exc c fs s:=by
 cases x with
 |ok a=>exact .inr ⟨a,J,h⟩
 |bad=>cases h
 |exc _ _ _=>cases h;exact .inl J
def lD{o:Option a}(h:bj o=.exc c fs s):False:=by cases o<;>cases h
abbrev XN:=List<|bp×Option (Str×Str)
def XF(f:Option<|Str×Str)(fs:FR)(d:Option bp)(H:Hp):Prop:=match f with
 |none=>d=Y/\fs=[]
 |some f=>∃i j a,d=U a/\fs=[.int i,.int j]/\H a=U (XD a [(f.1,.int i),(f.2,.int j)])
def XQ(N:XN)(E:XK)(c:Nat)(fs:FR)(H:Hp):Prop:=∃k,N[c]?=U k/\∀d,XF k.2 fs d H->E (.ref k.1) d H
def XR(B:KT)(N:XN)(E:XK)(g:G)(H:Hp)(c:Nat)(fs:FR)(s':S):Prop:=∀b a,du g H b a->ez B b a s'.m->XQ N E c fs a
def XR.mv(k:XR B N E g H c fs s')(p:du g H g1 H1):XR B N E g1 H1 c fs s':=λa b q=>k a b<|p.trans q
inductive z8(B:KT)(N:XN)(E:XK)(f:FE)(σ:L2.St)(H:Hp)(Q:VK):Prop where
 |ok g s t s' (x:SR B g H σ s) (h:f s=.ok (t,s')) (k:∀v g' H',du g H g' H'->SR B g' H' σ s'->Rep B g'.al g'.HF t v->Q v H')
 |ex g s c fs s' (x:SR B g H σ s) (h:f s=.exc c fs s') (k:XR B N E g H c fs s')
inductive QO(B:KT)(N:XN)(E:XK)(f:FL)(σ:L2.St)(H:Hp)(Q:List V->Hp->Prop):Prop where
 |ok g s ts s' (x:SR B g H σ s) (h:f s=.ok (ts,s')) (k:∀vs g' H',du g H g' H'->SR B g' H' σ s'->aE B g'.al g'.HF ts vs->Q vs H')
 |ex g s c fs s' (x:SR B g H σ s) (h:f s=.exc c fs s') (k:XR B N E g H c fs s')
inductive tX(B:KT)(N:XN)(E:XK)(f:FS)(D:Ends)(σ:L2.St)(H:Hp):Prop where
 |ok g s o s' (x:SR B g H σ s) (h:f s=.ok (o,s')) (k:zP B g H D o s')
 |ex g s c fs s' (x:SR B g H σ s) (h:f s=.exc c fs s') (k:XR B N E g H c fs s')
inductive vO(B:KT)(N:XN)(f:Fn)(vs:List V)(H:Hp)(Q:VK)(E:XK):Prop where
 |ok g ts m t m' (x:ez B g H m) (r:aE B g.al g.HF ts vs) (h:f ts m=.ok (t,m')) (k:∀v g' H',du g H g' H'->ez B g' H' m'->Rep B g'.al g'.HF t v->Q v H')
 |ex g ts m c fs s' (x:ez B g H m) (r:aE B g.al g.HF ts vs) (h:f ts m=.exc c fs s') (k:XR B N E g H c fs s')
section
variable{P:Pg}{e c o:cq}{fa fo:FE}{N:XN}{rest:Fh}{st:f7}{x y:Str}{f:Fn}
def ZI(h:PE X e<|tE B fa):PE X e<|z8 B N E<|qX fa:=aV h λσ H Q z=>by
 rcases z with⟨g,s,t,a,x,h,k⟩|⟨g,s,c,fs,a,x,h,k⟩
 .exact⟨g,s,t,a,x,ik h,k⟩
 .exact(i6 h).elim
def UE:PA X []<|QO B N E aT:=BA cT λσ H Q z=>by
 rcases z with⟨g,s,t,a,x,h,k⟩|⟨g,s,c,fs,a,x,h,k⟩
 .cases h
  exact k [] g H .refl x J
 .cases h
def MQ(p:PE X e<|z8 B N E fa)(hr:PA X es<|QO B N E fl)(hs:c5 (e::es) X.env=(ZA,fu e X.env)::c5 es X.env):PA X (e::es)<|QO B N E<|bq fa fl:=BA (aW p hr hs) λσ H Q z=>by
 rcases z with⟨g,s,t,d,x,h,k⟩|⟨g,s,c,fs,d,x,h,k⟩
 .revert h;refine abH λtx a j=>λh=>?_
  revert h;refine abH λty s2 m=>λh=>?_;cases h;exact .ok g s tx a x j λv g1 H1 i b l=>.ok g1 a ty s2 b m λw g2 q f n o=>k (v::w) g2 q (i.trans f) n ⟨v,w,J,l.mv f.pre f.fr,o⟩
 .rcases bA h with h|⟨⟨tx,a⟩,j,h⟩
  .exact .ex g s c fs d x h k
  .rcases bA h with h|⟨⟨ty,s2⟩,m,h⟩
   .exact .ok g s tx a x j λv g1 H1 i b l=>.ex g1 a c fs d b h<|k.mv i
   .cases h
def z9{Q:VK}(x:SR B g H σ s)(r:aE B g.al g.HF ts vs)(h:f ts s.m=.ok (t,m'))(k:∀v g' H',du g H g' H'->SR B g' H' σ {s with m:=m'}->Rep B g'.al g'.HF t v->Q v H'):vO B N f vs H Q E:=
 .ok g.ai ts s.m t m' x.st.ai r h λv g' H' p y a=>let⟨p2,x2⟩:=x.back p y;k v _ H' p2 x2 a
def Iv{c:Nat}(x:SR B g H σ s)(r:aE B g.al g.HF ts vs)(h:f ts s.m=.exc c fs s')(hs:s2.m=s'.m)(k:XR B N E g H c fs s2):vO B N f vs H Q E:=
 .ex g.ai ts s.m c fs s' x.st.ai r h λa b p y=>let⟨p2,x2⟩:=x.back p y;k _ b p2 (hs▸x2.st)
def call_exc{c:Nat}(h:aj f ds fl s=.exc c fs s'):fl s=.exc c fs s'\/∃ts s1 s2,fl s=.ok (ts,s1)/\f (ts++ds) s1.m=.exc c fs s2/\s'={s1 with m:=s2.m}:=by
 rcases bA h with h|⟨⟨ts,s1⟩,a,h⟩
 .exact .inl h
 . cases q:f _ s1.m with
  |ok r=>rw[q]at h;cases h
  |bad=>rw[q]at h;cases h
  |exc c fs s2=>rw[q]at h;cases h;exact .inr ⟨ts,s1,s2,a,q,J⟩
structure Ļ(P:Pg)(Pr:c4)(w:da)(K:bG)(mg:Str->D2)(base:eI)(N:XN)(k:Nat)(x:Str)(f:Fn):Prop where
 ex:∃(fa:bp)(fd:eh)(ps:Bi),cX Pr w K mg base (sV Pr w) k fa fd ps (vO (ig P K Pr w) N f)/\mg x=U (.ref fa)/\kK K (.ref fa)=O/\Binds K fd ps []
def MR(B:Passes (sV X.prog X.w) X E)(D:Ļ P X.prog X.w X.K X.mg X.base N k x f)(hr:bD j X.A)(z:k<=j)(L:PA X (e::es)<|QO (P.kt X) N E fl)(G:Gl X x)(M:bB x)(hs:(e::es).all noStar=O) :
  PE X (.Call (.Name x p) (e::es) [] pos)<|z8 (P.kt X) N E<|aj f [] fl:=by
 obtain⟨V,fd,ps,F,C,hk,I⟩:=D.ex;rw[dO,bP]at hs;refine aV (uu F (hr.mono z) G C hk I .nil B L M (au hs.1)<|cY hs.2) λσ H Q o=>?_;rcases o with⟨g,s,t,n,x,h,k⟩|⟨g,s,c,fs,n,x,h,k⟩
 .obtain⟨ts,d,T,m,a,rfl⟩:=gB h
  rw[cJ]at a;exact .ok g s ts d x m λr g1 H1 l b i=>z9 b (by rw[cJ];exact i) a λv R S y q u=>k v R S (l.trans y) q u
 .rcases call_exc h with h|⟨ts,d,s2,m,a,rfl⟩
  .exact .ex g s c fs n x h k
  .rw[cJ]at a
   exact .ok g s ts d x m λr g1 H1 l b i=>Iv b (by rw[cJ];exact i) a J<|k.mv l
structure MdX(P:Pg)(Pr:c4)(w:da)(K:bG)(mg:Str->D2)(base:eI)(N:XN)(k:Nat)(c:Nat)(m:Str)(f:Fn):Prop where
 ex:∃(Ca fa:bp)(fd:eh)(ps:Bi)(ns:Bi),iD (ig P K Pr w) c Ca ns/\qU K Ca/\Meth K Ca m fa/\cX Pr w K mg base (sV Pr w) k fa fd ps (vO (ig P K Pr w) N f)/\Binds K fd ps []/\m∉ns
def rcv(c:Nat)(m:FX):T->Option Unit
 |.own k=>(m[k]?).bind λob=>if ob.c=c then U ()else Y
 |_=>Y
def Cj{c:Nat}{u:Unit}(h:rcv c m t=U u):∃k ob,t=.own k/\m[k]?=U ob/\ob.c=c:=by
 cases t<;>try(cases h)
 obtain⟨ob,b,a⟩:=cj.mp<|h;split at a
 .rename_i e;exact⟨_,ob,J,b,e⟩
 .cases a
def Cm(c:Nat)(g:Fn)(o:FE)(fl:FL):FE:=λs=>(z7<|o s).bind λp=>(bj<|rcv c p.2.m p.1).bind λ_=>aj g [] (bq (cF p.1) fl) p.2
def Iw(h:bq (cF t) fl s=.ok (ts,s')):∃us,fl s=.ok (us,s')/\ts=t::us:=by
 obtain⟨⟨us,b⟩,a,h⟩:=aa<|show(fl s).bind _=_ from h;cases h;exact⟨us,a,J⟩
def MS{c:Nat}(h:bq (cF t) fl s=.exc c fs s'):fl s=.exc c fs s':=by
 rcases bA (show(fl s).bind _=_ from h)with h|⟨_,_,h⟩
 .exact h
 .cases h
def Cn{c:Nat}{F:TA}(L:iD (P.kt X) c R ns)(K:m∉ns)(I:∀σ H Q,QO (P.kt X) N E fl σ H Q->F σ H Q)(z:z8 (P.kt X) N E (Cm c f fo fl) σ H Q) :
  wz R m (vO (P.kt X) N f) [] E (tE (P.kt X) fo) F σ H Q:=by
 have M:∀{vs:List V}{a:V}{o:Hp},vO _ N f _ o Q E->vO (P.kt X) N f (a::(vs++[])) o Q E:=λ{vs a o} z=>by rw[cJ];exact z
 rcases z with⟨g,s,t,G,x,h,k⟩|⟨g,s,d,fs,G,x,h,k⟩
 .revert h;refine abH λtx i C=>λh=>?_
  revert h;refine abG λ_ B=>λh=>?_;obtain⟨ts,s2,m',A,n,rfl⟩:=gB h;obtain⟨j,y,rfl⟩:=Iw A;rw[cJ]at n;refine⟨g,s,tx,i,x,ik C,λv g1 H1 q e l=>?_⟩;obtain⟨a,D,vs,rfl,w⟩:=uG e L l<|.inl<|Cj<|ao B;exact⟨a,D,_,J,w,jA K,I _ _ _<|.ok g1 i j s2 e y λp g2 o b r u=>M<|z9 (ts:=tx::j) r ⟨_,p,J,l.mv b.pre b.fr,u⟩ n λv Z H' W S T=>k v Z H' ((q.trans b).trans W) S T⟩
 .rcases bA h with h|⟨⟨tx,i⟩,C,h⟩
  .exact(i6 h).elim
  rcases bA h with h|⟨_,B,h⟩
  .exact(lD h).elim
  refine⟨g,s,tx,i,x,ik C,λv g1 H1 q e l=>?_⟩;obtain⟨a,D,vs,rfl,w⟩:=uG e L l<|.inl<|Cj<|ao B;refine⟨a,D,_,J,w,jA K,I _ _ _ ?_⟩;rcases call_exc h with h|⟨ts,s2,s3,A,n,rfl⟩
  .exact .ex g1 i d fs G e (MS h)<|k.mv q
  .obtain⟨j,y,rfl⟩:=Iw A
   rw[cJ]at n;exact .ok g1 i j s2 e y λp g2 o b r u=>M<|Iv (ts:=tx::j) r ⟨_,p,J,l.mv b.pre b.fr,u⟩ n J<|k.mv<|q.trans b
def MT{c k j:Nat}(d:Passes (sV X.prog X.w) X E)(D:MdX P X.prog X.w X.K X.mg X.base N k c m f)(hr:bD j X.A)(b:k<=j)(g:PE X o<|tE (P.kt X) fo)(l:PA X (e::es)<|QO (P.kt X) N E fl)(hs:(e::es).all noStar=O)(a:xo X o m bC (e::es) ba) :
  PE X (.Call (.Attribute o m bC) (e::es) [] ba)<|z8 (P.kt X) N E<|Cm c f fo fl:=by
 obtain⟨pl,a⟩:=a;obtain⟨r,fa,fd,ps,ns,n,cl,M,p,i,h⟩:=D.ex;rw[dO,bP]at hs;exact aV (Bf g cl M p (hr.mono b) i .nil d l (au hs.1) (cY hs.2) a) λσ H Q z=>Cn n h (λ_ _ _ q=>q) z
def Iz{c k j:Nat}(d:Passes (sV X.prog X.w) X E)(D:MdX P X.prog X.w X.K X.mg X.base N k c m f)(hr:bD j X.A)(b:k<=j)(e:PE X o<|tE (P.kt X) fo)(a:xo X o m bC [] ba) :
  PE X (.Call (.Attribute o m bC) [] [] ba)<|z8 (P.kt X) N E<|Cm c f fo aT:=by
 obtain⟨pl,a⟩:=a;obtain⟨t,fa,fd,ps,ns,n,cl,M,p,l,i⟩:=D.ex;refine aV (wA e cl M p (hr.mono b) l .nil d a) λσ H Q z=>Cn n i (λσ H Q q=>?_) z;rcases q with⟨g,s,ts,r,x,h,q⟩|⟨_,_,_,_,_,_,h,_⟩
 .cases h
  exact q [] g H .refl x J
 .cases h
def UG{k j c n:Nat}(D:DnC P X.prog X.w X.K X.mg X.base k c n x)(hr:bD j X.A)(z:k+1<=j)(S:PA X (e::es)<|QO (P.kt X) N E fl)(L:Gl X x)(T:bB x)(hs:(e::es).all noStar=O) :
  PE X (.Call (.Name x p) (e::es) [] pos)<|z8 (P.kt X) N E<|dR c n fl:=by
 obtain⟨C,f,fd,ps,ns,V,B,G,M,F,R⟩:=D.ex;rw[dO,bP]at hs;refine aV (om M F (hr.mono z) L G R .nil kY S T (au hs.1)<|cY hs.2) λσ H Q r=>?_;rcases r with⟨g,s,t,i,x,h,k⟩|⟨g,s,d,fs,i,x,h,k⟩
 .revert h;refine abH λts u m=>λh=>?_
  split at h
  .rename_i I
   cases h;refine .ok g s ts _ x m λb g1 H1 y a l x W nx nd v=>?_;have q:Kk b=Kk ns:=by rw[<- l.len,I,B]
   refine⟨x,W,b++[],J,by rw[cJ,q],ak,J,?_⟩
   rw[cJ,ua];obtain⟨o,rp⟩:=uH a V (q_ q) l nx nd v;exact k _ _ _ (y.trans<|a.jW o) (a.grow o) rp
  .cases h
 .rcases bA h with h|⟨⟨ts,u⟩,m,h⟩
  .exact .ex g s d fs i x h k
  . split at h<;>cases h
def aaK(h:PS X st<|tS B F):PS X st<|tX B N E<|lP F:=cA h λD σ H z=>by
 rcases z with⟨g,s,o,a,x,h,k⟩|⟨g,s,c,fs,a,x,h,k⟩
 .exact⟨g,s,o,a,x,ik h,k⟩
 .exact(i6 h).elim
def ZJ:gM X []<|tX B N E aL:=uC oi λD σ H z=>by
 rcases z with⟨g,s,o,a,x,h,k⟩|⟨g,s,c,fs,a,x,h,k⟩
 .cases h
  exact k σ g H .refl x
 .cases h
def UH(l:PS X st<|tX B N E F)(j:gM X rest<|tX B N E u):gM X (st::rest)<|tX B N E<|ah F u:=uC (kQ l j) λD σ H z=>by
 rcases z with⟨g,s,o,b,x,h,k⟩|⟨g,s,c,fs,b,x,h,k⟩
 .revert h;refine abH λo1 a i=>λh=>?_
  refine .ok g s o1 a x i ?_;cases o1 with
  |nx=>exact λd g1 H1 f e=>.ok g1 a o b e h<|k.mv f
  |rt t=>cases h;exact k
  |bk=>cases h;exact k
  |ct=>cases h;exact k
 .rcases bA h with h|⟨⟨o1,a⟩,i,h⟩
  .exact .ex g s c fs b x h k
  .cases o1 with
   |nx=>exact .ok g s .nx a x i λd g1 H1 f e=>.ex g1 a c fs b e h<|k.mv f
   |rt t=>cases h
   |bk=>cases h
   |ct=>cases h
def aaL{a b:Fh}(m:PT X c<|tT B ft)(p:gM X a<|tX B N E F)(n:gM X b<|tX B N E u):PS X (.If c a b pos)<|tX B N E<|aZ (mK ft) F u:=cA (GJ m p n) λD σ H z=>by
 rcases z with⟨g,s,o,i,x,h,k⟩|⟨g,s,c,fs,i,x,h,k⟩
 .revert h;refine abH λd e l=>λh=>?_
  refine⟨g,s,d,e,x,ik l,λg1 H1 j f=>?_⟩;cases d with
  |true=>exact nQ<|.ok g1 e o i f h<|k.mv j
  |false=>exact nP<|.ok g1 e o i f h<|k.mv j
 .rcases bA h with h|⟨⟨d,e⟩,l,h⟩
  .exact(i6 h).elim
  refine⟨g,s,d,e,x,ik l,λg1 H1 j f=>?_⟩;cases d with
  |true=>exact nQ<|.ex g1 e c fs i f h<|k.mv j
  |false=>exact nP<|.ex g1 e c fs i f h<|k.mv j
def ZK(q:X.N.Nodup)(n:X.N[i]?=U x)(m:Loc X.env.scope x)(he:PE X e<|z8 B N E fa)(hs:fv e (U<|.Name x b) pos.line X.env=pure ZA)(p:J2 X x) :
  PS X (.Assign [.Name x b] e pos)<|tX B N E<|aH i fa:=cA (lX q n m he hs p) λD σ H z=>by
 rcases z with⟨g,s,o,a,x,h,k⟩|⟨g,s,c,fs,a,x,h,k⟩
 .revert h;refine abH λt f r=>λh=>?_
  cases h;exact .ok g s t f x r λv g1 H1 l d j=>k _ g1 H1 l<|d.set j
 .rcases bA h with h|⟨_,_,h⟩
  .exact .ex g s c fs a x h k
  .cases h
def ZL(he:PE X e<|z8 B N E fa):PS X (.Return (U e) pos)<|tX B N E<|aD fa:=cA (GI he) λD σ H z=>by
 rcases z with⟨g,s,o,a,x,h,k⟩|⟨g,s,c,fs,a,x,h,k⟩
 .revert h;refine abH λt d j=>λh=>?_
  cases h;exact .ok g s t d x j λv g1 H1 i b f=>k v g1 H1 i b.st f
 .rcases bA h with h|⟨_,_,h⟩
  .exact .ex g s c fs a x h k
  .cases h
def UI(he:PE X e<|z8 B N E fa)(hs:fv e Y pos.line X.env=pure ZA):PS X (.Expr e pos)<|tX B N E<|aQ fa:=cA (iP he hs) λD σ H z=>by
 rcases z with⟨g,s,o,a,x,h,k⟩|⟨g,s,c,fs,a,x,h,k⟩
 .revert h;refine abH λt d i=>λh=>?_
  cases h;exact .ok g s t d x i λv g1 H1 f b j=>k σ g1 H1 f b
 .rcases bA h with h|⟨_,_,h⟩
  .exact .ex g s c fs a x h k
  .cases h
def ZM(he:PE X e<|z8 B N E fa)(P:X.N[i]?=U y)(M:mX X.env.scope y)(hd:bB y)(L:f9 y)(hs:noStar e=O)(Q:(bC.endLine == ba.line)=O) :
  PS X (.Expr (.Call (.Attribute (.Name y py) "append" bC) [e] [] ba) pos)<|tX B N E<|fU i fa:=by
 refine cA (iP (wF hJ oT oP jJ (cK P M hd L) (aW he cT<|au hs) (fM J) (Ed (by rw[dO,hs];rfl)<|by decide) Q (au hs) J) J) λD σ H r=>?_
 rcases r with⟨g,s,o,p,x,h,k⟩|⟨g,s,c,fs,p,x,h,k⟩
 .revert h;refine abG λC d=>λh=>?_
  revert h;refine abH λt n T=>abG λts S=>abG λW R=>λh=>?_;obtain⟨z,rfl⟩:=bo<|ao R;cases h;obtain⟨l0,a,q1,q2,b,q4⟩:=x.nX<|ef<|ao d;refine⟨_,q1,.inl ⟨J,_,dW.of b⟩,.ok g s t n x T λv g1 H1 K f G=>?_⟩;have q:=ef<|ao S;obtain⟨l,A,m,V,w,j⟩:=f.nX q;rw[q1]at m;cases m;obtain⟨u,I⟩:=f.chg q q1<|j.app<|.one G;exact⟨l0,A,v,J,J,w,j.len▸fB z<|by decide,k σ g1 _ (K.trans I) u⟩
 .rcases bA h with h|⟨C,d,h⟩
  .exact(lD h).elim
  obtain⟨l0,a,q1,q2,b,q4⟩:=x.nX<|ef<|ao d;refine⟨_,q1,.inl ⟨J,_,dW.of b⟩,?_⟩;rcases bA h with h|⟨⟨t,n⟩,_,h⟩
  .exact .ex g s c fs p x h k
  .rcases bA h with h|⟨_,_,h⟩
   .exact(lD h).elim
   .rcases bA h with h|⟨_,_,h⟩
    .exact(lD h).elim
    .cases h
end
def RX(B:KT)(N:XN)(E:XK)(g:G)(H:Hp)(D:Ends):Res (Out×S)->Prop
 |.ok p=>zP B g H D p.1 p.2
 |.exc c fs a=>XR B N E g H c fs a
 |.bad=>False
section
variable{P:Pg}{x:Str}{g:G}{f:Fn}
def tX.of(x:SR B g H σ s)(h:F s=R)(k:RX B N E g H D R):tX B N E F D σ H:=by
 cases R with
 |ok q=>exact .ok g s _ _ x h k
 |exc c fs a=>exact .ex g s c fs a x h k
 |bad=>exact k.elim
def tX.to(z:tX B N E F D σ H):∃g s,SR B g H σ s/\RX B N E g H D (F s):=by
 rcases z with⟨g,s,o,a,x,h,k⟩|⟨g,s,c,fs,a,x,h,k⟩
 .exact⟨g,s,x,h▸k⟩
 .exact⟨g,s,x,h▸k⟩
def MU(n:Nat)(hc:PT X c<|tT B ft)(hb:gM X body<|tX B N E F)(Z:n9 (cx X.prog X.w) X.A X.env X.xe):PS X (.While c body [] pos)<|tX B N E<|ie n (mK ft) F:=by
 refine cA (wo Z hc hb) λD σ H z=>?_;obtain⟨g,s,x,z⟩:=z.to;obtain⟨R,Q⟩:∃R,bU (mK ft) F n s=R:=⟨_,J⟩;rw[show ie n _ F s=R from Q]at z;refine⟨λm h L=>∃g2 s2,du g H g2 L/\SR B g2 L h s2/\bU _ F m s2=R,⟨n,g,s,.refl,x,Q⟩,?_⟩
 rintro m h L ⟨g2,s2,V,S,e⟩
 cases m with
 |zero=>subst e;exact z.elim
 |succ m=>
  replace e:((mK ft s2).bind λp=>if p.1 then(F _).bind λq=>(match q.1 with
   |.nx=>bU _ F m _
   |.ct=>bU _ F m _
   |.bk=>.ok _
   |.rt t=>.ok _)else .ok _)=R:=e
  cases I:ft s2 with
  |bad=>rw[mK,I]at e;subst e;exact z.elim
  |exc _ _ _=>rw[mK,I]at e;subst e;exact z.elim
  |ok q=>
  obtain⟨d,C⟩:=q;rw[mK,I]at e;refine⟨g2,s2,d,C,S,I,λg3 H3 T P=>?_⟩;have k:=V.trans T;cases d with
  |false=>
   have e:=e;subst e;exact nP<|z h g3 H3 k P
  |true=>
   replace e:((F C).bind λq=>(match q.1 with
   |.nx=>bU _ F m _
   |.ct=>bU _ F m _
   |.bk=>.ok _
   |.rt t=>.ok _))=R:=e
   refine nQ ⟨λl M=>∃G y,du g H G M/\SR B G M l y/\bU _ F m y=R,by rintro l M ⟨G,y,a,b,c⟩;exact⟨m,oW m,G,y,a,b,c⟩,?_⟩
   refine tX.of P J ?_;cases K:F C with
   |bad=>rw[K]at e;subst e;exact z.elim
   |exc c1 fs1 o=>rw[K]at e;subst e;exact XR.mv z k
   |ok q=>
    obtain⟨W,o⟩:=q;rw[K]at e;cases W with
    |nx=>exact λf g5 u j i=>⟨g5,o,k.trans j,i,e⟩
    |ct=>exact λf g5 u j i=>⟨g5,o,k.trans j,i,e⟩
    |bk=>
     have e:=e;subst e;exact λf g5 u j i=>z f g5 u (k.trans j) i
    |rt t=>
     have e:=e;subst e;exact λv g5 u j i r=>z v g5 u (k.trans j) i r
def ZN{f:FG}(hc:X.calm=O)(hi:PI X tg iter<|tI B fl)(hg:PG X tg gt)(Fp:rH B gt f S')(hb:gM X body<|tX B N E F)(hp:n9 (cx X.prog X.w) X.A X.env X.xe)
  (hs:∀x,fC iter X.env x=pure x):PS X (.For tg iter body [] pos)<|tX B N E<|dD (rN fl) f F:=by
 refine cA (GO hp hc hi hg hb hs) λD σ H zz=>?_;obtain⟨g,s,x,z⟩:=zz.to;cases T:fl s with
 |bad=>unfold dD rN at z;rw[T]at z;exact z.elim
 |exc _ _ _=>unfold dD rN at z;rw[T]at z;exact z.elim
 |ok q=>
 obtain⟨xs,V⟩:=q;obtain⟨R,hR⟩:∃R,aX f F xs V=R:=⟨_,J⟩;rw[show dD _ f F s=R by unfold dD rN;exact T▸hR]at z
 refine⟨g,s,xs,V,x,T,λqD g1 H1 Q x1 wk=>?_⟩;refine⟨λi m h n=>m=Kk xs-i/\i<=Kk xs/\∃g2 s2,du g1 H1 g2 n/\SR B g2 n h s2/\aX f F (xs.drop i) s2=R,
  ⟨Kk xs,by simp,dz _,g1,V,.refl,x1,by exact hR⟩,?_⟩
 rintro i m h n ⟨rfl,Ī,g2,s2,I,u,d⟩
 have Z:=I.fr.trans u.sub;by_cases fq:i<Kk xs
 .have hx:=dM fq
  rw[Gh fq]at d
  replace d:((bj _).bind λr=>(F _).bind λp=>match p.1 with
   |.nx=>aX f F ..
   |.ct=>aX f F ..
   |.bk=>.ok _
   |.rt t=>.ok _)=R:=d
  cases q1:f xs[i] s2.r with
  |none=>rw[q1]at d;subst d;exact z.elim
  |some P=>
  rw[q1]at d
  replace d:((F _).bind λp=>match p.1 with
   |.nx=>aX f F ..
   |.ct=>aX f F ..
   |.bk=>.ok _
   |.rt t=>.ok _)=R:=d
  refine .inr ⟨wk.go i n Z fq,λo H'=>∃S M,du g1 H1 S H'/\SR B S H' o M/\aX f F _ M=R,
   by rintro o H' ⟨S,M,a,b,c⟩;exact⟨Kk xs-(i+1),AR fq<|oW i,J,fq,S,M,a,b,c⟩,λv H3 y=>?_⟩
  obtain⟨t,ht,y2⟩:=wk.yld i n v H3 Z fq y;rw[hx]at ht;cases ht;obtain⟨K5,Y7,rx⟩:=y2 g2.HF I.fr u.sub;have L:=u.grow Y7;have G:=I.trans<|u.jW Y7;refine Fp.ok g2.al K5 H3 h s2.r _ v P _ L.sub (rx.mv I.pre<|aR.refl _) q1 L.lc.len λσ4 st=>tX.of (s:=⟨P,s2.m⟩) ⟨L.st,L.lc.sets J st⟩ J ?_;cases W:F _ with
  |bad=>rw[W]at d;subst d;exact z.elim
  |exc c1 fs1 C=>rw[W]at d;subst d;exact XR.mv z<|Q.trans G
  |ok q=>
   obtain⟨o3,C⟩:=q;rw[W]at d;cases o3 with
   |nx=>exact λj g5 K l k=>⟨g5,C,G.trans l,k,d⟩
   |ct=>exact λj g5 K l k=>⟨g5,C,G.trans l,k,d⟩
   |bk=>
    have d:=d;subst d;exact λj g5 K l k=>z j g5 K ((Q.trans G).trans l) k
   |rt t=>
    have d:=d;subst d;exact λv g5 K l k r=>z v g5 K ((Q.trans G).trans l) k r
 .have e:=F0 Ī<|AQ fq
  subst e;rw[Gi]at d;have d:=d;subst d;exact .inl ⟨wk.stop _ n Z J,z h g2 n (Q.trans I) u⟩
def xr0(d:Nat)(a:FE):FS:=λs=>(z7<|a s).bind λp=>.exc d [] p.2
structure XM0(K:bG)(mg:Str->D2)(C:bp)(x:Str):Prop where
 ex:OW K C Uz "ValueError.__new__" = O
 at_:mg x=U (.ref C)
def UJ:FR->Option (Int×Int)
 |[.int i,.int j]=>U (i,j)
 |_=>Y
def IA{p:Int×Int}(h:UJ ts=U p):ts=[.int p.1,.int p.2]:=by
 unfold UJ at h;split at h<;>cases h;rfl
def ZP(d:Nat)(fl:FL):FS:=λs=>(z7<|fl s).bind λp=>(bj<|UJ p.1).bind λi=>.exc d [.int i.1,.int i.2] p.2
structure XM2(K:bG)(P:c4)(w:da)(mg:Str->D2)(base:eI)(C:bp)(f g x:Str):Prop where
 ex:∃fI fd ps,MM K C fI=O/\DA K (.ref fI)=O/\cX P w K mg base kH 1 fI fd ps (Iq C f g)/\ps.length=3/\Binds K fd ps []
 kp:kK K (.ref C)=O
 at_:mg x=U (.ref C)
def IB{C:bp}(G:N[d]?=U (C,U (fn,gn)))(Z:Fv X E)(M:XM2 X.K X.prog X.w X.mg X.base C fn gn x)(hr:bD 2 X.A)(y:PA X (e::es)<|tA B fl)(v:Gl X x)(F:bB x)(hs:(e::es).all noStar=O) :
  PS X (.Raise (U<|.Call (.Name x np) (e::es) [] ba) Y pos)<|tX B N E<|ZP d fl:=by
 obtain⟨S,fd,ps,m1,m2,m3,_,m4⟩:=M.ex;rw[dO,bP]at hs;refine cA (zZ Z m1 M.kp m2 m3 m4 hr M.at_ y v F (au hs.1)<|cY hs.2) λD σ H z=>?_;rcases z with⟨g,s,o,p,x,h,k⟩|⟨g,s,c,fs,p,x,h,z⟩
 .revert h;refine abG λ_ _=>λh=>?_
  revert h;refine abG λ_ _=>λh=>?_;cases h
 rcases bA h with h|⟨⟨ts,R⟩,L,h⟩
 .exact(i6 h).elim
 rcases bA h with h|⟨⟨i,j⟩,I,h⟩
 .exact(lD h).elim
 cases h
 obtain rfl:=IA<|ao I
 refine⟨g,s,_,_,x,ik L,λQ g1 H1 u b f=>?_⟩;obtain⟨n,f,rfl,q1,m,r,P,q2,t⟩:=f;cases(show n=.int i from q1);cases(show m=.int j from q2);subst P;cases(show r=[]from t);refine⟨_,_,J,λa hd=>?_⟩;have l:=Gr.mw (o:=XD a [(fn,V.int i),(gn,V.int j)]) b.sub hd;obtain⟨k,hk,q⟩:=z _ _ (u.trans<|b.jW l) (b.grow l).st;rw[G]at hk;cases hk;exact q (U a) ⟨i,j,a,J,J,ak⟩
def IC{C:bp}{f:FE}(u:N[d]?=U (C,Y))(Z:Fv X E)(M:XM0 X.K X.mg C x)(p:PE X e b)(a:∀σ H(Q:Hp->Prop),tE B f σ H (λ_ H1=>Q H1)->b σ H λv H1=>[v].length=1/\Q H1)(n:Gl X x)(r:bB x)(hs:noStar e=O) :
  PS X (.Raise (U<|.Call (.Name x np) [e] [] ba) Y pos)<|tX B N E<|xr0 d f:=by
 refine cA (Iu Z M.ex M.at_ p n r<|au hs) λD σ H z=>?_;rcases z with⟨g,s,o,l,x,h,k⟩|⟨g,s,c,fs,l,x,h,k⟩
 .revert h;refine abG λ_ _=>λh=>?_
  cases h
 .rcases bA h with h|⟨⟨t,j⟩,w,h⟩
  .exact(i6 h).elim
  cases h;refine a σ H _ ⟨g,s,t,j,x,ik w,λv g1 H1 m i _=>?_⟩;obtain⟨y,hk,q⟩:=k g1 H1 m i.st;rw[u]at hk;cases hk;exact q Y ⟨J,J⟩
end
section
variable{K:bG}
def Co(h:aC a n F ts m=.exc c fs s'):Kk ts=a/\F ⟨ts.map (λt=>U<|.val t)++cR (n-Kk ts) Y,m⟩=.exc c fs s':=by
 unfold aC at h;split at h
 .rename_i b
  refine⟨b,?_⟩;rcases bA h with h|⟨⟨o,d⟩,e,h⟩
  .exact h
  .cases o<;>cases h
 .cases h
def MV{st:f7}(Fn:xx K x qual st f fd)(L:gO e ps<|aJ st)
  (b:∀(a:ar)(A:ew)(outer:List Env)(s:ag)(H:Hp)(E:XK),bD k (A.deeper<|Gz qual (aJ st) s.heap.objs.size f a)->Fv (mf (sV P w) P w K mg base e qual (aJ st) f a A outer s H E) E ->
   gM (mf (sV P w) P w K mg base e qual (aJ st) f a A outer s H E) (cP st) (tX B N E F)) :
  cX P w K mg base (sV P w) (k+1) f fd ps<|vO B N<|aC ps.length e.length F:=by
 obtain⟨S,od,T,kV,I,R,an,a,ct,M,rfl,lk,C⟩:=Fn.ex;refine P4 lk C L (λn H Q E h=>?_) λA outer s H n Q E hr h=>?_
 .rcases h with⟨g,ts,m,t,z,x,r,h,_⟩|⟨g,ts,m,c,fs,d,x,r,h,_⟩
  . exact r.len▸(oF h).1
  . exact r.len▸(Co h).1
 .refine⟨_,b a A outer s H E hr ⟨λ_ _ h=>h,J,J,J,J⟩,?_⟩
  rcases h with⟨g,ts,m,t,z,x,r,h,q⟩|⟨g,ts,m,c,fs,d,x,r,h,q⟩
  .obtain⟨_,o,d,G,rfl,D⟩:=oF h
   refine .ok g _ o d ⟨x,mD r⟩ G ?_;rcases D with rfl|⟨rfl,rfl⟩
   .exact λv i j p y u=>q v i j p y u
   .exact λl i j p y=>q _ i j p y.st J
  .exact .ex g _ c fs d ⟨x,mD r⟩ (Co h).2 q
def UK(F:cX P w K mg base (sV P w) k f fd ps<|vO B N fn):cX P w K mg base kH k f fd ps<|qW B fn:=by
 have a:∀{b H Q E},qW B fn b H Q E->vO B N fn b H Q λ_ _ _=>False:=by
  rintro _ _ _ _ ⟨g,ts,m,t,l,x,r,h,q⟩;exact .ok g ts m t l x r h q
 refine⟨λb H Q E h=>F.len b H Q _<|a h,λA outer s H c i b Q E hr p n j h=>ih (F.run A outer s H c i b Q _ hr p n j<|a h) λr u d=>?_⟩;cases r with
 |ok o=>cases o<;>exact d
 |error e=>
  obtain⟨_,_,_,_,_,_,_,_,_,_,_,_,_,z⟩:=d;exact z.elim
def ID(F:cX P w K mg base (sV P w) k f fd ps<|vO B N fn):cX P w K mg base (sV P w) k f fd ps<|vO B N<|aK fn:=F.imp λS H Q E h=>by
 have go:∀{g:G}{ts:FR}{m:FX},ez B g H m->aE B g.al g.HF ts S->∀R,aK fn ts m=R->R≠.bad->(∀t L,R=.ok _->∀v D d,du g H D d->ez B D d L->Rep B D.al D.HF t v->Q v d)->(∀c fs I,R=.exc c fs I->XR B N E g H c fs I)->vO B N fn S H Q E:=λ{g ts m} x r R h A q1 q2=>by
  have M:ez B ⟨g.HF,λ_=>Y,[]⟩ H []:=⟨x.sub,λb p e=>(by cases e),J,λk ob e=>(by simp at e)⟩
  have back:∀{g0:G}{d:Hp},du ⟨g.HF,λ_=>Y,[]⟩ H g0 d->aR g0.HF d->du g H ⟨g0.HF,g.o,g.al⟩ d/\ez B ⟨g0.HF,g.o,g.al⟩ d m:=λ{g0 d} p V=>by
   have keep:∀b p,g.o b=U p->d b=H b/\g0.HF b=Y:=λb q Z=>by
    obtain⟨T,u,C⟩:=x.live b q Z;obtain⟨j,i,_⟩:=p.rest b u C T J;exact⟨j.trans C.symm,i⟩
   refine⟨⟨p.fr,e_,λb u h n z=>?_,p.there⟩,x.mv V (λb p e=>?_) p.fr J λl p h _=>⟨h,(keep l p h).1⟩⟩
   .obtain⟨j,i,_⟩:=p.rest b u h n J
    exact⟨j,i,z⟩
   .obtain⟨T,u,C⟩:=x.live b p e
    obtain⟨j,i⟩:=keep b p e;exact⟨i,u,j.trans C⟩
  unfold aK at h;by_cases hn:aB ts=O
  .rw[bt hn]at h
   cases e:fn ts []with
   |bad=>rw[e]at h;exact dw h.symm A
   |ok z=>
    rw[e]at h;dsimp only at h;by_cases Bc:noOwn z.1=O
    .rw[bt Bc]at h
     exact .ok _ ts [] _ _ M (aE.no hn r) e λv g0 d p y X=>let⟨a,b⟩:=back p y.sub;q1 _ _ h.symm v _ d a b<|Rep.no Bc X
    .rw[b0 Bc]at h;exact dw h.symm A
   |exc c0 s W=>
    rw[e]at h;dsimp only at h;by_cases Bc:aB s=O
    .rw[bt Bc]at h
     exact .ex _ ts [] c0 s W M (aE.no hn r) e λg0 d p y=>let⟨a,b⟩:=back p y.sub;q2 _ _ _ h.symm _ d a b
    .rw[b0 Bc]at h;exact dw h.symm A
  .rw[b0 hn]at h;exact dw h.symm A
 rcases h with⟨g,ts,m,t,L,x,r,h,q⟩|⟨g,ts,m,c,fs,I,x,r,h,q⟩
 .exact go x r _ h (λz=>nomatch z) (λ_ _ z=>by cases z;exact q) λ_ _ _ z=>nomatch z
 .exact go x r _ h (λz=>nomatch z) (λ_ _ z=>nomatch z) λ_ _ _ z=>by cases z;exact q
end
end D
namespace L2
open PySem PySem.W PyProof.Rows PySem.Calls PySem.Builtin PySem.Builtin.ObjectAttr PySem.Builtin.Getset_descriptor
section
variable{K:C1}{C a:bp}
structure aaM(K:C1)(C:bp):Prop where
 ga:rB K (.ref C) "__getattribute__" = U (U<|.builtin Ki)
 gn:rB K (.ref C) "__getattr__" = U Y
 cl:rB K (.ref C) "__class__" = U (U<|.builtin Kj)
 gt:specialIn K (.builtin Kj) "__get__" = U (U<|.builtin "getset_descriptor.__get__")
 tk:takesIn K (.builtin Kj)=U O
 mb:mroIn K C (.type "BaseException")=U O
 mo:mroIn K C (.type "object")=U O
end
end L2
namespace D
open PySem L2 PySem.W PyProof.Rows
section
variable{a C:bp}{i j:Nat}
def QP(Z:mJ X.K C)(nf:bK X.K C f)(A:M.cls=.ref C)(m:M.data=.fields g)(y:M.dict=U d)(z:fs.lookup f=U v)(B:X.N[i]?=U n)(p:mX X.env.scope n)(hd:bB n)(l:f9 n) :
  PE X (.Attribute (.Name n pn) f pos) λb H Q=>b[i]?=U (U<|.ref a)/\H a=U (EX a M)/\H d=U (XD d fs)/\Q v H:=by
 intro L s b H Q I ⟨F,E,D,q⟩;refine Bd J<|bX (cK B p hd l L s b H (λx H1=>x=.ref a/\H1=H) I ⟨.ref a,F,J,J⟩) λu h e=>?_;obtain⟨x,H1,I1,j,ex,G⟩:=e;subst ex G
 obtain rfl:u=Value.ref a:=j
 obtain⟨⟨k,ns,_,r⟩,_⟩:=(show bQ X.prog X.w H1 h.heap d (XD d fs)from I1.bz d _ D);obtain⟨u,t,c⟩:=gH.some_of (v:=v) (o:=k f) (by rw[<- z];exact r f)
 exact aaH I1.jg Z nf (EX.at_<|I1.bz a _ E) A m y ns t (r9 c) ⟨v,H1,I1.tok _,c,q⟩
end
end D
namespace D
open PySem L2 PyProof.Rows
variable{X:Cx}{a e:cq}{B:KT}{i k:Nat}{P:Pg}{x y:Str}
def ExS(P:Pg)(X:Cx)(N:XN)(ae:dG)(σ:L2.St)(g:G)(H:Hp)(c:Nat)(fs:FR)(s':S)(Ex:Jn):Prop:=∃k,N[c]?=U k/\∀a t d c2 b sa H1 g1 e sh,Inv X ae σ b sa->sh.os=sa.os->n0 sh.gens->Lies X.prog X.w X.stack b sa H1 e sh.heap->lC e X.stack a (.ref k.1) (.ref t) (d,c2) sh.heap->(d=Y->c2=.none)->du g H g1 H1->SR (P.kt X) g1 H1 σ s'->XF k.2 fs d H1->Ex (.ref a) sh
def ZQ{fa:bp}{Q:Jn}
  (R:cX X.prog X.w X.K X.mg X.base (sV X.prog X.w) k fa fd ps<|vO (P.kt X) N f) (hr:bD k X.A) (hb:Binds X.K fd ps []) (I:Inv X ae σ H s) (x:SR (P.kt X) g H σ ss) (l:Vals vs us) (r:aE (P.kt X) g.al g.HF ts vs)
  (B:(∃t m',f ts ss.m=.ok (t,m')/\∀u v sh g' H',Inv X ae σ H' sh->RelV v u->du g H g' H'->SR (P.kt X) g' H' σ {ss with m:=m'}->Rep (P.kt X) g'.al g'.HF t v->Q u sh)\/(∃c fs i,f ts ss.m=.exc c fs i/\ExS P X N ae σ g H c fs {ss with m:=i.m} Ex)) :
  Kb X (call (.ref fa) us) Q Ex s:=by
 have run:∀(n:VK)(o:XK),vO _ N f vs H n o->nr _ X.A _ _ s:=λn o sp=>by
  have hl:us.length=ps.length:=by rw[<- l.length];exact R.len _ _ _ _ sp
  have M:=hb s us I.jg (by rw[cJ];exact hl)
  rw[cJ]at M;exact R.run X.A X.stack s H _ us vs n o hr I.Lw M l sp
 rcases B with⟨t,m',F,q⟩|⟨c,fs,i,F,E,hk,q⟩
 .refine ma<|ih (run (λv h=>∃g2,du g H g2 h/\SR _ g2 h σ _/\Rep _ g2.al g2.HF t v) (λ_ _ _=>False)<|z9 x r F λv g' H' j y l=>⟨g',j,y,l⟩) λr i b=>?_
  cases r with
  |error e=>
   obtain⟨_,_,_,_,_,_,_,_,_,_,_,_,_,z⟩:=b;exact z.elim
  |ok fo=>
   cases fo with
   |ret u=>
    obtain⟨v,h,G,W,g2,j,y,Z⟩:=I.after b;exact q u v i g2 h G W j y Z
   |next=>exact fE b
   |brk=>exact fE b
   |cont=>exact fE b
 .refine ma<|ih (run (λ_ _=>False) (λCv d h=>∃g2,Cv=.ref _/\XF _ fs d h/\du g H g2 h/\SR _ g2 h σ _)<|.ex g.ai ts ss.m c fs i x.st.ai r F λg' H' j S=>⟨E,hk,λd hd=>let⟨D,p⟩:=x.back j S;⟨_,J,hd,D,p⟩⟩) λr s2 b=>?_
  cases r with
  |error e=>
   obtain⟨a,t,C,d,c2,h,Bh,rfl,ho,T,L,Fl,ļ,g2,eC,hd,D,p⟩:=b;cases eC;exact q a t d c2 H s h g2 Bh s2 I ho T L Fl ļ D p hd
  |ok fo=>
   cases fo with
   |ret u=>
    obtain⟨v,h,G,_,z⟩:=I.after b;exact z.elim
   |next=>exact fE b
   |brk=>exact fE b
   |cont=>exact fE b
def IE{Q:Jn}(D:Ļ P X.prog X.w X.K X.mg X.base N k x f)(hr:bD j X.A)(mC:k<=j)(ha:PA X.wm (e::es)<|tA (P.kt X) fl)(hg:Gl X x)(h_:bB x)(hs:(e::es).all noStar=O)(I:Inv X ae σ H s)(S:SR (P.kt X) g H σ ss)
  (F:(∃t s',aj f [] (rN fl) ss=.ok (t,s')/\∀u v sh g' H',Inv X ae σ H' sh->RelV v u->du g H g' H'->SR (P.kt X) g' H' σ s'->Rep (P.kt X) g'.al g'.HF t v->Q u sh)\/(∃c fs s',aj f [] (rN fl) ss=.exc c fs s'/\ExS P X N ae σ g H c fs s' Ex)) :
  Kb X (fu (.Call (.Name x p) (e::es) [] ba) X.env) Q Ex s:=by
 obtain⟨fa,fd,ps,FF,hm,hk,hb⟩:=D.ex;rw[dO,bP]at hs;obtain⟨ts,b,n,i⟩:∃ts b,fl ss=.ok (ts,b)/\((∃t l,f ts b.m=.ok (t,l)/\∀u v sh g' H',Inv X ae σ H' sh->RelV v u->du g H g' H'->SR (P.kt X) g' H' σ {b with m:=l}->Rep (P.kt X) g'.al g'.HF t v->Q u sh)\/(∃c fs s',f ts b.m=.exc c fs s'/\ExS P X N ae σ g H c fs {b with m:=s'.m} Ex)):=by
  rcases F with⟨t,s',h,q⟩|⟨c,fs,s',h,q⟩
  .obtain⟨ts,b,l,n,i,rfl⟩:=gB h
   rw[cJ]at i;exact⟨ts,b,ik n,.inl ⟨t,l,i,q⟩⟩
  .rcases call_exc h with h|⟨ts,b,s2,n,i,rfl⟩
   .exact(i6 h).elim
   .rw[cJ]at i
    exact⟨ts,b,ik n,.inr ⟨c,fs,s2,i,q⟩⟩
 refine f5<|f_ I hg hm ?_ h_;refine AO (h₀:=X.base) I.ok.mod.kin hk (eP (ha ba ae s σ H (λC y=>∃g2,du g H g2 y/\SR (P.kt X) g2 y σ b/\aE (P.kt X) g2.al g2.HF ts C) (I.nN _) ⟨g,ss,ts,b,S,n,λC g2 y o B G=>⟨g2,o,B,G⟩⟩) (λus s3 R=>?_) λ_ _ z=>z.elim) (au hs.1)<|cY hs.2;obtain⟨C,y,r,E,g2,o,B,G⟩:=R;have r:=r.g_;refine⟨r.jg,ZQ FF (hr.mono mC) hb r B E G ?_⟩;rcases i with⟨t,l,M,q⟩|⟨c,fs,s',M,kk,hk,q⟩
 .exact .inl ⟨t,l,M,λu v sh g' H' I' Z p' V r'=>q u v sh g' H' I' Z (o.trans p') V r'⟩
 .exact .inr ⟨c,fs,s',M,kk,hk,λa t d c2 Ha sa H1 g1 Bh sh Ia ho W L Fl hc p1 T hd=>q a t d c2 Ha sa H1 g1 Bh sh Ia ho W L Fl hc (o.trans p1) T hd⟩
def rO(v i j cn:Nat)(F:FE):FS:=λs=>match F s with
 |.ok p=>.ok (.nx,jT p.2 v<|.val p.1)
 |.exc c fs a=>if c=cn then(match a.r[i]? with
  |some none=>.ok (.nx,jT a j<|.val<|.tup fs)
  |_=>.bad)else .bad
 |.bad=>.bad
def SR.slot(x:SR B g H σ s)(a:s.r[i]?=U Y)(w:Option V):SR B g H (σ.set i w) s:=
 ⟨x.st,by rw[eS];exact x.lc.len,λm c h=>by
  have:i≠m:=λz=>by rw[z,h]at a;cases a
  rw[eV this];exact x.lc.at_ m c h⟩
def UM{C:bp}(hxe:X.xe=λ_ _=>False)(D:Ļ P X.prog X.w X.K X.mg X.base N k x f)(hr:bD jj X.A)(mC:k<=jj)(ha:PA X.wm (e::es)<|tA (P.kt X) fl)(hg:Gl X x)(h_:bB x)(hs:(e::es).all noStar=O)
  (hm:X.mg y=U (.ref CB)) (hgy:Gl X y) (hdy:bB y) (hNc:N[cn]?=U (C,U (fn,gn))) (hxm:vW X.K (.ref C) (.ref CB)=U O)
  (Z:mJ X.K C) (nf:bK X.K C fn) (ng:bK X.K C gn) (fg:gn≠fn)
  (hN:X.N.Nodup) (hv:X.N[v]?=U w) (lw:Loc X.env.scope w) (fw:X.fn w=O\/X.env.scope.names.lookup w=U .local)
  (P6:fv (.Call (.Name x p) (e::es) [] ba) (U<|.Name w vp) ap.line X.env=pure ZA)
  (hi:X.N[i]?=U n) (vn:mX X.env.scope n) (dn:bB n) (S:f9 n) (hk:X.env.scope.names.lookup n=U .local)
  (hj:X.N[j]?=U z) (lz:Loc X.env.scope z) (fz:X.fn z=O\/X.env.scope.names.lookup z=U .local) (F:j≠i)
  (DP:X.stack=X.env::X.outer) (yI:X.env.frame=U X.env.locals) :
  PS X (.Try [.Assign [.Name w vp] (.Call (.Name x p) (e::es) [] ba) ap] [.ExceptHandler (U<|.Name y np) (U n) [.Assign [.Name z zp] (.Tuple [.Attribute (.Name n p1) fn p2,.Attribute (.Name n p3) gn p4] tk p5) p6] UL] [] [] jQ)<|tS (P.kt X)<|rO v i j cn<|aj f []<|rN fl:=by
 have lk2:∀a b:V,fS gn [(fn,a),(gn,b)]=U b:=λa b=>by
  have hb:(gn == fn)=ZA:=beq_eq_false_iff_ne.mpr fg;simp only[fS,hb,lp]
 have SI:∀a b:V,fS fn [(fn,a),(gn,b)]=U a:=λa b=>by simp only[fS,lp]
 rintro ae s σ H Dn I ⟨g,ss,o,s',xr,h,kk⟩
 rw[hxe];unfold rO at h;refine wpAny_Try_except<|kx<|wpAny_Assign_Name (IE D hr mC ha hg h_ hs I xr ?_) P6;cases q:aj f [] (rN fl) ss with
 |bad=>rw[q]at h;cases h
 |ok pq=>
  rw[q]at h;cases h;exact .inl ⟨pq.1,pq.2,J,λu v sh g' H' I' ru p' x' r'=>jk I' hN hv lw ru (λs2 I2=>hW<|hW ⟨_,H',I2,kk _ g' H' p'<|x'.set r'⟩) fw⟩
 |exc c fs s2=>
  rw[q]at h
  replace h:(if c=cn then(match s2.r[i]? with
   |some none=>Res.ok (Out.nx,jT s2 j<|.val<|.tup fs)
   |_=>.bad)else .bad)=.ok (o,s'):=h
  have ec:c=cn:=Decidable.byContradiction λz=>by rw[b0 z]at h;cases h
  rw[bt ec]at h;have hρ:s2.r[i]?=U Y/\o=.nx/\s'=jT s2 j (.val<|.tup fs):=by
   split at h
   .rename_i q
    cases h;exact⟨q,J,J⟩
   .cases h
  obtain⟨E,rfl,rfl⟩:=hρ;subst ec;refine .inr ⟨c,_,s2,J,_,hNc,λa t dd c2 Ha sa H1 g1 Bh sh Ia ho sX L Fl _ p1 B hd=>?_⟩;obtain⟨iv,jv,d',rfl,rfl,hD⟩:=hd;refine UD Ia DP yI ho sX L Fl hm hxm (λh5 L5 F5=>MP Ia ho sX hN hi hk L5 F5 λT ws s6 Q M iM new I6=>?_) hgy hdy;have hjl:j<σ.length:=by rw[I.len];exact(dq.mp hj).1
  have na:a≠d':=λz=>by rw[z,hD]at new;cases new
  have IF:(σ.set i<|U<|V.ref a)[i]?=U (U<|.ref a):=fR (by rw[I.len];exact(dq.mp hi).1)
  have R:upd H1 a (EX a T) d'=U (XD d' [(fn,V.int iv),(gn,V.int jv)]):=by rw[aq<|f3 na];exact hD
  refine eP (kR (lX (X:=Wq X a λ_ _=>False) hN hj lz (zh<|aW (QP (a:=a) Z nf Q M iM (SI ..) hi vn dn S) (aW (QP (a:=a) Z ng Q M iM (lk2 ..) hi vn dn S) cT J) J) J fz) ae s6 (σ.set i<|U<|.ref a) (upd H1 a<|EX a T) {nx:=λd H8=>∀s9,Inv X ae (d.set i Y) H8 s9->SP X ae Dn .next s9,rt:=λ_ _=>False} I6 ⟨IF,ak,R,IF,ak,R,by show 2<=cw;decide,λl W s9 I9=>?_⟩) (λf s8 q=>?_) λ_ _ z=>z
  .refine⟨_,_,I9,?_⟩
   have m:∀{b},upd H1 a (EX a T) b=Y->H1 b=Y:=λ{b} z=>by
    by_cases q:b=a
    .rw[q];exact new
    .rw[aq q]at z;exact z
   have g0:=Gr.mw (o:=EX a T) B.sub new;have g2:=g0.trans<|Gr.mw (o:=.tup [V.int iv,V.int jv]) g0.sub W;have x2:=B.grow g2;have no:g1.o l=Y:=by
    cases q:g1.o l with
    |none=>rfl
    |some p=>obtain⟨_,u,y⟩:=B.st.live l p q;rw[m W]at y;cases y
   have G:g1.HF l=Y:=B.sub.free<|m W;have x3:=x2.zE (l:=l) G no ak;have p3:=(p1.trans<|B.jW g2).zE (l:=l) (u:=.tup [V.int iv,V.int jv]) (p1.there l<|m W) G;have x4:=x3.set (i:=j) (t:=.tup [.int iv,.int jv]) (v:=.ref l) ⟨l,_,J,kG.of ak,_,_,J,J,_,_,J,J,J⟩;have x5:=x4.slot (i:=i) (by show(s2.r.set j _)[i]?=_;rw[eV F];exact E) Y
   have e1:((σ.set i<|U<|.ref a).set j<|U<|.ref l).set i Y=(σ.set j<|U<|.ref l).set i Y:=by
    have c:(σ.set i<|U<|V.ref a).set j (U<|V.ref l)=(σ.set j<|U<|V.ref l).set i (U<|V.ref a):=List.set_comm _ _<|f3 F;rw[c,List.set_set]
   show Dn.nx (((σ.set i<|U<|.ref a).set j<|U<|.ref l).set i Y) _;rw[e1];exact kk _ _ _ p3 x5
  .cases f with
   |next=>
    obtain⟨d,H8,I8,q⟩:=q;exact⟨d,H8,I8,q⟩
   |brk=>obtain⟨_,_,_,q⟩:=q;exact q.elim
   |cont=>obtain⟨_,_,_,q⟩:=q;exact q.elim
   |ret u=>obtain⟨_,_,_,_,_,q⟩:=q;exact q.elim
def dY{b:Type}(xs:List b)(lo a:Dx)(k:Int):List b:=(zr (gV lo a (U k) xs.length).1 (gV lo a (U k) xs.length).2.1 (gV lo a (U k) xs.length).2.2).filterMap (xs[·]?)
def MW(k:Int)(lo a:Dx):T->FV
 |.scr ns=>gd (k≠0)<|.lst<|(dY ns lo a k).map .int
 |_=>Y
def z_(k:Int)(a:FE)(lo b:FO):FE:=λs=>(a s).bind λp=>(lo p.2).bind λq=>(b q.2).bind λz=>(bj<|MW k q.1 z.1 p.1).bind λt=>.ok (t,z.2)
def Cp(b:B2)(lo a:Dx)(k:Int):Em b.toArray lo a (U k)=(dY b lo a k).toArray:=by
 unfold Em dY;congr 1
 congr 1
 funext i
 exact Pb
def IG{a c:Type}(f:a->c)(xs:List a)(lo b:Dx)(k:Int):(dY xs lo b k).map f=dY (xs.map f) lo b k:=by
 unfold dY;rw[cH,List.map_filterMap]
 congr 1
 funext i
 rw[eQ]
def II(xs:B2)(lo a:Dx)(k:Int):(dY xs lo a k).length<=Kk xs:=by
 have:=slicePick_size_le xs.toArray lo a<|U k
 rw[Cp,ck]at this;exact this
theorem Vals.at'(r:Vals xs us):∀l:B1,Vals (l.filterMap (xs[·]?))<|l.filterMap (us[·]?)
 |[]=>.nil
 |i::l=>by
  cases q:xs[i]? with
  |none=>rw[yR,yR,q,r.none_of q];exact Vals.at' r l
  |some x=>
   obtain⟨u,e,h⟩:=r.get q;rw[yR,yR,q,e];exact .cons h<|Vals.at' r l
variable{k:Int}
def ZR(hB:B.K=X.K)(ha:PE X a<|tE B fa)(hl:PO X Qm<|tP B Td)(hh:PO X Qn<|tP B Te):PE X (.Subscript a (.Slice Qm Qn (U<|.Constant (.int k) k0 p1) p2) pos)<|tE B<|z_ k fa Td Te:=by
 intro f s σ H Q I c;obtain⟨g,ss,t,s',x,h,kk⟩:=c;revert h;refine abH λtx F h1=>abH λlo s2 h2=>abH λhi S h3=>abG λt' n=>λh=>?_;cases h;have n:=ao n;obtain⟨ns,rfl⟩:∃ns,tx=.scr ns:=by cases tx<;>first|(cases n)|exact⟨_,J⟩
 obtain⟨k1,rfl⟩:=bo n;refine z6<|bX (ha f s σ H (λv H1=>∃g1,du g H g1 H1/\SR B g1 H1 σ F/\Rep B g1.al g1.HF _ v) I ⟨g,ss,_,F,x,h1,λv g1 H1 p1 z L=>⟨g1,p1,z,L⟩⟩) λv E c=>?_;obtain⟨v1,H1,I1,L,g1,p1,z,q1⟩:=c;refine wpAny_Slice<|bX (hl f E σ H1 (λl j=>l=lo/\∃g2,du g1 H1 g2 j/\SR B g2 j σ s2) I1 ⟨g1,F,_,s2,z,h2,λg2 j p2 y=>⟨J,g2,p2,y⟩⟩) λR D c=>?_;obtain⟨l,j,I2,pl,rfl,g2,p2,y⟩:=c;refine bX (hh f D σ j (λl i=>l=hi/\∃g3,du g2 j g3 i/\SR B g3 i σ S) I2 ⟨g2,s2,_,S,y,h3,λg3 i m e=>⟨J,g3,m,e⟩⟩) λP C c=>?_;obtain⟨u,i,I3,pu,rfl,g3,m,e⟩:=c;rw[evalPart_some];refine bX (ud f C σ i (λv p=>v=.int k/\p=i) I3 ⟨J,J⟩) λvs d c=>?_;obtain⟨w,p,I4,G,rfl,rfl⟩:=c;obtain⟨tk,rfl⟩:=G;have r3:=(q1.mv p2.pre p2.fr).mv m.pre m.fr;have pp:=(p1.trans p2).trans m;obtain⟨M,rfl,q⟩:=r3;cases(L);have N:Inv X f σ p {d with heap:=d.heap.push {cls:=.type "slice",data:=.fields #[R,P,.int k tk]}}:=I4.kept λb ob q=>av _ q
 obtain⟨aN,r,Z,W⟩:=N.list<|hB▸e.sub.seq q;show cC _ X.A _ _ X.xe _
 refine tail_any Z.isList.typeIs slot_list_getitem.lookup ?_ (by with_unfolding_all rfl)
 refine BD Z.isList (Heap.IsSliceOf.new ..) pl pu (.int k tk) (by simpa using k1) ?_ (by rw[ck,<- r.length];exact W)
 rw[Cp];have hV:Vals ((dY ns l u k).map V.int)<|dY aN l u k:=by
  rw[IG];unfold dY;rw[r.length];exact Vals.at' r _
 have hn:=N.bz.fresh<|bL _;refine⟨.ref _,_,N.laid (o:=.lst _) (λb ob q=>av _ q) (bL _) ⟨?_,_,0,hV,c3 _ J⟩,J,?_⟩
 .rw[hV.length];exact c_ (II ..) (by rw[<- r.length];exact W)
 .exact kk _ _ _ (pp.trans<|e.jW<|Gr.new e.sub hn) (e.grow<|Gr.new e.sub hn) ⟨_,_,J,ak,aE.ints _⟩
def lsO:T->FK
 |.lst ts=>U ts
 |_=>Y
def ZS(i:Nat)(a:FE):FS:=λs=>(bj<|mj s.r[i]?).bind λ_=>(a s).bind λp=>(bj<|mj p.2.r[i]?).bind λts=>(bj<|lsO p.1).bind λb=>(bj<|gd (Kk ts+Kk b<=1000000) ()).bind λ_=>.ok (.nx,jT p.2 i<|.ol<|ts++b)
section
variable{d V:Pos}
def ZT(he:PE X e<|tE B fa)(K:X.N[i]?=U y)(G:mX X.env.scope y)(hd:bB y)(E:f9 y)(hs:noStar e=O)(L:(V.endLine == ba.line)=O) :
  PS X (.Expr (.Call (.Attribute (.Name y py) "extend" V) [e] [] ba) pos)<|tS B<|ZS i fa:=by
 refine cA (iP (wF hJ PySem.F.slot_list_extend PySem.F.type_list_extend D5 (cK K G hd E) (aW he cT<|au hs) (fM J) (Ed (by rw[dO,hs];rfl)<|by decide) L (au hs) J) J) λD σ H n=>?_
 obtain⟨g,s,o,s',x,h,k⟩:=n;revert h;refine abG λT R=>abH λt A Q=>abG λts P=>abG λzs c=>abG λ_ M=>λh=>?_;obtain⟨z,_⟩:=bo<|ao M;cases h;cases t<;>try(cases c;done)
 cases c;obtain⟨l0,u,q1,q2,C,q4⟩:=x.nX<|ef<|ao R;refine⟨_,q1,.inl ⟨J,_,dW.of C⟩,g,s,_,A,x,Q,λv g1 H1 p1 d a=>?_⟩;have m:=ef<|ao P;obtain⟨l,w,j,S,r,f⟩:=d.nX m;rw[q1]at j;cases j;obtain⟨b,q,rfl,I,a⟩:=a;obtain⟨p,p2⟩:=d.chg m q1<|f.app a;exact⟨l0,b,w,q,J,J,r,d.sub _ _ I,by rw[<- f.len,<- a.len];exact c_ z<|by decide,k σ g1 _ (p1.trans p2) p⟩
end
def ZU(i:Nat)(s:S):Bool:=(Wk s.r[i]?).isSome
def Cq(neg:Bool)(i:Nat)(a:FE):FE:=λs=>(a s).bind λp=>(bj<|mj p.2.r[i]?).bind λts=>(bj<|LZ p.1<|.lst ts).bind λb=>.ok (.bl<|if neg then !b else b,p.2)
def IJ(neg:Bool)(i:Nat)(a:FE):FE:=λs=>if ZU i s then Mz neg i a s else Cq neg i a s
def Cr(hB:B.K=X.K):∀σ H Q,tE B (Cq neg i fa) σ H Q->P0 (zJ X.K neg) (tE B fa) (GD i) σ H Q:=by
 rintro σ H Q ⟨g,s,t,y,x,h,k⟩
 revert h;refine abH λtx w r=>abG λts q=>abG λb p=>λh=>?_;cases h;refine⟨g,s,tx,_,x,r,λv g1 H1 p1 a o=>?_⟩;obtain⟨l,c,n,m,j,f⟩:=a.nX<|ef<|ao q;have d:=(a.st.live l _ m).1;refine⟨_,n,Hw (ty:=.lst ts) hB (λb u e=>?_) (o.mv e_<|bg d) ⟨l,c,J,ak,f.mv e_<|bg d⟩ (ao p)<|k _ g1 H1 p1 a J⟩;by_cases hb:b=l
 .subst hb;rw[ak]at e;cases e;exact j
 .rw[aq hb]at e;exact a.sub _ _ e
def sY(h:nA op=U neg):hU X (eJ op)<|zJ X.K neg:=by
 cases op<;>try(cases h;done)
 .cases h;exact Hv
 .cases h;exact BG
def QR{k:Nat}(hB:B.K=X.K)(hr:bD k X.A)(l:nA op=U neg)(m:PE X a<|tE B fa)(n:X.N[i]?=U y)(j:mX X.env.scope y)(hd:bB y)(f:f9 y) :
  PE X (.Compare a [op] [.Name y py] pos) (tE B<|IJ neg i fa)/\PT X (.Compare a [op] [.Name y py] pos) (tT B<|a_<|IJ neg i fa):=by
 obtain⟨q,_⟩:=Ui (pos:=pos) (py:=py) hr l m n j hd f;have p:fA op (.Name y py)=ZA:=by cases op<;>rfl
 refine⟨λe b σ H Q I o=>?_,λe b σ H Q I o=>?_⟩
 .obtain⟨g,s,t,c,x,h,d⟩:=o
  unfold IJ at h;split at h
  .exact q e b σ H Q I ⟨g,s,t,c,x,h,d⟩
  .exact oj (sY l) m (cK n j hd f) p e b σ H Q I<|Cr hB σ H Q ⟨g,s,t,c,x,h,d⟩
 .obtain⟨g,s,t,c,x,h,d⟩:=BJ o
  unfold IJ at h;split at h
  .exact kU (jC (by have:=hr.units;lia) l) m (cK n j hd f) p e b σ H Q I<|zS σ H _ ⟨g,s,t,c,x,h,d⟩
  .exact kU (sY l) m (cK n j hd f) p e b σ H Q I<|Cr hB σ H _ ⟨g,s,t,c,x,h,d⟩
def Cs:T->Bool
 |.obj _ _=>O
 |.tup<|.str _::_=>O
 |_=>ZA
mutual
def uT:T->Bool
 |.tup ts=>mL ts
 |.lst ts=>(ts.head?).all Cs&&mL ts
 |.obj _ ts=>mL ts
 |.scr _=>ZA
 |.own _=>ZA
 |.fh _ _=>ZA
 |_=>O
def mL:FR->Bool
 |[]=>O
 |t::ts=>uT t&&mL ts
end
def UN(B:KT)(HF:Hp)(v:V):Prop:=∃t,Cs t=O/\∃al,Rep B al HF t v
open Classical in
def mO(B:KT)(HF:Hp):Hp:=λa=>match HF a with
 |U<|.lst<|v::vs=>if UN B HF v then U (.lst<|v::vs)else Y
 |o=>o
section
variable{al:BM}{HF:Hp}
def Cu:aR (mO B HF) HF:=λa o h=>by
 unfold mO at h;split at h
 .rename_i e
  split at h
  .cases h;exact e
  .cases h
 .exact h
def pY{a:bp}(h:HF a=U o)(k:∀v vs,o=.lst (v::vs)->UN B HF v):mO B HF a=U o:=by
 unfold mO;split
 .rename_i v vs e
  rw[h]at e;cases e;rw[bt<|k v vs J]
 .exact h
def MX{a:bp}(h:mO B HF a=U (.lst<|v::vs)):UN B HF v:=by
 unfold mO at h;split at h
 .split at h
  .rename_i q
   cases h;exact q
  .cases h
 .rename_i k
  exact(k v vs h).elim
def ZV{a:bp}(h:kG B.K HF a xs):kG B.K (mO B HF) a xs:=by
 rcases h with(q|⟨o,q⟩)|q
 .exact .inl (.inl (pY q λ_ _ z=>by cases z))
 .exact .inl<|.inr ⟨o,pY q λ_ _ z=>by cases z⟩
 .exact .inr q
mutual
theorem Rep.Aa:∀{t:T}{v:V},uT t=O->Rep B al HF t v->Rep B [] (mO B HF) t v
 |.non,_,_,h=>h
 |.bl _,_,_,h=>h
 |.int _,_,_,h=>h
 |.str _,_,_,h=>h
 |.tup ts,_,n,h=>by
  obtain⟨a,vs,e,q,r⟩:=h;exact⟨a,vs,e,ZV q,aE.Aa n r⟩
 |.lst ts,_,n,h=>by
  obtain⟨a,vs,e,q,r⟩:=h;have n:((ts.head?).all Cs&&mL ts)=O:=n;rw[bP]at n;refine⟨a,vs,e,pY q λv us z=>?_,aE.Aa n.2 r⟩;cases z;cases ts with
  |nil=>cases r
  |cons t ts=>
   obtain⟨_,_,z,r1,_⟩:=r;cases z;exact⟨t,n.1,al,r1⟩
 |.obj c ts,_,n,h=>by
  obtain⟨a,C,dx,ns,vs,e,z,q,l,q2,r⟩:=h;exact⟨a,C,dx,ns,vs,e,z,pY q λ_ _ z=>(by cases z),l,pY q2 λ_ _ z=>(by cases z),aE.Aa n r⟩
 |.scr _,_,n,_=>by cases n
 |.own _,_,n,_=>by cases n
 |.fh _ _,_,n,_=>by cases n
theorem aE.Aa:∀{ts:FR}{vs:List V},mL ts=O->aE B al HF ts vs->aE B [] (mO B HF) ts vs
 |[],_,_,h=>h
 |t::ts,_,n,h=>by
  obtain⟨v,r,e,h1,h2⟩:=h;have n:(uT t&&mL ts)=O:=n;rw[bP]at n;exact⟨v,r,e,Rep.Aa n.1 h1,aE.Aa n.2 h2⟩
end
end
def MY:T->Bool
 |.non=>O
 |.tup [_,_,.lst hs]=>(hs.head?).all λh=>match h with
  |.tup<|.int _::_=>O
  |_=>ZA
 |_=>ZA
def EA(i:Nat)(f:Fn)(ds:FR)(fl:FL):FS:=λs=>(fl s).bind λp=>match p.2.m with
 |_::_=>.bad
 |[]=>if mL (p.1++ds)then(f (p.1++ds) []).bind λq=>(match q.1 with
  |.tup<|u::_=>if MY u then .ok (.nx,⟨p.2.r.set i Y,[]⟩)else .bad
  |_=>.bad)else .bad
def MZ(h:EA i f ds fl s=.ok (o,s')):∃ts s1 u us m',fl s=.ok (ts,s1)/\s1.m=[]/\mL (ts++ds)=O/\f (ts++ds) []=.ok (.tup<|u::us,m')/\MY u=O/\o=.nx/\s'=⟨s1.r.set i Y,[]⟩:=by
 revert h;refine abH λts s1 e=>λh=>?_;dsimp only at h;split at h
 .cases h
 rename_i a;split at h
 case isFalse=>cases h
 rename_i b;revert h;refine abH λt m' d=>λh=>?_;dsimp only at h;split at h
 .rename_i u us
  split at h
  .rename_i c
   cases h;exact⟨ts,s1,u,us,m',e,a,b,d,c,J,J⟩
  .cases h
 .cases h
def M0(x:SR B g H σ s)(e:aR H H'):Gr g.HF H g.HF H':=⟨aR.refl _,x.sub.trans e,λ_ _ h n=>⟨e _ _ h,n⟩⟩
def EB{a:Hp}(c:aR a H)(p:du ⟨a,λ_=>Y,[]⟩ H g0 H')(y:aR g0.HF H'):aR H H':=λb u h=>by
 cases e:a b with
 |none=>exact(p.rest b u h e J).1
 |some w=>
  have:=c b w e
  rw[h]at this;cases this;exact y b _<|p.fr b _ e
def SR.off(x:SR B g H σ s)(i:Nat)(w:Option V):SR B g H (σ.set i w) ⟨s.r.set i Y,s.m⟩:=
 ⟨x.st,by show(s.r.set i Y).length=_;rw[eS,eS];exact x.lc.len,λj c e=>by
  have e:(s.r.set i Y)[j]?=U (U c):=e;by_cases hj:i=j
  .subst hj
   have a:i<Kk s.r:=by have:=(dq.mp e).1;rw[eS]at this;exact this
   rw[fR a]at e;cases e
  .rw[eV hj]at e ⊢
   exact x.lc.at_ j c e⟩
def UO{a C dx:bp}(I:Inv X d σ H sh)(h:H a=U (.ins C dx fs))(q:kG X.K H a xs):False:=by
 obtain⟨_,_,_,e,_⟩:=(show bQ X.prog X.w H sh.heap a (.ins C dx fs)from I.bz a _ h);obtain⟨_,_,⟨o,b,c,_⟩,_⟩:=I.tuple q;rw[e]at b;cases b;cases c
section
variable{k jj k1 k2:Nat}{rest:Fh}
def ZW(D:į P X.prog X.w X.K X.mg X.base k x ds f)(hr:bD jj X.A)(mC:k<=jj)(ha:PA X (e::es)<|tA (P.kt X) fl)(hg:Gl X x)(h_:bB x)(hs:(e::es).all noStar=O)
  (hN:X.N.Nodup) (M:X.N[i]?=U y) (ly:Loc X.env.scope y) (vy:mX X.env.scope y) (dy:bB y) (cy:f9 y) (fy:X.fn y=O\/X.env.scope.names.lookup y=U .local)
  (P6:fv (.Subscript (.Call (.Name x p) (e::es) [] ba) (.Constant (.int 0) k0 q1) q2) (U<|.Name y xp) ap.line X.env=pure ZA) (gp:(bC.endLine == cp2.line)=O) (ZX:gM X rest<|tS (P.kt X) Gf) :
  gM X (.Assign [.Name y xp] (.Subscript (.Call (.Name x p) (e::es) [] ba) (.Constant (.int 0) k0 q1) q2) ap::.If (.Compare (.Name y q3) [.IsNot] [.Constant .none k1 q4] q5) [.Expr (.Call (.Attribute (.Subscript (.Name y q6) (.Constant (.int 2) k2 q1') q2') "clear" bC) [] [] cp2) ep] [] ip::rest)
  <|tS (P.kt X)<|ah (EA i f ds fl) Gf:=by
 obtain⟨ff,fd,ps,gF,dV,F,hm,hk,hb,hd,xn⟩:=D.ex;rw[dO,bP]at hs
 rintro ae s σ H Dn I ⟨g,ss,o,s',xr,h,kk⟩
 revert h;refine abH λo1 s3 h0=>λh=>?_;obtain⟨ts,B,u,us,m',h1,T,Z,h2,hc,rfl,rfl⟩:=MZ h0;obtain⟨Φ,E⟩:∃Φ:L2.St->Hp->Prop,Φ=λQ H'=>∃g1 H1 g0 w,Q=σ.set i (U w)/\du g H g1 H1/\SR (P.kt X) g1 H1 σ B/\du ⟨mO (P.kt X) g1.HF,λ_=>Y,[]⟩ H1 g0 H'/\aR g0.HF H'/\Rep (P.kt X) g0.al g0.HF u w:=⟨_,J⟩;refine kx<|eP (lX hN M ly (Bj zk (uu F (hr.mono mC) hg hm hk hb hd kY ha h_ (au hs.1)<|cY hs.2) ud λ_ _=>J) P6 fy ae s σ H {nx:=Φ,rt:=λ_ _=>False} I ⟨g,ss,ts,B,xr,h1,λvs g1 H1 p1 j r1=>?_⟩) (λfl s2 q=>?_) λ_ _ z=>z
 .refine⟨⟨mO (P.kt X) g1.HF,λ_=>Y,[]⟩,ts++ds,[],_,m',⟨Cu.trans j.sub,λb p e=>(by cases e),J,λk ob e=>(by simp at e)⟩,aE.Aa Z<|r1.app<|xn _ _,h2,λv g0 H2 p2 m rv=>?_⟩
  obtain⟨a,Fq,rfl,q,rq⟩:=rv;obtain⟨w,r',rfl,r,_⟩:=rq;refine .inr<|.inl ⟨a,_,0,w,J,J,bM m.sub q,by unfold D0 G0;rw[bt<|by decide,bt<|by simp];rfl,?_⟩
  show Φ _ _;rw[E];exact⟨g1,H1,g0,w,J,p1,j,p2,m.sub,r⟩
 cases fl with
 |brk=>obtain⟨_,_,_,q⟩:=q;exact q.elim
 |cont=>obtain⟨_,_,_,q⟩:=q;exact q.elim
 |ret u=>obtain⟨_,_,_,_,_,q⟩:=q;exact q.elim
 |next=>
 obtain⟨σ2,H2,I2,q⟩:=q;rw[E]at q;obtain⟨g1,H1,g0,w,rfl,p1,j,p2,m,r⟩:=q;have G:=EB (Cu.trans j.sub) p2 m;have fin:∀H3,aR H1 H3->tS (P.kt X) Gf Dn (σ.set i<|U w) H3:=λH3 e=>by
  have gr:=M0 j e
  have:=(j.grow gr).off i<|U w
  rw[T]at this;exact⟨_,_,o,s',this,h,kk.mv<|p1.trans<|j.jW gr⟩
 have IF:(σ.set i<|U w)[i]?=U (U w):=fR (by rw[I.len];exact(dq.mp M).1)
 refine kQ (GJ (RY (Lh<|cK M vy dy cy) J) (kR<|iP (Su hJ PySem.F.slot_list_clear PySem.F.type_list_clear G6 (Bj zk (cK M vy dy cy) ud λ_ _=>J) (fM J) gp) J) oi) ZX ae s2 _ H2 Dn I2 ⟨w,IF,_,J,?_⟩
 match u,hc,r with
 |.non,_,r=>
  cases(show w=.non from r);exact fin _ G
 |.tup [c,d,.lst hs],hc,r=>
  obtain⟨a,vs,rfl,q,v1,r1,rfl,_,v2,r2,rfl,_,v3,r3,rfl,rl,er⟩:=r;cases(show r3=[]from er);obtain⟨l,zs,rfl,S,rz⟩:=rl;have W:=m _ _ S;refine⟨.ref a,IF,.inr<|.inl ⟨a,_,2,.ref l,J,J,bM m q,by unfold D0 G0;rw[bt<|by decide,bt<|by simp];rfl,.inl ⟨J,zs,dW.of W⟩,l,zs,J,J,W,?_⟩⟩
  refine fin _ ?_;cases eH:H1 l with
  |none=>exact λb o e=>by rw[aq (λz=>by rw[z,eH]at e;cases e)];exact G b o e
  |some o=>
   have ec:mO (P.kt X) g1.HF l=U (.lst zs):=by
    cases e:mO (P.kt X) g1.HF l with
    |none=>
     have:=(p2.rest l o eH e J).2.1
     rw[S]at this;cases this
    |some o'=>
     have:=p2.fr l o' e
     rw[S]at this;exact this.symm
   cases zs with
   |nil=>rw[zw W];exact G
   |cons z0 zs=>
    exfalso;obtain⟨t,ht,al,rt⟩:=MX ec;have B:aR g1.HF H2:=j.sub.trans G;cases hs with
    |nil=>cases rz
    |cons h0 hs=>
     obtain⟨_,_,e0,R,_⟩:=rz;cases e0
     match h0,hc,R with
     |.tup<|.int n::hr,_,R=>
      obtain⟨b,ws,rfl,L,_,wr,rfl,en,_⟩:=R;cases(show _=V.int n from en);have L:=bM m L
      match t,ht,rt with
      |.obj c ts,_,rt=>
       obtain⟨_,C,dx,ns,us,e5,_,e6,_⟩:=rt;cases e5;exact UO I2 (B _ _ e6) L
      |.tup<|.str x::tr,_,rt=>
       obtain⟨_,us,e5,e6,_,_,rfl,e7,_⟩:=rt;cases e5;cases(show _=SV x/\_ from e7).1
       have:=I2.lW (bM B e6) L
       cases this
end
end D
namespace D
open PySem
structure Lc where
 N:Bi
 sc:hA
 mu:Bi
inductive Ck where
 |fz (c n:Nat)|z0 (c:Nat)|cp (c:Nat)|nw (c i:Nat)
structure Gm where
 P:Pg
 cs:List<|Str×T
 fs:List<|Str×FR×Nat
 cl:List<|Str×Ck
 ms:List<|Str×List (Nat×Nat)
 bl:Bi
 xc:List<|Str×Option Str×Nat:=[]
 xs:List<|Str×Nat:=[]
 xt:List<|Str×Nat×Nat:=[]
 xg:Str := ""
 bf:Bi:=[]
def Gm.bc(M:Gm):Nat:=Kk M.P.cn+Kk M.P.tab
def Gm.rP(M:Gm):M.P.cn[M.bc]?=Y:=Gk<|bx _ _
def Gm.ZY(M:Gm):M.P.fn[M.bc]?=Y:=Gk (by unfold Pg.fn;rw[cH];exact DE _ _)
def j0(N:Bi)(x:Str):Option Nat:=N.idxOf? x
def lE(x:Str):Bool:=x == ("__debug__" : Str) ||x == ("__classdict__" : Str)
def il(L:Lc)(x:Str):Bool:=match L.sc.names.lookup x with
 |some .local=>!lE x
 |some .cell=>!lE x
 |_=>ZA
def yK(L:Lc)(x:Str):Bool:=decide (L.sc.names.lookup x=U .globalImplicit)&&!lE x
def QT:cq->Option Bz
 |.Tuple a _ _=>U a
 |_=>Y
structure Rc where
 E:Lc->cq->FE
 T:Lc->cq->FT
 I:Lc->cq->cq->FL
 O:Lc->cq->FL
def dZ:List FE->FL
 |[]=>aT
 |a::r=>bq a<|dZ r
def IK:List FE->FE
 |[]=>cQ
 |[a]=>a
 |a::r=>k6 a<|IK r
def UP:List FE->FE
 |[]=>cQ
 |[a]=>a
 |a::r=>orV a<|UP r
def UQ:List FT->FT
 |[]=>rG
 |[a]=>a
 |a::r=>ic a<|UQ r
def IL:List FT->FT
 |[]=>rG
 |[a]=>a
 |a::r=>iU a<|IL r
def IM(sc outer:hA):hA:={sc with names:=sc.names.map λ(n,k)=>if(k == NameKind.free&&outer.kind == .function&&outer.names.lookup n == U .cell)then(n,NameKind.cell)else(n,k)}
def locals(sc:hA):Bi:=sc.names.filterMap λp=>if p.2=.local then U p.1 else Y
def frees(sc:hA):Bi:=sc.names.filterMap λp=>if p.2=.free then U p.1 else Y
def idxs(N:Bi):Bi->Option B1
 |[]=>U []
 |x::xs=>(j0 N x).bind λi=>(idxs N xs).map (i::·)
def UR(L:Lc)(sc:hA):Bool:=decide (sc.kind=.function)&&sc.names.all (λp=>decide (p.2≠.cell)&&(decide (p.2=.local)->decide (sc.names.lookup p.1=U .local))&&(decide (p.2=.free)->(decide (sc.names.lookup p.1=U .free)&&decide (L.sc.names.lookup p.1=U .cell))))&&decide (L.sc.kind=.function)
def QU(N:Bi)(ok:Str->Bool):cq->Option (FG×B1)
 |.Name x _=>if ok x then(j0 N x).map λi=>(setG i,[i])else Y
 |.Tuple a _ _=>(namesOf a).bind λxs=>if xs.all ok then(idxs N xs).map λis=>(dc is,is)else Y
 |_=>Y
def isSet:cq->Bool
 |.Set _ _ _=>O
 |_=>ZA
def QV(r:Rc)(L:Lc):Bz->FT
 |[]=>fj
 |[c]=>r.T L c
 |_=>rG
def IP(L:Lc)(sc:hA):Lc:=⟨locals sc++frees sc,IM sc L.sc,[]⟩
def pZ(r:Rc)(L:Lc)(elt:cq)(q:Comprehension)(sc:hA):FL:=if q.is_async=0/\(UR L sc&&decide ((locals sc++frees sc).Nodup)&&!isSet q.iter&&decide (Kk q.ifs<=1))=O then(match idxs L.N (frees sc),QU (locals sc) (λx=>decide<|sc.names.lookup x=U .local) q.target with
  |some a,some (g,_)=>dh (r.I L q.target q.iter) (locals sc).length a g (QV r (IP L sc) q.ifs)<|r.E (IP L sc) elt
  |_,_=>gy)else gy
def sZ(r:Rc)(L:Lc):cq->FL
 |.ListComp a b sc _=>(match b with
  |[g]=>pZ r L a g sc
  |_=>gy)
 |_=>gy
def Ab(r:Rc)(L:Lc):Option cq->FO
 |none=>oq
 |some e=>gQ<|r.E L e
def xN(M:Gm)(L:Lc):Bi->Option B1
 |[]=>U []
 |y::ys=>if yK L y&&((j0 M.P.cn y).bind λd=>M.P.fn[d]?).isSome then(j0 M.P.cn y).bind λd=>(xN M L ys).map (d::·)else Y
def blt(M:Gm)(L:Lc)(x:Str):Bool:=M.bl.contains x&&yK L x
def isF(M:Gm)(r:Rc)(L:Lc)(a:cq):cq->FE
 |.Name y _=>(match xl.lookup y with
  |some ty=>if M.bl.contains y&&yK L y then dg (yJ ty) (r.E L a)else cQ
  |none=>(match xN M L [y]with
   |some ds=>dg (gi M.P.sub ds)<|r.E L a
   |none=>cQ))
 |.Tuple b _ _=>if Kk b<=100 then(match(namesOf b).bind (xN M L)with
  |some ds=>dg (gi M.P.sub ds)<|r.E L a
  |none=>cQ)else cQ
 |_=>cQ
def aw(l:List<|Nat×Nat)(ai:Nat->Fn)(c:Nat):Option Fn:=(l.lookup c).map ai
def M1(M:Gm)(r:Rc)(L:Lc)(o:cq):Option FE:=(iX o).bind λq=>if M.bf.contains q.2.1&&bV q.1 then(j0 M.P.an q.2.1).map λj=>az M.P.tab j (r.E L q.1)else Y
def ZZ(L:Lc):cq->Option Nat
 |.Name y _=>if L.mu.contains y&&il L y then j0 L.N y else Y
 |_=>Y
def xO(M:Gm)(r:Rc)(L:Lc)(a:cq)(op:mx)(b:cq):FE:=match nA op,M1 M r L b with
 |some c,some f=>xC M.bc c (r.E L a) f
 |_,_=>(match nA op,ZZ L b with
  |some c,some i=>IJ c i<|r.E L a
  |_,_=>bF (aM op) (r.E L a)<|r.E L b)
def Ac(M:Gm)(L:Lc)(f:Str)(a:Bz):Option cq:=(rK a ([]:B1)).bind λe=>(nm1 e).bind λq=>if f=("list" : Str)/\q.1=("range" : Str)/\blt M L ("range" : Str)=O/\noStar q.2=O then U q.2 else Y
def US(M:Gm)(r:Rc)(L:Lc)(f:Str)(b:Bz):Option FE:=match b with
 |[a]=>if f=("sorted" : Str)then(M1 M r L a).map λg=>Ii M.bc g else Y
 |_=>Y
def Z3:List<|Str×(FR->FV):=("max",Zt)::zL
def Ad(M:Gm)(ai:Nat->Fn)(r:Rc)(L:Lc)(f:Str)(b:Bz):FE:=
 if b.all noStar then(match M.fs.lookup f with
  |some (ds,i)=>if yK L f then aj (ai i) ds (dZ<|b.map<|r.E L)else cQ
  |none=>(match M.cl.lookup f with
   |U<|.fz c n=>if yK L f&&!b.isEmpty then dR c n (dZ<|b.map<|r.E L)else cQ
   |U<|.z0 c=>if yK L f&&b.isEmpty then dR c 0 aT else cQ
   |U<|.cp c=>(match b with
    |[a]=>if yK L f then dg (S3 c) (r.E L a)else cQ
    |_=>cQ)
   |U<|.nw c i=>if yK L f&&!b.isEmpty then kc c (ai i) (dZ<|b.map<|r.E L)else cQ
   |none=>if blt M L f then(match US M r L f b with
    |some g=>g
    |none=>match f == ("isinstance" : Str),b with
     |true,[a,q]=>isF M r L a q
     |_,_=>(match Ac M L f b with
        |some a=>eW<|o1 Es<|r.E L a
        |none=>(match Z3.lookup f,b with
         |some g,_::_=>aU g<|dZ<|b.map<|r.E L
         |_,_=>cQ)))else cQ))else cQ
def IQ:Const->FE
 |.int i=>cF<|.int i
 |.bool b=>cF<|.bl b
 |.none=>cF .non
 |.str s=>if s.length<=1000000 then cF (.str s.cps.toList)else cQ
 |_=>cQ
def IS(M:Gm)(L:Lc)(x:Str):FE:=match j0 L.N x with
 |some i=>if il L x then vF i else cQ
 |none=>(match M.cs.lookup x with
  |some t=>if yK L x then cF t else cQ
  |none=>cQ)
def unE(a:FE):UnaryOp->FE
 |.USub=>dg gx a
 |.Not=>nS a
 |_=>cQ
def boE(l:List FE):BoolOp->FE
 |.And=>IK l
 |.Or=>UP l
def aaN(M:Gm)(r:Rc)(L:Lc)(a:cq):List mx->Bz->FE
 |[op],[b]=>if fA op b then cQ else xO M r L a op b
 |_,_=>cQ
def aaO:cq->Bool
 |.Attribute _ _ _=>O
 |.Dict _ _ _=>O
 |_=>ZA
def Ľ(M:Gm)(r:Rc)(L:Lc)(o i:cq):FE:=match M1 M r L o with
 |some f=>zU M.bc f<|r.E L i
 |none=>if aaO o then bF Bt (r.E L o) (r.E L i)else match(asName o).bind λy=>(j0 L.N y).map λk=>(y,k)with
 |some (y,k)=>if L.mu.contains y&&il L y then wV k (r.E L i)else bF iE (r.E L o) (r.E L i)
 |none=>bF iE (r.E L o)<|r.E L i
def UT(M:Gm)(r:Rc)(L:Lc)(o:cq):cq->FE
 |.Slice lo a st _=>(match st with
  |none=>jU (r.E L o) (Ab r L lo)<|Ab r L a
  |some k=>(match fP k with
   |U<|.int k=>z_ k (r.E L o) (Ab r L lo)<|Ab r L a
   |_=>cQ))
 |i=>Ľ M r L o i
def aaP(M:Gm)(r:Rc)(L:Lc)(o:cq)(f:Str):FE:=if bV o then(match j0 M.P.an f with
  |some j=>if M.bf.contains f then iZ M.bc M.P.tab j (r.E L o)else az M.P.tab j (r.E L o)
  |none=>cQ)else cQ
def UU(M:Gm)(r:Rc)(L:Lc)(o:cq)(m:Str)(a:Bz):Option FE:=match a with
 |[b,d]=>if m=("get" : Str)then(M1 M r L o).map λf=>rL M.bc f (r.E L b) (r.E L d)else Y
 |_=>Y
def UW(M:Gm)(ai:Nat->Fn)(r:Rc)(L:Lc)(o:cq)(m:Str)(b:Pos)(a:Bz)(cp:Pos):FE:=if bV o&&a.all noStar&&decide (Kk a<29)&&b.endLine == cp.line then(match UU M r L o m a with
   |some f=>f
   |none=>match M.ms.lookup m with
   |some l=>aG (aw l ai) (r.E L o)<|dZ<|a.map<|r.E L
   |none=>(match zK.lookup m,a with
    |some g,_::_=>nV g (r.E L o)<|dZ<|a.map<|r.E L
    |_,_=>cQ))else cQ
def aaQ(M:Gm)(ai:Nat->Fn)(r:Rc)(L:Lc)(a:Bz)(cp:Pos):cq->FE
 |.Name f _=>Ad M ai r L f a
 |.Attribute o m b=>UW M ai r L o m b a cp
 |_=>cQ
def QW(M:Gm)(ai:Nat->Fn)(r:Rc)(L:Lc):cq->FE
 |.Constant c _ _=>IQ c
 |.Name x _=>IS M L x
 |.BinOp a op b _=>bF (jZ op) (r.E L a)<|r.E L b
 |.UnaryOp op a _=>unE (r.E L a) op
 |.BoolOp op d _=>boE (d.map<|r.E L) op
 |.Compare a g bs _=>aaN M r L a g bs
 |.IfExp c a b _=>qV (r.T L c) (r.E L a)<|r.E L b
 |.Tuple d _ _=>if d.all noStar then aU cz (dZ<|d.map<|r.E L)else cQ
 |.List d _=>if d.all noStar then aU cO (dZ<|d.map<|r.E L)else cQ
 |.Subscript o i _=>UT M r L o i
 |.Attribute o f _=>aaP M r L o f
 |.ListComp h j sc p=>eW<|sZ r L<|.ListComp h j sc p
 |.Call f e ks cp=>(match ks with
  |[]=>aaQ M ai r L e cp f
  |_::_=>cQ)
 |_=>cQ
def boT(l:List FT):BoolOp->FT
 |.And=>IL l
 |.Or=>UQ l
def aaR(M:Gm)(r:Rc)(L:Lc)(a:cq):List mx->Bz->FT
 |[op],[b]=>if fA op b then rG else a_ (xO M r L a op b)
 |_,_=>rG
def stepT(M:Gm)(r:Rc)(L:Lc)(e:cq):FT:=match e with
 |.BoolOp op c _=>boT (c.map<|r.T L) op
 |.UnaryOp op a _=>(match op with
  |.Not=>dC<|r.T L a
  |_=>tB<|r.E L e)
 |.Compare a b bs _=>aaR M r L a b bs
 |.IfExp _ _ _ _=>rG
 |_=>tB<|r.E L e
def Cw(e:cq):Option Bz:=(mF e).bind λq=>if q.1=("range" : Str)/\q.2.2.isEmpty=O then U q.2.1 else Y
def xP(e:cq):Option<|cq×Int:=(mF e).bind λq=>if q.1=("enumerate" : Str)then(match q.2.1 with
 |[a]=>(match q.2.2 with
  |[]=>U (a,0)
  |[w]=>(match fP w.value with
   |U<|.int n=>if w.arg=U ("start" : Str)/\n=1 then U (a,n)else Y
   |_=>Y)
  |_=>Y)
 |_=>Y)else Y
def UX:cq->Bool
 |.Tuple _ _ _=>O
 |_=>ZA
def M3:cq->Bool
 |.Name _ _=>O
 |_=>ZA
def IT(e:cq):Option cq:=(nm1 e).bind λq=>if q.1=("reversed" : Str)/\noStar q.2=O then U q.2 else Y
def stepI(M:Gm)(r:Rc)(L:Lc)(tg e:cq):FL:=match Cw e with
 |some d=>if blt M L ("range" : Str)&&d.all noStar then(match d with
   |[a]=>Fg zt<|dZ [r.E L a]
   |[a,b]=>Fg zt<|dZ [r.E L a,r.E L b]
   |[a,b,c]=>Fg Et<|dZ [r.E L a,r.E L b,r.E L c]
   |_=>gy)else gy
 |none=>(match xP e with
  |some (a,n)=>if blt M L ("enumerate" : Str)&&UX tg&&noStar a then jc n (r.E L a)else gy
  |none=>match IT e with
  |some a=>if blt M L ("reversed" : Str)then o1 Ut (r.E L a)else gy
  |none=>if M3 tg then jV (r.E L e)else Mq (r.E L e))
def UY(M:Gm)(r:Rc)(L:Lc)(f:Str)(b:Bz):FL:=if blt M L f then match Ac M L f b with
 |some a=>o1 Es<|r.E L a
 |none=>(match b with
  |[a]=>if f=("list" : Str)/\noStar a=O then o1 cpO (r.E L a)else gy
  |_=>gy)else gy
def QX(M:Gm)(r:Rc)(L:Lc):cq->FL
 |.IfExp c a b _=>Zn (r.T L c) (r.O L a)<|r.O L b
 |.BinOp a op b _=>(match op with
  |.Mult=>o2 Ib (r.E L a)<|r.E L b
  |_=>gy)
 |.Call f d ks _=>(match ks with
  |[]=>(match asName f with
   |some y=>UY M r L y d
   |none=>gy)
  |_::_=>gy)
 |.List g _=>if g.all noStar then jY (dZ<|g.map<|r.E L)else gy
 |.ListComp e h sc p=>sZ r L<|.ListComp e h sc p
 |_=>gy
def comp(M:Gm)(ai:Nat->Fn):Nat->Rc
 |0=>⟨λ_ _=>cQ,λ_ _=>rG,λ_ _ _=>gy,λ_ _=>gy⟩
 |n+1=>⟨QW M ai<|comp M ai n,stepT M<|comp M ai n,stepI M<|comp M ai n,QX M<|comp M ai n⟩
def IU(L:Lc)(t:Str)(tp:Pos):cq->Bool
 |.ListComp _ _ sc p=>(if L.sc.kind.isAnnotationScope then ScopeKind.function else L.sc.kind) == .function&&L.sc.names.lookup t == U .local&&tp.line == p.line&&!(sc.names.any λ(n,k)=>n == t&&(k == .local ||k == .cell))
 |_=>ZA
def xQ:cq->Bool
 |.ListComp _ _ _ _=>O
 |.SetComp _ _ _ _=>O
 |.DictComp _ _ _ _ _=>O
 |_=>ZA
def oH(nm:Str)(mu:Bi)(e:cq):Option<|Str×cq:=(at1 e).bind λw=>(asName w.1).bind λy=>if w.2.1=nm/\mu.contains y=O then U (y,w.2.2)else Y
def Cy:cq->Bool
 |.Dict [] [] _=>O
 |_=>ZA
def IV(M:Gm)(ai:Nat->Fn)(n:Nat)(L:Lc)(x:Str)(e:cq):FS:=match j0 L.N x with
 |some i=>if il L x then(if L.mu.contains x then(if Cy e then B6 i else iC i ((comp M ai n).O L e))else aH i ((comp M ai n).E L e))else b9
 |none=>b9
def QY:cq->Bool
 |.Tuple a _ _=>a.all<|foldedForSure 8
 |_=>O
abbrev many:Nat:=1000000
def tupS(M:Gm)(ai:Nat->Fn)(n:Nat)(L:Lc)(es:Bz)(e:cq):FS:=if xQ e || !QY e || !es.all noStar then b9 else(match QU L.N (il L) (.Tuple es 0 ⟨0,0,0,0⟩)with
  |some (g,_)=>nU g<|(comp M ai n).E L e
  |none=>b9)
def UZ(M:Gm)(ai:Nat->Fn)(n:Nat)(L:Lc)(f:Str)(e:cq):FE:=if M.bf.contains f then(if Cy e then mG M.bc else wW M.bc ((comp M ai n).O L e))else(comp M ai n).E L e
def U0(M:Gm)(ai:Nat->Fn)(n:Nat)(L:Lc)(o:cq)(f:Str)(e:cq):FS:=match j0 M.P.an f with
  |some j=>aO M.P.tab j ((comp M ai n).E L o)<|UZ M ai n L f e
  |none=>b9
def U1(M:Gm)(ai:Nat->Fn)(n:Nat)(L:Lc)(o b e:cq):FS:=if xQ e then b9 else match M1 M (comp M ai n) L o with
 |some f=>nY M.bc f ((comp M ai n).E L b)<|(comp M ai n).E L e
 |none=>match(asName o).bind λy=>if il L y then j0 L.N y else Y with
  |some i=>if isSlice b then b9 else K6 i ((comp M ai n).E L b) ((comp M ai n).E L e)
  |none=>b9
def asS(M:Gm)(ai:Nat->Fn)(n:Nat)(L:Lc)(e:cq):cq->FS
 |.Name x _=>IV M ai n L x e
 |.Tuple a _ _=>tupS M ai n L a e
 |.Attribute o f _=>U0 M ai n L o f e
 |.Subscript o b _=>U1 M ai n L o b e
 |_=>b9
def U3(M:Gm)(ai:Nat->Fn)(n:Nat)(L:Lc)(t:cq)(op:o7)(e:cq):FS:=match(iX t).bind λq=>(j0 M.P.an q.2.1).map λj=>(q.1,j)with
  |some (o,j)=>if op=.Add then zV M.P.tab j jB ((comp M ai n).E L o) ((comp M ai n).E L e)else b9
  |none=>match(asName t).bind λx=>(j0 L.N x).map λi=>(x,i)with
  |some (x,i)=>if op=.Add/\il L x=O then Hl jB i ((comp M ai n).E L e)else b9
  |none=>b9
def Z4(M:Gm)(r:Rc)(L:Lc)(e:cq):Option<|FE×cq:=(at1 e).bind λw=>(M1 M r L w.1).bind λf=>if w.2.1=("append" : Str)then U (f,w.2.2)else Y
def exS(M:Gm)(ai:Nat->Fn)(n:Nat)(L:Lc)(e:cq):FS:=match Z4 M (comp M ai n) L e with
  |some (f,a)=>gS M.bc f<|(comp M ai n).E L a
  |none=>match oH "append" L.mu e with
  |some (y,a)=>(match j0 L.N y with
   |some i=>if il L y then fU i ((comp M ai n).E L a)else b9
   |none=>b9)
  |none=>match oH "extend" L.mu e with
  |some (y,a)=>(match j0 L.N y with
   |some i=>if il L y then ZS i ((comp M ai n).E L a)else b9
   |none=>b9)
  |none=>if xQ e then b9 else aQ ((comp M ai n).E L e)
def retS(M:Gm)(ai:Nat->Fn)(n:Nat)(L:Lc):Option cq->FS
 |some e=>aD<|(comp M ai n).E L e
 |none=>aD<|cF .non
def U4(M:Gm)(ai:Nat->Fn)(n:Nat)(L:Lc)(b:FS)(tg it:cq):FS:=if isSet it then b9 else(match QU L.N (il L) tg with
  |some (g,_)=>dD ((comp M ai n).I L tg it) g b
  |none=>b9)
def M4:f7->Option cq
 |.Expr e _=>U e
 |_=>Y
def xR:f7->Option (Str×cq)
 |.Assign ts e _=>(match ts with
  |[t]=>(asName t).map λx=>(x,e)
  |_=>Y)
 |_=>Y
def Z5:f7->Option (cq×Fh×Fh)
 |.If c a b _=>U (c,a,b)
 |_=>Y
def QZ:cq->Option cq
 |.Subscript o i _=>(match fP i with
  |U<|.int n=>if n=0 then U o else Y
  |_=>Y)
 |_=>Y
def xmA(M:Gm)(e:cq):Option<|Nat×Nat×cq×Bz:=(pQ e).bind λq=>(iX q.1).bind λw=>(M.xt.lookup w.2.1).bind λa=>if q.2.2.1.isEmpty=O/\bV w.1=O/\q.2.1.all noStar=O/\q.2.1.length<29/\(w.2.2.endLine == q.2.2.2.line)=O then U (a.1,a.2,w.1,q.2.1)else Y
def Z6(L:Lc)(e:cq):Option<|Str×Bz:=(mF e).bind λq=>if q.2.2.isEmpty=O/\q.2.1.isEmpty=ZA/\yK L q.1=O/\q.2.1.all noStar=O then U (q.1,q.2.1)else Y
def xdA(M:Gm)(L:Lc)(e:cq):Option<|Nat×Bz:=(Z6 L e).bind λq=>(M.xs.lookup q.1).map λi=>(i,q.2)
def fzA(M:Gm)(L:Lc)(e:cq):Option<|Nat×Nat×Bz:=(Z6 L e).bind λq=>match M.cl.lookup q.1 with
 |U<|.fz c n=>U (c,n,q.2)
 |_=>Y
def xE(M:Gm)(ai:Nat->Fn)(r:Rc)(L:Lc):Nat->cq->Option FE
 |0,_=>Y
 |d+1,e=>match xmA M e with
  |some (c,i,o,b)=>U<|Cm c (ai i) (r.E L o)<|dZ<|b.map λa=>qX<|r.E L a
  |none=>match xdA M L e with
   |some (i,b)=>U<|aj (ai i) []<|dZ<|b.map λa=>qX<|r.E L a
   |none=>match fzA M L e with
    |some (c,n,b)=>if b.any (λa=>(xE M ai r L d a).isSome)then U (dR c n<|dZ<|b.map λa=>(xE M ai r L d a).getD<|qX<|r.E L a)else Y
    |none=>Y
def M5(o:Option cq):Bool:=match o.bind fP with
 |some .none=>O
 |_=>ZA
def M6(e:cq):Option<|Str×Str:=(iX e).bind λq=>(asName q.1).map λx=>(x,q.2.1)
def twA(e:cq):Option<|(Str×Str)×(Str×Str):=(QT e).bind λl=>match l with
 |[a,b]=>(M6 a).bind λp=>(M6 b).map λq=>(p,q)
 |_=>Y
def xIx(M:Gm)(x:Str):Option<|Nat×Option Str:=((M.xc.map (·.1)).idxOf? x).bind λc=>(M.xc[c]?).map λq=>(c,q.2.1)
def U5(M:Gm)(ai:Nat->Fn)(n:Nat)(L:Lc):Fh->List pv->Option FS
 |[s],[.ExceptHandler ty nm su _]=>(ty.bind asName).bind λy=>nm.bind λnm=>(xR s).bind λw=>(xdA M L w.2).bind λq=>(rK su ([]:B1)).bind λt=>(xR t).bind λz=>(twA z.2).bind λu=>(xIx M y).bind λc=>(j0 L.N w.1).bind λv=>(j0 L.N nm).bind λi=>(j0 L.N z.1).bind λj=>
   if(yK L y=O/\il L w.1=O/\il L nm=O/\il L z.1=O)/\(u.1.1=nm/\u.2.1=nm/\c.2=U u.1.2/\u.2.2=M.xg)/\L.sc.names.lookup nm=U .local/\j≠i then U (rO v i j c.1<|aj (ai q.1) []<|rN<|dZ<|q.2.map<|(comp M ai n).E L)else Y
 |_,_=>Y
def Z7(M:Gm)(ai:Nat->Fn)(n:Nat)(f:Lc->Fh->FS)(L:Lc):f7->FS
 |.Assign ts e _=>(match ts with
  |[t]=>asS M ai n L e t
  |_=>b9)
 |.AugAssign t op e _=>U3 M ai n L t op e
 |.Expr e _=>exS M ai n L e
 |.Return o _=>retS M ai n L o
 |.If c a b _=>aZ ((comp M ai n).T L c) (f L a)<|f L b
 |.For h it d g _=>(match g with
  |[]=>U4 M ai n L (f L d) h it
  |_::_=>b9)
 |.While c d g _=>(match g with
  |[]=>ie many ((comp M ai n).T L c)<|f L d
  |_::_=>b9)
 |.Try d hs g i _=>(match hs,g,i with
  |_::_,[],[]=>(match U5 M ai n L d hs with
   |some F=>F
   |none=>f L d)
  |_,_,_=>b9)
 |.Pass _=>aL
 |_=>b9
def Z8(y:Str)(e:cq):Bool:=match e with
 |.Compare a c bs _=>decide (asName a=U y)&&decide (c=[.IsNot])&&(rK bs ([]:B1)).any λb=>M5<|U b
 |_=>ZA
def at2(y:Str)(e:cq):Bool:=match e with
 |.Subscript a b _=>decide (asName a=U y)&&(match fP b with
  |U<|.int n=>decide<|n=2
  |_=>ZA)
 |_=>ZA
def Z9(y:Str)(st:f7):Bool:=((M4 st).bind pQ).any λq=>(iX q.1).any λw=>at2 y w.1&&decide (w.2.1=("clear" : Str))&&q.2.1.isEmpty&&q.2.2.1.isEmpty&&(w.2.2.endLine == q.2.2.2.line)
def Z_(y:Str)(st:f7):Bool:=(Z5 st).any λq=>Z8 y q.1&&(rK q.2.1 ([]:B1)).any (Z9 y)&&q.2.2.isEmpty
def À(M:Gm)(ai:Nat->Fn)(n:Nat)(L:Lc)(st s2:f7):Option FS:=(xR st).bind λw=>(QZ w.2).bind λo=>(Z6 L o).bind λq=>(M.fs.lookup q.1).bind λd=>(j0 L.N w.1).bind λi=>
 if il L w.1=O/\Z_ w.1 s2=O then U (EA i (ai d.2) d.1<|dZ<|q.2.map<|(comp M ai n).E L)else Y
def i7(M:Gm)(ai:Nat->Fn)(n:Nat):Nat->Lc->Fh->FS
 |0,_,_=>b9
 |_+1,_,[]=>aL
 |k+1,L,[st]=>Z7 M ai n (i7 M ai n k) L st
 |k+1,L,st::s2::rest=>match À M ai n L st s2 with
  |some F=>ah F<|i7 M ai n k L rest
  |none=>ah (Z7 M ai n (i7 M ai n k) L st)<|i7 M ai n k L<|s2::rest
def Á:f7->Option (cq×Option cq)
 |.Raise e c _=>e.map λe=>(e,c)
 |_=>Y
def rsF(M:Gm)(ai:Nat->Fn)(n:Nat)(L:Lc)(e:cq):Option FS:=(Z6 L e).bind λq=>(xIx M q.1).bind λc=>match c.2 with
 |some _=>U<|ZP c.1<|dZ<|q.2.map<|(comp M ai n).E L
 |none=>(rK q.2 ([]:B1)).map λa=>xr0 c.1<|(comp M ai n).E L a
def Q0:f7->Option cq
 |.Return o _=>o
 |_=>Y
def xD:Nat:=4
def ľ(M:Gm)(ai:Nat->Fn)(n:Nat)(f:Lc->Fh->FS)(L:Lc)(st:f7):FS:=match(Á st).bind λz=>if z.2.isNone then rsF M ai n L z.1 else Y with
 |some F=>F
 |none=>match(M4 st).bind (xE M ai (comp M ai n) L xD)with
 |some fe=>aQ fe
 |none=>match(Q0 st).bind (xE M ai (comp M ai n) L xD)with
 |some fe=>aD fe
 |none=>match(xR st).bind λq=>(xE M ai (comp M ai n) L xD q.2).bind λfe=>(j0 L.N q.1).bind λi=>if il L q.1=O/\L.mu.contains q.1=ZA then U (i,fe)else Y with
 |some (i,fe)=>aH i fe
 |none=>match(M4 st).bind λe=>(oH "append" L.mu e).bind λq=>(xE M ai (comp M ai n) L xD q.2).bind λfe=>(j0 L.N q.1).bind λi=>if il L q.1=O then U (i,fe)else Y with
 |some (i,fe)=>fU i fe
 |none=>(match st with
   |.If c a b _=>aZ (mK<|(comp M ai n).T L c) (f L a)<|f L b
   |.For j it d h _=>(match h with
    |[]=>if isSet it then b9 else(match QU L.N (il L) j with
     |some (g,_)=>dD (rN<|(comp M ai n).I L j it) g<|f L d
     |none=>b9)
    |_::_=>b9)
   |.While c d h _=>(match h with
    |[]=>ie many (mK<|(comp M ai n).T L c)<|f L d
    |_::_=>b9)
   |st=>lP<|Z7 M ai n (i7 M ai n 200) L st)
def xS(M:Gm)(ai:Nat->Fn)(n:Nat):Nat->Lc->Fh->FS
 |0,_,_=>b9
 |_+1,_,[]=>aL
 |k+1,L,[st]=>ľ M ai n (xS M ai n k) L st
 |k+1,L,st::rest=>ah (ľ M ai n (xS M ai n k) L st)<|xS M ai n k L rest
end D
namespace D
open PySem L2
structure XsF(M:Gm)(Pr:c4)(w:da)(K:bG)(mg:Str->D2)(base:eI)(N:XN):Prop where
 two:∀(c:Nat)x f i,M.xc[c]?=U (x,U f,i)->∃C,N[c]?=U (C,U (f,M.xg))/\XM2 K Pr w mg base C f M.xg x/\vW K (.ref C) (.ref C)=U O/\mJ K C/\bK K C f/\bK K C M.xg/\M.xg≠f
 non:∀(c:Nat)x i,M.xc[c]?=U (x,Y,i)->∃C,N[c]?=U (C,Y)/\XM0 K mg C x/\vW K (.ref C) (.ref C)=U O
structure Ae(M:Gm)(N:XN)(Pr:c4)(w:da)(K:bG)(mg:Str->D2)(base:eI)(ai:Nat->Fn)(k:Nat):Prop where
 pg:nW K mg M.P
 cst:∀x t,M.cs.lookup x=U t->B5 K mg x t
 fns:∀x ds i,M.fs.lookup x=U (ds,i)->į M.P Pr w K mg base k x ds (ai i)
 fz:∀x c n,M.cl.lookup x=U (.fz c n)->DnC M.P Pr w K mg base k c n x
 z0:∀x c,M.cl.lookup x=U (.z0 c)->YS M.P Pr w K mg c x
 cp:∀x c,M.cl.lookup x=U (.cp c)->DnP M.P Pr w K mg base k c x
 nw:∀x c i,M.cl.lookup x=U (.nw c i)->DnN M.P Pr w K mg base k c x (ai i)
 mts:∀m l c i,M.ms.lookup m=U l->l.lookup c=U i->İ M.P Pr w K mg base k c m (ai i)
 bl:∀x,x∈M.bl->mg x=Y
 xf:XsF M Pr w K mg base N
 xs:∀x i,M.xs.lookup x=U i->Ļ M.P Pr w K mg base N k x (ai i)
 xt:∀m c i,M.xt.lookup m=U (c,i)->MdX M.P Pr w K mg base N k c m (ai i)
structure CxOk(M:Gm)(N:XN)(ai:Nat->Fn)(k:Nat)(L:Lc)(X:Cx):Prop where
 gm:Ae M N X.prog X.w X.K X.mg X.base ai k
 N:X.N=L.N
 sc:X.env.scope=L.sc
 calm:X.calm=O
 room:∃j,k+1<=j/\bD j X.A
variable{X:Cx}{a b c e o:cq}{M:Gm}{L:Lc}{es:Bz}{i k:Nat}{ai:Nat->Fn}{j t p pos F:Pos}{K:bG}{r:Rc}{x y:Str}{N:XN}
def fY{N:Bi}(h:j0 N x=U i):N[i]?=U x:=by
 unfold j0 at h;rw[Pn,Po]at h;obtain⟨a,b,_⟩:=h;rw[dM a,eq_of_beq b]
def U6(h:lE x=ZA):bB x/\f9 x:=by
 unfold lE at h;exact AV.mp h
def eE(C:CxOk M N ai k L X)(h:il L x=O):Loc X.env.scope x/\mX X.env.scope x/\bB x/\f9 x:=by
 rw[C.sc];unfold il at h;split at h
 .rename_i e
  obtain⟨b,a⟩:=U6 (by simpa using h)
  exact⟨.inl e,.inl e,b,a⟩
 .rename_i e
  obtain⟨b,a⟩:=U6 (by simpa using h)
  exact⟨.inr e,.inr<|.inl e,b,a⟩
 .cases h
def gE(C:CxOk M N ai k L X)(h:yK L x=O):Gl X x/\bB x:=by
 unfold yK at h;rw[bP]at h;obtain⟨b,a⟩:=h;refine⟨?_,(U6<|by simpa using a).1⟩
 show X.env.scope.names.lookup x=_;rw[C.sc];exact bh b
def Af(M:Gm)(X:Cx)(r:Rc)(L:Lc):Prop:=∀e,PE X e<|tE (M.P.kt X)<|r.E L e
def OkT(M:Gm)(X:Cx)(r:Rc)(L:Lc):Prop:=∀e,PT X e<|tT (M.P.kt X)<|r.T L e
def OkI(M:Gm)(X:Cx)(r:Rc)(L:Lc):Prop:=∀a e,PI X a e<|tI (M.P.kt X)<|r.I L a e
def OkO(M:Gm)(X:Cx)(r:Rc)(L:Lc):Prop:=∀e,PE X e<|tO (M.P.kt X)<|r.O L e
def Ag(M:Gm)(N:XN)(ai:Nat->Fn)(k:Nat)(r:Rc):Prop:=∀L X,CxOk M N ai k L X->Af M X r L/\OkT M X r L/\OkI M X r L/\OkO M X r L
theorem gc(a:Af M X r L):∀es:Bz,es.all noStar=O->PA X es (tA (M.P.kt X)<|dZ<|es.map<|r.E L)
 |[],_=>zx
 |e::es,h=>by
  rw[dO,bP]at h;exact uD (a e) (gc a es h.2)<|au h.1
theorem xT(c:Af M X r L):∀es:Bz,PE X (.BoolOp .And es pos)<|tE (M.P.kt X)<|IK<|es.map<|r.E L
 |[]=>bJ
 |[a]=>Hn<|c a
 |a::b::es=>S7 (c a)<|xT c _
theorem Cz(c:Af M X r L):∀es:Bz,PE X (.BoolOp .Or es pos)<|tE (M.P.kt X)<|UP<|es.map<|r.E L
 |[]=>bJ
 |[a]=>Hn<|c a
 |a::b::es=>Yn (c a)<|Cz c _
def Â:PW X e<|tT (M.P.kt X) rG:=λ_ _ _ _ _ _ _ a=>by obtain⟨_,_,_,_,_,h,_⟩:=a;cases h
theorem xU(c:OkT M X r L):∀es:Bz,PW X (.BoolOp .And es pos)<|tT (M.P.kt X)<|IL<|es.map<|r.T L
 |[]=>Â
 |[a]=>S6<|c a
 |a::b::es=>Yl (c a)<|xU c _
theorem CA(c:OkT M X r L):∀es:Bz,PW X (.BoolOp .Or es pos)<|tT (M.P.kt X)<|UQ<|es.map<|r.T L
 |[]=>Â
 |[a]=>Yk<|c a
 |a::b::es=>aak (c a)<|CA c _
def dE{c:Type}{l:List<|Str×c}{a:c}(h:l.lookup x=U a):(x,a)∈l:=by
 induction l with
 |nil=>simp at h
 |cons p l d=>
  rw[j3]at h;split at h
  .rename_i e
   cases h;rw[eq_of_beq e];exact d_ ..
  .exact ed _<|d h
theorem Ah(C:CxOk M N ai k L X):∀{ys:Bi}{ds:B1},xN M L ys=U ds->Kk ys=Kk ds/\∀(i d:Nat)(y:Str),ds[i]?=U d->ys[i]?=U y->M.P.cn[d]?=U y/\(M.P.fn[d]?).isSome=O/\Gl X y/\bB y
 |[],ds,h=>by
  cases h;exact⟨J,λi d y h=>by simp at h⟩
 |y::ys,ds,h=>by
  unfold xN at h;split at h
  .rename_i q
   rw[bP]at q;obtain⟨d,c,l⟩:=cj.mp h;obtain⟨m,j,rfl⟩:=bW.mp l;obtain⟨g,f⟩:=Ah C j;obtain⟨g1,g2⟩:=gE C q.1;refine⟨by simp[g],λi n e b a=>?_⟩
   cases i with
   |zero=>
    simp at b a;subst b a;refine⟨fY c,?_,g1,g2⟩;have q2:=q.2;rw[c]at q2;exact q2
   |succ i=>exact f i n e (by simpa using b) (by simpa using a)
  .cases h
def gT(C:CxOk M N ai k L X)(h:blt M L x=O):Gl X x/\X.mg x=Y/\bB x:=by
 unfold blt at h;rw[bP]at h;obtain⟨g1,g2⟩:=gE C h.2;exact⟨g1,C.gm.bl x<|DJ.mp h.1,g2⟩
def Ã(C:CxOk M N ai k L X)(g:Af M X r L)(j:blt M L ("isinstance" : Str)=O)(hs:noStar a=O):PE X (.Call (.Name "isinstance" p) [a,q] [] pos)<|tE (M.P.kt X)<|isF M r L a q:=by
 obtain⟨f,e,_⟩:=gT C j;cases q with
 |Name y x=>
  show PE X _<|tE _<|match xl.lookup y with|some ty=>_|none=>_
  split
  .rename_i ty t
   split
   .rename_i q
    rw[bP]at q;obtain⟨g1,g2⟩:=gE C q.2;exact Tw J (dE t) e (C.gm.bl _<|DJ.mp q.1) (g a) f g1 hs
   .exact bJ
  .split
   .rename_i ds b
    obtain⟨h,c⟩:=Ah C b
    match ds,h,c with
    |[d],_,c=>
     obtain⟨s,o,n,m⟩:=c 0 d y J J;exact YO C.gm.pg s e (g a) f n hs m o
   .exact bJ
 |Tuple es v w=>
  show PE X _<|tE _<|if Kk es<=100 then _ else cQ
  split
  .rename_i i
   split
   .rename_i ds b
    revert b;refine abc λu l=>λb=>?_;obtain⟨h,c⟩:=Ah C b;exact Zd C.gm.pg l h c i e (g a) f hs
   .exact bJ
  .exact bJ
 |_=>exact bJ
def xV{c:Bz}(h:Ac M L f c=U a):f=("list" : Str)/\blt M L ("range" : Str)=O/\noStar a=O/\∃i d,c=[.Call (.Name "range" i) [a] [] d]:=by
 revert h;refine abc λe l=>abE λg b k=>λh=>?_;obtain⟨⟨q1,q2,j,q4⟩,h⟩:=lQ.mp h;cases h;obtain⟨i,d,m⟩:=BV k;exact⟨q1,j,q4,i,d,by rw[(gD l).1,m,q2]⟩
def kr(C:CxOk M N ai k L X)(a:Af M X r L)(h:M1 M r L o=U f):PE X o (tE (M.P.kt X) f)/\bV o=O:=by
 revert h;refine abc λq c=>λh=>?_;rw[iY c];split at h
 .rename_i z
  rw[bP]at z;obtain⟨j,b,rfl⟩:=bW.mp h;exact⟨Qp C.gm.pg (fY b) (a _) z.2,J⟩
 .cases h
def IW(C:CxOk M N ai k L X)(h:ZZ L b=U i):∃y py,b=.Name y py/\X.N[i]?=U y/\mX X.env.scope y/\bB y/\f9 y:=by
 cases b<;>try(cases h)
 replace h:(if _ then _ else Y)=U i:=h
 split at h
 .rename_i q
  rw[bP]at q;obtain⟨l1,l2,l3,l4⟩:=eE C q.2;exact⟨_,_,J,by rw[C.N];exact fY h,l2,l3,l4⟩
 .cases h
def M7(C:CxOk M N ai k L X)(c:Af M X r L)(h:fA op b=ZA):PE X (.Compare a [op] [b] pos)<|tE (M.P.kt X)<|xO M r L a op b:=by
 obtain⟨j,n,hr⟩:=C.room;unfold xO;split
 .rename_i d f g e
  exact Up M.rP hr g (c a) (kr C c e).1 h
 split
 .rename_i d i g e
  obtain⟨y,m,rfl,q1,q2,l,q4⟩:=IW C e;exact(QR J hr g (c a) q1 q2 l q4).1
 .exact Ug J hr (c a) (c b) h
def IX(C:CxOk M N ai k L X)(c:Af M X r L)(h:fA op b=ZA):PT X (.Compare a [op] [b] pos)<|tT (M.P.kt X)<|a_<|xO M r L a op b:=by
 obtain⟨j,n,hr⟩:=C.room;unfold xO;split
 .rename_i d f g e
  exact Uq M.rP hr g (c a) (kr C c e).1 h
 split
 .rename_i d i g e
  obtain⟨y,m,rfl,q1,q2,l,q4⟩:=IW C e;exact(QR J hr g (c a) q1 q2 l q4).2
 .exact MA J hr (c a) (c b) h
def M8(C:CxOk M N ai k L X)(c:Af M X r L){b:Bz}(g1:Gl X f)(g2:X.mg f=Y)(hs:b.all noStar=O)(h:US M r L f b=U g):PE X (.Call (.Name f p) b [] pos)<|tE (M.P.kt X) g:=by
 unfold US at h;split at h
 case h_2=>cases h
 have hs:=by simpa using hs
 split at h
 .rename_i e
  subst e;obtain⟨i,d,rfl⟩:=bW.mp h;exact Zx C.calm M.rP (kr C c d).1 hs g1 g2
 .cases h
def M9(a:X.calm=O):∀p∈Z3,Blt X p.1 p.2:=by
 intro p h;rcases bH.mp h with rfl|h
 .exact⟨⟨_,Zu,.inl ⟨_,PyProof.Rows.boot_max,DV a⟩⟩,by decide,by decide⟩
 .exact Tu a p h
def IY(C:CxOk M N ai k L X)(l:Af M X r L)(f:Str)(b:Bz):PE X (.Call (.Name f p) b [] pos)<|tE (M.P.kt X)<|Ad M ai r L f b:=by
 obtain⟨j,h,hr⟩:=C.room;unfold Ad;split
 case isFalse=>exact bJ
 rename_i hs;have m:=gc l b hs;split
 .rename_i ds i s
  split
  case isFalse=>exact bJ
  rename_i q;obtain⟨g1,g2⟩:=gE C q;cases b with
  |nil=>exact Mn (C.gm.fns f ds i s) hr (c_ (bx ..) h) g1 g2
  |cons a b=>exact s_call (C.gm.fns f ds i s) hr (c_ (bx ..) h) m g1 g2 hs
 .split
  .rename_i c n d
   split
   case isFalse=>exact bJ
   rename_i q;rw[bP]at q;obtain⟨g1,g2⟩:=gE C q.1;cases b with
   |nil=>cases q.2
   |cons a b=>exact YQ (C.gm.fz f c n d) hr h m g1 g2 hs
  .rename_i c d
   split
   case isFalse=>exact bJ
   rename_i q;rw[bP]at q;obtain⟨g1,g2⟩:=gE C q.1;cases b with
   |nil=>exact TJ (C.gm.z0 f c d) g1 g2
   |cons a b=>cases q.2
  .rename_i c d
   split
   .rename_i a
    split
    case isFalse=>exact bJ
    rename_i q;obtain⟨g1,g2⟩:=gE C q;exact Ud (C.gm.cp f c d) hr h (l a) g1 g2 (by simpa using hs)
   .exact bJ
  .rename_i c i d
   split
   case isFalse=>exact bJ
   rename_i q;rw[bP]at q;obtain⟨g1,g2⟩:=gE C q.1;cases b with
   |nil=>cases q.2
   |cons a b=>exact Uc (C.gm.nw f c i d) hr h m g1 g2 hs
  .split
   case isFalse=>exact bJ
   rename_i t;obtain⟨g1,g2,g3⟩:=gT C t;split
   .rename_i g o
    exact M8 C l g1 g2 hs o
   split
   .rename_i a q e _
    have e:=eq_of_beq e;subst e;rw[dO,bP]at hs;exact Ã C l t hs.1
   .split
    .rename_i a u
     obtain⟨rfl,w,v,y,x,rfl⟩:=xV u;obtain⟨k1,k2,k3⟩:=gT C w;exact zF<|QD C.calm g2 k2 g1 k1 (l a) v
    .split
     .rename_i g a Ä o _ _ _
      exact YM (M9 C.calm _<|dE o) J g1 g2 m hs
     .exact bJ
theorem p9(C:CxOk M N ai k L X)(b:∀x∈frees sc,sc.names.lookup x=U .free/\L.sc.names.lookup x=U .cell):∀{xs:Bi}{js:B1},idxs L.N xs=U js->(∀x∈xs,x∈frees sc)->gq X sc js xs
 |[],js,h,_=>by cases h;exact .nil
 |x::xs,js,h,a=>by
  obtain⟨i,g,f⟩:=cj.mp<|h;obtain⟨c,e,rfl⟩:=bW.mp f;obtain⟨l,j⟩:=b x<|a x<|d_ ..;refine .cons (by rw[C.N];exact fY g) l ?_<|p9 C b e λy d=>a y<|ed _ d
  show X.env.scope.names.lookup x=_;rw[C.sc];exact j
def EC(h:x∈frees sc):(x,NameKind.free)∈sc.names:=by
 obtain⟨q,c,a⟩:=DG.mp h;obtain⟨n,b⟩:=q;split at a
 .rename_i e;cases a;have e:=e;subst e;exact c
 .cases a
def IZ(C:CxOk M N ai k L X)(sc:hA):He sc X.env=IM sc L.sc:=by
 unfold He IM Env.kindOf;rw[C.sc]
theorem Ai{ok:Str->Bool}(f:X.N.Nodup)(h:∀x i,ok x=O->j0 d x=U i->X.N[i]?=U x/\Loc X.env.scope x/\(J2 X x)):∀{es:Bz}{xs:Bi}{is:B1},namesOf es=U xs->xs.all ok=O->idxs d xs=U is ->
  WL X es (pP is)/\(jb es X.env).length=Kk is/\(jb es X.env).findIdx? (·.1)=Y
 |[],xs,is,a,_,b=>by
  cases a;cases b;exact⟨Ll,J,J⟩
 |e::es,xs,is,a,c,b=>by
  cases e<;>try(cases a;done)
  rename_i x q;obtain⟨zs,p,rfl⟩:=bW.mp<|show(namesOf es).map (x::·)=U xs from a
  rw[dO,bP]at c;obtain⟨i,o,n⟩:=cj.mp<|show(j0 d x).bind _=U is from b;obtain⟨l,m,rfl⟩:=bW.mp n;obtain⟨g1,g2,g3⟩:=h x i c.1 o;obtain⟨k,j,g⟩:=Ai f h p c.2 m;refine⟨GK (uf f g1 g2 g3) k J,?_,?_⟩
  .show((ZA,_)::jb es X.env).length=_
   rw[ee,j];rfl
  .show List.findIdx? (·.1) ((ZA,_)::jb es X.env)=Y
   rw[List.findIdx?_cons];simp only[g];rfl
def I0(hB:B.K=X.K){e:Bi}{ok:Str->Bool}(m:X.calm=O)(d:X.N.Nodup)(h:∀x i,ok x=O->j0 e x=U i->X.N[i]?=U x/\Loc X.env.scope x/\(J2 X x))
  (a:QU e ok tg=U (g,is)):∃gt,PG X tg gt/\rH B gt g is:=by
 cases tg<;>try(cases a)
 .rename_i x s
  replace a:(if ok x=O then _ else Y)=U _:=a
  split at a
  .rename_i q
   obtain⟨i,c,b⟩:=bW.mp a;cases b;obtain⟨g1,g2,g3⟩:=h x i q c;exact⟨_,uf d g1 g2 g3,BQ i⟩
  .cases a
 .rename_i es p r
  replace a:=a
  obtain⟨xs,c,b⟩:=cj.mp a;split at b
  .rename_i q
   obtain⟨l,o,n⟩:=bW.mp b;cases n;obtain⟨k,j,f⟩:=Ai d h c q o;refine⟨_,GL m k j f,?_⟩;rw[<- hB];exact HP _ J
  .cases b
def U7{b:Bi}(a:QU b ok tg=U (g,is)):∀i∈is,i<Kk b:=by
 have lt:∀{x i},j0 b x=U i->i<Kk b:=λh=>(dq.mp<|fY h).1;cases tg<;>try(cases a)
 .rename_i x u
  replace a:(if ok x=O then _ else Y)=U _:=a
  split at a
  .obtain⟨i,f,c⟩:=bW.mp a
   cases c;intro j e;rw[dJ.mp e];exact lt f
  .cases a
 .rename_i es s t
  replace a:=a
  obtain⟨xs,f,c⟩:=cj.mp a;split at c
  .obtain⟨k,r,q⟩:=bW.mp c
   cases q
   have:∀(xs:Bi)(is:B1),idxs b xs=U is->∀i∈is,i<Kk b:=by
    intro xs
    induction xs with
    |nil=>intro is h;cases h;intro i m;cases m
    |cons x xs l=>
     intro is h;obtain⟨i,p,o⟩:=cj.mp<|h;obtain⟨d,n,rfl⟩:=bW.mp o;intro j e;rcases bH.mp e with z|z
     .rw[z];exact lt p
     .exact l d n j z
   exact this xs _ r
  .cases c
def uU(h:isSet it=ZA):∀x,fC it X.env x=pure x:=λx=>by
 unfold fC;cases it<;>first|rfl|(cases h)
structure U8(M:Gm)(X:Cx)(r:Rc)(L:Lc)(elt tg iter:cq)(ifs:Bz)(sc:hA)(js:B1)(g:FG)(is:B1):Prop where
 sco:gP X sc
 fr:gq X sc js<|frees sc
 nd:(locals sc++frees sc).Nodup
 it:PI X tg iter<|tI (M.P.kt X)<|r.I L tg iter
 ex:∃gt,(∀cl C fp s H,PG (X.block (locals sc++frees sc) sc cl C fp s H) tg gt)/\rH (M.P.kt X) gt g is
 ts:∀cl C fp s H,KZ (X.block (locals sc++frees sc) sc cl C fp s H) ifs<|tT (M.P.kt X)<|QV r (IP L sc) ifs
 el:∀cl C fp s H,PE (X.block (locals sc++frees sc) sc cl C fp s H) elt<|tE (M.P.kt X)<|r.E (IP L sc) elt
 lt:∀i∈is,i<(locals sc).length
 st:∀x,fC iter X.env x=pure x
def CF(R:Ag M N ai k r)(C:CxOk M N ai k L X){j:Bz}(h:(UR L sc&&decide ((locals sc++frees sc).Nodup)&&!isSet d&&decide (Kk j<=1))=O)(E:idxs L.N (frees sc)=U js)
  (f:QU (locals sc) (λx=>decide<|sc.names.lookup x=U .local) tg=U (g,is)):U8 M X r L elt tg d j sc js g is:=by
 obtain⟨hE,hT,G,hO⟩:=R L X C;simp only[bP,eg,yQ]at h;obtain⟨⟨⟨l,u⟩,T⟩,S⟩:=h;unfold UR at l;simp only[bP,eg,dP]at l;obtain⟨⟨k1,k2⟩,k3⟩:=l;have w:∀x∈frees sc,sc.names.lookup x=U .free/\L.sc.names.lookup x=U .cell:=λx p=>by
  have:=(k2 _<|EC p).2 J
  exact this
 have bs:gP X sc:=⟨k1,λq n=>(k2 q n).1.1,λq n e=>(k2 q n).1.2 e,λq n e=>by
  show X.env.scope.names.lookup _=_;rw[C.sc];exact((k2 q n).2 e).2⟩
 have Ĩ:∀cl b a s H,CxOk M N ai k (IP L sc)<|X.block _ sc cl b a s H:=λcl b a s H=>⟨C.gm,J,IZ C sc,C.calm,C.room⟩;refine⟨bs,p9 C w E λ_ h=>h,u,G tg d,?_,λcl b a s H=>?_,λcl b a s H=>(R _ _<|Ĩ cl b a s H).1 elt,U7 f,uU T⟩
 .-- the target's names are the block's own
  have m:∀cl b a s H,∀x i,decide _=O->j0 _ x=U i->(X.block _ sc cl b a s H).N[i]?=U x/\Loc _ x/\((X.block (locals sc++frees sc) sc cl b a s H).fn x=O\/(X.block (locals sc++frees sc) sc cl b a s H).env.scope.names.lookup x=U .local):=λcl b a s H x i p F=>by
   have v:(He sc X.env).names.lookup x=U .local:=lookup_relabel_local<|bh p;have l:=fY F;refine⟨?_,.inl v,.inr v⟩;show(locals sc++frees sc)[i]?=U x;rw[jP (dq.mp l).1];exact l
  cases tg<;>try(cases f)
  .rename_i x Z
   replace f:(if _ then _ else Y)=U _:=f
   split at f
   .rename_i q
    obtain⟨i,t,o⟩:=bW.mp f;cases o;exact⟨_,λcl b a s H=>by
     obtain⟨g1,g2,g3⟩:=m cl b a s H x i q t;exact uf u g1 g2 g3,BQ i⟩
   .cases f
  .rename_i es V W
   replace f:=f
   obtain⟨xs,t,o⟩:=cj.mp f;split at o
   .rename_i q
    obtain⟨D,Q,I⟩:=bW.mp o;cases I;refine⟨R8 X.K is.length _,λcl b a s H=>?_,HP is J⟩;obtain⟨A,z,y⟩:=Ai u (m cl b a s H) t q Q;exact GL C.calm A z y
   .cases o
 .match j,S with
  |[],_=>exact YU
  |[c],_=>exact YV<|(R _ _<|Ĩ cl b a s H).2.1 c
def lF(R:Ag M N ai k r)(C:CxOk M N ai k L X)(e:cq):PE X e<|tO (M.P.kt X)<|sZ r L e:=by
 cases e<;>first|exact eY|skip
 rename_i elt f sc p
 match f with
 |[]=>exact eY
 |_::_::_=>exact eY
 |[⟨tg,iter,ifs,ay⟩]=>
  show PE X _<|tO _<|pZ r L elt _ sc;unfold pZ;split
  case isFalse=>exact eY
  rename_i h;obtain⟨rfl,h⟩:=h;split
  .rename_i i g is b a
   have K:=CF R C (elt:=elt) h b a;obtain⟨gt,d,c⟩:=K.ex;exact TR _ C.calm K.sco K.fr K.it d c K.ts K.el K.lt K.st
  .exact eY
def uV(a:Af M X r L):∀e:Option cq,PO X e<|tP (M.P.kt X)<|Ab r L e
 |none=>YB
 |some e=>YC<|a e
def M_(h:isSlice e=ZA):jH e:=λo i=>by
 unfold ry;cases e<;>first|rfl|(cases h)
def Å(d:bV o=O)(hs:[a,b].all noStar=O)(c:(j.endLine == t.line)=O):M2 X o "get" j a b t:=by
 refine⟨fM d,Ed hs<|by simp,c,?_⟩
 simp only[dO,Pu,AU,bP]at hs;rw[au hs.1,au hs.2];rfl
def Na{a:Bz}(h:UU M r L o m a=U f):m=("get" : Str)/\∃b d c,a=[b,d]/\M1 M r L o=U c/\f=rL M.bc c (r.E L b) (r.E L d):=by
 unfold UU at h;split at h
 .split at h
  .rename_i e
   obtain⟨c,g,rfl⟩:=bW.mp h;exact⟨e,_,_,c,J,g,J⟩
  .cases h
 .cases h
def CG(C:CxOk M N ai k L X)(h:M.ms.lookup m=U l):∀c f,aw l ai c=U f->İ M.P X.prog X.w X.K X.mg X.base k c m f:=λc f a=>by
 obtain⟨i,b,rfl⟩:=bW.mp a;exact C.gm.mts m l c i h b
def I_{a:Nat}(c:Const):PE X (.Constant c a pos)<|tE (M.P.kt X)<|IQ c:=by
 cases c with
 |int i=>exact k8 ud λ_ _=>J
 |bool b=>exact k8 Wz λ_ _=>J
 |none=>exact k8 RU λ_ _=>J
 |str s=>
  show PE X _<|tE _<|if s.length<=1000000 then cF _ else cQ
  split
  .rename_i h
   obtain⟨⟨l⟩⟩:=s;exact k8 RV λ_ _=>⟨J,by exact h⟩
  .exact bJ
 |_=>exact bJ
def Nb(C:CxOk M N ai k L X)(x:Str):PE X (.Name x pos)<|tE (M.P.kt X)<|IS M L x:=by
 unfold IS;split
 .rename_i i b
  split
  .rename_i q
   obtain⟨l1,l2,l3,l4⟩:=eE C q;exact Yh (by rw[C.N];exact fY b) l2 l3 l4
  .exact bJ
 .split
  .rename_i t a
   split
   .rename_i q
    obtain⟨g1,g2⟩:=gE C q;exact Zf (C.gm.cst _ _ a) J g1 g2
   .exact bJ
  .exact bJ
def Æ(C:CxOk M N ai k L X)(a:Af M X r L){i:cq}(h:jH i):PE X (.Subscript o i pos)<|tE (M.P.kt X)<|Ľ M r L o i:=by
 unfold Ľ;split
 .rename_i f d
  obtain⟨j,c,hr⟩:=C.room;exact Zj M.rP hr (kr C a d).1 (a _) h
 split
 .obtain⟨j,c,hr⟩:=C.room
  exact Zs J hr (a _) (a _) h
 split
 .rename_i y n hk
  obtain⟨l,g,b⟩:=cj.mp hk;obtain⟨p,b,e⟩:=bW.mp b;cases e;obtain⟨m,rfl⟩:=cZ g;split
  .rename_i q
   rw[bP]at q;obtain⟨l1,l2,l3,l4⟩:=eE C q.2;exact Ue (by rw[C.N];exact fY b) l2 l3 l4 (a _) h
  .exact Ti J (a _) (a _) h
 .exact Ti J (a _) (a _) h
def U9(C:CxOk M N ai k L X)(e:Af M X r L)(o:cq)(m:Str)(v:Pos)(c:Bz)(cp:Pos):PE X (.Call (.Attribute o m v) c [] cp)<|tE (M.P.kt X)<|UW M ai r L o m v c cp:=by
 obtain⟨j,t,hr⟩:=C.room;unfold UW;split
 case isFalse=>exact bJ
 rename_i h;simp only[bP,eg]at h;obtain⟨⟨⟨q,i⟩,p⟩,n⟩:=h;have u:=gc e c i;split
 .rename_i f x
  obtain⟨rfl,b,d,z,rfl,y,rfl⟩:=Na x;obtain⟨b1,b2⟩:=kr C e y;exact Zk M.rP hr b1 (e b) (e d)<|Å b2 i n
 split
 .rename_i l s
  cases c with
  |nil=>exact Mp (CG C s) hr (c_ (bx ..) t) (e o)<|B3 q i (fB p<|by decide) n
  |cons a c=>exact Tz (CG C s) hr (c_ (bx ..) t) (e o) u i<|B3 q i (fB p<|by decide) n
 .split
  .rename_i g a Ä w _
   exact YF (Tr _<|dE w) J (e o) u q i (by exact rh (bx ..) p) n
  .exact bJ
def Ja(R:Ag M N ai k r)(C:CxOk M N ai k L X)(e:cq):PE X e<|tE (M.P.kt X)<|QW M ai r L e:=by
 obtain⟨d,t,y,w⟩:=R L X C;cases e with
 |Constant c _ _=>exact I_ c
 |Name x _=>exact Nb C x
 |BinOp a op b _=>exact Yv J _ (d _)<|d _
 |UnaryOp op a _=>cases op with
  |USub=>exact Yw J<|d _
  |Not=>exact S8<|d _
  |_=>exact bJ
 |BoolOp op es _=>cases op with
  |And=>exact xT d _
  |Or=>exact Cz d _
 |Compare a l bs _=>
  match l,bs with
  |[op],[b]=>
   show PE X _<|tE _<|if fA op b then cQ else xO M r L a op b
   split
   .exact bJ
   .rename_i h
    exact M7 C d (by simpa using h)
  |[],_=>exact bJ
  |_::_::_,_=>exact bJ
  |[_],[]=>exact bJ
  |[_],_::_::_=>exact bJ
 |IfExp c a b _=>exact Yo (t _) (d _)<|d _
 |Tuple es _ _=>
  show PE X _<|tE _<|if es.all noStar then _ else cQ
  split
  .rename_i h;exact Yi<|gc d _ h
  .exact bJ
 |List es _=>
  show PE X _<|tE _<|if es.all noStar then _ else cQ
  split
  .rename_i h;exact Yj<|gc d _ h
  .exact bJ
 |Subscript o i _=>
  show PE X _<|tE _<|UT M r L o i;cases hs:isSlice i with
  |false=>
   rw[show UT M r L o i=Ľ M r L o i by cases i<;>first|rfl|cases hs]
   exact Æ C d<|M_ hs
  |true=>
   cases i<;>try(cases hs)
   rename_i lo q st _;cases st with
   |none=>
    exact aat J (d _) (uV d _)<|uV d _
   |some st=>
    show PE X _<|tE _<|match fP st with|U<|.int k=>z_ k _ _ _|_=>cQ
    split
    .rename_i k s
     obtain⟨_,_,rfl⟩:=iG s;exact ZR J (d _) (uV d _)<|uV d _
    .exact bJ
 |Attribute o f _=>
  show PE X _<|tE _<|if bV o then _ else cQ
  split
  .rename_i h
   split
   .rename_i j n
    split
    .exact Us C.gm.pg M.rP (fY n) (d _) h
    .exact Qp C.gm.pg (fY n) (d _) h
   .exact bJ
  .exact bJ
 |ListComp u z sc p=>exact zF<|lF R C _
 |Call f g ks cp=>
  cases ks with
  |cons _ _=>exact bJ
  |nil=>cases f with
   |Name f _=>exact IY C d _ _
   |Attribute o m v=>exact U9 C d o m v g cp
   |_=>exact bJ
 |_=>exact bJ
def Jb(R:Ag M N ai k r)(C:CxOk M N ai k L X)(e:cq):PT X e<|tT (M.P.kt X)<|stepT M r L e:=by
 obtain⟨f,d,j,i⟩:=R L X C;cases e with
 |BoolOp op es _=>cases op with
  |And=>exact(xU d _).pt
  |Or=>exact(CA d _).pt
 |UnaryOp op a _=>cases op with
  |Not=>exact Ym<|d _
  |_=>exact Qh (f _) J λg=>J
 |Compare a c bs _=>
  match c,bs with
  |[op],[b]=>
   show PT X _<|tT _<|if fA op b then rG else a_ _
   split
   .exact ki
   .rename_i h
    exact IX C f (by simpa using h)
  |[],_=>exact ki
  |_::_::_,_=>exact ki
  |[_],[]=>exact ki
  |[_],_::_::_=>exact ki
 |IfExp _ _ _ _=>exact ki
 |_=>exact Qh (f _) J λg=>J
def Nc{a:Bz}(h:Cw e=U a):∃p pos,e=.Call (.Name "range" p) a [] pos:=by
 obtain⟨⟨f,as,ks⟩,c,b⟩:=cj.mp h;obtain⟨p,pos,rfl⟩:=gC c;have h:=b;split at h
 .rename_i q
  obtain⟨rfl,q⟩:=q;cases h;rw[nI.mp q];exact⟨_,_,J⟩
 .cases h
def Jc(h:xP e=U (a,n)):∃p pos,(n=0/\e=.Call (.Name "enumerate" p) [a] [] pos)\/(n=1/\∃k1 d kp,e=.Call (.Name "enumerate" p) [a] [⟨U<|hG "start",.Constant (.int 1) k1 d,kp⟩] pos):=by
 obtain⟨⟨f,as,ks⟩,i,g⟩:=cj.mp h;clear h;obtain⟨p,pos,rfl⟩:=gC i;have h:=g;clear g;split at h
 case isFalse=>cases h
 rename_i q
 replace q:f=("enumerate" : Str):=q
 subst q
 match as,ks,h with
 |[a'],[],h=>cases h;exact⟨_,_,.inl ⟨J,J⟩⟩
 |[a'],[⟨an,v,kp⟩],h=>
  dsimp only at h;cases b:fP v with
  |none=>rw[b]at h;cases h
  |some c=>
   rw[b]at h;cases c<;>try(cases h;done)
   obtain⟨k1,d,rfl⟩:=iG b;dsimp only at h;split at h
   .rename_i q;obtain⟨rfl,rfl⟩:=q;cases h;exact⟨_,_,.inr ⟨J,_,_,_,J⟩⟩
   .cases h
def Nd(h:IT e=U a):∃p pos,e=.Call (.Name "reversed" p) [a] [] pos/\noStar a=O:=by
 revert h;refine abc λq b=>λh=>?_;obtain⟨⟨q1,q2⟩,h⟩:=lQ.mp h;cases h;obtain⟨p,r,c⟩:=BV b;exact⟨p,r,by rw[c,q1],q2⟩
def Nf(C:CxOk M N ai k L X)(c:Af M X r L)(f:Str)(b:Bz):PE X (.Call (.Name f p) b [] pos)<|tO (M.P.kt X)<|UY M r L f b:=by
 unfold UY;split
 case isFalse=>exact eY
 rename_i d;obtain⟨g1,g2,g3⟩:=gT C d;split
 .rename_i a e
  obtain⟨rfl,h,g,j,i,rfl⟩:=xV e;obtain⟨k1,k2,k3⟩:=gT C h;exact QD C.calm g2 k2 g1 k1 (c a) g
 .split
  .split
   .rename_i q
    obtain⟨rfl,q⟩:=q;exact Zp J g2 g1 (c _) q
   .exact eY
  .exact eY
def Jd(R:Ag M N ai k r)(C:CxOk M N ai k L X)(tg e:cq):PI X tg e<|tI (M.P.kt X)<|stepI M r L tg e:=by
 obtain⟨b,q,t,s⟩:=R L X C;unfold stepI;split
 .rename_i j l
  obtain⟨p,pos,rfl⟩:=Nc l;split
  case isFalse=>exact xw
  rename_i h;rw[bP]at h;obtain⟨g1,g2,_⟩:=gT C h.1;have hs:=h.2;split
  .exact HQ g1 g2 (b _) (by simpa using hs)
  .simp only[dO,bP]at hs
   exact HU g1 g2 (b _) (b _) hs.1 hs.2.1
  .exact Uv g1 g2 (b _) (b _) (b _) hs
  .exact xw
 .split
  .rename_i a n m
   split
   case isFalse=>exact xw
   rename_i h;simp only[bP]at h;obtain⟨⟨g,f⟩,i⟩:=h;obtain⟨g1,g2,_⟩:=gT C g;cases tg<;>try(cases f;done)
   obtain⟨p,pos,d|d⟩:=Jc m
   .obtain⟨rfl,rfl⟩:=d
    exact Za J g1 g2 (b a) i
   .obtain⟨rfl,k1,o,kp,rfl⟩:=d
    exact Zb J g1 g2 (b a) i
  split
  .rename_i a c
   obtain⟨p,pos,rfl,f⟩:=Nd c;split
   .rename_i g
    obtain⟨g1,g2,_⟩:=gT C g;exact Zq g1 g2 (b a) f
   .exact xw
  split
  .rename_i h
   cases tg<;>try(cases h;done)
   exact YT J<|b e
  .exact Qt J<|b e
def Je(R:Ag M N ai k r)(C:CxOk M N ai k L X)(e:cq):PE X e<|tO (M.P.kt X)<|QX M r L e:=by
 obtain⟨d,j,m,g⟩:=R L X C;cases e with
 |List es _=>
  show PE X _<|tO _<|if es.all noStar then _ else gy
  split
  .rename_i h;exact S5<|gc d _ h
  .exact eY
 |ListComp l n sc p=>exact lF R C _
 |IfExp c a b _=>exact Zo (j _) (g _)<|g _
 |BinOp a op b _=>cases op<;>first|exact Uu (d _)<|d _|exact eY
 |Call f i ks _=>cases ks with
  |cons _ _=>exact eY
  |nil=>cases f<;>first|exact Nf C d _ _|exact eY
 |_=>exact eY
theorem c6:∀n,Ag M N ai k<|comp M ai n
 |0=>λL X C=>⟨λ_=>bJ,λ_=>ki,λ_ _=>xw,λ_=>eY⟩
 |n+1=>λL X C=>⟨Ja (c6 n) C,Jb (c6 n) C,Jd (c6 n) C,Je (c6 n) C⟩
structure Aj(M:Gm)(N:XN)(ai:Nat->Fn)(k:Nat)(L:Lc)(X:Cx):Prop extends CxOk M N ai k L X where
 fn:∀x,X.fn x=O
 nd:X.N.Nodup
 xe:X.xe=λ_ _=>False
 stk:X.stack=X.env::X.outer
 frm:X.env.frame=U X.env.locals
def ir{t:Option cq}(h:xQ e=ZA):fv e t l X.env=pure ZA:=by
 cases e<;>first|rfl|(cases h)
def U_(C:CxOk M N ai k L X)(h:xQ e=O->∃elt a sc p,e=.ListComp elt a sc p):fv e (U<|.Name x tp) l X.env=pure (IU L x tp e):=by
 cases e<;>first|rfl|skip
 .unfold fv IU Env.blockKind Env.kindOf
  rw[C.sc];rfl
 .obtain⟨_,_,_,_,z⟩:=h J;cases z
 .obtain⟨_,_,_,_,z⟩:=h J;cases z
def passes(C:Aj M N ai k L X):n9 (cx X.prog X.w) X.A X.env X.xe:=by rw[C.xe];exact PassesOwn.never
def CH(h:Cy e=O):∃dp,e=.Dict [] [] dp:=by
 cases e<;>try(cases h)
 rename_i ks a dp
 match ks,a,h with
 |[],[],_=>exact⟨_,J⟩
def Va(h:xQ e=O):Cy e=ZA:=by
 cases e<;>first|rfl|(cases h)
def jD{F:FS}(h:∀s,F s=.bad):PS X st<|tS B F:=λ_ _ _ _ _ _ z=>by
 obtain⟨g,s,o,a,_,e,_⟩:=z;rw[h]at e;cases e
def Ng(C:Aj M N ai k L X)(n:Nat)(e:cq):PS X (.Assign [.Name x F] e pos)<|tS (M.P.kt X)<|IV M ai n L x e:=by
 obtain⟨w,B,D,v⟩:=c6 (M:=M) (N:=N) (ai:=ai) (k:=k) n L X C.toCxOk;unfold IV;split
 case h_2=>exact dj
 rename_i i u;split
 case isFalse=>exact dj
 rename_i q;obtain⟨l1,l2,l3,l4⟩:=eE C.toCxOk q;have p:X.N[i]?=U x:=by rw[C.N];exact fY u
 have o:J2 X x:=.inl<|C.fn x;by_cases hlc:xQ e=ZA
 .split
  .split
   .rename_i hd
    obtain⟨dp,rfl⟩:=CH hd;exact Uj C.nd p l1 o
   .exact Qv C.nd p l1 (v e) (ir hlc) o
  .exact Qu C.nd p l1 (w e) (ir hlc) o
 .rw[Va<|by simpa using hlc,b0 eU]
  cases n with
  |zero=>
   split
   .exact jD λ_=>J
   .exact jD λ_=>J
  |succ n=>
   cases e with
   |ListComp elt j sc cp=>
    have R:=c6 (M:=M) (N:=N) (ai:=ai) (k:=k) n;have m:PS X (.Assign [.Name x F] (.ListComp elt j sc cp) pos) (tS (M.P.kt X)<|iC i<|sZ (comp M ai n) L<|.ListComp elt j sc cp)/\PS X (.Assign [.Name x F] (.ListComp elt j sc cp) pos) (tS (M.P.kt X)<|aH i<|eW<|sZ (comp M ai n) L<|.ListComp elt j sc cp):=by
     have sw:=U_ (X:=X) (x:=x) (tp:=F) (l:=pos.line) (e:=.ListComp elt j sc cp) C.toCxOk λ_=>⟨_,_,_,_,J⟩;cases r:IU L x F (.ListComp elt j sc cp)with
     |false=>
      rw[r]at sw;exact⟨Qv C.nd p l1 (lF R C.toCxOk _) sw o,Qu C.nd p l1 (zF<|lF R C.toCxOk _) sw o⟩
     |true=>
      rw[r]at sw;have bad:PS X (.Assign [.Name x F] (.ListComp elt j sc cp) pos) (tS (M.P.kt X)<|iC i gy)/\PS X (.Assign [.Name x F] (.ListComp elt j sc cp) pos) (tS (M.P.kt X)<|aH i<|eW gy):=
       ⟨jD λ_=>J,jD λ_=>J⟩
      match j with
      |[]=>exact bad
      |_::_::_=>exact bad
      |[⟨tg,iter,ifs,ay⟩]=>
       rw[show sZ (comp M ai n) L (.ListComp elt [⟨tg,iter,ifs,ay⟩] sc cp)=pZ (comp M ai n) L elt ⟨tg,iter,ifs,ay⟩ sc from J];unfold pZ;split
       case isFalse=>exact bad
       rename_i h;obtain⟨rfl,h⟩:=h;split
       .rename_i A g is t s
        have K:=CF R C.toCxOk (elt:=elt) h t s;obtain⟨gt,z,y⟩:=K.ex;exact TY (locals sc) C.calm C.nd p l1 K.sco K.fr K.it z y K.ts K.el K.lt K.st o sw
       .exact bad
    split
    .exact m.1
    .exact m.2
   |SetComp a b c d=>
    split
    .exact jD λ_=>J
    .exact jD λ_=>J
   |DictComp a b c d f=>
    split
    .exact jD λ_=>J
    .exact jD λ_=>J
   |_=>exact dw J hlc
def uW(h:oH nm mu e=U (y,a)):noStar a=O/\∃py c cp,e=.Call (.Attribute (.Name y py) nm c) [a] [] cp/\(c.endLine == cp.line)=O:=by
 revert h;refine abF λo m b f=>abc λz d=>λh=>?_;obtain⟨⟨q1,_⟩,h⟩:=lQ.mp h;cases h;obtain⟨z,c,cp,j,i⟩:=BW f;obtain⟨py,g⟩:=cZ d;exact⟨z,_,_,_,by rw[j,<- q1,<- g],i⟩
def uX(h:QY e=O):tc [.Tuple es x1 tp] e X.env=pure Y:=by
 cases e<;>first|rfl|skip
 rename_i a _ _;unfold tc;dsimp only;rw[show a.all _=O from h];split
 .rfl
 split
 .rfl
 split
 .rfl
 rfl
def tgl(C:Aj M N ai k L X):∀x i,il L x=O->j0 L.N x=U i->X.N[i]?=U x/\Loc X.env.scope x/\(J2 X x):=λx i b a=>⟨by rw[C.N];exact fY a,(eE C.toCxOk b).1,.inl<|C.fn x⟩
def Nh(C:Aj M N ai k L X)(n:Nat)(es:Bz)(e:cq):PS X (.Assign [.Tuple es x1 tp] e pos)<|tS (M.P.kt X)<|tupS M ai n L es e:=by
 obtain⟨b,f,j,i⟩:=c6 (M:=M) (N:=N) (ai:=ai) (k:=k) n L X C.toCxOk;unfold tupS;split
 .exact dj
 .rename_i h
  simp only[vY,not_or,Bool.not_eq_true,Bool.not_eq_eq_eq_not,Bool.not_true,Bool.not_false]at h;obtain⟨⟨d,c⟩,l⟩:=h;split
  .rename_i g is a
   obtain⟨gt,q1,q2⟩:=I0 (B:=M.P.kt X) (tg:=.Tuple es x1 tp) J C.calm C.nd (tgl C) a;exact Y3 (b e) q1 q2 (show fv e (U<|.Tuple es x1 tp) pos.line X.env=pure ZA from ir d) (uX<|by simpa using c) J
  .exact dj
def Vb(C:Aj M N ai k L X)(n:Nat)(f:Str)(e:cq):PE X e<|tE (M.P.kt X)<|UZ M ai n L f e:=by
 obtain⟨b,c,d,a⟩:=c6 n L X C.toCxOk;unfold UZ;split
 .split
  .rename_i hd
   obtain⟨dp,rfl⟩:=CH hd;exact Um M.rP M.ZY
  .exact Ul M.rP M.ZY<|a e
 .exact b e
def Jf{a:Pos}:fv e (U<|.Attribute o f a) l X.env=pure ZA:=by
 cases e<;>rfl
def Ni(C:Aj M N ai k L X)(n:Nat)(o:cq)(f:Str){c:Pos}(e:cq):PS X (.Assign [.Attribute o f c] e pos)<|tS (M.P.kt X)<|U0 M ai n L o f e:=by
 obtain⟨b,d,h,g⟩:=c6 n L X C.toCxOk;unfold U0;split
 .rename_i j a
  exact Y8 C.gm.pg (fY a) (b o) (Vb C n f e) Jf
 .exact dj
def Nj(C:Aj M N ai k L X)(n:Nat)(o b:cq)(e:cq):PS X (.Assign [.Subscript o b sp] e pos)<|tS (M.P.kt X)<|U1 M ai n L o b e:=by
 obtain⟨a,r,t,s⟩:=c6 n L X C.toCxOk;obtain⟨j,p,hr⟩:=C.room;unfold U1;split
 .exact dj
 rename_i h;split
 .rename_i f g
  exact Zi M.rP hr (a e) (kr C.toCxOk a g).1 (a b)<|ir<|by simpa using h
 split
 .rename_i i d
  obtain⟨y,l,c⟩:=cj.mp d;obtain⟨m,rfl⟩:=cZ l;split at c
  .rename_i q
   obtain⟨l1,l2,l3,l4⟩:=eE C.toCxOk q;split
   .exact dj
   .rename_i hs
    exact aaF hr (a b) (a e) (by rw[C.N];exact fY c) l2 l3 l4 (ir<|by simpa using h) (by simpa using hs)
  .cases c
 .exact dj
def Nk(C:Aj M N ai k L X)(n:Nat)(t:cq)(op:o7)(e:cq):PS X (.AugAssign t op e pos)<|tS (M.P.kt X)<|U3 M ai n L t op e:=by
 obtain⟨b,m,r,p⟩:=c6 n L X C.toCxOk;unfold U3;split
 .rename_i o j hk
  obtain⟨q,d,a⟩:=cj.mp hk;obtain⟨h,a,c⟩:=bW.mp a;cases c;rw[iY d];split
  .rename_i e;subst e
   exact Zm C.gm.pg (fY a) (b _)<|b _
  .exact dj
 split
 case h_2=>exact dj
 rename_i x i hk;obtain⟨f,d,a⟩:=cj.mp hk;obtain⟨l,a,c⟩:=bW.mp a;cases c;obtain⟨g,rfl⟩:=cZ d;split
 .rename_i q
  obtain⟨rfl,q⟩:=q;obtain⟨l1,l2,l3,l4⟩:=eE C.toCxOk q;exact Ze C.nd (by rw[C.N];exact fY a) l1 (b _)<|.inl<|C.fn _
 .exact dj
def Nl(h:Z4 M r L e=U (f,a)):∃o c cp,e=.Call (.Attribute o "append" c) [a] [] cp/\M1 M r L o=U f/\noStar a=O/\(c.endLine == cp.line)=O:=by
 revert h;refine abF λo m b g=>abc λz d=>λh=>?_;obtain⟨q1,h⟩:=lQ.mp h;cases h;obtain⟨z,c,cp,j,i⟩:=BW g;exact⟨o,_,_,by rw[j,<- q1],d,z,i⟩
def Vc(C:Aj M N ai k L X)(n:Nat)(e:cq):PS X (.Expr e pos)<|tS (M.P.kt X)<|exS M ai n L e:=by
 obtain⟨c,r,t,s⟩:=c6 n L X C.toCxOk;unfold exS;split
 .rename_i f a b
  obtain⟨o,l,cp,rfl,p,g,d⟩:=Nl b;obtain⟨b1,b2⟩:=kr C.toCxOk c p;exact Uo M.rP b1 b2 (c a) g d
 split
 .rename_i y a b
  obtain⟨g,m,l,cp,rfl,d⟩:=uW b;split
  .rename_i i j
   split
   .rename_i q
    obtain⟨l1,l2,l3,l4⟩:=eE C.toCxOk q;exact Y5 (c a) (by rw[C.N];exact fY j) l2 l3 l4 g d
   .exact dj
  .exact dj
 split
 .rename_i y a b
  obtain⟨g,m,l,cp,rfl,d⟩:=uW b;split
  .rename_i i j
   split
   .rename_i q
    obtain⟨l1,l2,l3,l4⟩:=eE C.toCxOk q;exact ZT (c a) (by rw[C.N];exact fY j) l2 l3 l4 g d
   .exact dj
  .exact dj
 .split
  .exact dj
  .rename_i h
   exact T_ (c e)<|ir<|by simpa using h
def Ak(h:M4 st=U e):∃p,st=.Expr e p:=by
 cases st<;>first|(cases h;done)|(cases h;exact⟨_,J⟩)
def oJ{q}(h:xR st=U q):∃p a,st=.Assign [.Name q.1 p] q.2 a:=by
 cases st<;>try(cases h)
 rename_i ts e p
 match ts,h with
 |[t],h=>
  obtain⟨x,b,rfl⟩:=bW.mp<|h;obtain⟨p,rfl⟩:=cZ b;exact⟨_,_,J⟩
def Vd{q}(h:Z5 st=U q):∃p,st=.If q.1 q.2.1 q.2.2 p:=by
 cases st<;>first|(cases h;done)|(cases h;exact⟨_,J⟩)
def Nm(h:QT e=U es):∃t p,e=.Tuple es t p:=by
 cases e<;>first|(cases h;done)|(cases h;exact⟨_,_,J⟩)
def Nn(h:QZ e=U o):∃t p q,e=.Subscript o (.Constant (.int 0) t p) q:=by
 cases e<;>try(cases h;done)
 rename_i a i q
 replace h:(match fP i with|U<|.int n=>if n=0 then U a else Y|_=>Y)=U o:=h
 split at h
 .rename_i n b
  split at h
  .rename_i z
   cases h;subst z;obtain⟨t,p,rfl⟩:=iG b;exact⟨_,_,_,J⟩
  .cases h
 .cases h
def oK(h:Z6 L e=U q):∃a es p cp,q.2=a::es/\e=.Call (.Name q.1 p) (a::es) [] cp/\yK L q.1=O/\(a::es).all noStar=O:=by
 revert h;refine abF λf l ks i=>λh=>?_;obtain⟨⟨g,d,c,b⟩,h⟩:=lQ.mp h;cases h;obtain⟨p,cp,rfl⟩:=gC i;cases(nI.mp g);cases l with
 |nil=>cases d
 |cons a r=>exact⟨a,r,p,cp,J,J,c,b⟩
def Jg(h:xdA M L e=U q):∃x a es p cp,M.xs.lookup x=U q.1/\q.2=a::es/\e=.Call (.Name x p) (a::es) [] cp/\yK L x=O/\(a::es).all noStar=O:=by
 revert h;refine abc λw j=>λh=>?_;obtain⟨i,g,rfl⟩:=bW.mp h;obtain⟨a,es,p,cp,f,d,c,b⟩:=oK j;exact⟨w.1,a,es,p,cp,g,f,d,c,b⟩
def Ve(h:xmA M e=U z):∃m a cp,e=.Call (.Attribute z.2.2.1 m a) z.2.2.2 [] cp/\M.xt.lookup m=U (z.1,z.2.1)/\bV z.2.2.1=O/\z.2.2.2.all noStar=O/\z.2.2.2.length<29/\(a.endLine == cp.line)=O:=by
 obtain⟨⟨g,as,ks,cp⟩,f,h⟩:=cj.mp h;revert h;refine abc λw d=>abc λi c=>λh=>?_;obtain⟨⟨q1,q2,b,q4,q5⟩,h⟩:=lQ.mp h;cases h;cases(nI.mp q1:ks=[]);exact⟨w.2.1,w.2.2,cp,by rw[jK f,iY d],c,q2,b,q4,q5⟩
def Vf(h:fzA M L e=U q):∃x a es p cp,M.cl.lookup x=U (.fz q.1 q.2.1)/\q.2.2=a::es/\e=.Call (.Name x p) (a::es) [] cp/\yK L x=O/\(a::es).all noStar=O:=by
 revert h;refine abc λw j=>λh=>?_;split at h
 .rename_i c n i
  cases h;obtain⟨a,es,p,cp,g,f,d,b⟩:=oK j;exact⟨w.1,a,es,p,cp,i,g,f,d,b⟩
 .cases h
theorem lG{g:cq->FE}(h:∀e,PE X e<|z8 (M.P.kt X) N E<|g e):∀es:Bz,es.all noStar=O->PA X es (QO (M.P.kt X) N E<|dZ<|es.map g)
 |[],_=>UE
 |e::es,hs=>by
  rw[dO,bP]at hs;exact MQ (h e) (lG h es hs.2)<|au hs.1
theorem Q2(C:CxOk M N ai k L X)(s:Passes (sV X.prog X.w) X E)(t:Af M X r L):∀(d:Nat)(e:cq){fe:FE},xE M ai r L d e=U fe->PE X e (z8 (M.P.kt X) N E fe)
 |0,_,_,h=>by cases h
 |d+1,e,fe,h=>by
  obtain⟨B,v,hr⟩:=C.room;have hk:=c_ (bx k 1) v;have ok:∀e,PE X e<|z8 _ N E _:=λe=>ZI<|t e;rw[xE]at h;split at h
  .rename_i c i o b l
   cases h;obtain⟨m,F,cp,rfl,A,j,g,z,y⟩:=Ve l;have D:=C.gm.xt m c i A;cases b with
   |nil=>exact Iz s D hr hk (t o)<|B3 j J (by decide) y
   |cons a b=>exact MT s D hr hk (t o) (lG ok _ g) g<|B3 j g (fB z<|by decide) y
  split at h
  .rename_i i b l
   cases h;obtain⟨x,a,es,p,cp,u,rfl,rfl,j,g⟩:=Jg l;obtain⟨g1,g2⟩:=gE C j;exact MR s (C.gm.xs x i u) hr hk (lG ok _ g) g1 g2 g
  split at h
  .rename_i c n b l
   split at h
   .cases h
    obtain⟨x,a,es,p,cp,u,rfl,rfl,j,g⟩:=Vf l;obtain⟨g1,g2⟩:=gE C j;refine UG (C.gm.fz x c n u) hr v (lG (λe=>?_) _ g) g1 g2 g;cases q:xE M ai r L d e with
    |none=>exact ok e
    |some f=>exact Q2 C s t d e q
   .cases h
  .cases h
def Jh{q}(h:M6 e=U q):∃p b,e=.Attribute (.Name q.1 p) q.2 b:=by
 revert h;refine abF λa f b g=>λh=>?_;obtain⟨x,d,rfl⟩:=bW.mp h;obtain⟨p,c⟩:=cZ d
 have:=iY g
 dsimp only at this c;subst c;exact⟨p,b,this⟩
def Vg{q}(h:twA e=U q):∃i g f d t p,e=.Tuple [.Attribute (.Name q.1.1 i) q.1.2 g,.Attribute (.Name q.2.1 f) q.2.2 d] t p:=by
 obtain⟨l,n,c⟩:=cj.mp h;obtain⟨t,p,rfl⟩:=Nm n;rcases l with _|⟨a,_|⟨b,_|⟨_,_⟩⟩⟩<;>try(cases c;done)
 obtain⟨u,m,k⟩:=cj.mp<|show(M6 a).bind _=U q from c;obtain⟨v,j,rfl⟩:=bW.mp k;obtain⟨_,_,rfl⟩:=Jh m;obtain⟨_,_,rfl⟩:=Jh j;exact⟨_,_,_,_,_,_,J⟩
def CI(h:xIx M x=U q):∃i,M.xc[q.1]?=U (x,q.2,i):=by
 revert h;refine abc λc d=>λh=>?_;obtain⟨⟨e,f,i⟩,b,rfl⟩:=bW.mp h;have a:=fY<|d
 rw[eQ,b]at a;cases a;exact⟨i,b⟩
def Np(C:Aj M N ai k L X)(n:Nat){b:Fh}{F:FS}(h:U5 M ai n L b hs=U F):PS X (.Try b hs [] [] pos)<|tS (M.P.kt X) F:=by
 match b,hs,h with
 |[s],[.ExceptHandler ty nm su hp],h=>
  revert h;refine abc λy g=>λh=>?_;revert g;refine abc λQ Sv=>λg=>?_;subst Sv;obtain⟨yp,rfl⟩:=cZ g;obtain⟨jr,W,hr⟩:=C.room;have CN:CxOk M N ai k L X.wm:=⟨C.gm,C.N,C.sc,C.calm,C.room⟩;revert h;refine abc λR d=>λh=>?_;subst d;revert h;refine abE λx e h1=>abE λq1 q2 h2=>abc λt h4=>abE λx2 A h5=>λh=>?_;obtain⟨⟨⟨u1,K⟩,u3,u4⟩,h8,h⟩:=cj.mp h;revert h;refine abE λc fo h6=>abc λv E=>abc λi D=>abc λj B=>λh=>?_;obtain⟨⟨⟨H,w,u,r⟩,⟨q,o,m,l⟩,G,I⟩,h⟩:=lQ.mp h;cases h;dsimp only at w u r q o m l;subst q o m l;obtain⟨p1,p2,rfl⟩:=oJ h1;obtain⟨f,a,es,p,cp,k1,k2,rfl,V,z⟩:=Jg h2;cases k2;obtain⟨e7,_⟩:=gD h4;subst e7;obtain⟨p3,p4,rfl⟩:=oJ h5;obtain⟨_,_,_,_,_,_,rfl⟩:=Vg h8;obtain⟨ci,h7⟩:=CI h6;obtain⟨Ca,e1,A,e3,e4,e5,e6,e8⟩:=C.gm.xf.two c y K ci h7;obtain⟨g1,g2⟩:=gE C.toCxOk V;obtain⟨g3,g4⟩:=gE C.toCxOk H;obtain⟨l1,l2,l3,l4⟩:=eE C.toCxOk w;obtain⟨n1,n2,T,S⟩:=eE C.toCxOk u;obtain⟨m1,m2,m3,m4⟩:=eE C.toCxOk r;have Z:=gc (X:=X.wm) (c6 (M:=M) (N:=N) (ai:=ai) (k:=k) n L X.wm CN).1 (a::es) z;exact UM C.xe (C.gm.xs f q1 k1) hr (c_ (bx ..) W) Z g1 g2 z A.at_ g3 g4 e1 e3 e4 e5 e6 e8 C.nd (by rw[C.N];exact fY E) l1 (.inl<|C.fn _) (ir J) (by rw[C.N];exact fY D) n2 T S (by rw[C.sc];exact G) (by rw[C.N];exact fY B) m1 (.inl<|C.fn _) I C.stk C.frm
def Al(C:Aj M N ai k L X)(n:Nat){l:Lc->Fh->FS}(j:∀q,gM X q<|tS (M.P.kt X)<|l L q)(st:f7):PS X st<|tS (M.P.kt X)<|Z7 M ai n l L st:=by
 obtain⟨v,p,s,y⟩:=c6 n L X C.toCxOk;cases st with
 |Assign ts e pos=>
  match ts with
  |[]=>exact dj
  |_::_::_=>exact dj
  |[t]=>
   cases t with
   |Name x _=>exact Ng C n _
   |Tuple es _ _=>exact Nh C n es e
   |Attribute o f _=>exact Ni C n o f e
   |Subscript o b _=>exact Nj C n o b e
   |_=>exact dj
 |AugAssign t op e pos=>exact Nk C n t op e
 |Expr e pos=>exact Vc C n e
 |Return o pos=>cases o with
  |none=>exact TZ
  |some e=>
   exact Y4<|v _
 |If c a b pos=>exact aaz (p _) (j _)<|j _
 |For m it d i pos=>cases i with
  |cons _ _=>exact dj
  |nil=>
   show PS X _<|tS _<|U4 M ai n L _ m it;unfold U4;split
   .exact dj
   .rename_i h
    split
    .rename_i g is r
     obtain⟨gt,q1,q2⟩:=I0 (B:=M.P.kt X) J C.calm C.nd (tgl C) r;exact Y6 C.calm (s m it) q1 q2 (j d) (passes C)<|uU<|by simpa using h
    .exact dj
 |While c d i pos=>cases i with
  |cons _ _=>exact dj
  |nil=>exact Mr _ (p _) (j _)<|passes C
 |Try d hs i w pos=>
  match hs,i,w with
  |[],_,_=>exact dj
  |_::_,_::_,_=>exact dj
  |_::_,[],_::_=>exact dj
  |h::hs,[],[]=>
   show PS X _<|tS _<|match U5 M ai n L d _ with|some F=>F|none=>l L d
   split
   .rename_i F u
    exact Np C n u
   .exact Zg C.xe<|j _
 |Pass _=>exact TV
 |_=>exact dj
def Vh(q:M5 h=O):∃k p,h=U (.Constant .none k p):=by
 unfold M5 at q;split at q
 .rename_i a
  obtain⟨e,rfl,b⟩:=cj.mp a;obtain⟨k,p,rfl⟩:=iG b;exact⟨_,_,J⟩
 .cases q
def Ji(h:Z8 y e=O):∃p q k r,e=.Compare (.Name y p) [.IsNot] [.Constant .none k r] q:=by
 cases e<;>try(cases h;done)
 rename_i a c bs q
 replace h:(decide (asName a=U y)&&decide (c=[.IsNot])&&(rK bs ([]:B1)).any λb=>M5<|U b)=O:=h
 rw[bP,bP]at h;obtain⟨⟨l,j⟩,i⟩:=h;obtain⟨p,rfl⟩:=cZ<|bh l;cases(bh j:c=_);obtain⟨b,g,f⟩:=vR i;obtain⟨d,_⟩:=gD g;subst d;obtain⟨k,r,m⟩:=Vh f;cases m;exact⟨_,_,_,_,J⟩
def Nq(h:at2 y e=O):∃p k q r,e=.Subscript (.Name y p) (.Constant (.int 2) k q) r:=by
 cases e<;>try(cases h;done)
 rename_i a b r
 replace h:(decide (asName a=U y)&&(match fP b with|U<|.int n=>decide<|n=2|_=>ZA))=O:=h
 rw[bP]at h;obtain⟨f,c⟩:=h;obtain⟨p,rfl⟩:=cZ<|bh f;split at c
 .rename_i n d
  cases(bh c:n=2);obtain⟨k,q,rfl⟩:=iG d;exact⟨_,_,_,_,J⟩
 .cases c
def Jj(h:Z9 y st=O):∃s r q b k a d,(b.endLine == a.line)=O/\st=.Expr (.Call (.Attribute (.Subscript (.Name y s) (.Constant (.int 2) k r) q) "clear" b) [] [] a) d:=by
 obtain⟨⟨f,as,ks,a⟩,w,x⟩:=vR h;clear h;obtain⟨e,v,u⟩:=cj.mp w;obtain⟨d,rfl⟩:=Ak v;obtain⟨⟨o,m,b⟩,t,h⟩:=vR x
 replace h:(((at2 y o&&decide (m=("clear" : Str)))&&as.isEmpty)&&ks.isEmpty&&(b.endLine == a.line))=O:=h
 rw[bP,bP,bP,bP]at h;obtain⟨⟨⟨⟨p,c⟩,n⟩,l⟩,j⟩:=h;have c:m=_:=bh c;have i:=jK u;have g:=iY t;dsimp only at i g;subst i g c;cases(nI.mp n:as=[]);cases(nI.mp l:ks=[]);obtain⟨_,_,_,_,rfl⟩:=Nq p;exact⟨_,_,_,_,_,_,_,j,J⟩
def Vi(C:Aj M N ai k L X)(n:Nat){rest:Fh}{F G:FS}(h:À M ai n L st s2=U F)(f:gM X rest<|tS (M.P.kt X) G):gM X (st::s2::rest)<|tS (M.P.kt X)<|ah F G:=by
 revert h;refine abE λy e I=>abc λo H=>abE λx l E=>abE λds ci q=>abc λi D=>λh=>?_;obtain⟨⟨j,d⟩,h⟩:=lQ.mp h;cases h;obtain⟨p1,p2,rfl⟩:=oJ I;obtain⟨R,Q,K,r⟩:=Nn H;obtain⟨a,es,p,cp,k1,k2,k3,m⟩:=oK E;dsimp only at k1 k2 k3 r j d q;subst k1 k2 r;obtain⟨⟨c,b1,b2⟩,B,d⟩:=vR d;dsimp only at d;rw[bP,bP]at d;obtain⟨⟨v,u⟩,t⟩:=d;obtain⟨ip,rfl⟩:=Vd B;cases(nI.mp t:b2=[]);obtain⟨b,g,s⟩:=vR u;obtain⟨g,_⟩:=gD g;subst g;obtain⟨pn,pc,k',S,rfl⟩:=Ji v;obtain⟨p3,p4,Z,W,kk,V,T,w,rfl⟩:=Jj s;obtain⟨jr,z,hr⟩:=C.room;obtain⟨g1,g2⟩:=gE C.toCxOk k3;obtain⟨l1,l2,l3,l4⟩:=eE C.toCxOk j;have A:=gc (X:=X) (c6 (M:=M) (N:=N) (ai:=ai) (k:=k) n L X C.toCxOk).1 (a::es) m;exact ZW (C.gm.fns _ _ _ q) hr (c_ (bx ..) z) A g1 g2 m C.nd (by rw[C.N];exact fY D) l1 l2 l3 l4 (.inl<|C.fn _) (ir J) w f
theorem gj(n:Nat):∀(m:Nat)(L:Lc)(X:Cx),Aj M N ai k L X->∀a,gM X a<|tS (M.P.kt X)<|i7 M ai n m L a
 |0,_,_,_,_=>YY
 |m+1,L,X,C,[]=>YZ
 |m+1,L,X,C,[st]=>Y0<|Al C n (gj n m L X C) st
 |m+1,L,X,C,st::s2::rest=>by
  unfold i7;split
  .rename_i F h
   exact Vi C n h<|gj n m L X C rest
  .exact TU (Al C n (gj n m L X C) st)<|gj n m L X C<|s2::rest
def Vj(h:Á st=U z):∃p,st=.Raise (U z.1) z.2 p:=by
 cases st<;>try(cases h)
 obtain⟨e,a,rfl⟩:=bW.mp h;subst a;exact⟨_,J⟩
def Nr(h:Q0 st=U e):∃p,st=.Return (U e) p:=by
 cases st<;>try(cases h;done)
 cases(h);exact⟨_,J⟩
def Vk(C:CxOk M N ai k L X)(hk:1<=k)(Z:Fv X E)(n:Nat){F:FS}(h:rsF M ai n L e=U F):PS X (.Raise (U e) Y pos)<|tX (M.P.kt X) N E F:=by
 obtain⟨r,W,hI,hO⟩:=c6 n L X C;obtain⟨T,V,hr⟩:=C.room;revert h;refine abE λx l I=>abE λc K G=>λh=>?_;obtain⟨a,es,p,cp,k1,k2,k3,d⟩:=oK I;obtain⟨i,j⟩:=CI G;subst k1 k2;obtain⟨g1,g2⟩:=gE C k3;cases K with
 |some f=>
  cases h;obtain⟨R,o,m,_⟩:=C.gm.xf.two c x f i j;exact IB o Z m (hr.mono<|by lia) (gc r _ d) g1 g2 d
 |none=>
  obtain⟨R,o,m,_⟩:=C.gm.xf.non c x i j;obtain⟨b,D,rfl⟩:=bW.mp<|h;obtain⟨B,_⟩:=gD D;cases B;rw[dO,bP]at d;refine IC o Z m (r _) (λS H Q z=>?_) g1 g2 d.1;obtain⟨g,s,t,w,x,h,q⟩:=z;exact⟨g,s,t,w,x,h,λv g1 H1 A u y=>⟨J,q v g1 H1 A u y⟩⟩
def uY:PS X st<|tX (M.P.kt X) N E b9:=λ_ _ _ _ _ _ z=>by
 rcases z with⟨_,_,_,_,_,h,_⟩|⟨_,_,_,_,_,_,h,_⟩<;>cases h
def Jk(n:Nat)(hk:1<=k)(C:CxOk M N ai k L X)(CS:Aj M N ai k L X.wm)(Z:Fv X E)(K:n9 (cx X.prog X.w) X.A X.env X.xe)(Fd:∀a,PassesOwnAt (cx X.prog X.w) (X.A.mark<|U<|.ref a) X.A X.env X.xe){t:Lc->Fh->FS}(o:∀R,gM X R<|tX (M.P.kt X) N E<|t L R)(st:f7) :
  PS X st<|tX (M.P.kt X) N E<|ľ M ai n t L st:=by
 obtain⟨hE,Q,W,hO⟩:=c6 (M:=M) (N:=N) (ai:=ai) (k:=k) n L X C;have m:∀{e fe},xE M ai (comp M ai n) L xD e=U fe->PE X e (z8 (M.P.kt X) N E fe):=λ{e fe} q=>Q2 C (ZD Z) hE xD e q;have l:∀{e fe},xE M ai (comp M ai n) L xD e=U fe->xQ e=ZA:=λ{e fe} q=>by
  cases e<;>first|rfl|(cases q)
 have plain:PS X st<|tX (M.P.kt X) N E<|lP<|Z7 M ai n (i7 M ai n 200) L st:=aaK λae s S H D I h=>eP (Al CS n (gj n 200 L X.wm CS) st ae s S H D (I.nN _) h) (λ_ _ q=>q.g_) λ_ _ z=>z.elim;unfold ľ;split
 .rename_i F h
  obtain⟨⟨e,ca⟩,f,d⟩:=cj.mp h;obtain⟨p,rfl⟩:=Vj f;obtain⟨q,d⟩:=lQ.mp d;cases(O7.mp q:ca=Y);exact Vk C hk Z n d
 split
 .rename_i fe h
  obtain⟨e,f,d⟩:=cj.mp h;obtain⟨p,rfl⟩:=Ak f;exact UI (m d)<|ir<|l d
 split
 .rename_i fe h
  obtain⟨e,f,d⟩:=cj.mp h;obtain⟨p,rfl⟩:=Nr f;exact ZL<|m d
 split
 .rename_i i fe h
  revert h;refine abE λx e f=>abc λG d=>abc λT v=>λh=>?_;obtain⟨⟨q1,q2⟩,h⟩:=lQ.mp h;cases h;obtain⟨p,p',rfl⟩:=oJ f;obtain⟨l1,l2,l3,l4⟩:=eE C q1;exact ZK CS.nd (by rw[C.N];exact fY v) l1 (m d) (ir<|l d)<|.inl<|CS.fn x
 split
 .rename_i i fe h
  revert h;refine abc λe f=>abE λy a d=>abc λG v=>abc λT h4=>λh=>?_;obtain⟨q1,h⟩:=lQ.mp h;cases h;obtain⟨p,rfl⟩:=Ak f;obtain⟨h5,py,ap,cp,rfl,h6⟩:=uW d;obtain⟨l1,l2,l3,l4⟩:=eE C q1;exact ZM (m v) (by rw[C.N];exact fY h4) l2 l3 l4 h5 h6
 .cases st with
  |If c a b pos=>exact aaL (Q _) (o _)<|o _
  |For r it j u pos=>cases u with
   |cons _ _=>exact uY
   |nil=>
    show PS X _<|tX (M.P.kt X) N E<|if isSet it then b9 else match QU L.N (il L) r with|some (g,_)=>dD (rN<|(comp M ai n).I L r it) g<|t L j|none=>b9
    split
    .exact uY
    .rename_i h
     split
     .rename_i g is V
      obtain⟨gt,q1,q2⟩:=I0 (X:=X) (B:=M.P.kt X) J C.calm CS.nd (λx i f d=>tgl CS x i f d) V;exact ZN C.calm (W r it) q1 q2 (o j) K<|uU<|by simpa using h
     .exact uY
  |While c j u pos=>cases u with
   |nil=>exact MU many (Q _) (o _) K
   |cons _ _=>exact uY
  |_=>exact plain
theorem lH(n:Nat)(hk:1<=k)(C:CxOk M N ai k L X)(d:Aj M N ai k L X.wm)(Z:Fv X E)(b:n9 (cx X.prog X.w) X.A X.env X.xe)(c:∀a,PassesOwnAt (cx X.prog X.w) (X.A.mark<|U<|.ref a) X.A X.env X.xe):∀m e,gM X e<|tX (M.P.kt X) N E<|xS M ai n m L e
 |0,_=>λ_ _ _ _ _ _ z=>by rcases z with⟨_,_,_,_,_,h,_⟩|⟨_,_,_,_,_,_,h,_⟩<;>cases h
 |m+1,[]=>ZJ
 |m+1,[st]=>kR<|Jk n hk C d Z b c (lH n hk C d Z b c m) st
 |m+1,st::s2::rest=>UH (Jk n hk C d Z b c (lH n hk C d Z b c m) st)<|lH n hk C d Z b c m _
abbrev Nt:=List<|Str×Nat
structure Fe where
 cls:Option Str
 x:Str
 qual:Str
 st:f7
 N:Bi
 ps:Bi
 mu:Bi
 sl:Bool
 ds:FR
def noFn:Fn:=λ_ _=>.bad
def Vl(b:Bool)(f:Fn):Fn:=if b then aK f else f
def Ç(e:Fe):Bool:=e.mu.contains ("raise" : Str)
def xW(M:Gm)(ai:Nat->Fn)(e:Fe):FS:=match Ç e with
 |false=>i7 M ai 60 200 ⟨e.N,aJ e.st,e.mu⟩<|cP e.st
 |true=>xS M ai 60 200 ⟨e.N,aJ e.st,e.mu⟩<|cP e.st
def xX(M:Gm)(ai:Nat->Fn)(e:Fe):Fn:=Vl e.sl<|aC e.ps.length e.N.length<|xW M ai e
def iH(M:Gm)(Ft:List Fe):Nat->Nat->Fn
 |0,_=>noFn
 |n+1,i=>match Ft[i]? with
  |some e=>xX M (iH M Ft n) e
  |none=>noFn
def Am(K:bG)(x:Str):Option bp:=match qY K eR x with
 |U<|U<|.ref a=>U a
 |_=>Y
def gf{a:bp}(h:Am K x=U a):qY K eR x=U (U<|.ref a):=by
 unfold Am at h;split at h
 .rename_i e;cases h;exact e
 .cases h
def aaS(K:bG)(C:bp)(m:Str):Option bp:=match fQ K (.ref C) m with
 |U<|U<|.ref a=>U a
 |_=>Y
def Ŀ(K:bG)(C:bp)(ns:Bi):Bool:=vS K C y0&&vU K C&&Fy K C&&decide (fQ K (.ref C) "__setattr__" = U (U<|.builtin "object.__setattr__")) &&
 decide (fQ K (.ref C) "__class__" = U (U<|.builtin Kj))&&decide (DB K C (.type "object")=U O)&&ns.all (λf=>decide<|fQ K (.ref C) f=U Y)&&decide ns.Nodup&&decide (Kk ns<=100)
def subB(K:bG)(cn:Bi)(C:bp)(l:B1):Bool:=(df cn.length).all λd=>match cn[d]? with
 |none=>O
 |some n=>(match Am K n with
  |some D=>decide<|tU K (.ref C) (.ref D)=U (decide<|d∈l)
  |none=>ZA)
def È(K:bG)(P:Pg):Bool:=(df P.cn.length).all λc=>match P.cn[c]? with
 |none=>O
 |some n=>(match Am K n,P.fn[c]?,P.sub[c]? with
  |some C,some ns,some l=>Ŀ K C ns&&subB K P.cn C l
  |_,_,_=>ZA)
def gtB(K:bG):Bool:=decide (AM K (.builtin Kj) "__get__" = U (U<|.builtin "getset_descriptor.__get__"))&&decide (AN K (.builtin Kj)=U O)
def Q3(K:bG)(mg:Str->D2):Prop:=∀x o,qY K eR x=U o->mg x=o
def Vm(X:K.In h)(G:h.Ns eR mg):Q3 K mg:=λx o e=>by
 cases o with
 |none=>exact PySem.W.mg_none_of X G e
 |some v=>exact PySem.W.mg_of X G e
def s_(h:È K P=O){c:Nat}(a:P.cn[c]?=U n):∃C ns l,Am K n=U C/\P.fn[c]?=U ns/\P.sub[c]?=U l/\Ŀ K C ns=O/\subB K P.cn C l=O:=by
 have:=dP.mp h c<|DF.mpr (dq.mp a).1
 rw[a]at this;dsimp only at this;split at this
 .rename_i C ns l e d b
  rw[bP]at this;exact⟨C,ns,l,e,d,b,this.1,this.2⟩
 .cases this
def p_(g:Q3 K mg){C:bp}(c:Am K n=U C)(h:Ŀ K C ns=O):Wi K mg n ns C:=by
 unfold Ŀ at h;simp only[bP,eg]at h;obtain⟨⟨⟨⟨⟨⟨⟨⟨p,o⟩,m⟩,l⟩,k⟩,j⟩,i⟩,e⟩,d⟩:=h;have a:=gf c;exact⟨a,g _ _ a,e,d,⟨p,o,m,l⟩,λf b=>show fQ K _ f=U Y from bh<|dP.mp i f b,k,j⟩
def É(g:Q3 K mg)(h:È K P=O)(a:gtB K=O):nW K mg P:=by
 refine⟨λc n ns i b=>?_,λc d n n' C D l i b q p o=>?_,?_⟩
 .obtain⟨C,r,l,f,j,_,m,_⟩:=s_ h i
  rw[b]at j;cases j;exact⟨C,p_ g f m⟩
 .obtain⟨u,r,s,f,_,k,_,hs⟩:=s_ h i
  rw[o]at k;cases k;have e:=(g _ _<|gf f).symm.trans q;cases e;have:=dP.mp hs d<|DF.mpr (dq.mp b).1
  rw[b]at this;dsimp only at this;split at this
  .rename_i t hd
   have e:=(g _ _<|gf hd).symm.trans p;cases e;exact bh this
  .cases this
 .unfold gtB at a
  rw[bP]at a;exact⟨bh a.1,bh a.2⟩
def Nu(K:bG)(e:Fe):Option bp:=match e.cls with
 |none=>Am K e.x
 |some c=>(Am K c).bind λC=>aaS K C e.x
def Q4(K:bG)(e:Fe):Option eh:=(Nu K e).bind λf=>match K.lookup f with
 |some ⟨_,_,.func fd,_⟩=>U fd
 |_=>Y
def ED(e:Fe)(fd:eh):eh:=yN e.x e.qual (iT e.st) (cP e.st) (aJ e.st) fd.defaults fd.kwdefaults fd.doc fd.pyModule fd.annotations fd.code fd.closureTuple
def scB(e:Fe):Bool:=decide ((aJ e.st).kind=.function)&&!(aJ e.st).isCoroutine&&!(aJ e.st).isGenerator&&decide e.N.Nodup&&decide (e.N.take e.ps.length=e.ps)&&e.ps.all (λx=>decide ((aJ e.st).names.lookup x=U .local) ||decide ((aJ e.st).names.lookup x=U .cell))&&(aJ e.st).names.all (λy=>decide<|y.2≠.free)
def CJ:T->ar->Bool
 |.int i,.int j _=>decide<|i=j
 |.str l,.str s _=>decide (s.cps.toList=l)&&decide (l.length<=1000000)
 |.bl b,.bool c=>b == c
 |.non,.none=>O
 |_,_=>ZA
def fk:T->V
 |.int i=>.int i
 |.str l=>SV l
 |.bl b=>.bl b
 |_=>.non
def CK{t:T}(h:CJ t u=O):RelV (fk t) u/\∀(B:KT)al H,Rep B al H t<|fk t:=by
 unfold CJ at h;split at h
 .have h:=bh h
  subst h;exact⟨⟨_,J⟩,λ_ _ _=>J⟩
 .rename_i l s tk
  rw[bP]at h;have a:=bh h.1;subst a;exact⟨⟨tk,J⟩,λ_ _ _=>⟨J,bh h.2⟩⟩
 .have h:=eq_of_beq h
  subst h;exact⟨J,λ_ _ _=>J⟩
 .exact⟨J,λ_ _ _=>J⟩
 .cases h
def ku:FR->B2->Bool
 |[],[]=>O
 |t::ts,u::us=>CJ t u&&ku ts us
 |_,_=>ZA
theorem qa:∀{ts:FR}{us:B2},ku ts us=O->Vals (ts.map fk) us/\∀(B:KT)al H,aE B al H ts<|ts.map fk
 |[],[],_=>⟨.nil,λ_ _ _=>J⟩
 |t::ts,u::us,h=>by
  rw[ku,bP]at h;obtain⟨a,b⟩:=CK h.1;obtain⟨c,d⟩:=qa h.2;exact⟨.cons a c,λB al H=>⟨_,_,J,b B al H,d B al H⟩⟩
 |[],_::_,h=>by cases h
 |_::_,[],h=>by cases h
def dfB(K:bG)(ds:FR)(b:ar):Bool:=match ds with
 |[]=>(match b with
  |.none=>O
  |_=>ZA)
 |_::_=>(match b with
  |.ref a=>(match K.lookup a with
   |some ⟨_,_,.seq c _,_⟩=>ku ds c.toList
   |_=>ZA)
  |_=>ZA)
def ŀ(K:bG)(e:Fe):Bool:=match Nu K e,Q4 K e with
 |some f,some fd=>kK K (.ref f)&&DA K (.ref f)&&FJ K fd.code e.qual&&scB e&&dfB K e.ds fd.defaults
 |_,_=>ZA
def Bn(e:Fe):Prop:=match e.ds with
 |[]=>∀(kV c d:ar)(an:Option bp)(f ct:ar)(b:B2),Kk b=Kk e.ps->bindArgs (yN e.x e.qual (iT e.st) (cP e.st) (aJ e.st) .none kV c d an f ct) ⟨b,[]⟩=pure (e.ps.zip b)
 |ds=>∀(kV c d:ar)(an:Option bp)(f ct:ar)(s:ag)(a:bp)(o:Obj)(g:B2)(n:Nat)(b:B2),s.heap.get? a=U o->o.data=.seq g.toArray n->Kk g=Kk ds ->
  ((b++g).length=Kk e.ps->HY s (yN e.x e.qual (iT e.st) (cP e.st) (aJ e.st) (.ref a) kV c d an f ct) ⟨b,[]⟩ (e.ps.zip<|b++g)) /\
  (Kk b=Kk e.ps->HY s (yN e.x e.qual (iT e.st) (cP e.st) (aJ e.st) (.ref a) kV c d an f ct) ⟨b,[]⟩ (e.ps.zip b))
structure qc(K:bG)(e:Fe)(f:bp)(fd:eh):Prop where
 at_:Nu K e=U f
 fn:xx K e.x e.qual e.st f fd
 sc:gO e.N e.ps<|aJ e.st
 isf:DA K (.ref f)=O
 bs:e.ds=[]->∀us:B2,Kk us=Kk e.ps->bindArgs fd ⟨us,[]⟩=pure (e.ps.zip us)
 bf:Binds K fd e.ps []
 bd:∃(gF:B2)(dV:List V),Binds K fd e.ps gF/\Vals dV gF/\∀(B:KT)al H,aE B al H e.ds dV
def qc.bn{e:Fe}(F:qc K e f fd)(_:e.ds=[]):Binds K fd e.ps []:=F.bf
theorem mP:∀{ts:FR}{us:B2},ku ts us=O->Kk us=Kk ts
 |[],[],_=>J
 |t::ts,u::us,h=>by
  rw[ku,bP]at h;simp[mP h.2]
 |[],_::_,h=>by cases h
 |_::_,[],h=>by cases h
def Ê{e:Fe}(h:ŀ K e=O)(q:Q4 K e=(Q4 K e).map (ED e))(b:Bn e):∃f fd,qc K e f fd:=by
 unfold ŀ at h;split at h
 case h_2=>cases h
 rename_i f fd u i;simp only[bP]at h;obtain⟨⟨⟨⟨M,L⟩,I⟩,p⟩,c⟩:=h;rw[i]at q;injection q with q
 have l:∃m od k,K.lookup f=U ⟨m,od,.func fd,k⟩:=by
  unfold Q4 at i;rw[u]at i;dsimp only[Option.bind]at i;split at i
  .rename_i m od N k e
   cases i;exact⟨m,od,k,e⟩
  .cases i
 obtain⟨m,od,k,l⟩:=l;have F:xx K e.x e.qual e.st f fd:=⟨⟨m,od,fd.defaults,fd.kwdefaults,fd.doc,fd.pyModule,fd.annotations,fd.code,fd.closureTuple,k,q,l,I⟩,M⟩;have bs:e.ds=[]->∀g:B2,Kk g=Kk e.ps->bindArgs fd ⟨g,[]⟩=pure (e.ps.zip g):=λh g j=>by
  unfold Bn at b;rw[h]at b c;unfold dfB at c;dsimp only at b c;split at c
  .rename_i hd
   rw[q];unfold ED;rw[hd];exact b _ _ _ _ _ _ g j
  .cases c
 have bd:(∃(v:B2)(w:List V),Binds K fd e.ps v/\Vals w v/\∀(B:KT)al H,aE B al H e.ds w)/\Binds K fd e.ps []:=by
  cases o:e.ds with
  |nil=>exact⟨⟨[],[],.all<|bs o,.nil,λ_ _ _=>J⟩,.all<|bs o⟩
  |cons d ds=>
   unfold Bn at b;rw[o]at b c;unfold dfB at c;dsimp only at b c;split at c
   case h_2=>cases c
   rename_i a hd;split at c
   case h_2=>cases c
   rename_i D C r n' P n;obtain⟨A,z⟩:=qa c;refine⟨⟨r.toList,_,λs g t j=>?_,A,λB al H=>z B al H⟩,λs g t j=>?_⟩
   .rw[q]
    unfold ED;rw[hd];exact(b _ _ _ _ _ _ s a _ r.toList n' g (t _ _ n) J<|mP c).1 j
   .rw[cJ]at j ⊢
    rw[q];unfold ED;rw[hd];exact(b _ _ _ _ _ _ s a _ r.toList n' g (t _ _ n) J<|mP c).2 j
 refine⟨f,fd,u,F,?_,L,bs,bd.2,bd.1⟩;unfold scB at p;simp only[bP,eg]at p;obtain⟨⟨⟨⟨⟨⟨g1,g2⟩,g3⟩,g4⟩,g5⟩,g6⟩,g7⟩:=p;refine⟨g1,by simpa using g2,by simpa using g3,g4,g5,λx G=>?_,λy E=>bh<|dP.mp g7 y E⟩
 have:=dP.mp g6 x G
 rw[vY]at this;exact this.imp bh bh
section
variable{Ft:List Fe}{It:Nt}
def hvB(e:Fe):Bool:=e.N.all λx=>(decide ((aJ e.st).names.lookup x=U .local) ||decide ((aJ e.st).names.lookup x=U .cell))&&!lE x
def Q5{e:Fe}(h:hvB e=O):∀(i:Nat)(x:Str),e.N[i]?=U x->mX (aJ e.st) x/\bB x/\f9 x:=λi x a=>by
 have:=dP.mp h x<|jf a
 rw[bP,vY]at this;refine⟨this.1.elim (λh=>.inl<|bh h) λh=>.inr<|.inl<|bh h,U6<|by simpa using this.2⟩
def mkB(K:bG)(C f:bp):Bool:=vV K C&&decide (fQ K (.ref C) "__init__" = U (U<|.ref f))&&kK K (.ref C)
def Jl(K:bG)(M:Gm)(Ft:List Fe)(It:Nt)(c:Nat)(x:Str)(t:Bi->Fe->Bool):Bool:=match M.P.cn[c]?,M.P.fn[c]?,(It.lookup x).bind λi=>Ft[i]? with
 |some n,some ns,some e=>decide (n=x)&&(match Am K x,Nu K e with
  |some C,some f=>mkB K C f&&e.ds.isEmpty&&t ns e
  |_,_=>ZA)
 |_,_,_=>ZA
def fzB(n:Nat)(ns:Bi)(e:Fe):Bool:=hvB e&&pR e.N 1 (cP e.st) ns&&decide (Kk e.ps=Kk ns+1)&&decide (Kk ns=n)
def cpB(K:bG)(ns:Bi)(e:Fe):Bool:=hvB e&&decide (Kk e.ps=2)&&decide (qY K eR "list" = U Y)&&decide ((aJ e.st).names.lookup ("list" : Str)=U .globalImplicit)&&(match cP e.st with
 |[Zc]=>(match uM Zc with
  |some (a,n,q)=>decide (ns=[n])&&decide (e.N[0]?=U a)&&decide (e.N[1]?=U q)
  |none=>ZA)
 |_=>ZA)
def Ł(K:bG)(M:Gm)(Ft:List Fe)(It:Nt)(x:Str):Ck->Bool
 |.fz c n=>Jl K M Ft It c x<|fzB n
 |.z0 c=>(match M.P.cn[c]?,Am K x with
  |some n,some C=>decide (n=x)&&vV K C&&decide (fQ K (.ref C) "__init__" = U (U<|.builtin "object.__init__"))&&kK K (.ref C)
  |_,_=>ZA)
 |.cp c=>Jl K M Ft It c x<|cpB K
 |.nw c i=>decide (It.lookup x=U i)&&Jl K M Ft It c x λ_ _=>O
def dsB:FR->FR->Bool
 |[],[]=>O
 |[.int i],[.int j]=>decide<|i=j
 |_,_=>ZA
def Nv{a b:FR}(h:dsB a b=O):a=b:=by
 unfold dsB at h;split at h
 .rfl
 .rw[bh h]
 .cases h
def Ë(K:bG)(Ft:List Fe)(p:Str×FR×Nat):Bool:=match Ft[p.2.2]? with
 |some e=>decide (e.cls=Y)&&decide (e.x=p.1)&&(p.2.1.isEmpty ||dsB p.2.1 e.ds)
 |none=>ZA
def Ì(K:bG)(M:Gm)(Ft:List Fe)(m:Str)(p:Nat×Nat):Bool:=match M.P.cn[p.1]?,M.P.fn[p.1]?,Ft[p.2]? with
 |some n,some ns,some e=>(match Am K n,Nu K e with
  |some C,some f=>decide (fQ K (.ref C) m=U (U<|.ref f))&&e.ds.isEmpty&&!ns.contains m
  |_,_=>ZA)
 |_,_,_=>ZA
def ecB(K:bG)(C:bp):Bool:=decide (fQ K (.ref C) "__getattribute__" = U (U<|.builtin Ki))&&decide (fQ K (.ref C) "__getattr__" = U Y)&&decide (fQ K (.ref C) "__class__" = U (U<|.builtin Kj))&&decide (DB K C (.type "BaseException")=U O)&&decide (DB K C (.type "object")=U O) &&
 decide (fQ K (.ref C) "__setattr__" = U (U<|.builtin "object.__setattr__"))&&vU K C&&(PySem.W.clsIn K C).any (λa=>Ce a.mro)&&kK K (.ref C)
def ł(K:bG)(C:bp)(f:Str):Bool:=decide<|fQ K (.ref C) f=U Y
def Nx(s f p:Str)(st:f7):Bool:=match BX st with
 |some (a,b,e)=>decide (a=s)&&decide (b=f)&&decide (asName e=U p)
 |none=>ZA
def un{b:Type}:List b->Option (b×List b)
 |[]=>Y
 |a::r=>U (a,r)
def uh{a:Type}{l:List a}{p}(h:un l=U p):l=p.1::p.2:=by
 cases l<;>cases h;rfl
def l2{a:Type}(l:List a):Option<|a×a:=(un l).bind λp=>(un p.2).bind λq=>if q.2.isEmpty=O then U (p.1,q.1)else Y
def Jm{c:Type}{l:List c}{p}(h:l2 l=U p):l=[p.1,p.2]:=by
 revert h;refine abc λa e=>abc λb d=>λh=>?_;obtain⟨z,h⟩:=lQ.mp h;cases h;rw[uh e,uh d,nI.mp z]
def l3{a:Type}(l:List a):Option<|a×a×a:=(un l).bind λp=>(l2 p.2).map λq=>(p.1,q)
def Vn{c:Type}{l:List c}{p}(h:l3 l=U p):l=[p.1,p.2.1,p.2.2]:=by
 revert h;refine abc λa e=>λh=>?_;obtain⟨b,d,rfl⟩:=bW.mp h;rw[uh e,Jm d]
def mkV(f g:Str)(e:Fe):Bool:=(l2<|cP e.st).any λb=>(l3 e.ps).any λs=>decide (e.N=[s.1,s.2.1,s.2.2])&&Nx s.1 f s.2.1 b.1&&Nx s.1 g s.2.2 b.2&&!lE s.1&&!lE s.2.1&&!lE s.2.2&&e.ds.isEmpty
def Í(K:bG)(Ft:List Fe)(C:bp)(f g:Str)(i:Nat):Bool:=match Ft[i]? with
 |some e=>(match Nu K e with
  |some a=>MM K C a&&mkV f g e
  |none=>ZA)
 |none=>ZA
def Vo(K:bG)(M:Gm)(Ft:List Fe)(q:Str×Option Str×Nat):Bool:=match Am K q.1 with
 |some C=>(match q.2.1 with
  |some f=>ecB K C&&ł K C f&&ł K C M.xg&&decide (M.xg≠f)&&Í K Ft C f M.xg q.2.2&&decide (vW K (.ref C) (.ref C)=U O)
  |none=>OW K C Uz "ValueError.__new__" && decide (vW K (.ref C) (.ref C)=U O))
 |none=>ZA
def EE(K:bG)(M:Gm):XN:=M.xc.map λq=>((Am K q.1).getD 0,q.2.1.map λf=>(f,M.xg))
def Ny(Ft:List Fe)(i:Nat):Bool:=match Ft[i]? with
 |some e=>Ç e
 |none=>ZA
def Î(K:bG)(M:Gm)(Ft:List Fe):Bool:=M.xc.all (Vo K M Ft)&&M.xs.all (λp=>Ë K Ft (p.1,[],p.2)&&Ny Ft p.2)&&M.xt.all λp=>Ì K M Ft p.1 p.2&&Ny Ft p.2.2
def Vp(K:bG)(M:Gm)(Ft:List Fe)(It:Nt):Bool:=È K M.P&&gtB K&&Ft.all (ŀ K)&&M.fs.all (Ë K Ft)&&M.cl.all (λp=>Ł K M Ft It p.1 p.2)&&M.ms.all (λp=>p.2.all<|Ì K M Ft p.1)&&M.bl.all (λx=>decide<|qY K eR x=U Y)&&Î K M Ft
structure ModOk(K:bG)(M:Gm)(Ft:List Fe)(It:Nt):Prop where
 b:Vp K M Ft It=O
 q:Ft.map (Q4 K)=Ft.map λe=>(Q4 K e).map<|ED e
 bn:∀e∈Ft,Bn e
theorem Jo{c d:Type}{f g:c->d}:∀{l:List c},l.map f=l.map g->∀a∈l,f a=g a
 |[],_,a,h=>by simp at h
 |b::l,e,a,h=>by
  rw[f6]at e;injection e with e1 e2
  rcases bH.mp h with rfl|h
  .exact e1
  .exact Jo e2 a h
def ModOk.split(n:ModOk K M Ft It):È K M.P=O/\gtB K=O/\(∀e∈Ft,ŀ K e=O)/\(∀p∈M.fs,Ë K Ft p=O)/\(∀p∈M.cl,Ł K M Ft It p.1 p.2=O)/\(∀p∈M.ms,∀q∈p.2,Ì K M Ft p.1 q=O)/\(∀x∈M.bl,qY K eR x=U Y)/\Î K M Ft=O:=by
 have h:=n.b;unfold Vp at h;simp only[bP]at h;obtain⟨⟨⟨⟨⟨⟨⟨m,l⟩,k⟩,j⟩,i⟩,g⟩,f⟩,d⟩:=h;exact⟨m,l,dP.mp k,dP.mp j,dP.mp i,λp c=>dP.mp<|dP.mp g p c,λx a=>bh<|dP.mp f x a,d⟩
def ModOk.fe(a:ModOk K M Ft It){e:Fe}(h:e∈Ft):∃f fd,qc K e f fd:=Ê (a.split.2.2.1 e h) (Jo a.q e h)<|a.bn e h
def Nz:cX P w K mg base kH k f fd ps<|qW B noFn:=
 ⟨by rintro a H Q E ⟨_,_,_,_,_,_,_,h,_⟩;exact(by cases h),by rintro _ _ _ _ _ _ _ _ _ _ _ _ _ ⟨_,_,_,_,_,_,_,h,_⟩;exact(by cases h)⟩
def An(g:Q3 K mg)(u:ModOk K M Ft It){c:Nat}{t:Bi->Fe->Bool}(h:Jl K M Ft It c x t=O):∃C ns e i f fd,M.P.cn[c]?=U x/\M.P.fn[c]?=U ns/\It.lookup x=U i/\Ft[i]?=U e/\qc K e f fd/\Mk K C f/\Wi K mg x ns C/\t ns e=O/\e.ds=[]:=by
 unfold Jl at h;split at h
 case h_2=>cases h
 rename_i n ns e k j p;obtain⟨i,o,d⟩:=cj.mp p;rw[bP]at h;obtain⟨a,h⟩:=h;have a:=bh a;subst a;split at h
 case h_2=>cases h
 rename_i C f b m;obtain⟨q,fd,F⟩:=u.fe<|jf d
 have:=F.at_.symm.trans m
 cases this;obtain⟨s,r,l,g1,g2,_,g3,_⟩:=s_ u.split.1 k;rw[b]at g1;cases g1;rw[j]at g2;cases g2;unfold mkB at h;simp only[bP,eg]at h;exact⟨C,ns,e,i,_,fd,k,j,o,d,F,⟨h.1.1.1.1,h.1.1.1.2,F.isf,h.1.1.2⟩,p_ g b g3,h.2,nI.mp h.1.2⟩
def EF{c:Type}{l:List<|Nat×c}{x:Nat}{a:c}(h:l.lookup x=U a):(x,a)∈l:=by
 induction l with
 |nil=>simp at h
 |cons p l d=>
  rw[j3]at h;split at h
  .rename_i e
   cases h;rw[eq_of_beq e];exact d_ ..
  .exact ed _<|d h
def Wi.EG{c:Nat}{C:bp}(F:Wi K mg x ns C)(b:P.cn[c]?=U x)(a:P.fn[c]?=U ns):iD (ig P K Pr w) c C ns:=⟨x,b,a,F.nd,F.at_⟩
def xY{a b c:Str}(h:Nx a b c st=O):∃j i f g,st=.Assign [.Attribute (.Name a j) b i] (.Name c f) g:=by
 unfold Nx at h;split at h
 .rename_i x y e d
  simp only[bP,eg]at h;obtain⟨⟨rfl,rfl⟩,k⟩:=h;obtain⟨f,rfl⟩:=cZ k;obtain⟨_,_,_,d⟩:=uI d;exact⟨_,_,_,_,d⟩
 .cases h
def Jp{C:bp}{e:Fe}(F:qc K e f fd)(Z:mJ K C)(n1:bK K C xf)(n2:bK K C xg)(ne:xg≠xf)(h:mkV xf xg e=O):cX Pr w K mg base kH 1 f fd e.ps (Iq C xf xg)/\e.ps.length=3/\e.ds=[]:=by
 obtain⟨⟨a,b⟩,d,h⟩:=vR h;obtain⟨⟨s,p,q⟩,c,h⟩:=vR h;have d:=Jm d;have c:=Vn c;simp only[bP,eg,yQ]at h;obtain⟨⟨⟨⟨⟨⟨I,G⟩,D⟩,B⟩,y⟩,t⟩,r⟩:=h;refine⟨?_,by rw[c];rfl,nI.mp r⟩
 obtain⟨_,_,_,_,o⟩:=xY G;obtain⟨_,_,_,_,L⟩:=xY D;have sc:=F.sc;rw[I,c]at sc;rw[c];have g:∀x∈[s,p,q],mX _ x:=λx n=>(sc.par x n).elim .inl λz=>.inr<|.inl z;refine F.fn.ok sc (λi H Q E j=>by obtain⟨_,_,_,_,_,z,_⟩:=j;rw[z];rfl) λm A outer sh H i Q E hr h=>?_
 rw[d,o,L];refine⟨_,ML Z n1 n2 ne J (g s<|by simp) (g p<|by simp) (g q<|by simp) (U6 B) (U6 y)<|U6 t,i,?_,?_⟩
 .obtain⟨_,_,_,_,_,z,_⟩:=h
  rw[z];rfl
 .obtain⟨a,u,v,l,k,z,h⟩:=h
  exact⟨a,u,v,l,k,z,h⟩
def Ï{C:bp}(gt:gtB K=O)(h:ecB K C=O):mJ K C/\aaM K C/\kK K (.ref C)=O:=by
 unfold ecB at h;simp only[bP,eg]at h;obtain⟨⟨⟨⟨⟨⟨⟨⟨a1,a2⟩,a3⟩,a6⟩,a7⟩,a8⟩,a9⟩,b⟩,a⟩:=h;unfold gtB at gt;simp only[bP,eg]at gt;exact⟨⟨a1,a2,a8,a9,b⟩,⟨a1,a2,a3,gt.1,gt.2,a6,a7⟩,a⟩
def Q6{c:Nat}{C:bp}(h:M.xc[c]?=U (x,f,i))(a:Am K x=U C):(EE K M)[c]?=U (C,f.map λf=>(f,M.xg)):=by
 unfold EE;rw[eQ,h];show U ((Am K x).getD 0,f.map λf=>(f,M.xg))=_;rw[a];rfl
def Vq(g:Q3 K mg)(r:ModOk K M Ft It):XsF M Pr w K mg base<|EE K M:=by
 obtain⟨_,gt,_,_,_,_,_,h⟩:=r.split;unfold Î at h;simp only[bP,dP]at h;obtain⟨⟨d,n⟩,m⟩:=h;refine⟨λc x f i h=>?_,λc x i h=>?_⟩
 .have q:=d _<|jf h
  unfold Vo at q;split at q
  case h_2=>cases q
  rename_i C a;dsimp only at q a;simp only[bP,eg]at q;obtain⟨⟨⟨⟨⟨q1,q2⟩,b⟩,q4⟩,q5⟩,q6⟩:=q;obtain⟨es,p,kp⟩:=Ï gt q1;have n1:bK K C f:=by unfold bK;unfold ł at q2;exact decide_eq_true_eq.mp q2
  have n2:bK K C M.xg:=by unfold bK;unfold ł at b;exact decide_eq_true_eq.mp b
  unfold Í at q5;split at q5
  case h_2=>cases q5
  rename_i e k;split at q5
  case h_2=>cases q5
  rename_i l j;rw[bP]at q5;obtain⟨o,fd,F⟩:=r.fe<|jf k;cases F.at_.symm.trans j;obtain⟨m1,m2,m3⟩:=Jp (Pr:=Pr) (w:=w) (mg:=mg) (base:=base) F es n1 n2 q4 q5.2;exact⟨C,Q6 h a,⟨⟨l,fd,e.ps,q5.1,F.isf,m1,m2,F.bn m3⟩,kp,g _ _<|gf a⟩,q6,es,n1,n2,q4⟩
 .have q:=d _<|jf h
  unfold Vo at q;split at q
  case h_2=>cases q
  rename_i C a;dsimp only at q a;rw[bP]at q;exact⟨C,Q6 h a,⟨q.1,g _ _<|gf a⟩,bh q.2⟩
def xZ{e:Fe}(F:qc K e f fd)(G:Ae M N Pr w K mg base ai k)(hk:1<=k)(b:Ç e=O):cX Pr w K mg base (sV Pr w) (k+2) f fd e.ps<|vO (ig M.P K Pr w) N<|xX M ai e:=by
 have a:cX Pr w K mg base (sV Pr w) (k+2) f fd e.ps<|vO (ig M.P K Pr w) N<|aC e.ps.length e.N.length<|xW M ai e:=by
  unfold xW;rw[b];refine MV F.fn F.sc λc A outer s H E hr Z=>?_;exact lH 60 hk ⟨G,J,J,J,k+1,bL _,hr⟩ ⟨⟨G,J,J,J,k+1,bL _,hr⟩,λ_=>J,F.sc.nd,J,J,J⟩ Z PassesOwn.leaving (λ_=>PassesOwnAt.leaving) 200 _
 unfold xX Vl;split
 .exact ID a
 .exact a
def NB{e:Fe}(F:qc K e f fd)(G:Ae M N Pr w K mg base ai k)(hk:1<=k):cX Pr w K mg base kH (k+2) f fd e.ps<|qW (ig M.P K Pr w)<|xX M ai e:=by
 cases b:Ç e with
 |true=>exact UK<|xZ F G hk b
 |false=>
 have a:cX Pr w K mg base kH (k+2) f fd e.ps<|qW (ig M.P K Pr w)<|aC e.ps.length e.N.length<|xW M ai e:=by
  refine Ub F.fn F.sc λc A outer s H E hr=>?_;unfold xW;rw[b];exact gj 60 200 _ _ ⟨⟨G,J,J,J,k+1,bL _,hr⟩,λ_=>J,F.sc.nd,J,J,J⟩ _
 unfold xX Vl;split
 .exact Ms a
 .exact a
def CL{e:Fe}(F:qc K e f fd)(he:Ft[i]?=U e)(h:∀m,n=m+1->Ae M N Pr w K mg base (iH M Ft m) (2*m+1)):cX Pr w K mg base kH (2*n+1) f fd e.ps<|qW (ig M.P K Pr w)<|iH M Ft n i:=by
 cases n with
 |zero=>exact Nz
 |succ m=>
  have:=NB F (h m J)<|DE ..
  unfold iH;rw[he];exact this
def x8{e:Fe}(F:qc K e f fd)(he:Ft[i]?=U e)(a:Ç e=O)(h:∀m,n=m+1->Ae M N Pr w K mg base (iH M Ft m) (2*m+1)):cX Pr w K mg base (sV Pr w) (2*n+1) f fd e.ps<|vO (ig M.P K Pr w) N<|iH M Ft n i:=by
 cases n with
 |zero=>exact⟨λb H Q E z=>(by rcases z with⟨_,_,_,_,_,_,_,h,_⟩|⟨_,_,_,_,_,_,_,_,h,_⟩<;>cases h),λ_ _ _ _ _ _ _ _ _ _ _ _ _ z=>(by rcases z with⟨_,_,_,_,_,_,_,h,_⟩|⟨_,_,_,_,_,_,_,_,h,_⟩<;>cases h)⟩
 |succ m=>
  have:=xZ F (h m J) (DE ..) a
  unfold iH;rw[he];exact this
def Vr(g:Q3 K mg)(qD:ModOk K M Ft It)(T:∀x t,M.cs.lookup x=U t->B5 K mg x t):∀n,Ae M (EE K M) Pr w K mg base (iH M Ft n)<|2*n+1:=by
 intro n
 induction n using Nat.strongRecOn with
 |ind n y=>
 have call:∀{i:Nat}{e:Fe}{f:bp}{fd:eh},qc K e f fd->Ft[i]?=U e->cX Pr w K mg base kH _ f fd e.ps (qW _<|iH M Ft n i):=λF d=>CL F d λm B=>y m (by lia)
 obtain⟨o1,o2,o3,Q,p,N,L,o⟩:=qD.split;have pg:=É g o1 o2;refine⟨pg,T,λx ds i h=>?_,λx c k h=>?_,λx c h=>?_,λx c h=>?_,λx c i h=>?_,λm l c i s r=>?_,λx h=>g x Y<|L x h,Vq g qD,λx i h=>?_,λm c i h=>?_⟩
 .have q:=Q _<|dE h
  unfold Ë at q;dsimp only at q;split at q
  case h_2=>cases q
  rename_i e d;rw[bP,bP]at q;obtain⟨⟨q2,a⟩,q1⟩:=q;have q2:=bh q2;have a:=bh a;subst a;obtain⟨f,fd,F⟩:=qD.fe<|jf d;have j:=F.at_;unfold Nu at j;rw[q2]at j;rcases Bool.or_eq_true_iff.mp q1 with q1|q1
  .cases nI.mp q1
   exact⟨f,fd,e.ps,[],[],call F d,g _ _<|gf j,F.fn.kp,F.bf,.nil,λal H=>J⟩
  .obtain⟨W,Z,b1,b2,b3⟩:=F.bd
   exact⟨f,fd,e.ps,W,Z,call F d,g _ _<|gf j,F.fn.kp,b1,b2,λal H=>Nv q1▸b3 _ al H⟩
 .obtain⟨C,ns,e,i,f,fd,c1,c2,u,A,F,m,cl,q,q9⟩:=An g qD<|p _<|dE h
  unfold fzB at q;simp only[bP,eg]at q;obtain⟨⟨⟨q1,q2⟩,a⟩,q4⟩:=q;exact⟨C,f,fd,e.ps,ns,cl.EG c1 c2,q4,cl.gl,m,Mw F.fn F.sc (Q5 q1) q2 a cl.cl cl.na cl.nd cl.Ed,F.bn q9⟩
 .have q:=p _<|dE h
  unfold Ł at q;dsimp only at q;split at q
  case h_2=>cases q
  rename_i n' C s r;simp only[bP,eg]at q;obtain⟨⟨⟨q1,q2⟩,a⟩,q4⟩:=q;subst q1;obtain⟨D,ns,l,g1,g2,_,g3,_⟩:=s_ o1 s;rw[r]at g1;cases g1;have cl:=p_ g r g3;exact⟨C,ns,cl.EG s g2,cl.gl,q2,a,q4⟩
 .obtain⟨C,ns,e,i,f,fd,c1,c2,u,A,F,m,cl,q,q9⟩:=An g qD<|p _<|dE h
  unfold cpB at q;simp only[bP,eg]at q;obtain⟨⟨⟨⟨q1,q2⟩,a⟩,q4⟩,q5⟩:=q;split at q5
  case h_2=>cases q5
  rename_i Zc V;split at q5
  case h_2=>cases q5
  rename_i s0 n' q' S;simp only[bP,eg]at q5;obtain⟨⟨I,G⟩,E⟩:=q5;subst I;exact⟨C,f,fd,e.ps,n',cl.EG c1 c2,cl.gl,m,HX F.fn F.sc V S G E (Q5 q1) (g _ _ a) q4 q2 cl.cl<|cl.na _<|d_ ..,F.bn q9⟩
 .have q:=p _<|dE h
  unfold Ł at q;rw[bP]at q;obtain⟨v,q⟩:=q;have v:=bh v;obtain⟨C,ns,e,i',f,fd,c1,c2,u,A,F,m,cl,_,q9⟩:=An g qD q;rw[v]at u;cases u;exact⟨C,f,fd,e.ps,ns,cl.EG c1 c2,cl.gl,m,call F A,F.bn q9⟩
 .have q:=N _ (dE s) _<|EF r
  unfold Ì at q;split at q
  case h_2=>cases q
  rename_i n' ns e d1 d2 d3;split at q
  case h_2=>cases q
  rename_i C f d4 d5;rw[bP,bP]at q;obtain⟨⟨q1,q9⟩,q2⟩:=q;obtain⟨D,Fi,R,g1,g2,_,g3,_⟩:=s_ o1 d1;rw[d4]at g1;cases g1;rw[d2]at g2;cases g2;have cl:=p_ g d4 g3;obtain⟨X,fd,F⟩:=qD.fe<|jf d3
  have:=F.at_.symm.trans d5
  cases this;exact⟨C,_,fd,e.ps,ns,cl.EG d1 d2,cl.cl,⟨bh q1,F.isf,F.fn.kp⟩,call F d3,F.bn<|nI.mp q9,λz=>by rw[DJ.mpr z]at q2;cases q2⟩
 .unfold Î at o
  simp only[bP,dP]at o;obtain⟨q,b⟩:=o.1.2 _<|dE h;unfold Ë at q;split at q
  case h_2=>cases q
  rename_i e d;rw[bP,bP]at q;obtain⟨⟨q2,a⟩,q1⟩:=q;have q2:=bh q2;have a:=bh a;subst a;obtain⟨f,fd,F⟩:=qD.fe<|jf d;have j:=F.at_;unfold Nu at j;rw[q2]at j;unfold Ny at b;rw[d]at b;exact⟨f,fd,e.ps,x8 F d b λm B=>y m<|by lia,g _ _<|gf j,F.fn.kp,F.bf⟩
 .unfold Î at o
  simp only[bP,dP]at o;obtain⟨q,b⟩:=o.2 _<|dE h;unfold Ny at b;unfold Ì at q;split at q
  case h_2=>cases q
  rename_i n' ns e d1 d2 d3;split at q
  case h_2=>cases q
  rename_i C f d4 d5;rw[bP,bP]at q;obtain⟨⟨q1,q9⟩,q2⟩:=q;obtain⟨D,Fi,R,g1,g2,_,g3,_⟩:=s_ o1 d1;rw[d4]at g1;cases g1;rw[d2]at g2;cases g2;have cl:=p_ g d4 g3;obtain⟨X,fd,F⟩:=qD.fe<|jf d3
  have:=F.at_.symm.trans d5
  cases this;rw[d3]at b;exact⟨C,_,fd,e.ps,ns,cl.EG d1 d2,cl.cl,⟨bh q1,F.isf,F.fn.kp⟩,x8 F d3 b λm B=>y m<|by lia,F.bn<|nI.mp q9,λz=>by rw[DJ.mpr z]at q2;cases q2⟩
end
section
variable{Ft:List Fe}{It:Nt}
def NC(K:bG)(p:Str×T):Bool:=match qY K eR p.1 with
 |U<|U u=>(match p.2,u with
  |.tup ts,.ref a=>(match K.lookup a with
   |some ⟨.type c,_,.seq b _,_⟩=>decide (c = "tuple")&&decide (b.size<=cw)&&ku ts b.toList
   |_=>ZA)
  |t,u=>CJ t u)
 |_=>ZA
def Vs(g:Q3 K mg){t:T}(h:NC K (x,t)=O):B5 K mg x t:=by
 unfold NC at h;dsimp only at h;split at h
 case h_2=>cases h
 rename_i u f;have e:=g _ _ f;split at h
 .rename_i ts a
  split at h
  .rename_i c od m n sl i
   simp only[bP,eg]at h;obtain⟨⟨l,k⟩,j⟩:=h;subst l;obtain⟨d,b⟩:=qa j;exact⟨_,.ref a,e,J,λB al H hB=>⟨a,ts.map fk,J,.inr ⟨_,m,n,hB▸i,J,J,k,d⟩,b B al H⟩⟩
  .cases h
 .obtain⟨d,b⟩:=CK h
  exact⟨u,fk t,e,d,λB al H _=>b B al H⟩
structure Jq(K:bG)(M:Gm)(Ft:List Fe)(It:Nt):Prop extends ModOk K M Ft It where
 cs:M.cs.all (NC K)=O
def ND(g:Q3 K mg)(a:Jq K M Ft It)(n:Nat):Ae M (EE K M) Pr w K mg base (iH M Ft n)<|2*n+1:=Vr g a.toModOk (λx t h=>Vs g<|dP.mp a.cs _<|dE h) n
def NF{f:Fn}{k:Nat}(ns:Ee)(h:∃m',f [.scr ns] []=.ok (.bl O,m')){a:bp}(d:SD H)(c:dW B.K H a<|ns.map V.int):qW B f [.ref a] H (λv _=>v=.bl O) λ_ _ _=>False:=by
 obtain⟨m',h⟩:=h;refine⟨⟨H,λ_=>Y,[]⟩,[.scr ns],[],_,m',⟨λ_ _ e=>e,λb p e=>(by cases e),J,λk ob e=>(by simp at e)⟩,⟨_,_,J,⟨a,J,c⟩,J⟩,h,λv g i _ _ r=>r⟩
end
def Ð{l:PySem.W.OpenLaw}{YP:da->eI->Prop}{K:oa->bG}{It:Nt}{e:Fe}
  (hn:l.most=U m) (y:m<=cw) (C:d.params.defaults=[]) (hr:bD (2*n+1) uz) (hY:∀(w:da)(h:eI),YP w h->(K w.params).In h)
  (he:Ft[i]?=U e) (A:e.ps=[("_law_script" : Str)]) (Z:e.x=d.name) (LK:e.cls=Y) (X:e.ds=[]) (qD:∀P,Jq (K P) M Ft It) (hT:∀ns:Ee,Kk ns<=m->(∀i∈ns,i.natAbs.log2<1048577)->∃m',iH M Ft n i [.scr ns] []=.ok (.bl O,m')) :
  PySem.W.WalkO q loose XP YP l.row.toRowW d [] λf vs=>PySem.call f vs:=by
 intro w s₀ c mg mb G qT fa o pm cd doc dV kV ho hd iM Q B hg S L as LJ I hrd Ŵ hlo
 obtain⟨a,vs,ns,rfl,rfl,E,j,R⟩:=Att.D6 hn LJ Ŵ;have t:∀i∈ns,i.natAbs.log2<1048577:=λi hi=>by
  have h1:=PySem.W.layableW_item (PySem.W.layableW_arg I _<|dJ.mpr J) _<|gZ.mpr ⟨i,hi,J⟩;have p:=PyData.bits_of_layable<|PyProof.Rows.Da.lay0_int<|PySem.W.layable_int h1;unfold j2 at p;split at p
  .rename_i z
   rw[bh z];decide
  .exact fB p (by decide)
 refine PySem.W.enter_call<|ih (?_:nr _ uz _ (λr v=>r=.ok (.ret<|.bool O)/\OldK c.heap v.heap/\v.os=c.os/\PyProof.Rows.AllBare v.gens) c) λr v hq=>?_
 .have V:=hY w _ qT
  have g:=Vm V G.T.g;obtain⟨f,fd,F⟩:=(qD w.params).fe<|jf he;have D:=F.at_;unfold Nu at D;rw[LK]at D;have ea:=(g _ _<|gf D).symm.trans<|Z▸B;cases ea;refine G8 (fd:=fd) (x:=("_law_script")) (CX:=kH) (sp:=qW (ig M.P _ l.prog w) _) V G.T.g G.T.b G.T.builtins G.T.nolimit hg E j (c_ R y) hr (λbase KB GB=>?_) (λs u=>?_) (λH hO hS=>NF (k:=0) ns (hT ns R t) hO hS) λ_ _ _ z=>z
  .have:=CL (Pr:=l.prog) (w:=w) (base:=base) F he (n:=n) λm y=>ND g (qD w.params) m
   rw[A]at this;exact this
  .have:=F.bs X [u] (by rw[A];rfl)
   rw[A]at this;exact .of_eq this
 .obtain⟨rfl,p,h3,h4⟩:=hq
  exact⟨.inl ⟨.bool O,.bool O,[],J,λ_=>J,.bool O,Att.D7 l _,λ_=>⟨Px.nil,λ_ y=>(nomatch y)⟩⟩,p,h3,h4⟩
end D
namespace D
def Ñ(a:b)(f:b->Res c):Res.bind (.ok a) f=f a:=J
def dN{f:c->Res b}(h:f a=r):Res.bind (.ok a) f=r:=h
def oso(a:b):bj (U a)=.ok a:=J
section
variable{a b:FS}{s s':S}{t:T}{d n:Nat}{ts:FR}{m m':FX}
def seq1(h:a s=.ok (.nx,s'))(k:b s'=r):ah a b s=r:=by unfold ah;rw[h];exact k
def x9(h:c s=.ok (O,s'))(k:a s'=r):aZ c a b s=r:=by unfold aZ;rw[h];exact k
def je(h:c s=.ok (ZA,s'))(k:b s'=r):aZ c a b s=r:=by unfold aZ;rw[h];exact k
def jE(h:e s=.ok (t,s')):aD e s=.ok (.rt t,s'):=by unfold aD;rw[h];rfl
def iI(h:Kk ts=d)(k:b ⟨ts.map (λt=>U<|.val t)++cR (n-Kk ts) Y,m⟩=.ok (.rt t,s'))(a:s'.m=m'):aC d n b ts m=.ok (t,m'):=by
 unfold aC;rw[bt h,k,<- a];rfl
def x_(h:Kk ts=d)(k:b ⟨ts.map (λt=>U<|.val t)++cR (n-Kk ts) Y,m⟩=.ok (.nx,s'))(a:s'.m=m'):aC d n b ts m=.ok (.non,m'):=by
 unfold aC;rw[bt h,k,<- a];rfl
def eL(h:aB ts=O)(k:g ts []=.ok (t,m'))(a:noOwn t=O):aK g ts m=.ok (t,m):=by
 unfold aK;rw[bt h,k];exact bt a
def qe(h:fl s=.ok (ts,s'))(k:g (ts++ds) s'.m=.ok (t,m')):aj g ds fl s=.ok (t,⟨s'.r,m'⟩):=by
 unfold aj;rw[h];show(match g _ s'.m with|.ok q=>_|.bad=>_|.exc c fs s'=>_)=_;rw[k]
end
def CM(h:o s=.ok (.own k,s1))(a:s1.m[k]?=U ob)(b:g ob.c=U f)(e:fl s1=.ok (ts,s2))(d:f (.own k::ts) s2.m=.ok (t,m')) :
  aG g o fl s=.ok (t,⟨s2.r,m'⟩):=by
 unfold aG;rw[h];show Res.bind (bj _) _=_;rw[a];show Res.bind (bj<|g ob.c) _=_;rw[b];refine Eq.trans (Ñ f _) ?_;exact qe (by rw[e];rfl) (by rw[cJ];exact d)
def gG[Decidable p]{x:a}(h:p):gd p x=U x:=bt h
end D
namespace D
open PySem L2 PyProof.Rows
end D
namespace D
abbrev sv(t:T):Option C:=U<|.val t
abbrev px(i:Int):=sv<|.int i
abbrev Io(l:List Nat):=sv<|.str l
abbrev Iy(l:List T):=sv<|.lst l
abbrev IH(k:Nat):=sv<|.own k
abbrev cI(i:Int):FE:=cF<|.int i
abbrev cS(l:B1):FE:=cF<|.str l
abbrev oA:FE->FE->FE:=bF<|jZ .Add
abbrev oM:FE->FE->FE:=bF<|jZ .Mod
abbrev oD:FE->FE->FE:=bF<|jZ .FloorDiv
abbrev oE:FE->FE->FE:=bF<|aM .Eq
abbrev oI:FE->FE->FE:=bF iE
abbrev k1(a:FE):FL:=bq a aT
abbrev k2(a b:FE):FL:=bq a<|k1 b
abbrev k3(a b c:FE):FL:=bq a<|k2 b c
abbrev zA:FE:=vF 0
abbrev zB:FE:=vF 1
abbrev zC:FE:=vF 2
abbrev zD:FE:=vF 3
abbrev zO:FE:=cI 0
abbrev zI:FE:=cI 1
abbrev zg:B1:=[103,105,118,101]
def W(x:Res b)(Q:b->Prop):Prop:=∃a,x=.ok a/\Q a
section
variable{f:d->Res a}{P:d->Prop}
def W.mono(h:W x Q)(k:∀a,Q a->P a):W x P:=let⟨a,e,q⟩:=h;⟨a,e,k a q⟩
theorem W.bind(h:W x λa=>W (f a) R):W (x.bind f) R:=by
 obtain⟨a,rfl,b,e,q⟩:=h;exact⟨b,e,q⟩
def W.of{a:d}(e:x=.ok a)(h:P a):W x P:=⟨a,e,h⟩
def wO{a:d}(e:o=U a)(h:W (f a) R):W ((bj o).bind f) R:=by rw[e];exact h
end
section
variable{s s1 s':S}{a b:FE}{fl:FL}{g:T->T->FV}{y:FR->FV}{Q:T×S->Prop}{t u:T}{ts:FR}{i:Nat}{c:FT}{A B:FS}{d:Out×S->Prop}{j:FR×S->Prop}{G:T×FX->Prop}
def aaV(h:W (fl s) λp=>∃v,y p.1=U v/\Q (v,p.2)):W (aU y fl s) Q:=W.bind<|h.mono λ_ ⟨_,e,q⟩=>wO e ⟨_,J,q⟩
def Ò(h:W (a s) λp=>W (fl p.2) λq=>j (p.1::q.1,q.2)):W (bq a fl s) j:=W.bind<|h.mono λ_ k=>W.bind<|k.mono λ_ q=>⟨_,J,q⟩
def WB(b:FS)(s:S)(G:T×FX->Prop):Prop:=W (b s) λp=>∃t,p.1=.rt t/\G (t,p.2.m)
def Ó(h:W (a s) λp=>G (p.1,p.2.m)):WB (aD a) s G:=W.bind<|h.mono λp q=>⟨_,J,_,J,q⟩
def K8(e:a s=.ok (t,s'))(h:G (t,s'.m)):WB (aD a) s G:=Ó ⟨_,e,h⟩
def nZ(h:W (A s) λp=>p.1=.nx/\WB B p.2 G):WB (ah A B) s G:=W.bind<|h.mono λp a=>by
 obtain⟨e,k⟩:=a;obtain⟨o,s'⟩:=p;cases e;exact k
def Ô(h:WB A s G):WB (ah A B) s G:=W.bind<|W.mono h λp ⟨t,e,k⟩=>⟨p,by obtain⟨o,s'⟩:=p;cases e;rfl,t,e,k⟩
def aaW(h:W (a s) λp=>d (.nx,jT p.2 i<|.val p.1)):W (aH i a s) d:=W.bind<|h.mono λ_ q=>⟨_,J,q⟩
def aaX(h:W (a s) λp=>WB B (jT p.2 i<|.val p.1) G):WB (ah (aH i a) B) s G:=nZ<|aaW<|h.mono λ_ q=>⟨J,q⟩
def bSt(e:a s=.ok (t,s'))(h:WB B (jT s' i<|.val t) G):WB (ah (aH i a) B) s G:=aaX ⟨_,e,h⟩
def NG(h:W (c s) λp=>(p.1=O->W (A p.2) d)/\(p.1=ZA->W (B p.2) d)):W (aZ c A B s) d:=W.bind<|h.mono λp a=>by
 obtain⟨k1,k2⟩:=a;cases e:p.1 with
 |true=>exact k1 e
 |false=>exact k2 e
def jh(e:c s=.ok (O,s'))(h:W (A s') d):W (aZ c A B s) d:=NG ⟨_,e,⟨λ_=>h,λz=>by cases z⟩⟩
def b8(e:c s=.ok (ZA,s'))(h:W (B s') d):W (aZ c A B s) d:=NG ⟨_,e,⟨λz=>(by cases z),λ_=>h⟩⟩
def bHt(e:c s=.ok (O,s'))(h:WB A s' G):WB (ah (aZ c A B) a') s G:=Ô<|jh e h
def bSk(e:c s=.ok (ZA,s'))(h:WB B s' G):WB (ah (aZ c A aL) B) s G:=nZ<|b8 e ⟨_,J,J,h⟩
def bBr(h:W (c s) λp=>(p.1=O->WB A p.2 G)/\(p.1=ZA->WB B p.2 G)):WB (ah (aZ c A aL) B) s G:=by
 obtain⟨p,e,k1,k2⟩:=h;obtain⟨k,s'⟩:=p;cases k with
 |true=>exact bHt e<|k1 J
 |false=>exact bSk e<|k2 J
def gK{a n:Nat}{m:FX}(h:Kk ts=a)(k:WB B ⟨ts.map (λt=>U<|.val t)++cR (n-Kk ts) Y,m⟩ G):W (aC a n B ts m) G:=by
 unfold aC;rw[bt h];exact W.bind<|W.mono k λp ⟨t,e,k⟩=>⟨_,by rw[e],k⟩
def Õ{f:Fn}(h:aB ts=O)(k:W (f ts []) λp=>noOwn p.1=O/\G (p.1,m)):W (aK f ts m) G:=by
 obtain⟨p,e,b,a⟩:=k;refine⟨_,?_,a⟩;unfold aK;rw[bt h,e];exact bt b
def rQ(h:W (A s) λp=>p.1=.nx/\W (B p.2) d):W (ah A B s) d:=W.bind<|h.mono λp a=>by
 obtain⟨e,k⟩:=a;obtain⟨o,s'⟩:=p;cases e;exact k
def aaY(h:W (fl s) λp=>Q (.lst p.1,p.2)):W (eW fl s) Q:=W.bind<|h.mono λ_ q=>⟨_,J,q⟩
def Ö{a:FG}(h:W (fl s) λp=>Kk p.1<=1000000/\W (bu a c e (jz n js<|kg js p.2.r) p.1 p.2.m) λq=>j (q.1,⟨kg js p.2.r,q.2⟩)):W (dh fl n js a c e s) j:=W.bind<|h.mono λp b=>by
 obtain⟨z,k⟩:=b;rw[bt z];exact W.bind<|k.mono λ_ q=>⟨_,J,q⟩
theorem Ø{a:FG}{I:S->Prop}:∀{ts:FR}{s:S},(∀t∈ts,∀s,I s->∃r,a t s.r=U r/\W (B ⟨r,s.m⟩) λp=>p.1=.nx/\I p.2)->I s->W (aX a B ts s) λp=>p.1=.nx/\I p.2
 |[],s,_,h=>⟨_,J,J,h⟩
 |t::ts,s,k,h=>by
  obtain⟨r,i,⟨o,s1⟩,g,f,d⟩:=k t (d_ ..) s h;cases f;obtain⟨p,e,c⟩:=Ø (λt b=>k t<|ed _ b) d;refine⟨p,?_,c⟩;rw[aX,i];apply dN;show Res.bind _ _=_;rw[g];exact e
end
end D
namespace K61
open PySem D L2
variable(n:Nat)
abbrev NH:B1:=[97,98,99,100,101,102,103,104,105,106,107,108,109,110,111,112,113,114,115,116,117,118,119,120,121,122,65,66,67,68,69,70,71,72,73,74,75,76,77,78,79,80,81,82,83,84,85,86,87,88,89,90,48,49,50,51,52,53,54,55,56,57,32,33,34,35,36,38,39,40,41,42,43,44,45,46,47,58,59,60,61,62,63,64,91,92,93,94,95,96,123,124,125,126]
abbrev Ù:B1:=[97,98,99,100,101,102,103,104,105,106,107,108,109,110,111,112,113,114,115,116,117,118,119,120,121,122]
abbrev fx(x:Str)(i:Nat):Str×FR×Nat:=(x,[],i)
def M:Gm:={
 P:={cn:=("Program" :: "Line" :: "Cond" :: "Always" :: "RowIs" :: "Last" :: "Like" :: "Soon" :: "FromTo" :: "Not" :: "End" :: "Deed" :: "Mark" :: "Drop" :: "Print" :: "Done" :: "Say" :: "Swap" :: "Join" :: "Pile" :: "Bring" :: "Go" :: "Add" :: "Tell" :: "TextRow" :: "Truths" :: "Walker" :: "Scan" :: []),an:=("lines" :: "cond" :: "deed" :: "number" :: "pattern" :: "many" :: "first" :: "second" :: "inner" :: "name" :: "words" :: "every" :: "most" :: "shelf" :: "text" :: "known" :: "conds" :: "up" :: "behind_marks" :: "teller" :: "truths" :: "passed" :: "met" :: "taken" :: "hand" :: "hand_rows" :: "shelves" :: "sums" :: "noted" :: "log" :: "wanting" :: "rest" :: []),tab:=[[0],[1,2],[],[],[3],[],[4],[5,4],[6,7],[8],[],[],[9],[],[],[],[10],[4,10,11],[12],[13,12],[13],[9],[6,7],[],[14,3,15],[16,17],[0,18,19,20,21,22,23,24,25,26,27,28,29,30],[31,3]],sub:=[[0],[1],[2],[2,3],[2,4],[2,5],[2,6],[2,7],[2,8],[2,9],[2,10],[11],[11,12],[11,13],[11,14],[11,15],[11,16],[11,17],[11,18],[11,19],[11,20],[11,21],[11,22],[11,23],[24],[25],[26],[27]]},
 cs:=[("SIGNS",.str NH),("SMALL_LETTERS",.str Ù),("FIGURES",.str [48,49,50,51,52,53,54,55,56,57]),("MOST_ITEMS",.int 8),("MOST_SIGNS",.int 12),("NEVER_PLAIN",.str [94,36,46,91,93,42,43,63,47]),("NEVER_IN_A_SET",.str [93,94,47]),("ONCE",.str [49]),("HOW_MANY",.str [42,43,63]),("NOWHERE",.int<|-1),("MOST_FIGURES_pieces",.int 60),("COND_BEGINNINGS",.tup [.str [114,111,119,32],.str [108,97,115,116],.str [47],.str [115,111,111,110,32],.str [102,114,111,109,32],.str [110,111,116,32],.str [101,110,100]]),("MOST_ROW",.int 999),("MOST_FIGURES_linereading",.int 3),("MOST_SOON",.int 3),("LEAST_JOIN",.int 2),("MOST_SMALL",.int 9),("MOST_LETTERS",.int 8),("MOST_TEXT",.int 40),("MOST_LINES",.int 24)],
 fs:=(fx "_wall" 0::fx "cut" 1::fx "pasted" 2::fx "made_of" 3::fx "beginning_of" 4::fx "may_stand_plain" 5::fx "pattern" 6::fx "items_of" 7::fx "place_behind_core" 8::fx "many_at" 9::fx "item_of" 10::fx "set_item" 11::fx "is_written_plain" 12::fx "written" 13::fx "written_core" 14::fx "may_be_empty" 15::fx "least_length" 16::fx "may_be_left_out" 17::fx "may_come_again" 18::("stretch",[.int 0],19)::fx "found" 20::fx "greatest_ends" 21::fx "ends_behind_items" 22::fx "ends_with_item" 23::fx "text_rows" 24::fx "holds" 25::fx "is_row_up_to" 26::fx "first_swapped" 27::fx "every_swapped" 28::fx "words_of" 29::fx "word_of" 30::fx "number_of" 31::fx "given_in" 32::fx "numbers_of_marks" 33::fx "walk" 34::fx "plan" 35::fx "size_of" 36::fx "hunks_in" 37::fx "line_of" 38::fx "line_next" 39::fx "cond_next" 40::fx "plain_cond_next" 41::fx "row_or_pattern_next" 42::fx "deed_next" 43::fx "swap_next" 44::fx "pile_next" 45::fx "add_next" 46::fx "number_next" 47::fx "name_next" 48::fx "words_next" 49::fx "pattern_next" 50::fx "may_stand" 51::fx "may_swap" 52::fx "read" 53::fx "lines_of" 54::fx "marks_of" 55::fx "refuse_go_without_mark" 56::fx "_law_cell_at" 57::fx "_law_cond" 58::fx "_law_deed" 59::fx "_law_program" 60::fx "_law_row" 61::fx "_law_text" 62::fx "_law_setup" 63::fx "_law_cut" 64::fx "_law_pasted" 65::fx "_law_walked" 66::fx "_law_planned" 67::fx "_law_whole" 68::fx "_law_rows" 69::fx "_law_is_plan" 70::fx "_law_hunks" 71::fx "law" 72::[]),
 cl:=(("Program",.cp 0)::("Line",.fz 1 2)::("Cond",.z0 2)::("Always",.z0 3)::("RowIs",.fz 4 1)::("Last",.z0 5)::("Like",.fz 6 1)::("Soon",.fz 7 2)::("FromTo",.fz 8 2)::("Not",.fz 9 1)::("End",.z0 10)::("Deed",.z0 11)::("Mark",.fz 12 1)::("Drop",.z0 13)::("Print",.z0 14)::("Done",.z0 15)::("Say",.fz 16 1)::("Swap",.fz 17 3)::("Join",.fz 18 1)::("Pile",.fz 19 2)::("Bring",.fz 20 1)::("Go",.fz 21 1)::("Add",.fz 22 2)::("Tell",.z0 23)::("TextRow",.nw 24 88)::("Truths",.nw 25 90)::("Walker",.nw 26 94)::("Scan",.nw 27 115)::[]),
 ms:=(("has",[(24,89)])::("told_of",[(25,91)])::("truth",[(25,92)])::("truth_of_stretch",[(25,93)])::("want",[(26,95)])::("take",[(26,96)])::("take_with",[(26,97)])::("go_on",[(26,98)])::("meet",[(26,99)])::("hand_over",[(26,100)])::("finish",[(26,101)])::("find_none",[(26,102)])::("give",[(26,103)])::("end_turn",[(26,104)])::("give_hand_and_end",[(26,105)])::("do",[(26,106)])::("do_giving",[(26,107)])::("do_swap",[(26,108)])::("do_join",[(26,109)])::("do_pile",[(26,110)])::("do_bring",[(26,111)])::("rows_on_shelves",[(26,112)])::("do_add",[(26,113)])::("do_tell",[(26,114)])::("refuse",[(27,116)])::("passes",[(27,117)])::("must_pass",[(27,118)])::("while_made_of",[(27,119)])::("between",[(27,120)])::[]),
 bl:=["isinstance","len","all","any","str","int","list","range","enumerate","bool","reversed","sorted","tuple"],bf:=["log","met","up","known","shelves","sums","noted"],xc:=[("Endless",U "row",121)],xs:=[("walk",34),("plan",35)],xt:=[("take",26,96),("take_with",26,97),("go_on",26,98),("meet",26,99)],xg := "line"}
abbrev Fu(x:Str)(k:Nat)(N:Bi)(a:Nat)(u:Bi)(b:Bool):Fe:=⟨Y,x,x,top k,N,N.take a,u,b,[]⟩
abbrev Fm(c x q:Str)(k h:Nat)(N:Bi)(a:Nat):Fe:=⟨U c,x,q,inClass (top k) h,"self" :: N,"self" :: N.take a,[],ZA,[]⟩
def Ft:List Fe:=[
 Fu "_wall" 0 ["k"] 9 [] O,
 Fu "cut" 9 ["text","rows"] 1 [] O,
 ⟨Y,"pasted","pasted",top 10,["rows","ended","text"],["rows","ended"],[],O,[.bl O]⟩,
 Fu "made_of" 40 ["text","signs"] 9 [] O,
 Fu "beginning_of" 41 ["text","signs","many"] 2 [] O,
 Fu "may_stand_plain" 49 ["sign"] 9 [] O,
 Fu "pattern" 50 ["text","front","body","back","items"] 1 [] O,
 Fu "items_of" 51 ["body","items","place","behind","many"] 1 ["items"] O,
 Fu "place_behind_core" 52 ["body","place","bracket"] 2 [] O,
 Fu "many_at" 53 ["body","place"] 9 [] O,
 Fu "item_of" 54 ["core","many"] 9 [] O,
 Fu "set_item" 55 ["inside","many","others","signs"] 2 [] O,
 Fu "is_written_plain" 56 ["signs","others"] 9 [] O,
 Fu "written" 57 ["one","parts","signs","others","many"] 1 ["parts"] O,
 Fu "written_core" 58 ["signs","others"] 9 [] O,
 Fu "may_be_empty" 59 ["one"] 9 [] O,
 Fu "least_length" 60 ["one"] 9 [] O,
 Fu "may_be_left_out" 61 ["item"] 9 [] O,
 Fu "may_come_again" 62 ["item"] 9 [] O,
 ⟨Y,"stretch","stretch",top 65,["one","row","start","ends","begin"],["one","row","start"],[],O,[.int 0]⟩,
 Fu "found" 66 ["one","row"] 9 [] O,
 Fu "greatest_ends" 67 ["one","row","ends","item"] 2 [] O,
 Fu "ends_behind_items" 68 ["row","back"] 9 [] O,
 Fu "ends_with_item" 69 ["item","row","behind","signs","others","again","ends","place","end"] 3 ["ends"] O,
 Fu "text_rows" 72 ["rows"] 9 [] ZA,
 Fu "holds" 74 ["cond","row"] 9 [] ZA,
 Fu "is_row_up_to" 75 ["cond","number"] 9 [] O,
 Fu "first_swapped" 78 ["hand","one","words","place"] 3 [] O,
 Fu "every_swapped" 79 ["hand","one","words","ends","parts","kept_to","place"] 3 ["parts"] O,
 Fu "words_of" 80 ["hand"] 9 [] O,
 Fu "word_of" 81 ["hand","number","words"] 2 [] O,
 Fu "number_of" 82 ["word","figures"] 1 [] O,
 Fu "given_in" 85 ["log"] 9 [] O,
 Fu "numbers_of_marks" 86 ["lines","numbers","number","line"] 1 ["numbers"] O,
 Fu "walk" 88 ["program","text","rows","walker","number","row"] 2 ["raise"] O,
 Fu "plan" 90 ["program","text","told","rows","made"] 2 ["raise"] O,
 Fu "size_of" 91 ["text","told"] 1 [] O,
 Fu "hunks_in" 92 ["log","rows","hunks","start","taken","given","entry"] 2 ["hunks","given"] O,
 Fu "line_of" 103 ["row","number","scan","line"] 2 [] O,
 Fu "line_next" 104 ["scan","cond"] 1 [] ZA,
 Fu "cond_next" 105 ["scan"] 9 [] ZA,
 Fu "plain_cond_next" 106 ["scan","many","first"] 1 [] ZA,
 Fu "row_or_pattern_next" 107 ["scan"] 9 [] ZA,
 Fu "deed_next" 108 ["scan"] 9 [] ZA,
 Fu "swap_next" 109 ["scan","every","one"] 2 [] ZA,
 Fu "pile_next" 110 ["scan","shelf"] 1 [] ZA,
 Fu "add_next" 111 ["scan","first"] 1 [] ZA,
 Fu "number_next" 112 ["scan","least","most","figures","number"] 3 [] ZA,
 Fu "name_next" 113 ["scan","name"] 1 [] ZA,
 Fu "words_next" 114 ["scan","words"] 1 [] ZA,
 Fu "pattern_next" 115 ["scan","text"] 1 [] ZA,
 Fu "may_stand" 116 ["cond","deed"] 9 [] O,
 Fu "may_swap" 117 ["deed"] 9 [] O,
 Fu "read" 120 ["text","lines","marks"] 1 [] O,
 Fu "lines_of" 121 ["rows","lines","number","row"] 1 ["lines"] O,
 Fu "marks_of" 122 ["lines","marks","number","line"] 1 ["marks"] O,
 Fu "refuse_go_without_mark" 123 ["lines","marks","number","line"] 2 [] O,
 Fu "_law_cell_at" 125 ["_law_script","_law_k"] 9 [] O,
 Fu "_law_cond" 126 ["_law_cell","_law_letter","_law_other","_law_number","_law_some"] 1 [] O,
 Fu "_law_deed" 127 ["_law_cell","_law_letter","_law_said","_law_some"] 1 [] O,
 Fu "_law_program" 128 ["_law_cells","_law_marked","_law_rows_here","_law_cell"] 1 ["_law_rows_here"] O,
 Fu "_law_row" 129 ["_law_cell","_law_rest","_law_row_here","_law_k"] 1 [] O,
 Fu "_law_text" 130 ["_law_cells","_law_ended","_law_text_here"] 2 [] O,
 Fu "_law_setup" 131 ["_law_script","_law_lines","_law_rows_here"] 1 [] O,
 Fu "_law_cut" 132 ["_law_text_here","_law_rows_here"] 1 [] O,
 Fu "_law_pasted" 133 ["_law_rows_here","_law_ended","_law_text_here"] 2 [] O,
 Fu "_law_walked" 134 ["_law_program_here","_law_text_here","_law_told","_law_spot","e"] 2 [] O,
 Fu "_law_planned" 135 ["_law_program_here","_law_text_here","_law_told","_law_spot","e"] 2 [] O,
 Fu "_law_whole" 136 ["_law_got"] 9 [] O,
 Fu "_law_rows" 137 ["_law_got"] 9 [] O,
 Fu "_law_is_plan" 138 ["_law_got","_law_pair","_law_hunk"] 1 [] O,
 Fu "_law_hunks" 139 ["_law_log","_law_rows_here","_law_hunks_here","_law_at","_law_old","_law_new","_law_entry"] 2 ["_law_hunks_here"] O,
 Fu "law" 140 ["_law_script","_law_program_here","_law_due","_law_other","_law_lines","_law_text_here","_law_told","_law_spot","_law_got","_law_other_spot","_law_rows_here","_law_ended","_law_many","_law_end"] 1 [] O,
 Fm "Program" "__init__" "Program.__init__" 12 0 ["lines"] 9,
 Fm "Line" "__init__" "Line.__init__" 13 0 ["cond","deed"] 9,
 Fm "RowIs" "__init__" "RowIs.__init__" 16 0 ["number"] 9,
 Fm "Like" "__init__" "Like.__init__" 18 0 ["pattern"] 9,
 Fm "Soon" "__init__" "Soon.__init__" 19 0 ["many","pattern"] 9,
 Fm "FromTo" "__init__" "FromTo.__init__" 20 0 ["first","second"] 9,
 Fm "Not" "__init__" "Not.__init__" 21 0 ["inner"] 9,
 Fm "Mark" "__init__" "Mark.__init__" 24 0 ["name"] 9,
 Fm "Say" "__init__" "Say.__init__" 28 0 ["words"] 9,
 Fm "Swap" "__init__" "Swap.__init__" 29 0 ["pattern","words","every"] 9,
 Fm "Join" "__init__" "Join.__init__" 30 0 ["most"] 9,
 Fm "Pile" "__init__" "Pile.__init__" 31 0 ["shelf","most"] 9,
 Fm "Bring" "__init__" "Bring.__init__" 32 0 ["shelf"] 9,
 Fm "Go" "__init__" "Go.__init__" 33 0 ["name"] 9,
 Fm "Add" "__init__" "Add.__init__" 34 0 ["first","second"] 9,
 Fm "TextRow" "__init__" "TextRow.__init__" 71 0 ["text","number"] 9,
 Fm "TextRow" "has" "TextRow.has" 71 1 ["one","name"] 1,
 Fm "Truths" "__init__" "Truths.__init__" 73 0 ["lines"] 9,
 ⟨U "Truths","told_of","Truths.told_of",inClass (top 73) 1,["self","row","behind","truths","place","cond"],["self","row","behind"],["truths"],ZA,[]⟩,
 Fm "Truths" "truth" "Truths.truth" 73 2 ["place","cond","row","behind"] 9,
 Fm "Truths" "truth_of_stretch" "Truths.truth_of_stretch" 73 3 ["place","cond","row"] 9,
 Fm "Walker" "__init__" "Walker.__init__" 84 0 ["program"] 9,
 Fm "Walker" "want" "Walker.want" 84 1 [] 9,
 ⟨U "Walker","take","Walker.take",inClass (top 84) 2,["self","row","behind"],["self","row","behind"],["raise"],ZA,[]⟩,
 ⟨U "Walker","take_with","Walker.take_with",inClass (top 84) 3,["self","text","truths"],["self","text","truths"],["raise"],ZA,[]⟩,
 ⟨U "Walker","go_on","Walker.go_on",inClass (top 84) 4,["self"],["self"],["raise"],ZA,[]⟩,
 ⟨U "Walker","meet","Walker.meet",inClass (top 84) 5,["self","line","number","truth"],["self","line","number"],["raise"],ZA,[]⟩,
 Fm "Walker" "hand_over" "Walker.hand_over" 84 6 [] 9,
 Fm "Walker" "finish" "Walker.finish" 84 7 ["line"] 0,
 Fm "Walker" "find_none" "Walker.find_none" 84 8 [] 9,
 Fm "Walker" "give" "Walker.give" 84 9 ["row"] 9,
 Fm "Walker" "end_turn" "Walker.end_turn" 84 10 [] 9,
 Fm "Walker" "give_hand_and_end" "Walker.give_hand_and_end" 84 11 [] 9,
 Fm "Walker" "do" "Walker.do" 84 12 ["deed","number"] 9,
 Fm "Walker" "do_giving" "Walker.do_giving" 84 13 ["deed"] 9,
 Fm "Walker" "do_swap" "Walker.do_swap" 84 14 ["deed"] 9,
 Fm "Walker" "do_join" "Walker.do_join" 84 15 ["deed"] 9,
 Fm "Walker" "do_pile" "Walker.do_pile" 84 16 ["deed","things"] 1,
 Fm "Walker" "do_bring" "Walker.do_bring" 84 17 ["deed","thing"] 1,
 Fm "Walker" "rows_on_shelves" "Walker.rows_on_shelves" 84 18 [] 9,
 Fm "Walker" "do_add" "Walker.do_add" 84 19 ["deed","number","name","word","amount"] 2,
 Fm "Walker" "do_tell" "Walker.do_tell" 84 20 ["name"] 0,
 Fm "Scan" "__init__" "Scan.__init__" 102 0 ["row","number"] 9,
 Fm "Scan" "refuse" "Scan.refuse" 102 1 [] 9,
 Fm "Scan" "passes" "Scan.passes" 102 2 ["words"] 9,
 Fm "Scan" "must_pass" "Scan.must_pass" 102 3 ["words"] 9,
 Fm "Scan" "while_made_of" "Scan.while_made_of" 102 4 ["signs","taken"] 1,
 Fm "Scan" "between" "Scan.between" 102 5 ["sign","place","inside"] 1,
 Fm "Endless" "__init__" "Endless.__init__" 7 0 ["row","line"] 9]
def It:Nt:=[("Program",73),("Line",74),("RowIs",75),("Like",76),("Soon",77),("FromTo",78),("Not",79),("Mark",80),("Say",81),("Swap",82),("Join",83),("Pile",84),("Bring",85),("Go",86),("Add",87),("TextRow",88),("Truths",90),("Walker",94),("Scan",115)]
abbrev cN:=iH M Ft
set_option maxHeartbeats 0
abbrev TF:=(Nat->Fn)->Fn
def t0:TF:=λai=>aK<|aC 1 1<|ie many (tB<|cF<|.bl O)
  aL
def t1:TF:=λai=>aK<|aC 1 2<|ah (aH 1<|nV splitM zA<|k1<|cS [10])
<|ah (aZ (a_<|oE (oI zB<|dg gx zI)<|cS [])
  (aD<|aU cz<|k2 (jU zB oq<|gQ<|dg gx zI)<|cF<|.bl O)
  aL)
<|aD<|aU cz<|k2 zB<|cF<|.bl ZA
def t2:TF:=λai=>aK<|aC 2 3<|ah (aZ (a_<|oE (aU bZ<|k1 zA) zO)
  (aD<|cS [])
  aL)
<|ah (aH 2<|nV joinM (cS [10])<|k1 zA)
<|ah (aZ (ic (tB zB)<|a_<|oE (oI zA<|dg gx zI)<|cS [])
  (aD<|oA zC<|cS [10])
  aL)
<|aD zC
def t3:TF:=λai=>aK<|aC 2 2<|aD<|aU Eh<|k1<|eW<|dh (jV zA) 2 [1] (setG 1) fj<|bF (aM .In) zB zC
def t4:TF:=λai=>aK<|aC 2 3<|ah (aH 2 zO)
<|ah (ie many (iU (a_<|bF (aM .Lt) zC<|aU bZ<|k1 zA)<|a_<|bF (aM .In) (oI zA zC) zB)
 <|Hl jB 2 zI)
<|aD<|jU zA oq<|gQ zC
def t5:TF:=λai=>aK<|aC 1 1<|aD<|k6 (bF (aM .In) zA<|cS NH)<|bF (aM .NotIn) zA<|cS [94,36,46,91,93,42,43,63,47]
def t6:TF:=λai=>aK<|aC 1 5<|ah (aZ (dC<|tB<|dg (yJ "str") zA)
  b9
  aL)
<|ah (aZ (dC<|tB<|aj (ai 3) []<|k2 zA<|cS NH)
  b9
  aL)
<|ah (aH 1<|nV K4 zA<|k1<|cS [94])
<|ah (aH 2<|qV (tB zB) (jU zA (gQ zI) oq) zA)
<|ah (aH 3<|nV ewM zC<|k1<|cS [36])
<|ah (aH 4<|aj (ai 7) []<|k1<|qV (tB zD) (jU zC oq<|gQ<|dg gx zI) zC)
<|ah (aZ (a_<|bF (aM .Gt) (aU bZ<|k1<|vF 4)<|cI 8)
  b9
  aL)
<|aD<|aU cz<|k3 zB (vF 4) zD
abbrev y7a(ai:Nat->Fn):FS:=ah (aH 3<|aj (ai 8) []<|k2 zA zC)
<|ah (aH 4<|aj (ai 9) []<|k2 zA zD)
<|ah (fU 1<|aj (ai 10) []<|k2 (jU zA (gQ zC)<|gQ zD)<|vF 4)
<|aH 2<|qV (a_<|oE (vF 4)<|cS [49]) zD<|oA zD zI
def t7:TF:=λai=>aK<|aC 1 5<|ah (iC 1<|jY aT)
<|ah (aH 2 zO)
<|ah (ie many (a_<|bF (aM .Lt) zC<|aU bZ<|k1 zA)
 <|y7a ai)
<|aD zB
def t8:TF:=λai=>aK<|aC 2 3<|ah (aZ (a_<|bF (aM .NotEq) (oI zA zB)<|cS [91])
  (aD<|oA zB zI)
  aL)
<|ah (aH 2<|nV BN zA<|k2 (cS [93]) zB)
<|ah (aZ (a_<|oE zC<|dg gx zI)
  b9
  aL)
<|aD<|oA zC zI
def t9:TF:=λai=>aK<|aC 2 2<|ah (aZ (iU (a_<|bF (aM .Lt) zB<|aU bZ<|k1 zA)<|a_<|bF (aM .In) (oI zA zB)<|cS [42,43,63])
  (aD<|oI zA zB)
  aL)
<|aD<|cS [49]
def t10:TF:=λai=>aK<|aC 2 2<|ah (aZ (a_<|oE zA<|cS [46])
  (aD<|aU cz<|k3 (cS []) (cF<|.bl O) zB)
  aL)
<|ah (aZ (tB<|nV K4 zA<|k1<|cS [91])
  (aD<|aj (ai 11) []<|k2 (jU zA (gQ zI)<|gQ<|dg gx zI) zB)
  aL)
<|ah (aZ (dC<|tB<|aj (ai 5) []<|k1 zA)
  b9
  aL)
<|aD<|aU cz<|k3 zA (cF<|.bl ZA) zB
def t11:TF:=λai=>aK<|aC 2 4<|ah (aH 2<|nV K4 zA<|k1<|cS [94])
<|ah (aH 3<|qV (tB zC) (jU zA (gQ zI) oq) zA)
<|ah (aZ (ic (a_<|oE zD<|cS [])<|a_<|bF (aM .Gt) (aU bZ<|k1 zD)<|cI 12)
  b9
  aL)
<|ah (aZ (tB<|aU Ei<|k1<|eW<|dh (jV zD) 2 [] (setG 1) fj<|bF (aM .In) zB<|cS [93,94,47])
  b9
  aL)
<|ah (aZ (a_<|bF (aM .NotEq) (aU bZ<|k1 cQ)<|aU bZ<|k1 zD)
  b9
  aL)
<|ah (aZ (tB<|aj (ai 12) []<|k2 zD zC)
  b9
  aL)
<|aD<|aU cz<|k3 zD zC zB
def t12:TF:=λai=>aK<|aC 2 2<|aD<|k6 (nS zB)<|k6 (oE (aU bZ<|k1 zA) zI)<|aj (ai 5) []<|k1 zA
abbrev Ú(ai:Nat->Fn):FS:=ah (fU 1<|aj (ai 14) []<|k2 zC zD)
<|fU 1<|qV (a_<|oE (vF 4)<|cS [49]) (cS [])<|vF 4
def t13:TF:=λai=>aK<|aC 1 5<|ah (iC 1<|jY<|k1<|qV (tB<|oI zA zO) (cS [94])<|cS [])
<|ah (dD (Mq<|oI zA zI) (dc [2,3,4])
 <|Ú ai)
<|ah (fU 1<|qV (tB<|oI zA<|cI 2) (cS [36])<|cS [])
<|aD<|nV joinM (cS [])<|k1 zB
def t14:TF:=λai=>aK<|aC 2 2<|ah (aZ (a_<|oE zA<|cS [])
  (aD<|cS [46])
  aL)
<|ah (aZ (tB zB)
  (aD cQ)
  aL)
<|ah (aZ (tB<|aj (ai 12) []<|k2 zA zB)
  (aD zA)
  aL)
<|aD cQ
def t15:TF:=λai=>aK<|aC 1 1<|aD<|oE (aj (ai 16) []<|k1 zA) zO
def t16:TF:=λai=>aK<|aC 1 1<|aD<|aU bZ<|k1<|eW<|dh (jV<|oI zA zI) 2 [] (setG 1) (dC<|tB<|aj (ai 17) []<|k1 zB) zB
def t17:TF:=λai=>aK<|aC 1 1<|aD<|bF (aM .In) (oI zA<|cI 2)<|aU cz<|k2 (cS [42])<|cS [63]
def t18:TF:=λai=>aK<|aC 1 1<|aD<|bF (aM .In) (oI zA<|cI 2)<|aU cz<|k2 (cS [42])<|cS [43]
abbrev Û:FS:=aZ (a_<|bF (aM .NotEq) (oI zD<|vF 4)<|cI<|-1)
  (aD<|aU cz<|k2 (vF 4)<|oI zD<|vF 4)
  aL
def t19:TF:=λai=>aK<|aC 3 5<|ah (aH 3<|aj (ai 21) []<|k2 zA zB)
<|ah (dD (Fg zt<|k2 zC<|aU bZ<|k1 zD) (setG 4)
  Û)
<|aD<|cF .non
def t20:TF:=λai=>aK<|aC 2 2<|aD<|bF (aM .IsNot) (aj (ai 19) [(.int<|0)]<|k2 zA zB)<|cF .non
def t21:TF:=λai=>aK<|aC 2 4<|ah (aH 2<|aj (ai 22) []<|k2 zB<|oI zA<|cI 2)
<|ah (dD (o1 Ut<|oI zA zI) (setG 3)
 <|aH 2<|aj (ai 23) []<|k3 zD zB zC)
<|aD<|qV (tB<|oI zA zO) (jU zC oq<|gQ zI) zC
def t22:TF:=λai=>aK<|aC 2 2<|ah (aZ (tB zB)
  (aD<|oA (bF (jZ .Mult) (aU cO<|k1<|cI<|-1)<|aU bZ<|k1 zA)<|aU cO<|k1<|aU bZ<|k1 zA)
  aL)
<|aD<|eW<|o1 Es<|oA (aU bZ<|k1 zA) zI
abbrev Ü:FS:=aZ (a_<|bF (aM .NotEq) (bF (aM .In) (oI zB<|vF 7) zD)<|vF 4)
  (ah (aH 8<|oI zC<|oA (vF 7) zI)
<|ah (aZ (iU (tB<|vF 5)<|a_<|bF (aM .Gt) (wV 6<|oA (vF 7) zI)<|vF 8)
  (aH 8<|wV 6<|oA (vF 7) zI)
  aL)
<|aZ (a_<|bF (aM .Gt) (vF 8)<|wV 6<|vF 7)
  (K6 6 (vF 7)<|vF 8)
  aL)
  aL
def t23:TF:=λai=>aK<|aC 3 9<|ah (aH 3<|oI zA zO)
<|ah (aH 4<|oI zA zI)
<|ah (aH 5<|aj (ai 18) []<|k1 zA)
<|ah (iC 6<|Zn (tB<|aj (ai 17) []<|k1 zA) (o1 cpO zC)<|o2 Ib (aU cO<|k1<|cI<|-1)<|aU bZ<|k1 zC)
<|ah (dD (Fg Et<|k3 (bF (jZ .Sub) (aU bZ<|k1 zB) zI) (dg gx zI)<|dg gx zI) (setG 7)
  Ü)
<|aD<|vF 6
def t24:TF:=λai=>aC 1 1<|aD<|eW<|dh (jc 1 zA) 3 [] (dc [1,2]) fj<|kc 24 (ai 88)<|k2 zC zB
def t25:TF:=λai=>aC 2 2<|ah (aZ (tB<|dg (gi M.P.sub [4]) zA)
  (aD<|oE (az M.P.tab 3 zA)<|az M.P.tab 3 zB)
  aL)
<|ah (aZ (tB<|dg (gi M.P.sub [6]) zA)
  (aD<|aG (aw [(24,89)] ai) zB<|k1<|az M.P.tab 4 zA)
  aL)
<|aD<|cF<|.bl O
def t26:TF:=λai=>aK<|aC 2 2<|aD<|k6 (dg (gi M.P.sub [4]) zA)<|bF (aM .LtE) (az M.P.tab 3 zA) zB
def t27:TF:=λai=>aK<|aC 3 4<|ah (aH 3<|aj (ai 19) [(.int<|0)]<|k2 zB zA)
<|ah (aZ (a_<|bF (aM .Is) zD<|cF .non)
  (aD zA)
  aL)
<|aD<|oA (oA (jU zA oq<|gQ<|oI zD zO) zC)<|jU zA (gQ<|oI zD zI) oq
abbrev Vt:FS:=aZ (a_<|oE (oI zD<|vF 6)<|cI<|-1)
  (Hl jB 6 zI)
 <|ah (fU 4<|oA (jU zA (gQ<|vF 5)<|gQ<|vF 6) zC)
<|ah (aH 5<|oI zD<|vF 6)
<|aH 6<|vF 5
def t28:TF:=λai=>aK<|aC 3 7<|ah (aH 3<|aj (ai 21) []<|k2 zB zA)
<|ah (iC 4<|jY aT)
<|ah (aH 5 zO)
<|ah (aH 6 zO)
<|ah (ie many (a_<|bF (aM .Lt) (vF 6)<|aU bZ<|k1 zD)
  Vt)
<|aD<|oA (nV joinM (cS [])<|k1<|vF 4)<|jU zA (gQ<|vF 5) oq
def t29:TF:=λai=>aK<|aC 1 1<|aD<|eW<|dh (jV<|nV splitM zA<|k1<|cS [32]) 2 [] (setG 1) (a_<|bF (aM .NotEq) zB<|cS []) zB
def t30:TF:=λai=>aK<|aC 2 3<|ah (aH 2<|aj (ai 29) []<|k1 zA)
<|ah (aZ (a_<|bF (aM .Gt) zB<|aU bZ<|k1 zC)
  (aD<|cF .non)
  aL)
<|aD<|oI zC<|bF (jZ .Sub) zB zI
def t31:TF:=λai=>aK<|aC 1 2<|ah (aH 1<|qV (tB<|nV K4 zA<|k1<|cS [45]) (jU zA (gQ zI) oq) zA)
<|ah (aZ (ic (a_<|oE zB<|cS [])<|ic (a_<|bF (aM .Gt) (aU bZ<|k1 zB)<|cI 60)<|dC<|tB<|aj (ai 3) []<|k2 zB<|cS [48,49,50,51,52,53,54,55,56,57])
  (aD<|cF .non)
  aL)
<|aD<|aU Ml<|k1 zA
def t32:TF:=λai=>aK<|aC 1 1<|aD<|eW<|dh (jV zA) 2 [] (setG 1) (a_<|oE (oI zB zO)<|cS zg)<|oI zB zI
abbrev Vu:FS:=aZ (tB<|dg (gi M.P.sub [12])<|az M.P.tab 2 zD)
  (K6 1 (az M.P.tab 9<|az M.P.tab 2 zD) zC)
  aL
def t33:TF:=λai=>aK<|aC 1 4<|ah (B6 1)
<|ah (dD (jc 1 zA) (dc [2,3])
  Vu)
<|aD zB
def Ý:TF:=λai=>aK<|aC 2 6<|ah (lP<|aH 2<|aj (ai 24) []<|k1<|oI (aj (ai 1) []<|k1 zB) zO)
<|ah (lP<|aH 3<|kc 26 (ai 94)<|k1 zA)
<|ah (dD (rN<|jc 1 zC) (dc [4,5])
 <|aQ<|Cm 26 (ai 96) zD<|k2 (qX<|vF 5)<|qX<|jU zC (gQ<|vF 4) oq)
<|ah (lP<|aQ<|aG (aw [(26,101)] ai) zD aT)
<|lP<|aD<|aU cz<|bq (aj (ai 32) []<|k1<|iZ M.bc M.P.tab 29 zD)<|k3 (iZ M.bc M.P.tab 27 zD) (iZ M.bc M.P.tab 28 zD)<|iZ M.bc M.P.tab 29 zD
def t35:TF:=λai=>aK<|aC 2 5<|ah (aH 2<|aj (ai 34) []<|k2 (qX zA)<|qX zB)
<|ah (lP<|aH 3<|oI (aj (ai 1) []<|k1 zB) zO)
<|ah (lP<|aH 4<|aj (ai 2) []<|k2 (oI zC zO)<|oI (aj (ai 1) []<|k1 zB) zI)
<|lP<|aD<|aU cz<|k3 (aj (ai 36) []<|k1 zB) (aj (ai 36) []<|k1<|vF 4)<|aj (ai 37) []<|k2 (oI zC<|cI 3) zD
def t36:TF:=λai=>aK<|aC 1 2<|ah (aH 1<|aj (ai 1) []<|k1 zA)
<|aD<|aU cz<|k2 (aU bZ<|k1<|oI zB zO)<|oI zB zI
abbrev Jr:FS:=aZ (a_<|oE (oI (vF 6) zO)<|cS [116,97,107,101])
  (aH 4<|oI (vF 6) zI)
 <|aZ (a_<|oE (oI (vF 6) zO)<|cS zg)
  (fU 5<|oI (vF 6) zI)
 <|aZ (a_<|oE (oI (vF 6) zO)<|cS [111,118,101,114])
  (ah (aZ (a_<|bF (aM .NotEq) (vF 5)<|jU zB (gQ zD)<|gQ<|vF 4)
  (fU 2<|aU cz<|k3 zD (jU zB (gQ zD)<|gQ<|vF 4)<|vF 5)
  aL)
<|ah (aH 3<|vF 4)
<|iC 5<|jY aT)
  aL
def t37:TF:=λai=>aK<|aC 2 7<|ah (iC 2<|jY aT)
<|ah (aH 3 zO)
<|ah (aH 4 zO)
<|ah (iC 5<|jY aT)
<|ah (dD (jV<|oA zA<|aU cO<|k1<|aU cz<|k1<|cS [111,118,101,114]) (setG 6)
  Jr)
<|aD zC
def t38:TF:=λai=>aK<|aC 2 4<|ah (aH 2<|kc 27 (ai 115)<|k2 zA zB)
<|ah (aH 3<|aj (ai 39) []<|k1 zC)
<|ah (aZ (ic (a_<|bF (aM .NotEq) (az M.P.tab 31 zC)<|cS [])<|dC<|tB<|aj (ai 51) []<|k2 (az M.P.tab 1 zD)<|az M.P.tab 2 zD)
  (aQ<|aG (aw [(27,116)] ai) zC aT)
  aL)
<|aD zD
def t39:TF:=λai=>aC 1 2<|ah (aZ (tB<|aG (aw [(27,117)] ai) zA<|k1<|cS [109,97,114,107,32])
  (aD<|dR 1 2<|k2 (dR 3 0 aT)<|dR 12 1<|k1<|aj (ai 48) []<|k1 zA)
  aL)
<|ah (aZ (dC<|tB<|aU Ei<|k1<|eW<|dh (jV<|cF<|.tup [(.str [114,111,119,32]),(.str [108,97,115,116]),(.str [47]),(.str [115,111,111,110,32]),(.str [102,114,111,109,32]),(.str [110,111,116,32]),(.str [101,110,100])]) 2 [0] (setG 1) fj<|nV K4 (az M.P.tab 31 zC)<|k1 zB)
  (aD<|dR 1 2<|k2 (dR 3 0 aT)<|aj (ai 43) []<|k1 zA)
  aL)
<|ah (aH 1<|aj (ai 40) []<|k1 zA)
<|ah (aQ<|aG (aw [(27,118)] ai) zA<|k1<|cS [58,32])
<|aD<|dR 1 2<|k2 zB<|aj (ai 43) []<|k1 zA
def t40:TF:=λai=>aC 1 1<|ah (aZ (tB<|aG (aw [(27,117)] ai) zA<|k1<|cS [101,110,100])
  (aD<|dR 10 0 aT)
  aL)
<|ah (aZ (tB<|aG (aw [(27,117)] ai) zA<|k1<|cS [110,111,116,32])
  (aD<|dR 9 1<|k1<|aj (ai 41) []<|k1 zA)
  aL)
<|aD<|aj (ai 41) []<|k1 zA
def t41:TF:=λai=>aC 1 3<|ah (aZ (tB<|aG (aw [(27,117)] ai) zA<|k1<|cS [108,97,115,116])
  (aD<|dR 5 0 aT)
  aL)
<|ah (aZ (tB<|aG (aw [(27,117)] ai) zA<|k1<|cS [115,111,111,110,32])
  (ah (aH 1<|aj (ai 47) []<|k3 zA zI<|cI 3)
<|ah (aQ<|aG (aw [(27,118)] ai) zA<|k1<|cS [32])
<|aD<|dR 7 2<|k2 zB<|aj (ai 50) []<|k1 zA)
  aL)
<|ah (aZ (tB<|aG (aw [(27,117)] ai) zA<|k1<|cS [102,114,111,109,32])
  (ah (aH 2<|aj (ai 42) []<|k1 zA)
<|ah (aQ<|aG (aw [(27,118)] ai) zA<|k1<|cS [32,116,111,32])
<|aD<|dR 8 2<|k2 zC<|aj (ai 42) []<|k1 zA)
  aL)
<|aD<|aj (ai 42) []<|k1 zA
def t42:TF:=λai=>aC 1 1<|ah (aZ (tB<|aG (aw [(27,117)] ai) zA<|k1<|cS [114,111,119,32])
  (aD<|dR 4 1<|k1<|aj (ai 47) []<|k3 zA zI<|cI 999)
  aL)
<|aD<|dR 6 1<|k1<|aj (ai 50) []<|k1 zA
def t43:TF:=λai=>aC 1 1<|ah (aZ (tB<|aG (aw [(27,117)] ai) zA<|k1<|cS [100,114,111,112])
  (aD<|dR 13 0 aT)
  aL)
<|ah (aZ (tB<|aG (aw [(27,117)] ai) zA<|k1<|cS [112,114,105,110,116])
  (aD<|dR 14 0 aT)
  aL)
<|ah (aZ (tB<|aG (aw [(27,117)] ai) zA<|k1<|cS [100,111,110,101])
  (aD<|dR 15 0 aT)
  aL)
<|ah (aZ (tB<|aG (aw [(27,117)] ai) zA<|k1<|cS [116,101,108,108])
  (aD<|dR 23 0 aT)
  aL)
<|ah (aZ (tB<|aG (aw [(27,117)] ai) zA<|k1<|cS [115,97,121,32])
  (aD<|dR 16 1<|k1<|aj (ai 49) []<|k1 zA)
  aL)
<|ah (aZ (tB<|aG (aw [(27,117)] ai) zA<|k1<|cS [115,119,97,112,32,101,118,101,114,121,32])
  (aD<|aj (ai 44) []<|k2 zA<|cF<|.bl O)
  aL)
<|ah (aZ (tB<|aG (aw [(27,117)] ai) zA<|k1<|cS [115,119,97,112,32])
  (aD<|aj (ai 44) []<|k2 zA<|cF<|.bl ZA)
  aL)
<|ah (aZ (tB<|aG (aw [(27,117)] ai) zA<|k1<|cS [106,111,105,110,32])
  (aD<|dR 18 1<|k1<|aj (ai 47) []<|k3 zA (cI 2)<|cI 9)
  aL)
<|ah (aZ (tB<|aG (aw [(27,117)] ai) zA<|k1<|cS [112,105,108,101,32])
  (aD<|aj (ai 45) []<|k1 zA)
  aL)
<|ah (aZ (tB<|aG (aw [(27,117)] ai) zA<|k1<|cS [98,114,105,110,103,32])
  (aD<|dR 20 1<|k1<|aj (ai 48) []<|k1 zA)
  aL)
<|ah (aZ (tB<|aG (aw [(27,117)] ai) zA<|k1<|cS [103,111,32])
  (aD<|dR 21 1<|k1<|aj (ai 48) []<|k1 zA)
  aL)
<|ah (aQ<|aG (aw [(27,118)] ai) zA<|k1<|cS [97,100,100,32])
<|aD<|aj (ai 46) []<|k1 zA
def t44:TF:=λai=>aC 2 3<|ah (aH 2<|aj (ai 50) []<|k1 zA)
<|ah (aQ<|aG (aw [(27,118)] ai) zA<|k1<|cS [32])
<|aD<|dR 17 3<|k3 zC (aj (ai 49) []<|k1 zA) zB
def t45:TF:=λai=>aC 1 2<|ah (aH 1<|aj (ai 48) []<|k1 zA)
<|ah (aZ (dC<|tB<|aG (aw [(27,117)] ai) zA<|k1<|cS [32])
  (aD<|dR 19 2<|k2 zB<|cF .non)
  aL)
<|aD<|dR 19 2<|k2 zB<|aj (ai 47) []<|k3 zA zI<|cI 9
def t46:TF:=λai=>aC 1 2<|ah (aH 1<|aj (ai 47) []<|k3 zA zI<|cI 9)
<|ah (aQ<|aG (aw [(27,118)] ai) zA<|k1<|cS [32])
<|aD<|dR 22 2<|k2 zB<|aj (ai 47) []<|k3 zA zI<|cI 9
def t47:TF:=λai=>aC 3 5<|ah (aH 3<|aG (aw [(27,119)] ai) zA<|k1<|cS [48,49,50,51,52,53,54,55,56,57])
<|ah (aZ (ic (a_<|oE zD<|cS [])<|ic (tB<|nV K4 zD<|k1<|cS [48])<|a_<|bF (aM .Gt) (aU bZ<|k1 zD)<|cI 3)
  (aQ<|aG (aw [(27,116)] ai) zA aT)
  aL)
<|ah (aH 4<|aU Ml<|k1 zD)
<|ah (aZ (ic (a_<|bF (aM .Lt) (vF 4) zB)<|a_<|bF (aM .Gt) (vF 4) zC)
  (aQ<|aG (aw [(27,116)] ai) zA aT)
  aL)
<|aD<|vF 4
def t48:TF:=λai=>aC 1 2<|ah (aH 1<|aG (aw [(27,119)] ai) zA<|k1<|cS Ù)
<|ah (aZ (ic (a_<|oE zB<|cS [])<|a_<|bF (aM .Gt) (aU bZ<|k1 zB)<|cI 8)
  (aQ<|aG (aw [(27,116)] ai) zA aT)
  aL)
<|aD zB
def t49:TF:=λai=>aC 1 2<|ah (aH 1<|aG (aw [(27,120)] ai) zA<|k1<|cS [34])
<|ah (aZ (ic (a_<|bF (aM .Gt) (aU bZ<|k1 zB)<|cI 40)<|dC<|tB<|aj (ai 3) []<|k2 zB<|cS NH)
  (aQ<|aG (aw [(27,116)] ai) zA aT)
  aL)
<|aD zB
def t50:TF:=λai=>aC 1 2<|ah (aH 1<|aG (aw [(27,120)] ai) zA<|k1<|cS [47])
<|aD<|aj (ai 6) []<|k1 zB
def t51:TF:=λai=>aK<|aC 2 2<|ah (aZ (tB<|dg (gi M.P.sub [10]) zA)
  (aD<|dg (gi M.P.sub [16,20,23]) zB)
  aL)
<|ah (aZ (tB<|dg (gi M.P.sub [17]) zB)
  (aD<|aj (ai 52) []<|k1 zB)
  aL)
<|aD<|nS<|dg (gi M.P.sub [23]) zB
def t52:TF:=λai=>aK<|aC 1 1<|ah (aZ (tB<|aj (ai 15) []<|k1<|az M.P.tab 4 zA)
  (aD<|cF<|.bl ZA)
  aL)
<|aD<|orV (nS<|az M.P.tab 11 zA)<|bF (aM .LtE) (aU bZ<|k1<|az M.P.tab 10 zA)<|aj (ai 16) []<|k1<|az M.P.tab 4 zA
def t53:TF:=λai=>aK<|aC 1 3<|ah (aH 1<|aj (ai 54) []<|k1<|oI (aj (ai 1) []<|k1 zA) zO)
<|ah (aH 2<|aj (ai 55) []<|k1 zB)
<|ah (aQ<|aj (ai 56) []<|k2 zB zC)
<|aD<|dg (S3 0) zB
abbrev Þ(ai:Nat->Fn):FS:=ah (aZ (a_<|bF (aM .Gt) zC<|cI 24)
  b9
  aL)
<|fU 1<|aj (ai 38) []<|k2 zD zC
def t54:TF:=λai=>aK<|aC 1 4<|ah (iC 1<|jY aT)
<|ah (dD (jc 1 zA) (dc [2,3])
 <|Þ ai)
<|aD zB
abbrev ß:FS:=aZ (tB<|dg (gi M.P.sub [12])<|az M.P.tab 2 zD)
  (ah (aZ (a_<|IJ ZA 1<|az M.P.tab 9<|az M.P.tab 2 zD)
  b9
  aL)
<|K6 1 (az M.P.tab 9<|az M.P.tab 2 zD)<|cF<|.bl O)
  aL
def t55:TF:=λai=>aK<|aC 1 4<|ah (B6 1)
<|ah (dD (jc 1 zA) (dc [2,3])
  ß)
<|aD zB
abbrev à:FS:=aZ (iU (tB<|dg (gi M.P.sub [21])<|az M.P.tab 2 zD)<|a_<|bF (aM .NotIn) (az M.P.tab 9<|az M.P.tab 2 zD) zB)
  b9
  aL
def t56:TF:=λai=>aK<|aC 2 4<|dD (jc 1 zA) (dc [2,3])
  à
def t57:TF:=λai=>aK<|aC 2 2<|ah (aZ (a_<|bF (aM .Lt) zB<|aU bZ<|k1 zA)
  (aD<|oI zA zB)
  aL)
<|aD zO
def t58:TF:=λai=>aK<|aC 1 5<|ah (aH 1<|oI (cS [97,98,99])<|oM zA<|cI 3)
<|ah (aH 2<|oI (cS [97,98,99])<|oM (oD zA<|cI 3)<|cI 3)
<|ah (aH 3<|aU strN<|k1<|oA zI<|oM (oD zA<|cI 9)<|cI 5)
<|ah (aH 4<|aU cO<|bq (cS [])<|bq (cS [])<|bq (oA (oA (cS [114,111,119,32]) zD)<|cS [58,32])<|k3 (cS [108,97,115,116,58,32]) (oA (oA (cS [47]) zB)<|cS [47,58,32])<|oA (oA (cS [110,111,116,32,47]) zB)<|cS [47,58,32])
<|ah (aH 4<|oA (vF 4)<|aU cO<|k2 (oA (oA (oA (oA (cS [102,114,111,109,32,47]) zB)<|cS [47,32,116,111,32,47]) zC)<|cS [47,58,32])<|oA (oA (oA (oA (cS [102,114,111,109,32,114,111,119,32]) zD)<|cS [32,116,111,32,47]) zC)<|cS [47,58,32])
<|ah (aH 4<|oA (vF 4)<|aU cO<|bq (oA (oA (cS [115,111,111,110,32,49,32,47]) zB)<|cS [47,58,32])<|k3 (cS [47,94,36,47,58,32]) (cS [110,111,116,32,108,97,115,116,58,32])<|oA (oA (oA (oA (cS [102,114,111,109,32,47]) zB)<|cS [47,32,116,111,32,114,111,119,32]) zD)<|cS [58,32])
<|aD<|oI (vF 4)<|oM (oD zA<|cI 45)<|cI 12
def t59:TF:=λai=>aK<|aC 1 4<|ah (aH 1<|oI (cS [97,98,99])<|oM zA<|cI 3)
<|ah (aH 2<|oI (aU cO<|bq (cS [])<|bq (cS [120])<|k3 (cS [97,98]) (cS [99,32,97])<|cS [98])<|oM (oD zA<|cI 3)<|cI 5)
<|ah (aH 3<|aU cO<|bq (cS [100,114,111,112])<|bq (cS [112,114,105,110,116])<|k3 (cS [100,111,110,101]) (oA (oA (cS [115,97,121,32,34]) zC)<|cS [34])<|oA (oA (oA (oA (cS [115,119,97,112,32,47]) zB)<|cS [47,32,34]) zC)<|cS [34])
<|ah (aH 3<|oA zD<|aU cO<|bq (oA (oA (oA (oA (cS [115,119,97,112,32,101,118,101,114,121,32,47]) zB)<|cS [47,32,34])<|jU zC oq<|gQ zI)<|cS [34])<|bq (cS [106,111,105,110,32,50])<|k3 (cS [106,111,105,110,32,51]) (cS [112,105,108,101,32,115])<|cS [112,105,108,101,32,115,32,50])
<|ah (aH 3<|oA zD<|aU cO<|bq (cS [98,114,105,110,103,32,115])<|bq (cS [112,105,108,101,32,116,32,49])<|bq (cS [98,114,105,110,103,32,116])<|k3 (cS [97,100,100,32,49,32,50]) (oA (oA (cS [115,119,97,112,32,47]) zB)<|cS [43,47,32,34,34])<|cS [100,114,111,112])
<|aD<|oI zD<|oM (oD zA<|cI 15)<|cI 16
abbrev Vv(ai:Nat->Fn):FS:=aZ (iU (a_<|oE (oM zD<|cI 13)<|cI 5)<|a_<|IJ O 2<|cS [109,97,114,107,32,109])
  (fU 2<|cS [109,97,114,107,32,109])
 <|aZ (iU (a_<|oE (oM zD<|cI 13)<|cI 6)<|tB zB)
  (fU 2<|oA (aj (ai 58) []<|k1<|oD zD<|cI 13)<|cS [103,111,32,109])
 <|aZ (a_<|oE (oM zD<|cI 13)<|cI 7)
  (fU 2<|oA (cS [101,110,100,58,32])<|oI (aU cO<|bq (cS [115,97,121,32,34,34])<|bq (cS [98,114,105,110,103,32,115])<|k3 (cS [98,114,105,110,103,32,116]) (cS [115,97,121,32,34,97,98,34])<|cS [116,101,108,108])<|oM (oD zD<|cI 13)<|cI 5)
 <|fU 2<|oA (aj (ai 58) []<|k1<|oD zD<|cI 13)<|aj (ai 59) []<|k1<|oD zD<|cI 7020
def t60:TF:=λai=>aK<|aC 1 4<|ah (aH 1<|bF (aM .NotEq) (eW<|dh (jV zA) 2 [] (setG 1) (a_<|oE (oM zB<|cI 13)<|cI 5) zB)<|aU cO aT)
<|ah (iC 2<|jY aT)
<|ah (dD (jV zA) (setG 3)
 <|Vv ai)
<|aD<|nV joinM (cS [])<|k1<|eW<|dh (jV zC) 2 [] (setG 1) fj<|oA zB<|cS [10]
abbrev á:FS:=ah (aH 2<|oA zC<|oI (cS [97,98,99,32,98,49,32])<|oM zB<|cI 7)
<|aH 1<|oD zB<|cI 7
def t61:TF:=λai=>aK<|aC 1 4<|ah (aH 1<|oM (oD zA<|cI 7)<|cI 16807)
<|ah (aH 2<|cS [])
<|ah (dD (Fg zt<|k1<|oM zA<|cI 7) (setG 3)
  á)
<|aD zC
def t62:TF:=λai=>aK<|aC 2 3<|ah (aH 2<|nV joinM (cS [10])<|k1<|eW<|dh (jV zA) 2 [] (setG 1) fj<|aj (ai 61) []<|k1 zB)
<|ah (aZ (iU (a_<|bF (aM .NotEq) zA<|aU cO aT)<|ic (tB zB)<|ic (a_<|oE zC<|cS [])<|a_<|oE (oI zC<|dg gx zI)<|cS [10])
  (aD<|oA zC<|cS [10])
  aL)
<|aD zC
def t63:TF:=λai=>aK<|aC 1 3<|ah (aH 1<|eW<|dh (jV<|z_ (2) zA (gQ zI)<|gQ<|cI 21) 2 [] (setG 1) fj<|oM (bF (jZ .Mult) zB<|cI 69621)<|cI 2147483647)
<|ah (aH 2<|eW<|dh (jV<|z_ (2) zA (gQ<|cI 2)<|gQ<|cI 26) 2 [] (setG 1) fj<|oM (bF (jZ .Mult) zB<|cI 48271)<|cI 2147483647)
<|aD<|aU cz<|k2 (aj (ai 60) []<|k1 zB)<|aj (ai 62) []<|k2 zC<|bF (aM .Gt) (oM (aj (ai 57) []<|k2 zA zO)<|cI 3) zO
def t64:TF:=λai=>aK<|aC 1 2<|ah (aZ (a_<|oE zA<|cS [])
  (aD<|aU cz<|k2 (aU cO aT)<|cF<|.bl O)
  aL)
<|ah (aH 1<|nV splitM zA<|k1<|cS [10])
<|ah (aZ (a_<|oE (oI zB<|dg gx zI)<|cS [])
  (aD<|aU cz<|k2 (jU zB oq<|gQ<|dg gx zI)<|cF<|.bl O)
  aL)
<|aD<|aU cz<|k2 zB<|cF<|.bl ZA
def t65:TF:=λai=>aK<|aC 2 3<|ah (aH 2<|nV joinM (cS [10])<|k1 zA)
<|ah (aZ (iU (a_<|bF (aM .NotEq) zA<|aU cO aT)<|ic (tB zB)<|a_<|oE (oI zA<|dg gx zI)<|cS [])
  (aD<|oA zC<|cS [10])
  aL)
<|aD zC
def t66:TF:=λai=>aK<|aC 2 5<|ah (aH 2<|cF .non)
<|ah (aH 3<|aU cz aT)
<|ah (rO 2 4 3 0<|aj (ai 34) []<|rN<|k2 zA zB)
<|aD<|aU cz<|k2 zC zD
def t67:TF:=λai=>aK<|aC 2 5<|ah (aH 2<|cF .non)
<|ah (aH 3<|aU cz aT)
<|ah (rO 2 4 3 0<|aj (ai 35) []<|rN<|k2 zA zB)
<|aD<|aU cz<|k2 zC zD
def t68:TF:=λai=>aK<|aC 1 1<|aD<|k6 (dg (yJ "int") zA)<|nS<|dg (yJ "bool") zA
def t69:TF:=λai=>aK<|aC 1 1<|aD<|k6 (dg (yJ "list") zA)<|aU Eh<|k1<|eW<|dh (jV zA) 2 [] (setG 1) fj<|dg (yJ "str") zB
abbrev â(ai:Nat->Fn):FS:=aZ (ic (dC<|tB<|dg (yJ "tuple") zB)<|ic (a_<|bF (aM .NotEq) (aU bZ<|k1 zB)<|cI 2)<|ic (dC<|tB<|aj (ai 68) []<|k1<|oI zB zO)<|dC<|tB<|dg (yJ "bool")<|oI zB zI)
  (aD<|cF<|.bl ZA)
  aL
abbrev Vw(ai:Nat->Fn):FS:=ah (aZ (ic (dC<|tB<|dg (yJ "tuple") zC)<|ic (a_<|bF (aM .NotEq) (aU bZ<|k1 zC)<|cI 3)<|dC<|tB<|aj (ai 68) []<|k1<|oI zC zO)
  (aD<|cF<|.bl ZA)
  aL)
<|aZ (ic (dC<|tB<|aj (ai 69) []<|k1<|oI zC zI)<|dC<|tB<|aj (ai 69) []<|k1<|oI zC<|cI 2)
  (aD<|cF<|.bl ZA)
  aL
def t70:TF:=λai=>aK<|aC 1 3<|ah (aZ (ic (dC<|tB<|dg (yJ "tuple") zA)<|ic (a_<|bF (aM .NotEq) (aU bZ<|k1 zA)<|cI 3)<|dC<|tB<|dg (yJ "list")<|oI zA<|cI 2)
  (aD<|cF<|.bl ZA)
  aL)
<|ah (dD (jV<|aU cO<|k2 (oI zA zO)<|oI zA zI) (setG 1)
 <|â ai)
<|ah (dD (jV<|oI zA<|cI 2) (setG 2)
 <|Vw ai)
<|aD<|cF<|.bl O
abbrev EH:FS:=ah (aZ (a_<|oE (oI (vF 6) zO)<|cS [116,97,107,101])
  (aH 4<|oA (vF 4)<|aU cO<|k1<|oI zB<|oA zD<|aU bZ<|k1<|vF 4)
  aL)
<|ah (aZ (a_<|oE (oI (vF 6) zO)<|cS zg)
  (aH 5<|oA (vF 5)<|aU cO<|k1<|oI (vF 6) zI)
  aL)
<|aZ (a_<|oE (oI (vF 6) zO)<|cS [111,118,101,114])
  (ah (aZ (a_<|bF (aM .NotEq) (vF 4)<|vF 5)
  (fU 2<|aU cz<|k3 zD (vF 4)<|vF 5)
  aL)
<|ah (aH 3<|oA zD<|aU bZ<|k1<|vF 4)
<|ah (aH 4<|aU cO aT)
<|aH 5<|aU cO aT)
  aL
def t71:TF:=λai=>aK<|aC 2 7<|ah (iC 2<|jY aT)
<|ah (aH 3 zO)
<|ah (aH 4<|aU cO aT)
<|ah (aH 5<|aU cO aT)
<|ah (dD (jV zA) (setG 6)
  EH)
<|ah (aZ (a_<|bF (aM .NotEq) (vF 5)<|aU cO aT)
  (fU 2<|aU cz<|k3 zD (aU cO aT)<|vF 5)
  aL)
<|aD zC
def t72:TF:=λai=>aK<|aC 1 14<|ah (nU (dc [4,5])<|aj (ai 63) []<|k1 zA)
<|ah (aH 1<|aj (ai 53) []<|k1<|vF 4)
<|ah (nU (dc [6,7])<|aj (ai 66) []<|k2 zB<|vF 5)
<|ah (nU (dc [8,9])<|aj (ai 67) []<|k2 zB<|vF 5)
<|ah (aZ (ic (a_<|bF (aM .Is) (vF 6)<|cF .non)<|a_<|bF (aM .Is) (vF 8)<|cF .non)
  (aD<|k6 (bF (aM .Is) (vF 6)<|cF .non)<|k6 (bF (aM .Is) (vF 8)<|cF .non)<|oE (vF 7)<|vF 9)
  aL)
<|ah (nU (dc [10,11])<|aj (ai 64) []<|k1<|vF 5)
<|ah (nU (dc [12,13])<|aj (ai 64) []<|k1<|aj (ai 65) []<|k2 (oI (vF 6) zO)<|vF 11)
<|ah (aH 2<|aU cz<|k3 (aU cz<|k2 (aU bZ<|k1<|vF 10)<|vF 11) (aU cz<|k2 (aU bZ<|k1<|vF 12)<|vF 13)<|aj (ai 71) []<|k2 (oI (vF 6)<|cI 3)<|vF 10)
<|ah (aZ (ic (dC<|tB<|aj (ai 70) []<|k1<|vF 8)<|a_<|bF (aM .NotEq) (vF 8) zC)
  (aD<|cF<|.bl ZA)
  aL)
<|ah (EA 3 (ai 67) []<|k2 zB<|oA (cS [97,98,10])<|vF 5)
<|aD<|k6 (oE (vF 8) zC)<|oE (aj (ai 35) []<|k2 zB<|vF 5) zC
def t73:TF:=λai=>aC 2 2<|aO M.P.tab 0 zA<|aU BO<|k1 zB
def t74:TF:=λai=>aC 3 3<|ah (aO M.P.tab 1 zA zB)
<|aO M.P.tab 2 zA zC
def t75:TF:=λai=>aC 2 2<|aO M.P.tab 3 zA zB
def t76:TF:=λai=>aC 2 2<|aO M.P.tab 4 zA zB
def t77:TF:=λai=>aC 3 3<|ah (aO M.P.tab 5 zA zB)
<|aO M.P.tab 4 zA zC
def t78:TF:=λai=>aC 3 3<|ah (aO M.P.tab 6 zA zB)
<|aO M.P.tab 7 zA zC
def t79:TF:=λai=>aC 2 2<|aO M.P.tab 8 zA zB
def t80:TF:=λai=>aC 2 2<|aO M.P.tab 9 zA zB
def t81:TF:=λai=>aC 2 2<|aO M.P.tab 10 zA zB
def t82:TF:=λai=>aC 4 4<|ah (aO M.P.tab 4 zA zB)
<|ah (aO M.P.tab 10 zA zC)
<|aO M.P.tab 11 zA zD
def t83:TF:=λai=>aC 2 2<|aO M.P.tab 12 zA zB
def t84:TF:=λai=>aC 3 3<|ah (aO M.P.tab 13 zA zB)
<|aO M.P.tab 12 zA zC
def t85:TF:=λai=>aC 2 2<|aO M.P.tab 13 zA zB
def t86:TF:=λai=>aC 2 2<|aO M.P.tab 9 zA zB
def t87:TF:=λai=>aC 3 3<|ah (aO M.P.tab 6 zA zB)
<|aO M.P.tab 7 zA zC
def t88:TF:=λai=>aC 3 3<|ah (aO M.P.tab 14 zA zB)
<|ah (aO M.P.tab 3 zA zC)
<|aO M.P.tab 15 zA<|mG M.bc
def t89:TF:=λai=>aC 2 3<|ah (aH 2<|aj (ai 13) []<|k1 zB)
<|ah (aZ (a_<|xC M.bc O zC<|az M.P.tab 15 zA)
  (nY M.bc (az M.P.tab 15 zA) zC<|aj (ai 20) []<|k2 zB<|az M.P.tab 14 zA)
  aL)
<|aD<|zU M.bc (az M.P.tab 15 zA) zC
def t90:TF:=λai=>aC 2 2<|ah (aO M.P.tab 16 zA<|eW<|dh (jV zB) 2 [] (setG 1) fj<|az M.P.tab 1 zB)
<|aO M.P.tab 17 zA<|mG M.bc
def ã:TF:=λai=>aC 3 6<|ah (iC 3<|jY aT)
<|ah (dD (jc 0<|az M.P.tab 16 zA) (dc [4,5])
 <|fU 3<|aG (aw [(25,92)] ai) zA<|bq (vF 4)<|k3 (vF 5) zB zC)
<|aD zD
def ä:TF:=λai=>aC 5 5<|ah (aZ (tB<|dg (gi M.P.sub [9]) zC)
  (aD<|nS<|aG (aw [(25,92)] ai) zA<|bq zB<|k3 (az M.P.tab 8 zC) zD<|vF 4)
  aL)
<|ah (aZ (tB<|dg (gi M.P.sub [8]) zC)
  (aD<|aG (aw [(25,93)] ai) zA<|k3 zB zC zD)
  aL)
<|ah (aZ (tB<|dg (gi M.P.sub [5]) zC)
  (aD<|oE (aU bZ<|k1<|vF 4) zO)
  aL)
<|ah (aZ (tB<|dg (gi M.P.sub [7]) zC)
  (aD<|aU Ei<|k1<|eW<|dh (jV<|jU (vF 4) oq<|gQ<|az M.P.tab 5 zC) 2 [2] (setG 1) fj<|aG (aw [(24,89)] ai) zB<|k1<|az M.P.tab 4 zC)
  aL)
<|aD<|aj (ai 25) []<|k2 zC zD
def t93:TF:=λai=>aC 4 4<|ah (aZ (tB<|rL M.bc (az M.P.tab 17 zA) zB<|cF<|.bl ZA)
  (ah (nY M.bc (az M.P.tab 17 zA) zB<|nS<|aj (ai 25) []<|k2 (az M.P.tab 7 zC) zD)
<|aD<|cF<|.bl O)
  aL)
<|ah (aZ (dC<|tB<|aj (ai 25) []<|k2 (az M.P.tab 6 zC) zD)
  (aD<|cF<|.bl ZA)
  aL)
<|ah (nY M.bc (az M.P.tab 17 zA) zB<|nS<|aj (ai 26) []<|k2 (az M.P.tab 7 zC)<|az M.P.tab 3 zD)
<|aD<|cF<|.bl O
def t94:TF:=λai=>aC 2 2<|ah (aO M.P.tab 0 zA<|aU BO<|k1<|az M.P.tab 0 zB)
<|ah (aO M.P.tab 18 zA<|aj (ai 33) []<|k1<|az M.P.tab 0 zA)
<|ah (aO M.P.tab 19 zA<|kc 25 (ai 90)<|k1<|az M.P.tab 0 zA)
<|ah (aO M.P.tab 20 zA<|aU cO aT)
<|ah (aO M.P.tab 21 zA zO)
<|ah (aO M.P.tab 22 zA<|mG M.bc)
<|ah (aO M.P.tab 23 zA zO)
<|ah (aO M.P.tab 24 zA<|cF .non)
<|ah (aO M.P.tab 25 zA zO)
<|ah (aO M.P.tab 26 zA<|mG M.bc)
<|ah (aO M.P.tab 27 zA<|mG M.bc)
<|ah (aO M.P.tab 28 zA<|wW M.bc<|jY aT)
<|ah (aO M.P.tab 29 zA<|wW M.bc<|jY aT)
<|ah (aO M.P.tab 30 zA<|cF<|.bl ZA)
<|aQ<|aG (aw [(26,95)] ai) zA aT
def t95:TF:=λai=>aC 1 1<|ah (gS M.bc (az M.P.tab 29 zA)<|aU cz<|k2 (cS [119,97,110,116])<|oA (az M.P.tab 23 zA) zI)
<|aO M.P.tab 30 zA<|cF<|.bl O
def Wr:TF:=λai=>aC 3 3<|aQ<|Cm 26 (ai 97) zA<|k2 (qX<|az M.P.tab 14 zB)<|qX<|aG (aw [(25,91)] ai) (az M.P.tab 19 zA)<|k2 zB zC
def t97:TF:=λai=>aC 3 3<|ah (lP<|zV M.P.tab 23 jB zA zI)
<|ah (lP<|gS M.bc (az M.P.tab 29 zA)<|aU cz<|k2 (cS [116,97,107,101])<|az M.P.tab 23 zA)
<|ah (lP<|aO M.P.tab 24 zA<|qV (a_<|bF (aM .Is) (az M.P.tab 24 zA)<|cF .non) zB<|oA (oA (az M.P.tab 24 zA)<|cS [32]) zB)
<|ah (lP<|zV M.P.tab 25 jB zA zI)
<|ah (lP<|aO M.P.tab 20 zA zC)
<|ah (lP<|aO M.P.tab 22 zA<|mG M.bc)
<|ah (lP<|aO M.P.tab 30 zA<|cF<|.bl ZA)
<|ie many (mK<|dC<|tB<|az M.P.tab 30 zA)
 <|aQ<|Cm 26 (ai 98) zA aT
def t98:TF:=λai=>aC 1 1<|aZ (mK<|a_<|oE (az M.P.tab 21 zA)<|aU bZ<|k1<|az M.P.tab 0 zA)
  (lP<|aQ<|aG (aw [(26,105)] ai) zA aT)
 <|ah (lP<|zV M.P.tab 21 jB zA zI)
<|aQ<|Cm 26 (ai 99) zA<|k2 (qX<|bF Bt (az M.P.tab 0 zA)<|bF (jZ .Sub) (az M.P.tab 21 zA) zI)<|qX<|az M.P.tab 21 zA
def t99:TF:=λai=>aC 3 4<|ah (aZ (mK<|tB<|dg (gi M.P.sub [10])<|az M.P.tab 1 zB)
  (lP<|aD<|cF .non)
  aL)
<|ah (aZ (mK<|a_<|xC M.bc ZA zC<|az M.P.tab 22 zA)
  (ZP 0<|k2 (az M.P.tab 23 zA) zC)
  aL)
<|ah (lP<|nY M.bc (az M.P.tab 22 zA) zC<|cF<|.bl O)
<|ah (lP<|aH 3<|bF Bt (az M.P.tab 20 zA)<|bF (jZ .Sub) zC zI)
<|ah (lP<|gS M.bc (az M.P.tab 29 zA)<|aU cz<|k3 (cS [109,101,101,116]) zC zD)
<|aZ (mK<|tB zD)
  (lP<|aQ<|aG (aw [(26,106)] ai) zA<|k2 (az M.P.tab 2 zB) zC)
  aL
def aaZ:TF:=λai=>aC 1 1<|aQ<|aj (ai 0) []<|k1 zO
abbrev CO(ai:Nat->Fn):FS:=aZ (tB<|dg (gi M.P.sub [10])<|az M.P.tab 1 zB)
  (aQ<|aG (aw [(26,107)] ai) zA<|k1<|az M.P.tab 2 zB)
  aL
def å:TF:=λai=>aC 1 2<|ah (aQ<|aG (aw [(26,102)] ai) zA aT)
<|ah (aZ (a_<|bF (aM .IsNot) (az M.P.tab 24 zA)<|cF .non)
  (ah (aQ<|aG (aw [(26,105)] ai) zA aT)
<|aQ<|aG (aw [(26,102)] ai) zA aT)
  aL)
<|ah (gS M.bc (az M.P.tab 29 zA)<|aU cz<|k1<|cS [101,110,100])
<|dD (jV<|az M.P.tab 0 zA) (setG 1)
 <|CO ai
def æ:TF:=λai=>aC 1 1<|gS M.bc (az M.P.tab 29 zA)<|aU cz<|k2 (cS [110,111,110,101])<|oA (az M.P.tab 23 zA) zI
def ç:TF:=λai=>aC 2 2<|gS M.bc (az M.P.tab 29 zA)<|aU cz<|k2 (cS zg) zB
def è:TF:=λai=>aC 1 1<|ah (gS M.bc (az M.P.tab 29 zA)<|aU cz<|k1<|cS [111,118,101,114])
<|ah (aO M.P.tab 24 zA<|cF .non)
<|ah (aO M.P.tab 25 zA zO)
<|ah (aO M.P.tab 21 zA zO)
<|aQ<|aG (aw [(26,95)] ai) zA aT
def é:TF:=λai=>aC 1 1<|ah (aQ<|aG (aw [(26,103)] ai) zA<|k1<|az M.P.tab 24 zA)
<|aQ<|aG (aw [(26,104)] ai) zA aT
def ê:TF:=λai=>aC 3 3<|aZ (tB<|dg (gi M.P.sub [13]) zB)
  (aQ<|aG (aw [(26,104)] ai) zA aT)
 <|aZ (tB<|dg (gi M.P.sub [14]) zB)
  (aQ<|aG (aw [(26,103)] ai) zA<|k1<|az M.P.tab 24 zA)
 <|aZ (tB<|dg (gi M.P.sub [15]) zB)
  (aQ<|aG (aw [(26,105)] ai) zA aT)
 <|aZ (tB<|dg (gi M.P.sub [17]) zB)
  (aQ<|aG (aw [(26,108)] ai) zA<|k1 zB)
 <|aZ (tB<|dg (gi M.P.sub [18]) zB)
  (aQ<|aG (aw [(26,109)] ai) zA<|k1 zB)
 <|aZ (tB<|dg (gi M.P.sub [19]) zB)
  (aQ<|aG (aw [(26,110)] ai) zA<|k1 zB)
 <|aZ (tB<|dg (gi M.P.sub [21]) zB)
  (aO M.P.tab 21 zA<|bF Bt (az M.P.tab 18 zA)<|az M.P.tab 9 zB)
 <|aZ (tB<|dg (gi M.P.sub [22]) zB)
  (aQ<|aG (aw [(26,113)] ai) zA<|k2 zB zC)
 <|aZ (dC<|tB<|dg (gi M.P.sub [12]) zB)
  (aQ<|aG (aw [(26,107)] ai) zA<|k1 zB)
  aL
def ë:TF:=λai=>aC 2 2<|aZ (tB<|dg (gi M.P.sub [16]) zB)
  (aQ<|aG (aw [(26,103)] ai) zA<|k1<|az M.P.tab 10 zB)
 <|aZ (tB<|dg (gi M.P.sub [20]) zB)
  (aQ<|aG (aw [(26,111)] ai) zA<|k1 zB)
 <|aZ (tB<|dg (gi M.P.sub [23]) zB)
  (aQ<|aG (aw [(26,114)] ai) zA aT)
  aL
def ì:TF:=λai=>aC 2 2<|aZ (tB<|az M.P.tab 11 zB)
  (aO M.P.tab 24 zA<|aj (ai 28) []<|k3 (az M.P.tab 24 zA) (az M.P.tab 4 zB)<|az M.P.tab 10 zB)
 <|aO M.P.tab 24 zA<|aj (ai 27) []<|k3 (az M.P.tab 24 zA) (az M.P.tab 4 zB)<|az M.P.tab 10 zB
def í:TF:=λai=>aC 2 2<|aZ (a_<|bF (aM .GtE) (az M.P.tab 25 zA)<|az M.P.tab 12 zB)
  (aQ<|aG (aw [(26,105)] ai) zA aT)
 <|aQ<|aG (aw [(26,95)] ai) zA aT
def î:TF:=λai=>aC 2 3<|ah (aH 2<|oA (rL M.bc (az M.P.tab 26 zA) (az M.P.tab 13 zB)<|aU cO aT)<|aU cO<|k1<|aU cz<|k2 (az M.P.tab 24 zA)<|az M.P.tab 25 zA)
<|nY M.bc (az M.P.tab 26 zA) (az M.P.tab 13 zB)<|qV (a_<|bF (aM .Is) (az M.P.tab 12 zB)<|cF .non) zC<|jU zC (gQ<|dg gx<|az M.P.tab 12 zB) oq
def ï:TF:=λai=>aC 2 3<|ah (dD (jV<|rL M.bc (az M.P.tab 26 zA) (az M.P.tab 13 zB)<|aU cO aT) (setG 2)
 <|aQ<|aG (aw [(26,103)] ai) zA<|k1<|oI zC zO)
<|nY M.bc (az M.P.tab 26 zA) (az M.P.tab 13 zB)<|aU cO aT
def aa0:TF:=λai=>aC 1 1<|aQ<|aj (ai 0) []<|k1 zI
def ð:TF:=λai=>aC 3 6<|ah (aH 3<|aj (ai 30) []<|k2 (az M.P.tab 24 zA)<|az M.P.tab 6 zB)
<|ah (aH 4<|aj (ai 30) []<|k2 (az M.P.tab 24 zA)<|az M.P.tab 7 zB)
<|ah (aH 5<|qV (a_<|bF (aM .Is) (vF 4)<|cF .non) (cF .non)<|aj (ai 31) []<|k1<|vF 4)
<|aZ (ic (a_<|bF (aM .Is) zD<|cF .non)<|a_<|bF (aM .Is) (vF 5)<|cF .non)
  (gS M.bc (az M.P.tab 28 zA)<|aU cz<|k2 (az M.P.tab 23 zA) zC)
 <|nY M.bc (az M.P.tab 27 zA) zD<|oA (rL M.bc (az M.P.tab 27 zA) zD zO)<|vF 5
abbrev Js(ai:Nat->Fn):FS:=aQ<|aG (aw [(26,103)] ai) zA<|k1<|oA (oA zB<|cS [32])<|aU strN<|k1<|zU M.bc (az M.P.tab 27 zA) zB
def ñ:TF:=λai=>aC 1 2<|dD (jV<|Ii M.bc<|az M.P.tab 27 zA) (setG 1)
 <|Js ai
def aa1:TF:=λai=>aC 3 3<|ah (aO M.P.tab 31 zA zB)
<|aO M.P.tab 3 zA zC
def aa2:TF:=λai=>aC 1 1 b9
def aa3:TF:=λai=>aC 2 2<|ah (aZ (dC<|tB<|nV K4 (az M.P.tab 31 zA)<|k1 zB)
  (aD<|cF<|.bl ZA)
  aL)
<|ah (aO M.P.tab 31 zA<|jU (az M.P.tab 31 zA) (gQ<|aU bZ<|k1 zB) oq)
<|aD<|cF<|.bl O
def aa4:TF:=λai=>aC 2 2<|aZ (dC<|tB<|aG (aw [(27,117)] ai) zA<|k1 zB)
  (aQ<|aG (aw [(27,116)] ai) zA aT)
  aL
def aa5:TF:=λai=>aC 2 3<|ah (aH 2<|aj (ai 4) []<|k2 (az M.P.tab 31 zA) zB)
<|ah (aO M.P.tab 31 zA<|jU (az M.P.tab 31 zA) (gQ<|aU bZ<|k1 zC) oq)
<|aD zC
def aa6:TF:=λai=>aC 2 4<|ah (aQ<|aG (aw [(27,118)] ai) zA<|k1 zB)
<|ah (aH 2<|nV BN (az M.P.tab 31 zA)<|k1 zB)
<|ah (aZ (a_<|oE zC<|dg gx zI)
  (aQ<|aG (aw [(27,116)] ai) zA aT)
  aL)
<|ah (aH 3<|jU (az M.P.tab 31 zA) oq<|gQ zC)
<|ah (aO M.P.tab 31 zA<|jU (az M.P.tab 31 zA) (gQ<|oA zC zI) oq)
<|aD zD
def aa7:TF:=λai=>aC 3 3<|ah b9
 b9
end K61
namespace K61
open D
variable(n:Nat){m:List _root_.D.Ob}
section
variable{s s' s1 s2:S}
def qg{a:Type}{l:List a}(h:j<Kk l):atT l (j:Int)=l[j]?:=by
 unfold atT;rw[bt<|by lia,bt<|by lia];rfl
def aa8{c m:Nat}(h:fl s=.ok (ts,s'))(a:Kk ts=m):dR c m fl s=.ok (.obj c ts,s'):=by
 unfold dR;rw[h];exact bt a
def aA(h:a s=.ok (t,s1))(b:fl s1=.ok (ts,s2)):bq a fl s=.ok (t::ts,s2):=by
 unfold bq;rw[h];show Res.bind (fl s1) _=_;rw[b];rfl
def eT(h:a s=.ok (t,s')):aH i a s=.ok (.nx,jT s' i<|.val t):=by unfold aH;rw[h];rfl
end
def uZ(a b:B1):aM .Eq (.str a) (.str b)=U (.bl<|decide<|a=b):=J
def EI(a b:Int):aM .Gt (.int a) (.int b)=U (.bl<|decide<|b<a):=J
def ò(a b:Int):aM .Lt (.int a) (.int b)=U (.bl<|decide<|a<b):=J
theorem kB:∀{ts:FR},(∀t∈ts,∃b1 b2,g t b=U b1/\e ⟨b1,m⟩=.ok (f t,⟨b2,m⟩))->bu g fj e b ts m=.ok (ts.map f,m)
 |[],_=>J
 |t::ts,h=>by
  obtain⟨b1,b2,d,c⟩:=h t<|d_ ..;unfold bu;rw[d];show Res.bind (e _) _=_;rw[c];show Res.bind (bu g fj e b ts m) _=_;rw[kB λt a=>h t<|ed _ a];rfl
def qh{n:Nat}(h:src s=.ok (ts,s1))(z:Kk ts<=1000000)(q:bu g c e (jz n js<|kg js s1.r) ts s1.m=.ok (us,m')):dh src n js g c e s=.ok (us,⟨kg js s1.r,m'⟩):=by
 unfold dh;rw[h];show(if Kk ts<=1000000 then _ else _)=_
 rw[bt z,q];rfl
def nC(h:fl s=.ok (ts,s')):eW fl s=.ok (.lst ts,s'):=by unfold eW;rw[h];rfl
def c7(h:fl s=.ok (ts,s'))(q:g ts=U t):aU g fl s=.ok (t,s'):=by unfold aU;rw[h];show Res.bind (bj _) _=_;rw[q];rfl
def cU{s s1 s2:S}(h:a s=.ok (t,s1))(c:b s1=.ok (u,s2))(k:g t u=U v):bF g a b s=.ok (v,s2):=by
 unfold bF;rw[h];apply dN;rw[c];apply dN;rw[k];rfl
def c8(h:g t s.r=U r)(a:b ⟨r,s.m⟩=.ok (.nx,s1))(k:aX g b ts s1=q):aX g b (t::ts) s=q:=by
 unfold aX;rw[h];apply dN;rw[a];exact k
def u6(h:src s=.ok (ts,s1))(k:aX g b ts s1=q):dD src g b s=q:=by unfold dD;rw[h];exact k
def ya(c:s.r[i]?=U (U<|.ol MF))(h:a s=.ok (t,s1))(b:s1.r[i]?=U (U<|.ol ts))(z:Kk ts<1000000):fU i a s=.ok (.nx,jT s1 i<|.ol<|ts++[t]):=by
 unfold fU;rw[c];refine Eq.trans (Ñ MF _) ?_;rw[h];apply dN;rw[b];refine Eq.trans (Ñ ts _) ?_;rw[gG z];rfl
def W.eq{v:b}(h:W x λa=>a=v):x=.ok v:=by
 obtain⟨a,e,rfl⟩:=h;exact e
def yb{src:FL}(h:W (src s) λp=>W (aX g b p.1 p.2) a):W (dD src g b s) a:=W.bind h
def dS{a n:Nat}{B:FS}{G:T×FX->Prop}(h:Kk ts=a)(k:W (B ⟨ts.map (λt=>sv t)++cR (n-Kk ts) Y,m⟩) λp=>p.1=.nx/\G (.non,p.2.m)):W (aC a n B ts m) G:=by
 unfold aC;rw[bt h];exact W.bind<|k.mono λp ⟨e,k⟩=>⟨_,by rw[e],k⟩
def qi(h:a s=.ok (t,s))(k:g t=U (.bl b)):D.tB (dg g a) s=.ok (b,s):=by
 unfold D.tB dg;rw[h];refine Eq.trans (ej (λz=>Res.bind z _)<|Ñ _ _) ?_;rw[k];rfl
def orN(h:c s=.ok (ZA,s1))(a:d s1=q):ic c d s=q:=by unfold ic;rw[h];exact a
def Vx(h:fl s=.ok (ts,s'))(k:g (.own s'.m.length::ts) (s'.m++[⟨c,[]⟩])=.ok (.non,m')):kc c g fl s=.ok (.own s'.m.length,⟨s'.r,m'⟩):=by
 unfold kc;rw[h];apply dN;rw[k]
section
variable{A B E:FS}{G:T×FX->Prop}
def bS(e:a s=.ok (t,s))(h:WB B (jT s i<|.val t) G):WB (ah (aH i a) B) s G:=bSt e h
def bN(e:c s=.ok (ZA,s))(h:WB B s G):WB (ah (aZ c A aL) B) s G:=bSk e h
def bY(e:c s=.ok (O,s))(h:WB A s G):WB (ah (aZ c A B) E) s G:=bHt e h
def bR(e:a s=.ok (t,s))(h:G (t,s.m)):WB (aD a) s G:=K8 e h
def sEq{a n:Nat}(h:aB ts=O)(e:Kk ts=a)(d:noOwn t=O)(k:WB b ⟨ts.map (λt=>sv t)++cR (n-Kk ts) Y,[]⟩ λp=>p.1=t):aK (aC a n b) ts m=.ok (t,m):=W.eq<|Õ h<|(gK e k).mono λp c=>⟨by rw[c];exact d,by rw[c]⟩
def cE(h:fl s=.ok (ts,s))(k:g ts s.m=.ok (t,s.m)):aj g [] fl s=.ok (t,s):=qe h (by rw[cJ];exact k)
def mE(h:o s=.ok (.own k,s))(a:s.m[k]?=U ob)(b:g ob.c=U f)(e:fl s=.ok (ts,s))(d:f (.own k::ts) s.m=.ok (t,m')):aG g o fl s=.ok (t,⟨s.r,m'⟩):=CM h a b e d
def wS(e:a s=.ok (t,s))(h:W (B<|jT s i<|.val t) d):W (ah (aH i a) B s) d:=rQ<|W.of (eT e) ⟨J,h⟩
def Jt{a:FG}(h:a t s.r=U r)(k:W (B ⟨r,s.m⟩) λp=>p.1=.nx/\W (aX a B ts p.2) d):W (aX a B (t::ts) s) d:=by
 obtain⟨⟨o,c⟩,e,rfl,p,b,q⟩:=k;exact⟨p,c8 h e b,q⟩
def cgS(h:g t b=U b1)(a:e ⟨b1,m⟩=.ok (u,⟨b2,m⟩))(k:bu g fj e b ts m=.ok (us,m)):bu g fj e b (t::ts) m=.ok (u::us,m):=by
 rw[bu,h];apply dN;apply dN;show Res.bind _ _=_;rw[a];apply dN;rw[k];rfl
def yL(h:a s=.ok (.bl b,s)):D.tB a s=.ok (b,s):=by unfold D.tB;rw[h];rfl
def dU(h:a s=.ok (.bl b,s)):D.a_ a s=.ok (b,s):=by unfold D.a_;rw[h];rfl
def K9(h:a s=.ok (t,s))(k:g t=U u):dg g a s=.ok (u,s):=by
 unfold dg;rw[h];apply dN;rw[k];rfl
def qj{d:FT}(h:c s=.ok (x,s))(a:d s=.ok (y,s)):iU c d s=.ok (x&&y,s):=by
 unfold iU;rw[h];cases x with
 |true=>exact a
 |false=>rfl
def yc{d:FT}(h:c s=.ok (x,s))(a:d s=.ok (y,s)):ic c d s=.ok (x ||y,s):=by
 unfold ic;rw[h];cases x with
 |true=>rfl
 |false=>exact a
def ó(h:fl s=.ok (ts,s1))(k:g ts=U us):Fg g fl s=.ok (us,s1):=by
 unfold Fg;rw[h];apply dN;rw[k];rfl
def NI(h:a s=.ok (.bl b,s1)):nS a s=.ok (.bl<|!b,s1):=by unfold nS;rw[h];rfl
def Ju(e:a s=.ok (t,s))(c:lo s=.ok (x,s))(d:b s=.ok (y,s))(h:slD x y t=U u):jU a lo b s=.ok (u,s):=by
 unfold jU;rw[e];apply dN;dsimp only;rw[c];apply dN;dsimp only;rw[d];apply dN;dsimp only;rw[h];rfl
def NJ(h:a s=.ok (t,s))(k:Yc t=U ts):jV a s=.ok (ts,s):=by
 unfold jV;rw[h];apply dN;rw[k];rfl
def ô{n:Nat}(h:src s=.ok (ts,s))(z:Kk ts<=1000000)(a:kg js s.r=s.r)(q:bu g c e (jz n js s.r) ts s.m=.ok (us,s.m)):eW (dh src n js g c e) s=.ok (.lst us,s):=by
 have:=nC<|qh h z<|by rw[a];exact q
 rw[a]at this;exact this
def pE(h:a s=.ok (t,s))(c:b s=.ok (u,s))(k:g t u=U v):bF g a b s=.ok (v,s):=cU h c k
def K_{s s1 s2:S}(h:o s=.ok (.str l,s1))(b:fl s1=.ok (ts,s2))(a:f l ts=U t):nV f o fl s=.ok (t,s2):=by
 unfold nV;rw[h];apply dN;apply dN;rw[b];apply dN;rw[a];rfl
end
def Vy(h:c s=.ok (ZA,s1)):iU c d s=.ok (ZA,s1):=by
 unfold iU;rw[h];rfl
def Vz{B:FS}(d:c s=.ok (O,s1))(h:W (B s1) λq=>q.1=.nx/\W (bU c B k q.2) b):W (bU c B (k+1) s) b:=by
 obtain⟨⟨o,s2⟩,e,rfl,h⟩:=h;obtain⟨a,f,h⟩:=h;refine⟨a,?_,h⟩;show Res.bind _ _=_;rw[d];show Res.bind (B s1) _=_;rw[e];exact f
def aa9(b:c s=.ok (ZA,s1))(h:a (.nx,s1)):W (bU c B (k+1) s) a:=by
 refine⟨_,?_,h⟩;show Res.bind _ _=_;rw[b];rfl
end K61
namespace K61
open PySem D L2
variable(n:Nat)
def Q7:List<|(Nat->Fn)->Fn:=[t0,t1,t2,t3,t4,t5,t6,t7,t8,t9,t10,t11,t12,t13,t14,t15,t16,t17,t18,t19,t20,t21,t22,t23,t24,t25,t26,t27,t28,t29,t30,t31,t32,t33,Ý,t35,t36,t37,t38,t39,t40,t41,t42,t43,t44,t45,t46,t47,t48,t49,t50,t51,t52,t53,t54,t55,t56,t57,t58,t59,t60,t61,t62,t63,t64,t65,t66,t67,t68,t69,t70,t71,t72,t73,t74,t75,t76,t77,t78,t79,t80,t81,t82,t83,t84,t85,t86,t87,t88,t89,t90,ã,ä,t93,t94,t95,Wr,t97,t98,t99,aaZ,å,æ,ç,è,é,ê,ë,ì,í,î,ï,aa0,ð,ñ,aa1,aa2,aa3,aa4,aa5,aa6,aa7]
def wT:∀i,cN (n+1) i=match Q7[i]? with
  |some f=>f<|cN n
  |none=>noFn
 |0=>J
 |1=>J
 |2=>J
 |3=>J
 |4=>J
 |5=>J
 |6=>J
 |7=>J
 |8=>J
 |9=>J
 |10=>J
 |11=>J
 |12=>J
 |13=>J
 |14=>J
 |15=>J
 |16=>J
 |17=>J
 |18=>J
 |19=>J
 |20=>J
 |21=>J
 |22=>J
 |23=>J
 |24=>J
 |25=>J
 |26=>J
 |27=>J
 |28=>J
 |29=>J
 |30=>J
 |31=>J
 |32=>J
 |33=>J
 |34=>J
 |35=>J
 |36=>J
 |37=>J
 |38=>J
 |39=>J
 |40=>J
 |41=>J
 |42=>J
 |43=>J
 |44=>J
 |45=>J
 |46=>J
 |47=>J
 |48=>J
 |49=>J
 |50=>J
 |51=>J
 |52=>J
 |53=>J
 |54=>J
 |55=>J
 |56=>J
 |57=>J
 |58=>J
 |59=>J
 |60=>J
 |61=>J
 |62=>J
 |63=>J
 |64=>J
 |65=>J
 |66=>J
 |67=>J
 |68=>J
 |69=>J
 |70=>J
 |71=>J
 |72=>J
 |73=>J
 |74=>J
 |75=>J
 |76=>J
 |77=>J
 |78=>J
 |79=>J
 |80=>J
 |81=>J
 |82=>J
 |83=>J
 |84=>J
 |85=>J
 |86=>J
 |87=>J
 |88=>J
 |89=>J
 |90=>J
 |91=>J
 |92=>J
 |93=>J
 |94=>J
 |95=>J
 |96=>J
 |97=>J
 |98=>J
 |99=>J
 |100=>J
 |101=>J
 |102=>J
 |103=>J
 |104=>J
 |105=>J
 |106=>J
 |107=>J
 |108=>J
 |109=>J
 |110=>J
 |111=>J
 |112=>J
 |113=>J
 |114=>J
 |115=>J
 |116=>J
 |117=>J
 |118=>J
 |119=>J
 |120=>J
 |121=>J
 |_+122=>J
def wI(n i:Nat)(h:Q7[i]?=U f):cN (n+1) i=f (cN n):=by rw[wT,h]
def eK:Nat->Nat->Fn
 |0,_=>noFn
 |n+1,i=>match Q7[i]? with
  |some f=>f<|eK n
  |none=>noFn
theorem tm:∀n i,cN n i=eK n i
 |0,_=>J
 |n+1,i=>by rw[wT,z3<|tm n];rfl
end K61
namespace K61
open D
variable(n:Nat){m:List _root_.D.Ob}
def Bl(x y:Res a):Prop:=x=.bad\/x=y
def Bl.r{x:Res a}:Bl x x:=.inr J
def Bl.b{f g:d->Res e}(h:Bl x y)(k:∀p,Bl (f p)<|g p):Bl (x.bind f)<|y.bind g:=by
 rcases h with rfl|rfl
 .exact .inl J
 .cases x with
  |ok a=>exact k a
  |bad=>exact .inl J
  |exc c fs s=>exact .inr J
theorem Bl.z7{a:Type}{x y:Res a}(h:Bl x y):Bl (z7 x)<|z7 y:=by
 rcases h with rfl|rfl
 .exact .inl J
 .exact .r
abbrev BF(a b:Fn):Prop:=∀ts m,Bl (a ts m)<|b ts m
section
variable{A B t y:FS}{fl d:FL}
def u7(h:BF a b)(c:∀s,Bl (fl s)<|d s)(s:S):Bl (aj a ds fl s)<|aj b ds d s:=by
 refine(c s).b λp=>?_;rcases h _ _ with e|e
 .rw[e];exact .inl J
 .rw[e];exact .r
def Jv{a:Type}{x y:Fn}{f:Fn->Res a}(h:BF x y)(k:∀x y,BF x y->Bl (f x) (f y)):Bl ((bj<|U x).bind f)<|(bj<|U y).bind f:=k _ _ h
def Q8(h:BF a b)(c:∀s,Bl (fl s)<|d s)(s:S):Bl (Cm k a o fl s)<|Cm k b o d s:=
 Bl.r.b λ_=>Bl.r.b λ_=>u7 h (λ_=>Bl.r.b λ_=>(c _).b λ_=>.r) _
def CP(h:BF (u i)<|v i)(s:S):Bl (aG (aw [(k,i)] u) o fl s)<|aG (aw [(k,i)] v) o fl s:=by
 have e:∀c,(aw [(k,i)] u c=Y/\aw [(k,i)] v c=Y)\/(aw [(k,i)] u c=U (u i)/\aw [(k,i)] v c=U (v i)):=λc=>by
  unfold aw;show(O8 u (match c == k with|true=>U i|false=>_)=Y/\O8 v (match c == k with|true=>U i|false=>_)=Y)\/_
  cases g:c == k
  .exact .inl ⟨J,J⟩
  . simp[g]
 refine Bl.r.b λp=>?_;obtain⟨t,f⟩:=p;cases t with
 |own l=>
  dsimp only;cases f.m[l]? with
  |none=>exact .inl J
  |some ob=>
   rcases e ob.c with⟨a,d⟩|⟨a,d⟩
   .exact .inl (by show Res.bind (bj<|aw _ u ob.c) _=_;rw[a];rfl)
   .show Bl (Res.bind (bj<|aw _ u ob.c) _)<|Res.bind (bj<|aw _ v ob.c) _
    rw[a,d];exact Jv h λx y h=>u7 h (λ_=>.r) _
 |obj c fs=>
  dsimp only;rcases e c with⟨a,d⟩|⟨a,d⟩
  .exact .inl (by rw[a];rfl)
  .rw[a,d]
   exact Jv h λx y h=>u7 h (λ_=>.r) _
 |_=>exact .inl J
def qk(h:∀s,Bl (A s)<|B s)(k:∀s,Bl (t s)<|y s)(s:S):Bl (ah A t s)<|ah B y s:=(h s).b λp=>by
 obtain⟨o,a⟩:=p;cases o with
 |nx=>exact k a
 |_=>exact .r
def Jw(h:∀s,Bl (A s)<|B s)(s:S):Bl (dD src g A s)<|dD src g B s:=by
 have go:∀(ts:FR)(s:S),Bl (aX g A ts s)<|aX g B ts s:=λts=>by
  induction ts with
  |nil=>exact λ_=>.r
  |cons t ts c=>
   exact λs=>Bl.r.b λr=>(h _).b λp=>by
    obtain⟨o,a⟩:=p;cases o with
    |nx=>exact c a
    |ct=>exact c a
    |_=>exact .r
 exact Bl.r.b λp=>go _ _
def Ao{n m:Nat}(h:∀s,Bl (A s)<|B s):BF (aC n m A)<|aC n m B:=λts a=>by
 unfold aC;split
 .exact(h _).b λ_=>.r
 .exact .r
def NK(h:BF a b):BF (aK a)<|aK b:=λts m=>by
 unfold aK;split
 .rcases h ts []with e|e<;>rw[e]
  .exact .inl J
  .exact .r
 .exact .r
end
def ups(u:Nat->Fn)(i:Nat)(a:Fn)(j:Nat):Fn:=match j.beq i with
 |true=>a
 |false=>u j
def mo{k i:Nat}{u:Nat->Fn}:aw [(k,i)] u=λc=>match c == k with|true=>U<|u i|false=>Y:=by
 funext c
 unfold aw;rw[fS];cases c == k<;>rfl
def tb:List<|Nat×B1:=[(5,[]),(12,[5]),(14,[12]),(13,[14]),(22,[]),(17,[]),(18,[]),(23,[17,18]),(21,[22,23]),(19,[21]),(20,[19]),(89,[13,20]),(25,[89]),(26,[]),(93,[25,26]),(103,[]),(95,[]),(104,[95]),(105,[103,104]),(111,[103]),(114,[103]),(107,[103,111,114]),(27,[19]),(28,[21]),(108,[27,28]),(109,[95,105]),(110,[]),(29,[]),(30,[29]),(3,[]),(31,[3]),(113,[30,31]),(106,[103,104,105,107,108,109,110,113]),(99,[106]),(98,[99,105]),(97,[98]),(1,[]),(88,[]),(24,[88]),(32,[]),(33,[]),(90,[]),(94,[33,90,95]),(102,[]),(101,[102,105,107])]
def tu(S:B1)(u:Nat->Fn)(j:Nat):Fn:=match S.elem j with
 |true=>u j
 |false=>noFn
def dep(u:Nat->Fn):∀p∈tb,∀f,Q7[p.1]?=U f->f u=f (tu p.2 u):=by
 simp only[tb,Py];refine⟨?_,?_,?_,?_,?_,?_,?_,?_,?_,?_,?_,?_,?_,?_,?_,?_,?_,?_,?_,?_,?_,?_,?_,?_,?_,?_,?_,?_,?_,?_,?_,?_,?_,?_,?_,?_,?_,?_,?_,?_,?_,?_,?_,?_,?_,λ_ h=>nomatch h⟩<;>(intro f h;cases h;simp only[t5,t12,t14,t13,t22,t17,t18,t23,t21,t19,t20,t89,t25,t26,t93,ç,t95,è,é,ï,ñ,ë,t27,t28,ì,í,î,t29,t30,t3,t31,ð,ê,t99,t98,t97,t1,t88,t24,t32,t33,t90,t94,æ,å,Ú,Û,Ü,Vt,Vu,CO,Js,mo];try rfl)
abbrev Ń(r i:Nat):Prop:=∀n,r<=n->cN (n+1) i=cN n i
def okL:List (Nat×B1)->B1->Bool
 |[],_=>O
 |p::l,s=>p.2.all s.elem&&((Q7[p.1]?).isSome&&okL l (p.1::s))
theorem Jx:∀(l:List<|Nat×B1)(s:B1)(r:Nat),(∀p∈l,p∈tb)->okL l s=O->(∀j∈s,Ń r j)->∀p∈l,Ń (r+Kk l) p.1
 |[],_,_,_,_,_,_,h=>nomatch h
 |p::l,s,r,m,b,hs,q,c=>by
  rw[okL,bP,bP]at b;obtain⟨f,i⟩:=AW.mp b.2.1;have o:Ń (r+1) _:=λn a=>by
   obtain⟨n,rfl⟩:∃k,n=k+1:=⟨n-1,by lia⟩
   have e:tu p.2 (cN<|n+1)=tu p.2 (cN n):=by
    funext j
    unfold tu;cases h:p.2.elem j with
    |false=>rfl
    |true=>exact hs j (A3.mp<|dP.mp b.1 j<|A3.mp h) n (by lia)
   have d:=λu=>dep u p (m p<|d_ ..) f i;rw[wI _ _ i,wI _ _ i,d,e,<- d]
  rcases bH.mp c with rfl|c
  .exact λn a=>o n (by rw[ee]at a;lia)
  .exact λn a=>Jx l _ _ (λx h=>m x<|ed _ h) b.2.2 (λj g=>by
    rcases bH.mp g with rfl|g
    .exact o
    .exact λn a=>hs j g n<|by lia) q c n (by rw[ee]at a;lia)
def Wa(i:Nat)(h:(tb.map (·.1)).elem i=O):Ń 60 i:=λn b=>by
 obtain⟨p,a,rfl⟩:=gZ.mp<|A3.mp h;exact Jx tb [] 0 (λ_ h=>h) (by decide +kernel) (λ_ h=>nomatch h) p a n<|c_ (by decide) b
section
variable{p q:FE}{fl d:FL}
def CQ(h:∀s,Bl (p s)<|q s)(s:S):Bl (aQ p s)<|aQ q s:=(h s).b λ_=>.r
def VB(h:∀s,Bl (p s)<|q s)(s:S):Bl (fU i p s)<|fU i q s:=Bl.r.b λ_=>(h s).b λ_=>.r
def CT(h:∀s,Bl (p s)<|q s)(k:∀s,Bl (fl s)<|d s)(s:S):Bl (bq p fl s)<|bq q d s:=(h s).b λ_=>(k _).b λ_=>.r
def NL(h:BF a b):BF (ã<|ups u 92 a)<|ã<|ups u 92 b:=
 Ao<|qk (λ_=>.r)<|qk (Jw<|VB<|CP h) λ_=>.r
def NN(h:BF a b):BF (Wr<|ups u 91 a)<|Wr<|ups u 91 b:=
 Ao<|CQ λs=>by
  exact Q8 (λ_ _=>.r) (CT (λ_=>.r)<|CT (λ_=>(CP h _).z7) λ_=>.r) s
def NO(h:BF a b):BF (Ý<|ups u 96 a)<|Ý<|ups u 96 b:=by
 refine NK<|Ao<|qk (λ_=>.r)<|qk (λ_=>.r)<|qk (Jw<|CQ<|Q8 h λ_=>.r) λs=>?_;simp only[mo];exact .r
end
def ń:List<|Nat×B1:=[(92,[25,89,92,93]),(91,[92]),(96,[91,97]),(34,[1,24,32,94,96,101])]
def aa_(u:Nat->Fn):∀p∈ń,∀f,Q7[p.1]?=U f->f u=f (tu p.2 u):=by
 simp only[ń,Py];refine⟨?_,?_,?_,?_,λ_ h=>nomatch h⟩<;>(intro f h;cases h;simp only[ä,ã,Wr,Ý,mo];try rfl)
def lI(u:Nat->Fn)(i:Nat):ups u i (u i)=u:=by
 funext j
 unfold ups;cases h:j.beq i with
 |false=>rfl
 |true=>rw[OY h]
def swp{n i q:Nat}{S:B1}{f:(Nat->Fn)->Fn}(b:60<=n)(g:(i,S)∈ń)(c:Q7[i]?=U f)(e:S.all (λj=>j.beq q ||(tb.map (·.1)).elem j)=O):f (cN<|n+1)=f (ups (cN n) q<|cN (n+1) q):=by
 have d:=λu=>aa_ u _ g f c;rw[d,d<|ups _ q _];refine ej f ?_
 funext j
 unfold tu;cases h:S.elem j with
 |false=>rfl
 |true=>
  have z:=dP.mp e j<|A3.mp h;unfold ups;cases a:j.beq q with
  |true=>rw[OY a]
  |false=>
   rw[a]at z;exact Wa j z n b
def two{n i q:Nat}{S:B1}{f:(Nat->Fn)->Fn}{g:Fn}(h:60<=n)(l:(i,S)∈ń)(c:Q7[i]?=U f)(k:S.all (λj=>j.beq q ||(tb.map (·.1)).elem j)=O)(mono:∀{u:Nat->Fn}{a b:Fn},BF a b->BF (f<|ups u q a) (f<|ups u q b))(p:BF g<|cN n q)(o:BF g<|cN (n+1) q)(ts:FR)(m:FX)(d:f (ups (cN n) q g) ts m≠.bad):cN (n+1) i ts m=f (ups (cN n) q g) ts m/\cN (n+2) i ts m=f (ups (cN n) q g) ts m:=by
 have e:=swp h l c k;refine⟨?_,?_⟩
 .have z:=(mono p ts m).resolve_left d
  rw[lI]at z;rw[wI _ _ c];exact z.symm
 .rw[wI _ _ c,e]
  exact((mono o ts m).resolve_left d).symm
def Q9(a b:Fn):Fn:=λts m=>open Classical in if a ts m=b ts m then a ts m else .bad
def Jy:BF (Q9 a b) a:=λts m=>by
 unfold Q9;split
 .exact .r
 .exact .inl J
def Jz:BF (Q9 a b) b:=λts m=>by
 unfold Q9;split
 .next h=>exact .inr h
 .exact .inl J
def JA(h:a ts m=b ts m):Q9 a b ts m=a ts m:=bt h
end K61
namespace K61
open D PySem L2 PyProof.Rows
variable(n:Nat)
abbrev Tx:=B1
def EJ:Tx:=[48,49,50,51,52,53,54,55,56,57]
def CU(S l:Tx):Bool:=l.all λc=>decide<|c∈S
inductive oN where
 |one (c:Nat) (p:Bool)|emp
def oN.val:oN->T
 |.one c p=>.tup [.bl ZA,.lst [.tup [.str [c],.bl ZA,.str [if p then 43 else 49]]],.bl ZA]
 |.emp=>.tup [.bl O,.lst [],.bl O]
def yM:Tx:=[97,98,99]
inductive RP where
 |row (v:Int)|like (p:oN)
def RP.val:RP->T
 |.row v=>.obj 4 [.int v]
 |.like p=>.obj 6 [p.val]
inductive PC where
 |last|soon (v:Int) (p:oN)|ft (x y:RP)|rp (x:RP)
def PC.val:PC->T
 |.last=>.obj 5 []
 |.soon v p=>.obj 7 [.int v,p.val]
 |.ft x y=>.obj 8 [x.val,y.val]
 |.rp x=>x.val
inductive CD where
 |fin|no (x:PC)|pc (x:PC)
def CD.val:CD->T
 |.fin=>.obj 10 []
 |.no x=>.obj 9 [x.val]
 |.pc x=>x.val
inductive DD where
 |drop|print|done|tell|say (l:Tx)|swap (e:Bool) (p:oN) (l:Tx)|join (v:Int)|pile (a:Tx) (v:Dx)|bring (a:Tx)|go (a:Tx)|add (v w:Int)
def DD.val:DD->T
 |.drop=>.obj 13 []
 |.print=>.obj 14 []
 |.done=>.obj 15 []
 |.tell=>.obj 23 []
 |.say l=>.obj 16 [.str l]
 |.swap e p l=>.obj 17 [p.val,.str l,.bl e]
 |.join v=>.obj 18 [.int v]
 |.pile a none=>.obj 19 [.str a,.non]
 |.pile a<|U v=>.obj 19 [.str a,.int v]
 |.bring a=>.obj 20 [.str a]
 |.go a=>.obj 21 [.str a]
 |.add v w=>.obj 22 [.int v,.int w]
inductive LN where
 |mark (a:Tx)|bare (x:DD)|full (c:CD) (x:DD)
def LN.cond:LN->T
 |.full c _=>c.val
 |_=>.obj 3 []
def LN.mQ:LN->T
 |.mark a=>.obj 12 [.str a]
 |.bare x=>x.val
 |.full _ x=>x.val
def LN.val(x:LN):T:=.obj 1 [x.cond,x.mQ]
def least:oN->Nat
 |.one _ _=>1
 |.emp=>0
def DD.EK:DD->Bool
 |.tell=>ZA
 |.swap e p l=>!decide (least p=0)&&(!e ||decide (Kk l<=least p))
 |_=>O
def DD.atEnd:DD->Bool
 |.tell=>O
 |.say _=>O
 |.bring _=>O
 |_=>ZA
def LN.ms:LN->Bool
 |.mark _=>O
 |.bare x=>x.EK
 |.full .fin x=>x.atEnd
 |.full _ x=>x.EK
def SC(rest:Tx)(k:Int):FX:=[⟨27,[.val<|.str rest,.val<|.int k]⟩]
def EL(a b:Int):aM .Eq (.int a) (.int b)=U (.bl<|decide<|a=b):=J
def EM:gx (.int 1)=U (.int<|-1):=J
def õ(h:c s=.ok (y,s')):dC c s=.ok (!y,s'):=by unfold dC;rw[h];rfl
def ö(S:Tx):T->T
 |.str [c]=>.bl<|decide<|c∈S
 |_=>.non
theorem mR{a:Type}(f:a->Bool):∀l:List a,boolsOf (l.map λw=>T.bl<|f w)=U (l.map f)
 |[]=>J
 |w::l=>by
  show(boolsOf _).map _=_;rw[mR f l];rfl
abbrev sgT(l:Tx):FR:=l.map λc=>T.str [c]
def JB(S l:Tx):(sgT l).map (ö S)=l.map λc=>T.bl<|decide<|c∈S:=by rw[j5];rfl
def Aq{l signs:Tx}(b:Kk l<=100000):cN (n+1) 3 [.str l,.str signs] m=.ok (.bl<|CU signs l,m):=by
 rw[wI _ 3 J];refine eL (m':=[]) J (iI (s':=⟨[Io l,Io signs],[]⟩) J (jE<|c7 (ts:=[.lst<|(sgT l).map<|ö signs]) (aA (nC<|qh (ts:=sgT l) (s1:=⟨[Io l,Io signs],[]⟩) J (by rw[cH];exact c_ b<|by decide)<|kB λt a=>?_) J) ?_) J) J
 .obtain⟨c,d,rfl⟩:=gZ.mp a
  exact⟨[Y,Io [c],Io signs],[Y,Io [c],Io signs],J,J⟩
 .rw[JB]
  simp only[Eh,wU,mR,Option.map_some,Gd];rfl
end K61
namespace K61
open D
variable(n:Nat){m:List _root_.D.Ob}
def aba(a b:B1):aM .NotEq (.str a) (.str b)=U (.bl<|!decide (a=b)):=J
def ø(h:noOwn t=O):aB [t]=O:=by
 show(noOwn t&&O)=O;rw[h];rfl
def jM(p:oN):noOwn p.val=O:=by cases p<;>rfl
section
variable{m:FX}
def JC:cN (n+2) 16 [p.val] m=.ok (.int (least p:Nat),m):=by
 cases p with
 |one c b=>cases b<;>kernel_rfl
 |emp=>kernel_rfl
def empty_eq:cN (n+3) 15 [p.val] m=.ok (.bl<|decide<|least p=0,m):=by
 cases p with
 |one c b=>cases b<;>kernel_rfl
 |emp=>kernel_rfl
def abb(a b:Int):aM .LtE (.int a) (.int b)=U (.bl<|decide<|a<=b):=J
def NP:cN (n+4) 52 [(DD.swap e p l).val] m=.ok (.bl (DD.swap e p l).EK,m):=by
 rw[wI _ 52 J];refine sEq (by show((noOwn p.val&&(O&&(O&&O)))&&O)=O;rw[jM];rfl) J J ?_
 show WB _ ⟨[sv _],[]⟩ _;have a:D.tB (aj _ []<|k1<|az M.P.tab 4 zA) _=.ok (decide _,⟨[sv (DD.swap e p l).val],[]⟩):=yL<|cE J<|empty_eq n;by_cases h:least p=0
 .refine bY (by rw[a,de h])<|bR J ?_
  show _=T.bl (!decide _&&_);rw[de h];rfl
 .refine bN (by rw[a,b7 h])<|bR (t:=.bl<|!e ||decide (Kk l<=least p)) ?_ ?_
  .cases e with
   |false=>rfl
   |true=>
    refine(pE J (cE J<|JC _)<|(abb ..).trans ?_:bF _ (aU bZ<|k1<|az M.P.tab 10 zA) (aj _ []<|k1<|az M.P.tab 4 zA) ⟨[sv (DD.swap O p l).val],[]⟩=_);congr 2
    lia
  .show _=T.bl (!decide _&&_)
   rw[b7 h];rfl
end
def JD(x:RP):noOwn x.val=O:=by
 cases x with
 |row v=>rfl
 |like p=>show(noOwn p.val&&O)=O;rw[jM];rfl
def Q_(x:PC):noOwn x.val=O:=by
 cases x with
 |last=>rfl
 |soon v p=>show(O&&(noOwn p.val&&O))=O;rw[jM];rfl
 |ft x y=>show(noOwn x.val&&(noOwn y.val&&O))=O;rw[JD,JD];rfl
 |rp x=>exact JD x
def JE(x:CD):noOwn x.val=O:=by
 cases x with
 |fin=>rfl
 |no x=>show(noOwn x.val&&O)=O;rw[Q_];rfl
 |pc x=>exact Q_ x
def CV(x:DD):noOwn x.val=O:=by
 cases x with
 |swap e p l=>show(noOwn p.val&&(O&&(O&&O)))=O;rw[jM];rfl
 |pile a v=>cases v<;>rfl
 |_=>rfl
def ù(x:LN):noOwn x.cond=O:=by
 cases x with
 |full c d=>exact JE c
 |_=>rfl
def ú(x:LN):noOwn x.mQ=O:=by
 cases x with
 |mark a=>rfl
 |bare d=>exact CV d
 |full c d=>exact CV d
def Ra(x:LN):noOwn x.val=O:=by
 show(noOwn x.cond&&(noOwn x.mQ&&O))=O;rw[ù,ú];rfl
def no2(h:noOwn t=O)(a:noOwn u=O):aB [t,u]=O:=by
 show(noOwn t&&(noOwn u&&O))=O;rw[h,a];rfl
def JF(x:PC):gi M.P.sub [10] x.val=U (.bl ZA):=by
 cases x with
 |rp x=>cases x<;>rfl
 |_=>rfl
abbrev s2(a b:T):S:=⟨[sv a,sv b],[]⟩
def JG{x:DD}(c:noOwn b=O)(h:gi M.P.sub [10] b=U (.bl ZA)):cN (n+5) 51 [b,x.val] m=.ok (.bl x.EK,m):=by
 rw[wI _ 51 J];refine sEq (no2 c<|CV x) J J<|bN (yL<|K9 J h) ?_;cases x with
 |swap e p l=>exact bY J<|bR (cE J<|NP n) J
 |pile a v=>cases v<;>exact bN J<|bR J J
 |_=>exact bN J<|bR J J
def VC{x:DD}:cN (n+5) 51 [CD.fin.val,x.val] m=.ok (.bl x.atEnd,m):=by
 rw[wI _ 51 J];refine sEq (no2 J<|CV x) J J<|bY J ?_;cases x with
 |pile a v=>cases v<;>exact bR J J
 |_=>exact bR J J
def û{x:LN}:cN (n+5) 51 [x.cond,x.mQ] m=.ok (.bl x.ms,m):=by
 cases x with
 |mark a=>
  rw[wI _ 51 J];exact sEq J J J<|bN J<|bN J<|bR J J
 |bare d=>exact JG n J J
 |full c d=>
  cases c with
  |fin=>exact VC n
  |no y=>exact JG n (JE<|.no y) J
  |pc y=>exact JG n (JE<|.pc y)<|JF y
def NQ:cN (n+1) 115 [.own 0,.str row,.int k] [⟨27,[]⟩]=.ok (.non,SC row k):=by
 rfl
def Rd(r:Tx)(l:LN):Prop:=(∀n k,cN (n+11) 39 [.own 0] (SC r k)=.ok (l.val,SC [] k))/\l.ms=O
def NR(H:Rd row x):cN (n+12) 38 [.str row,.int k] m=.ok (x.val,m):=by
 obtain⟨h,b⟩:=H;rw[wI _ 38 J];have c:aH 2 (kc 27 (cN (n+11) 115)<|k2 zA zB) ⟨[Io row,px k,Y,Y],[]⟩=.ok _:=eT<|Vx (s':=⟨[sv _,sv _,Y,Y],[]⟩) J<|NQ _;have a:ic (D.a_<|bF _ (az M.P.tab 31 zC)<|cS []) (dC<|D.tB<|aj (cN (n+11) 51) []<|k2 (az M.P.tab 1 zD)<|az M.P.tab 2 zD) _=.ok (!decide ([]=[]) || !x.ms,⟨[Io row,px k,sv<|.own 0,sv x.val],SC [] k⟩):=yc (dU<|pE J J<|aba ..)<|õ<|yL<|cE J<|û _;rw[b]at a;exact eL J (iI J (seq1 c<|seq1 (eT<|qe J<|h n k)<|seq1 (je a J)<|jE J) J)<|Ra x
end K61
namespace K61
open D PySem L2 PyProof.Rows
variable(n:Nat)
set_option maxRecDepth 1000000
def JH:Tx:=[49,50,51,52,53]
def qo:List Tx:=[[],[120],[97,98],[99,32,97],[98]]
abbrev JI:Tx:=[109,97,114,107,32,109]
def JJ:List<|Tx×CD:=[([101,110,100,58,32],.fin),([108,97,115,116,58,32],.pc .last),([47,94,36,47,58,32],.pc<|.rp<|.like .emp),([110,111,116,32,108,97,115,116,58,32],.no .last)]++((JH.map λ(d:Nat)=>([114,111,119,32,d,58,32],CD.pc<|.rp<|.row<|j6 d-48))++yM.flatMap λa=>[([47,a,47,58,32],.pc<|.rp<|.like<|.one a ZA),([110,111,116,32,47,a,47,58,32],.no<|.rp<|.like<|.one a ZA),([115,111,111,110,32,49,32,47,a,47,58,32],.pc<|.soon 1<|.one a ZA)]++((yM.map λb=>([102,114,111,109,32,47,a,47,32,116,111,32,47,b,47,58,32],CD.pc<|.ft (.like<|.one a ZA)<|.like<|.one b ZA))++JH.flatMap λ(d:Nat)=>[([102,114,111,109,32,114,111,119,32,d,32,116,111,32,47,a,47,58,32],.pc<|.ft (.row<|j6 d-48)<|.like<|.one a ZA),([102,114,111,109,32,47,a,47,32,116,111,32,114,111,119,32,d,58,32],.pc<|.ft (.like<|.one a ZA)<|.row<|j6 d-48)]))
def Ar:List<|Tx×DD:=[([115,97,121,32,34,34],.say []),([98,114,105,110,103,32,115],.bring [115]),([98,114,105,110,103,32,116],.bring [116]),([115,97,121,32,34,97,98,34],.say [97,98]),([116,101,108,108],.tell)]
def u9:List<|Tx×DD:=[([100,114,111,112],.drop),([112,114,105,110,116],.print),([100,111,110,101],.done),([106,111,105,110,32,50],.join 2),([106,111,105,110,32,51],.join 3),([112,105,108,101,32,115],.pile [115] Y),([112,105,108,101,32,115,32,50],.pile [115]<|U 2),([98,114,105,110,103,32,115],.bring [115]),([112,105,108,101,32,116,32,49],.pile [116]<|U 1),([98,114,105,110,103,32,116],.bring [116]),([97,100,100,32,49,32,50],.add 1 2),([103,111,32,109],.go [109])]++((qo.map λw=>([115,97,121,32,34]++(w++[34]),DD.say w))++yM.flatMap λa=>([115,119,97,112,32,47,a,43,47,32,34,34],.swap ZA (.one a O) [])::qo.flatMap λw=>[([115,119,97,112,32,47,a,47,32,34]++(w++[34]),.swap ZA (.one a ZA) w),([115,119,97,112,32,101,118,101,114,121,32,47,a,47,32,34]++(w.take 1++[34]),.swap O (.one a ZA)<|w.take 1)])
section
variable(nn:Nat)(k:Int)(a:Fn)
abbrev lnY:Fn:=t39 λi=>if i=43 then a else eK (nn+10) i
def NS:((u9++Ar).map λp=>eK (nn+10) 43 [.own 0]<|SC p.1 k)=(u9++Ar).map λp=>.ok (p.2.val,SC [] k):=by kernel_rfl
def JK:List<|Tx×LN:=(JI,.mark [109])::u9.map λq=>(q.1,.bare q.2)
def NT:(JK.map λp=>eK (nn+11) 39 [.own 0]<|SC p.1 k)=JK.map λp=>.ok (p.2.val,SC [] k):=by kernel_rfl
def NU:B1:=[4,5,6,7,8,9,11,12,13,14,17,18]
abbrev EN(v:Nat->Nat)(j:Nat):Prop:=(JJ.map λp=>lnY nn a [.own 0]<|SC (p.1++(df j).map v) k)=JJ.map λp=>aC 2 2 (aD<|dR 1 2<|k2 zB<|aj a []<|k1 zA) [.own 0,p.2.val]<|SC ((df j).map v) k
def abd(v:Nat->Nat):EN nn k a v 4/\EN nn k a v 5/\EN nn k a v 6:=by refine⟨?_,?_,?_⟩<;>kernel_rfl
def abe(v:Nat->Nat):EN nn k a v 7/\EN nn k a v 8/\EN nn k a v 9:=by refine⟨?_,?_,?_⟩<;>kernel_rfl
def abf(v:Nat->Nat):EN nn k a v 11/\EN nn k a v 12/\EN nn k a v 13:=by refine⟨?_,?_,?_⟩<;>kernel_rfl
def abg(v:Nat->Nat):EN nn k a v 14/\EN nn k a v 17/\EN nn k a v 18:=by refine⟨?_,?_,?_⟩<;>kernel_rfl
def NV(v:Nat->Nat):∀j∈NU,EN nn k a v j:=λj h=>by
 unfold NU at h;simp only[bH,j4,i4]at h;have x:=abd nn k a v;have y:=abe nn k a v;have z:=abf nn k a v;have w:=abg nn k a v;rcases h with rfl|rfl|rfl|rfl|rfl|rfl|rfl|rfl|rfl|rfl|rfl|rfl
 .exact x.1
 .exact x.2.1
 .exact x.2.2
 .exact y.1
 .exact y.2.1
 .exact y.2.2
 .exact z.1
 .exact z.2.1
 .exact z.2.2
 .exact w.1
 .exact w.2.1
 .exact w.2.2
end
def VD:lnY n (eK (n+10) 43)=eK (n+11) 39:=ej t39<|z3 λi=>by
 split
 .rename_i h
  rw[h]
 .rfl
def NW(h:q∈u9++Ar):eK (n+10) 43 [.own 0] (SC q.1 k)=.ok (q.2.val,SC [] k):=Gn.mp (NS n k) q h
def abh:∀D:Tx,(df D.length).map (λi=>D.getD i 0)=D:=λD=>List.ext_getElem (by simp) λi h _=>by simp at h;simp[h]
def CW(h:q∈JK)(a:q.2.ms=O):Rd q.1 q.2:=⟨λn k=>by
 rw[tm];exact Gn.mp (NT n k) q h,a⟩
def CY(a:p∈JJ)(h:q∈u9++Ar)(b:Kk q.1∈NU)(c:(LN.full p.2 q.2).ms=O):Rd (p.1++q.1)<|.full p.2 q.2:=⟨λn k=>by
 rw[tm,<- VD]
 have:=Gn.mp (NV n k (eK (n+10) 43) (λi=>q.1.getD i 0) _ b) p a
 rw[abh]at this;refine this.trans<|iI J (jE<|aa8 (aA J<|aA (qe J<|NW n h) J) J) J,c⟩
end K61
namespace K61
open D
variable(n:Nat){m:List _root_.D.Ob}
abbrev af(xs:List Tx):FR:=xs.map T.str
abbrev aF(xs:List LN):FR:=xs.map LN.val
def okN{A:FS}(h:ct s=.ok (ZA,s)):aZ ct A aL s=.ok (.nx,s):=je h J
theorem yd(n:Nat):∀(ps:List<|Tx×LN)(j:Nat)(done:List LN)(u v:Option C),(∀q∈ps,Rd q.1 q.2)->j+Kk ps<=25->Kk done<j->∃b a,aX (dc [2,3]) (Þ<|cN<|n+12) (eG (j:Nat)<|af<|ps.map n4) ⟨[R,U<|.ol<|aF done,u,v],[]⟩=.ok (.nx,⟨[R,U<|.ol<|aF<|done++ps.map o8,b,a],[]⟩)
 |[],j,done,u,v,_,_,_=>⟨u,v,by rw[yU,yU,cJ];rfl⟩
 |(r,l)::ps,j,done,u,v,h,f,hd=>by
  rw[ee]at f;have g:D.a_ (bF _ zC<|cI 24) ⟨[R,U _,px j,sv _],[]⟩=.ok (ZA,⟨[R,U<|.ol<|aF done,px j,Io r],[]⟩):=dU<|pE J J<|(EI ..).trans<|by rw[b7<|by lia]
  have c:(aF done).length<1000000:=by rw[cH];lia
  obtain⟨b,a,d⟩:=yd n ps (j+1) (done++[l]) (px j) _ (λx e=>h x<|ed _ e) (by lia) (by rw[cV,gY];lia)
  refine⟨b,a,c8 J (seq1 (okN g)<|ya J (cE J<|NR n<|h _<|d_ ..) J c) ?_⟩;rw[iN,show aF _=aF done++[l.val] by simp]at d
  exact d
theorem cD:∀(a:List LN),aB (aF a)=O
 |[]=>J
 |x::a=>by
  show(noOwn x.val&&aB _)=O;rw[Ra,cD a];rfl
theorem aY:∀(l:List Tx),aB (af l)=O
 |[]=>J
 |x::a=>by
  show(O&&aB _)=O;rw[aY a];rfl
def JL(h:∀q∈ps,Rd q.1 q.2)(b:Kk ps<=24):cN (n+13) 54 [.lst<|af<|ps.map n4] m=.ok (.lst<|aF<|ps.map o8,m):=by
 rw[wI _ 54 J];obtain⟨u,v,a⟩:=yd n ps 1 [] Y Y h (by lia) (by decide)
 exact eL (ø<|aY _) (iI J (seq1 J<|seq1 a J) J)<|cD _
def LN.name:LN->Option Tx
 |.mark a=>U a
 |_=>Y
def DD.i8:DD->Option Tx
 |.go a=>U a
 |_=>Y
def LN.i8:LN->Option Tx
 |.mark _=>Y
 |.bare x=>x.i8
 |.full _ x=>x.i8
def JM(x:LN):gi M.P.sub [12] x.mQ=U (.bl x.name.isSome):=by
 have h:∀d:DD,gi M.P.sub [12] d.val=U _:=λd=>by
  cases d with
  |pile a v=>cases v<;>rfl
  |_=>rfl
 cases x with
 |mark a=>rfl
 |bare d=>exact h d
 |full c d=>exact h d
def abi(x:LN):gi M.P.sub [21] x.mQ=U (.bl x.i8.isSome):=by
 have h:∀d:DD,gi M.P.sub [21] d.val=U (.bl d.i8.isSome):=λd=>by
  cases d with
  |pile a v=>cases v<;>rfl
  |_=>rfl
 cases x with
 |mark a=>rfl
 |bare d=>exact h d
 |full c d=>exact h d
abbrev oO(l:List Tx):List Ky:=l.map Ky.s
abbrev qp(l:List Tx):FR:=l.map λ_=>T.bl O
def As:(Ky.s a∈oO l) ↔ a∈l:=by
 constructor
 .intro h
  obtain⟨b,d,c⟩:=gZ.mp h;cases c;exact d
 .exact λh=>gZ.mpr ⟨a,h,J⟩
def names(ls:List LN):List Tx:=ls.filterMap LN.name
abbrev sM(R:Option C)(done:List Tx)(u v:Option C):S:=⟨[R,U<|.od (oO done)<|qp done,u,v],[]⟩
def tD{x:LN}(h:x.name=U a):x=.mark a:=by
 cases x with
 |mark b=>cases h;rfl
 |bare d=>cases h
 |full c d=>cases h
theorem qq:∀(xs:List LN)(j:Nat)(done:List Tx)(u v:Option C),Kk done+Kk xs<=100->(done++names xs).Nodup->∃c b,aX (dc [2,3]) ß (eG (j:Nat)<|aF xs) (sM R done u v)=.ok (.nx,sM R (done++names xs) c b)
 |[],j,done,u,v,_,_=>⟨u,v,by show _=Res.ok (Out.nx,sM R (done++[]) u v);rw[cJ];rfl⟩
 |x::xs,j,done,u,v,l,d=>by
  rw[ee]at l;have hs:dc [2,3] (.tup [.int j,x.val]) [R,U<|.od (oO done)<|qp done,u,v]=U [R,U _,px j,sv x.val]:=J;have g:D.tB (dg _<|az M.P.tab 2 zD) (sM R done (px j) _)=.ok (x.name.isSome,sM R done (px j)<|sv x.val):=yL<|K9 J<|JM x;cases f:x.name with
  |none=>
   rw[f]at g;have h:names _=names xs:=Gp f;rw[h]at d ⊢;obtain⟨c,b,e⟩:=qq xs _ done (px j) _ (by lia) d
   exact⟨c,b,c8 hs (je g J) e⟩
  |some a=>
   have ex:=tD f;subst ex;have hd:=λz=>(A2.mp d).2.2 a z a (d_ ..) J;have i:D.a_ (IJ ZA 1<|az M.P.tab 9<|az M.P.tab 2 zD) (sM R done (px j)<|sv (LN.mark a).val)=.ok (decide _,sM R done (px j) _):=J;rw[b7 λz=>hd<|As.mp z]at i;have hk:bw (oO done) (qp done) (.s a) (.bl O)=(oO<|done++[a],qp<|done++[a]):=by
    unfold bw;rw[b0 λz=>hd<|As.mp z];simp[qp]
   have k:K6 1 (az M.P.tab 9<|az M.P.tab 2 zD) (cF<|.bl O) (sM R done (px j)<|sv (LN.mark a).val)=.ok (.nx,sM R (done++[a]) (px j)<|sv (LN.mark a).val):=by
    show Res.bind _ _=_;rw[gG<|by rw[cH];lia]
    show Res.ok _=_;rw[hk];rfl
   obtain⟨c,b,e⟩:=qq xs _ (done++[a]) (px j) _ (by rw[cV,gY];lia) (by rw[iN];exact d)
   rw[iN]at e;exact⟨c,b,c8 hs (x9 g<|seq1 (okN i) k) e⟩
theorem mS:∀l:List Tx,aB (qp l)=O
 |[]=>J
 |a::l=>by show(O&&aB _)=O;rw[mS l];rfl
def JO(c:Kk xs<=24)(a:(names xs).Nodup):cN (n+1) 55 [.lst<|aF xs] m=.ok (.fh (oO<|names xs)<|qp<|names xs,m):=by
 rw[wI _ 55 J];obtain⟨u,v,b⟩:=qq xs 1 [] Y Y (by show 0+_<=_;lia) a
 exact eL (ø<|cD xs) (iI J (seq1 J<|seq1 b J) J)<|mS _
def ER{x:LN}(h:x.i8=U a):x.mQ=.obj 21 [.str a]:=by
 cases x with
 |mark b=>cases h
 |bare d=>cases d<;>first|(cases h;done)|(cases h;rfl)
 |full c d=>cases d<;>first|(cases h;done)|(cases h;rfl)
abbrev sG(R:Option C)(ms:List Tx)(u v:Option C):S:=⟨[R,sv<|.fh (oO ms)<|qp ms,u,v],[]⟩
theorem CZ:∀(xs:List LN)(j:Nat)(u v:Option C),(∀x∈xs,∀a,x.i8=U a->a∈ms)->∃e d,aX (dc [2,3]) à (eG (j:Nat)<|aF xs) (sG R ms u v)=.ok (.nx,sG R ms e d)
 |[],j,u,v,_=>⟨u,v,J⟩
 |x::xs,j,u,v,f=>by
  have hs:dc [2,3] (.tup [.int j,x.val]) [R,sv<|.fh (oO ms)<|qp ms,u,v]=U [R,sv _,px j,sv x.val]:=J;have c:D.tB (dg _<|az M.P.tab 2 zD) (sG R ms (px j) _)=.ok (x.i8.isSome,sG R ms (px j)<|sv x.val):=yL<|K9 J<|abi x;obtain⟨e,d,h⟩:=CZ xs _ (px j) _ λy i=>f y<|ed _ i;refine⟨e,d,c8 hs (okN ?_) h⟩;cases b:x.i8 with
  |none=>
   rw[b]at c;exact Vy c
  |some a=>
   rw[b]at c;have hd:=ER b;have g:D.a_ (bF (aM .NotIn) (az M.P.tab 9<|az M.P.tab 2 zD) zB) (sG R ms (px j)<|sv x.val)=.ok (!decide (Ky.s a∈oO ms),sG R ms (px j)<|sv x.val):=by
    have k:x.val=.obj 1 [x.cond,.obj 21 [.str a]]:=by rw[<- hd];rfl
    rw[k];rfl
   rw[de<|As.mpr<|f x (d_ ..) a b]at g;exact qj c g
def NX(b:∀x∈xs,∀a,x.i8=U a->a∈ms):cN (n+1) 56 [.lst<|aF xs,.fh (oO ms)<|qp ms] m=.ok (.non,m):=by
 rw[wI _ 56 J];obtain⟨u,v,c⟩:=CZ xs 1 Y Y b;refine eL (by show(aB _&&(aB _&&O))=O;rw[cD,mS];rfl) (x_ J c J) J
theorem kC:∀{p q:B1},c∉p->aP c (p++c::q)=p::aP c q
 |[],q,_=>by show aP c (c::q)=_;rw[aP,bt J]
 |d::p,q,h=>by
  have hd:d≠c:=λe=>h (by rw[e];exact d_ ..)
  show aP c (d::(p++c::q))=_;rw[aP,b0 hd,kC λz=>h<|ed _ z]
def flat(ls:List Tx):Tx:=(ls.map λl=>l++[10]).flatten
theorem qt:∀{ls:List Tx},(∀l∈ls,10∉l)->aP 10 (flat ls)=ls++[[]]
 |[],_=>J
 |a::r,h=>by
  have:flat (a::r)=a++10::flat r:=by show(a++[10])++flat r=_;simp
  rw[this,kC<|h a<|d_ ..,qt λl b=>h l<|ed _ b];rfl
def i9(a b:T):cz [a,b]=U (.tup [a,b]):=gG (by show 2<=1000;decide)
def ES(a b c:T):cz [a,b,c]=U (.tup [a,b,c]):=gG (by show 3<=1000;decide)
def lJ(xs:List a)(x:a):atT (xs++[x]) (-1)=U x:=by
 unfold atT;rw[b0<|by decide,bt<|by rw[cV,gY];lia]
 have:(-1+((xs++[x]).length:Int)).toNat=Kk xs:=by rw[cV,gY];lia
 rw[this];simp
def qu(xs:List a)(x:a):bT (xs++[x]) Y (U<|-1)=xs:=by
 unfold bT iR;dsimp only;have:(-1+((xs++[x]).length:Int)).toNat=Kk xs:=by rw[cV,gY];lia
 rw[this];simp
def VE(h:∀l∈ls,10∉l)(a:(flat ls).length<=100000):cN (n+1) 1 [.str<|flat ls] m=.ok (.tup [.lst<|af ls,.bl O],m):=by
 rw[wI _ 1 J];have d:splitM (flat ls) [.str [10]]=U (.lst<|af<|ls++[[]]):=by
  show gd _ _=_;rw[gG a,qt h]
 have c:atT (af<|ls++[[]]) (-1)=U (.str []):=by
  rw[af,gk];exact lJ _ _
 have b:bT (af<|ls++[[]]) Y (U<|-1)=af ls:=by
  rw[af,gk];exact qu _ _
 refine sEq J J (no2 (aY ls) J)<|bS (K_ J J d)<|bY (dU<|pE (pE J (K9 J EM) c) J J)<|bR (c7 (aA (Ju J J J<|by show U _=_;rw[b]) J)<|i9 ..) J
def NY(f:∃ps:List (Tx×LN),rs=ps.map n4/\ls=ps.map o8/\∀q∈ps,Rd q.1 q.2)(b:Kk rs<=24)(g:(names ls).Nodup)(i:∀x∈ls,∀a,x.i8=U a->a∈names ls)(h:∀l∈rs,10∉l)(e:(flat rs).length<=100000):cN (n+14) 53 [.str<|flat rs] m=.ok (.obj 0 [.lst<|aF ls],m):=by
 rw[wI _ 53 J];obtain⟨ps,rfl,rfl,j⟩:=f
 generalize Ņ:ps.map n4=rs at *
 generalize hls:ps.map o8=ls at *
 rw[<- Ņ,cH]at b;have o:Kk ls<=24:=by rw[<- hls,cH];exact b
 have k:k1 (oI (aj (cN (n+13) 1) []<|k1 zA) zO) _=.ok ([.lst _],⟨[sv _,Y,Y],[]⟩):=aA (pE (cE J<|VE _ h e) J J) J;have d:aH 1 _ _=.ok (.nx,⟨[sv _,Iy<|aF ls,Y],[]⟩):=eT<|cE k<|by rw[<- Ņ,<- hls];exact JL n j b
 have s2:aH 2 (aj (cN (n+13) 55) []<|k1 zB) ⟨[Io<|flat rs,sv _,Y],[]⟩=.ok _:=eT<|cE J<|JO _ o g;have c:aQ (aj (cN (n+13) 56) []<|k2 zB zC) ⟨[Io<|flat rs,Iy<|aF ls,sv<|.fh (oO<|names ls)<|qp<|names ls],[]⟩=.ok (.nx,⟨[Io<|flat rs,Iy<|aF ls,sv<|.fh (oO<|names ls)<|qp<|names ls],[]⟩):=by
  have:=cE (s:=⟨[Io<|flat rs,sv _,sv _],[]⟩) (fl:=k2 zB zC) J<|NX (n+12) i
  unfold aQ;rw[this];rfl
 refine eL J (iI J (seq1 d<|seq1 s2<|seq1 c J) J) ?_;show(aB _&&O)=O;rw[cD];rfl
def fd(h:a s=.ok (.int i,s))(b:0<j/\j<1073741824):oD a (cI j) s=.ok (.int<|i/j,s):=cU h J<|gG b
def md(h:a s=.ok (.int i,s))(b:0<j):oM a (cI j) s=.ok (.int<|i % j,s):=cU h J<|gG b
def ad(h:b s=.ok (.int j,s)):oA (cI i) b s=.ok (.int<|i+j,s):=cU J h J
def Au{l:List b}{n:Nat}(c:Kk l=n)(f:0<n):∃x∈l,atT l (i % (n:Int))=U x:=by
 have e:0<=i % n:=Gw _ (by lia)
 have d:i % n<n:=Gx _ (by lia)
 unfold atT;rw[bt e,bt<|by rw[c];exact d]
 have a:(i % n).toNat<Kk l:=by lia
 exact⟨l[(i % n).toNat],wc a,dM a⟩
def u_{n:Nat}(a:Kk ls=n)(e:0<n):∃r∈ls,iE (.lst<|af ls) (.int<|i % (n:Int))=U (.str r):=by
 obtain⟨t,d,c⟩:=Au (l:=af ls) (by rw[cH];exact a) e
 obtain⟨r,b,rfl⟩:=gZ.mp d;exact⟨r,b,c⟩
def vc(i:Int):∃c∈yM,iE (.str yM) (.int<|i % 3)=U (.str [c]):=by
 obtain⟨c,b,a⟩:=Au (l:=yM) J (by decide)
 exact⟨c,b,by show(atT yM _).map _=_;rw[show atT yM (i % 3)=U c from a];rfl⟩
def NZ(i:Int):∃d∈JH,strN [.int<|1+i % 5]=U (.str [d]):=by
 obtain h|h|h|h|h:i % 5=0\/i % 5=1\/i % 5=2\/i % 5=3\/i % 5=4:=by lia
 .rw[h];exact⟨49,by decide,J⟩
 .rw[h];exact⟨50,by decide,J⟩
 .rw[h];exact⟨51,by decide,J⟩
 .rw[h];exact⟨52,by decide,J⟩
 .rw[h];exact⟨53,by decide,J⟩
def tF(a b d:Nat):List Tx:=[[],[],[114,111,119,32,d,58,32],[108,97,115,116,58,32],[47,a,47,58,32],[110,111,116,32,47,a,47,58,32],[102,114,111,109,32,47,a,47,32,116,111,32,47,b,47,58,32],[102,114,111,109,32,114,111,119,32,d,32,116,111,32,47,b,47,58,32],
 [115,111,111,110,32,49,32,47,a,47,58,32],[47,94,36,47,58,32],[110,111,116,32,108,97,115,116,58,32],[102,114,111,109,32,47,a,47,32,116,111,32,114,111,119,32,d,58,32]]
def IsC(C:Tx):Prop:=∃a∈yM,∃b∈yM,∃d∈JH,C∈tF a b d
def N1(c:Int):∃C,IsC C/\∀m,cN (n+1) 58 [.int c] m=.ok (.str C,m):=by
 obtain⟨a,f,l⟩:=vc c;obtain⟨b,e,k⟩:=vc _;obtain⟨d,hd,j⟩:=NZ _;obtain⟨C,g,h⟩:=u_ (ls:=tF a b d) (n:=12) J (by decide)
 refine⟨C,⟨a,f,b,e,d,hd,g⟩,λm=>?_⟩;rw[wI _ 58 J];refine sEq J J J<|bS (cU J (md J<|by decide) l)<|bS (cU J (md (fd J<|by decide)<|by decide) k)<|bS (c7 (aA (ad<|md (fd J<|by decide)<|by decide) J) j) ?_
 exact bS J<|bS J<|bS J<|bR (cU J (md (fd J<|by decide)<|by decide) h) J
def tG(a:Nat)(w:Tx):List Tx:=[[100,114,111,112],[112,114,105,110,116],[100,111,110,101],[115,97,121,32,34]++(w++[34]),[115,119,97,112,32,47,a,47,32,34]++(w++[34]),
 [115,119,97,112,32,101,118,101,114,121,32,47,a,47,32,34]++(w.take 1++[34]),[106,111,105,110,32,50],[106,111,105,110,32,51],[112,105,108,101,32,115],[112,105,108,101,32,115,32,50],
 [98,114,105,110,103,32,115],[112,105,108,101,32,116,32,49],[98,114,105,110,103,32,116],[97,100,100,32,49,32,50],[115,119,97,112,32,47,a,43,47,32,34,34],[100,114,111,112]]
def We(D:Tx):Prop:=∃a∈yM,∃w∈qo,D∈tG a w
def N2(c:Int):∃D,We D/\∀m,cN (n+1) 59 [.int c] m=.ok (.str D,m):=by
 obtain⟨a,g,h⟩:=vc c;obtain⟨w,b,f⟩:=u_ (ls:=qo) J (by decide)
 obtain⟨D,d,e⟩:=u_ (ls:=tG a w) (n:=16) J (by decide)
 refine⟨D,⟨a,g,w,b,d⟩,λm=>?_⟩;rw[wI _ 59 J];refine sEq J J J<|bS (cU J (md J<|by decide) h)<|bS (cU J (md (fd J<|by decide)<|by decide) f) ?_
 refine bS (t:=.lst<|af<|(tG a w).take 5) ?_<|bS (t:=.lst<|af<|(tG a w).take 10) ?_<|bS ?_<|bR (cU J (md (fd J<|by decide)<|by decide) e) J
 all_goals
  unfold qo at b;simp only[bH,j4,i4]at b;rcases b with rfl|rfl|rfl|rfl|rfl<;>rfl
def shf:Tx->Bool:=λa=>decide<|a∈([[115],[116]]:List Tx)
def nf(l:Tx):Bool:=l.all λd=>decide<|d<48\/57<d
def clean(n:Nat)(l:Tx):Bool:=decide (Kk l<=n)&&!decide (10∈l)
def DD.good:DD->Bool
 |.say l=>clean 3 l
 |.swap e p l=>clean 3 l&&decide (least p=1)&&(!e ||clean 1 l)&&nf l
 |.pile a _=>shf a
 |.bring a=>shf a
 |.go a=>decide<|a=[109]
 |.add v w=>decide (v=1)&&decide (w=2)
 |_=>O
def oN.qv:oN->Bool
 |.one c _=>decide<|c∈yM
 |.emp=>O
def RP.qv:RP->Bool
 |.like p=>p.qv
 |_=>O
def PC.qv:PC->Bool
 |.soon _ p=>p.qv
 |.ft x y=>x.qv&&y.qv
 |.rp x=>x.qv
 |_=>O
def CD.qv:CD->Bool
 |.no x=>x.qv
 |.pc x=>x.qv
 |_=>O
def LN.good:LN->Bool
 |.mark a=>decide<|a=[109]
 |.bare x=>x.good
 |.full c x=>c.qv&&x.good
def VF:Tx:=[103,111,32,109]
def rk(g:Bool)(r:Tx)(l:LN):Bool:=decide (Kk r<=60)&&!decide (10∈r)&&!decide (r=JI)&&(l.good&&l.ms&&l.name.isNone&&(g ||l.i8.isNone))
def RK(g:Bool)(r:Tx):Prop:=∃l,Rd r l/\l.name=Y/\(Kk r<=60/\10∉r)/\l.good=O/\(g=ZA->l.i8=Y)/\r≠JI
def RK.of(h:rk g r l=O)(R:l.ms=O->Rd r l):RK g r:=by
 simp only[rk,bP,vY,yQ,eg,n3,O7]at h;exact⟨l,R h.2.1.1.2,h.2.1.2,⟨h.1.1.1,h.1.1.2⟩,h.2.1.1.1,λz=>h.2.2.resolve_left<|by rw[z];decide,h.1.2⟩
def VG:List Tx:=[]::JJ.tail.map (·.1)
def wU:List Tx:=u9.map (·.1)
def N3:yM.all (λa=>yM.all λb=>JH.all λd=>(tF a b d).all λC=>VG.contains C)=O:=by decide +kernel
def N4:yM.all (λa=>qo.all λw=>(tG a w).all λD=>wU.contains D&&!decide (D=VF))=O:=by decide +kernel
def JP:u9.all (λq=>rk (decide<|q.1=VF) q.1<|.bare q.2)=O:=by decide +kernel
def JQ:JJ.tail.all (λp=>u9.all λq=>rk (decide<|q.1=VF) (p.1++q.1)<|.full p.2 q.2)=O:=by decide +kernel
def ends:List Tx:=Ar.map (·.1)
def N5:Ar.all (λq=>rk ZA ([101,110,100,58,32]++q.1)<|.full .fin q.2)=O:=by decide +kernel
def C0:∀q∈u9++Ar,Kk q.1∈NU:=by decide +kernel
def IsC.mem{C:Tx}(h:IsC C):C∈VG:=by
 obtain⟨a,e,b,c,d,hd,h⟩:=h
 have:=N3
 simp only[dP]at this;exact DJ.mp<|this a e b c d hd C h
def We.mem(h:We D):D∈wU/\D≠VF:=by
 obtain⟨a,c,w,b,h⟩:=h
 have:=N4
 simp only[dP,bP]at this;obtain⟨e,d⟩:=this a c w b D h;exact⟨DJ.mp e,by simpa using d⟩
def JR{C D:Tx}(a:C∈VG)(hd:D∈wU):RK (decide<|D=VF)<|C++D:=by
 obtain⟨q,h,rfl⟩:=gZ.mp hd;rcases bH.mp a with rfl|a
 .exact .of (dP.mp JP q h) λz=>CW (q:=(q.1,.bare _)) (ed _<|gZ.mpr ⟨q,h,J⟩) z
 .obtain⟨p,b,rfl⟩:=gZ.mp a
  exact .of (dP.mp (dP.mp JQ p b) q h)<|CY (List.mem_of_mem_tail b) (lR _ h)<|C0 q<|lR _ h
def VH(h:E∈ends):RK ZA<|[101,110,100,58,32]++E:=by
 obtain⟨q,a,rfl⟩:=gZ.mp h;exact .of (dP.mp N5 q a)<|CY (d_ ..) (ji _ a)<|C0 q<|ji _ a
theorem tH:∀rs:List Tx,(af rs).all dm=O
 |[]=>J
 |_::rs=>tH rs
theorem any_rows(w:Tx):∀rs:List Tx,((af rs).any λy=>eqT y<|.str w)=decide (w∈rs)
 |[]=>J
 |r::rs=>by
  show(decide _ ||(af rs).any λy=>eqT y _)=_;rw[any_rows w rs];by_cases h:r=w
  .rw[de h,h,de<|d_ ..];rfl
  .rw[b7 h]
   exact decide_eq_decide.mpr ⟨ed _,λz=>(bH.mp z).resolve_left λe=>h e.symm⟩
def ü(h:s.r[i]?=U (U<|.ol<|af rs)):D.a_ (IJ O i<|cS w) s=.ok (!decide (w∈rs),s):=by
 apply dU;unfold IJ ZU;rw[h];show Res.bind (bj _) _=_;rw[h];show Res.bind (bj<|LZ _ _) _=_;rw[show LZ _ _=U _ by
  show gd _ _=_;rw[gG ⟨J,tH rs⟩,any_rows]]
 rfl
structure PG(mr k:Bool)(rs:List Tx)(ls:List LN):Prop where
 p:∃ps:List (Tx×LN),rs=ps.map n4/\ls=ps.map o8/\∀q∈ps,Rd q.1 q.2
 n:names ls=if k then[[109]]else[]
 f:∀r∈rs,Kk r<=60/\10∉r
 g:∀x∈ls,x.good=O
 go:∀x∈ls,∀a,x.i8=U a->a=[109]/\mr=O
 i:decide (JI∈rs)=k
section
variable{mr k:Bool}{rs:List Tx}{ls:List LN}{r:Tx}{l:LN}{A:Option C}
theorem PG.ps(P:∃ps:List (Tx×LN),rs=ps.map n4/\ls=ps.map o8/\∀q∈ps,Rd q.1 q.2)(h:Rd r l):∃ps:List (Tx×LN),rs++[r]=ps.map n4/\ls++[l]=ps.map o8/\∀q∈ps,Rd q.1 q.2:=by
 obtain⟨ps,rfl,rfl,b⟩:=P;exact⟨ps++[(r,l)],by rw[gk];rfl,by rw[gk];rfl,λq a=>(eO.mp a).elim (b q) λz=>by rw[dJ.mp z];exact h⟩
def PG.add(P:PG mr k rs ls)(h:Rd r l)(d:r≠JI)(c:l.name=Y)(j:Kk r<=60/\10∉r)(e:l.good=O)(m:∀a,l.i8=U a->a=[109]/\mr=O):PG mr k (rs++[r])<|ls++[l] where
 p:=PG.ps P.p h
 n:=by
  show(ls++[l]).filterMap LN.name=_;rw[DK,Gp c,List.filterMap_nil,cJ];exact P.n
 f:=λx b=>(eO.mp b).elim (P.f x) λz=>by rw[dJ.mp z];exact j
 g:=λx b=>(eO.mp b).elim (P.g x) λz=>by rw[dJ.mp z];exact e
 go:=λx b=>(eO.mp b).elim (P.go x) λz=>by rw[dJ.mp z];exact m
 i:=by
  rw[<- P.i];refine decide_eq_decide.mpr ⟨λz=>(eO.mp z).resolve_right λz=>?_,lR _⟩;exact dw (dJ.mp z).symm d
theorem PG.mark(P:PG mr ZA rs ls):PG mr O (rs++[JI])<|ls++[.mark [109]] where
 p:=PG.ps P.p (CW (q:=(JI,.mark _)) (d_ ..) J)
 n:=by
  show(ls++[LN.mark _]).filterMap LN.name=_;rw[DK,show ls.filterMap LN.name=[]from P.n];rfl
 f:=λx b=>(eO.mp b).elim (P.f x) λz=>by rw[dJ.mp z];decide
 g:=λx b=>(eO.mp b).elim (P.g x) λz=>by rw[dJ.mp z];rfl
 go:=λx b=>(eO.mp b).elim (P.go x) λz a h=>by rw[dJ.mp z]at h;cases h
 i:=de (ji _<|dJ.mpr J)
def ý{x:LN}(e:x.good=O)(h:x.i8=U a):a=[109]:=by
 cases x with
 |mark b=>cases h
 |bare d=>cases d<;>first|(cases h;done)|(cases h;exact bh e)
 |full c d=>cases d<;>first|(cases h;done)|(cases h;exact bh (kL.mp e).2)
abbrev sP(A:Option C)(mr:Bool)(rs:List Tx)(x:Option C):S:=⟨[A,sv<|.bl mr,U<|.ol<|af rs,x],[]⟩
def qw(j:Int):D.a_ (oE (oM zD<|cI 13)<|cI j) (sP A mr rs<|px c)=.ok (decide<|c % 13=j,sP A mr rs<|px c):=dU<|pE (md J<|by decide) J<|EL ..
def ET(P:PG mr k rs ls)(R:Kk rs<=30)(T:c % 13=5->mr=O):∃r l,Vv (cN<|n+1) (sP A mr rs<|px c)=.ok (.nx,sP A mr (rs++[r])<|px c)/\PG mr (k ||decide (c % 13=5)) (rs++[r]) (ls++[l]):=by
 have K:(af rs).length<1000000:=by rw[cH];lia
 have N6:∀{a:FE}{r:Tx},a (sP A mr rs<|px c)=.ok (.str r,sP A mr rs _)->fU 2 a _=.ok (.nx,sP A mr _ _):=λ{a r} h=>by
  have:=ya (i:=2) J h J K
  rw[this];have e:af (rs++[r])=af rs++[.str r]:=by simp
  show _=Res.ok (Out.nx,(⟨[A,sv _,U _,px c],[]⟩:S));rw[e];rfl
 by_cases hm:c % 13=5/\k=ZA
 .obtain⟨H,rfl⟩:=hm
  refine⟨JI,.mark [109],x9 (qj (x:=O) (by rw[qw,de H])<|by rw[ü J,P.i];rfl)<|N6 J,?_⟩
  rw[de H];exact P.mark
 .have hk:(k ||decide (c % 13=5))=k:=by
   cases k with
   |true=>rfl
   |false=>rw[b7 λz=>hm ⟨z,J⟩];rfl
  rw[hk];have v:iU (D.a_<|oE (oM zD<|cI 13)<|cI 5) (D.a_<|IJ O 2<|cS JI) (sP A mr rs<|px c)=.ok (ZA,sP A mr rs<|px c):=by
   rw[qj (qw 5)<|ü J,P.i]
   congr 2
   cases k with
   |true=>simp
   |false=>rw[b7 λz=>hm ⟨z,J⟩];rfl
  obtain⟨C,G,eC⟩:=N1 n _;obtain⟨B,M,N⟩:=N2 n _;have F:aj _ [] (k1<|oD zD<|cI 13) _=.ok (.str C,sP A mr rs<|px c):=cE (aA (fd J<|by decide) J)<|eC []
  have I:aj _ [] (k1<|oD zD<|cI 7020) _=.ok (.str B,sP A mr rs<|px c):=cE (aA (fd J<|by decide) J)<|N []
  have cat:∀{a b:Tx},(a++b).length<=60->jZ .Add (.str a) (.str b)=U _:=λ{a b} h=>gG (by rw[cV]at h;lia)
  have o:iU _ (D.tB zB) _=.ok (decide _&&mr,sP A mr rs<|px c):=qj (qw 6)<|yL J;by_cases h6:c % 13=6/\mr=O
  .obtain⟨l,m,j,d,f,p,g⟩:=JR G.mem<|show VF∈wU by decide
   refine⟨C++VF,l,je v<|x9 (by rw[o,de h6.1,h6.2];rfl)<|N6<|cU F J<|cat d.1,P.add m g j d f λa h=>⟨ý f h,h6.2⟩⟩
  have o:iU (D.a_<|oE (oM zD<|cI 13)<|cI 6) (D.tB zB) (sP A mr rs<|px c)=.ok (ZA,sP A mr rs<|px c):=by
   rw[o]
   congr 2
   cases mr with
   |false=>simp
   |true=>rw[b7 λz=>h6 ⟨z,J⟩];rfl
  by_cases h7:c % 13=7
  .obtain⟨E,L,Q⟩:=u_ (ls:=ends) J (by decide)
   obtain⟨l,m,j,d,f,p,g⟩:=VH L;refine⟨[101,110,100,58,32]++E,l,je v<|je o<|x9 (by rw[qw,de h7])<|N6<|cU J (cU J (md (fd J<|by decide)<|by decide) Q)<|cat d.1,P.add m g j d f λa h=>by rw[p J]at h;cases h⟩
  .obtain⟨u,q⟩:=M.mem
   obtain⟨l,m,j,d,f,p,g⟩:=JR G.mem u;refine⟨C++B,l,je v<|je o<|je (by rw[qw,b7 h7])<|N6<|cU F I<|cat d.1,P.add m g j d f λa h=>by rw[p<|b7 q]at h;cases h⟩
end
theorem kD{a:Type}(v:a->T)(p:a->Bool):∀{l:List a},(∀x∈l,∃b1 b2 b3,g (v x) b=U b1/\c ⟨b1,m⟩=.ok (p x,⟨b2,m⟩)/\e ⟨b2,m⟩=.ok (v x,⟨b3,m⟩))->bu g c e b (l.map v) m=.ok ((l.filter p).map v,m)
 |[],_=>J
 |x::l,h=>by
  obtain⟨b1,b2,b3,n,k,j⟩:=h x<|d_ ..;rw[f6,bu,n];apply dN;rw[k];apply dN;have d:=kD v p λy i=>h y<|ed _ i;cases f:p x with
  |true=>
   rw[bt J,j];apply dN;rw[d,Gq f];rfl
  |false=>rw[b0 eU,d,Gs<|by rw[f];exact eU]
theorem mT:∀l:List Tx,strsOf (af l)=U l
 |[]=>J
 |a::l=>by
  show(strsOf _).map _=_;rw[mT l];rfl
theorem qy:∀l:List Tx,fm [] l=l.flatten
 |[]=>J
 |[a]=>by simp[fm]
 |a::b::r=>by
  show a++[]++fm [] _=_;rw[qy _,cJ];rfl
def join_eq(h:Kk l.flatten<=1000000):joinM [] [.lst<|af l]=U (.str l.flatten):=by
 show(strsOf _).bind _=_;rw[mT];show gd _ _=_;rw[gG<|by simpa using h,qy]
abbrev aI(cs:Ee):FR:=cs.map T.int
def EU(cs:Ee):Bool:=cs.any λc=>decide<|c % 13=5
def ne_nil:∀l:Ee,aM .NotEq (.lst<|aI l) (.lst [])=U (.bl<|!l.isEmpty)
 |[]=>J
 |_::_=>J
theorem C2:∀cs:Ee,(!(cs.filter λc=>decide<|c % 13=5).isEmpty)=EU cs
 |[]=>J
 |c::cs=>by
  have a:=C2 cs;unfold EU at a ⊢;rw[List.filter_cons,rj];cases h:decide (c % 13=5)with
  |true=>rfl
  |false=>exact a
theorem vd:∀cs:Ee,aB (aI cs)=O
 |[]=>J
 |_::cs=>by show(O&&aB _)=O;rw[vd cs];rfl
def nlT:T->T
 |.str l=>.str<|l++[10]
 |t=>t
theorem C3(n:Nat){A:Option C}:∀(cs:Ee)(k:Bool)(rs:List Tx)(ls:List LN)(x:Option C),PG mr k rs ls->Kk rs+Kk cs<=30->(∀c∈cs,c % 13=5->mr=O)->∃þ a x',aX (setG 3) (Vv<|cN<|n+1) (aI cs) (sP A mr rs x)=.ok (.nx,sP A mr þ x')/\PG mr (k ||EU cs) þ a/\þ.length=Kk rs+Kk cs
 |[],k,rs,ls,x,P,_,_=>⟨rs,ls,x,J,by rw[show EU []=ZA from J,O2];exact P,J⟩
 |c::cs,k,rs,ls,x,P,g,b=>by
  rw[ee]at g;obtain⟨r,l,e,j⟩:=ET n P (by lia)<|b c<|d_ ..
  obtain⟨þ,a,x',h,f,i⟩:=C3 n cs _ _ _ _ j (by rw[cV,gY];lia) λd hd=>b d<|ed _ hd
  refine⟨þ,a,x',c8 J e h,?_,by rw[i,cV,gY,ee];lia⟩
  rw[Bool.or_assoc]at f;exact f
theorem qA:∀{rs:List Tx}{k:Nat},(∀r∈rs,Kk r<=k)->(flat rs).length<=Kk rs*(k+1)
 |[],_,_=>dz _
 |r::rs,k,h=>by
  have b:=qA λx a=>h x<|ed _ a
  have:=h r<|d_ ..
  show((r++[10])++flat rs).length<=_;rw[cV,cV,gY,ee]
  lia
def N7(k:Kk cs<=30):∃rs ls,PG (EU cs) (EU cs) rs ls/\rs.length=Kk cs/\∀m,cN (n+2) 60 [.lst<|aI cs] m=.ok (.str<|flat rs,m):=by
 obtain⟨rs,ls,x,e,P,hr⟩:=C3 n cs ZA [] [] Y ⟨⟨[],J,J,λ_ h=>nomatch h⟩,J,(λ_ h=>nomatch h),(λ_ h=>nomatch h),(λ_ h=>nomatch h),J⟩ (by show 0+_<=_;lia) λc d h=>Pd.mpr ⟨c,d,de h⟩
 have hr:=hr.trans<|yO _;refine⟨rs,ls,P,hr,λm=>?_⟩;rw[wI _ 60 J];have i:(flat rs).length<=1000000:=c_ (qA λr h=>(P.f r h).1) (by lia)
 have j:bF (aM .NotEq) (eW<|dh (jV zA) 2 [] (setG 1) (D.a_<|oE (oM zB<|cI 13)<|cI 5) zB) (aU cO aT) ⟨[Iy<|aI cs,Y,Y,Y],[]⟩=.ok (.bl<|EU cs,⟨[Iy<|aI cs,Y,Y,Y],[]⟩):=by
  refine pE (ô J (by rw[cH];lia) J<|kD T.int (λc=>decide<|c % 13=5) λc d=>?_) J ?_
  .exact⟨[Y,sv _],[Y,sv _],[Y,sv _],J,dU<|pE (md J<|by decide) J<|EL ..,J⟩
  .rw[ne_nil]
   exact ej (λb=>U _)<|C2 cs
 refine eL (ø<|vd cs) (iI (s':=⟨[sv _,sv _,sv _,x],[]⟩) J (seq1 (eT j)<|seq1 J<|seq1 (u6 J e)<|jE<|K_ J (aA (nC<|qh J (by rw[cH];lia) ?_) J)<|join_eq i) J) J
 rw[show af (rs.map λl=>l++[10])=(af rs).map nlT by simp[nlT]]
 refine kB λt g=>?_;obtain⟨r,a,rfl⟩:=gZ.mp g;exact⟨[Y,sv _],[Y,sv _],J,cU J J<|gG<|by have:=(P.f r a).1;show Kk r+1<=_;lia⟩
def PG.read(P:PG k k rs ls)(b:Kk rs<=24)(n:Nat) :cN (n+14) 53 [.str<|flat rs] m=.ok (.obj 0 [.lst<|aF ls],m):=by
 have d:(flat rs).length<=100000:=c_ (qA λr h=>(P.f r h).1) (by lia)
 refine NY n P.p b ?_ (λx c a h=>?_) (λr h=>(P.f r h).2) d
 .rw[P.n]
  cases k<;>decide
 .obtain⟨rfl,hk⟩:=P.go x c a h
  rw[P.n,hk];decide
def VI:Tx:=[97,98,99,32,98,49,32]
theorem JS:∀(ts:FR)(A:Option C)(a:Int)(w:Tx)(x:Option C),(∀c∈w,c∈VI)->Kk w+Kk ts<=100->∃k b x',aX (setG 3) á ts ⟨[A,px a,Io w,x],[]⟩=.ok (.nx,⟨[A,px k,Io b,x'],[]⟩)/\(∀c∈b,c∈VI)/\b.length=Kk w+Kk ts
 |[],A,a,w,x,h,_=>⟨a,w,x,J,h,J⟩
 |t::ts,A,a,w,x,h,m=>by
  rw[ee]at m;obtain⟨d,o,g⟩:=Au (l:=VI) J (by decide)
  have g:iE (.str VI) (.int<|a % 7)=U (.str [d]):=by show(atT VI _).map _=_;rw[show atT VI (a % 7)=U d from g];rfl
  obtain⟨k,b,x',e,q1,q2⟩:=JS ts A _ _ _ (λz f=>by
   rcases eO.mp f with f|f
   .exact h z f
   .rw[dJ.mp f];exact o) (by rw[cV,gY];lia)
  refine⟨k,b,x',c8 J (seq1 (eT<|cU J (cU J (md J<|by decide) g)<|gG<|by rw[gY];lia)<|eT<|fd J<|by decide) e,q1,?_⟩
  rw[q2,cV,gY,ee];lia
structure TX(k:Nat)(r:Tx):Prop where
 l:Kk r<=k
 n:10∉r
def VJ(c:Int):∃w,TX 6 w/\∀m,cN (n+1) 61 [.int c] m=.ok (.str w,m):=by
 obtain⟨b,w,a,e,q1,q2⟩:=JS (lT 0 (c % 7).toNat) _ _ [] Y (λ_ h=>nomatch h) (by unfold lT;rw[cH];simp;lia)
 have d:Kk w=(c % 7).toNat:=by rw[q2];unfold lT;rw[cH];simp
 refine⟨w,⟨by lia,λz=>?_⟩,λm=>?_⟩
 .have:=q1 10 z
  revert this;decide
 .rw[wI _ 61 J]
  exact eL J (iI J (seq1 (eT<|md (fd J<|by decide)<|by decide)<|seq1 J<|seq1 (u6 (ó (aA (md J<|by decide) J)<|gG<|by lia) e) J) J) J
end K61
namespace K61
variable(n:Nat)
structure HK(α:Type) where
 at_:Nat
 o:List α
 w:List α
section
variable{d:Type}{hs:List<|HK d}{R a P:List d}{p q nn st:Nat}{h:HK d}
def Wf(n:Nat):Nat->List (HK d)->Prop
 |p,[]=>p<=n
 |p,h::hs=>p<=h.at_/\Wf n (h.at_+Kk h.o) hs
abbrev sl(R:List d)(a b:Nat):List d:=(R.drop a).take<|b-a
def lay(R:List d)(q:Nat):Nat->List (HK d)->List d
 |p,[]=>sl R p q
 |p,h::hs=>sl R p h.at_++(h.w++lay R q (h.at_+Kk h.o) hs)
def Mt(R:List d)(hs:List<|HK d):Prop:=∀h∈hs,sl R h.at_ (h.at_+Kk h.o)=h.o
theorem Wf.le:∀{hs:List<|HK d}{p:Nat},Wf nn p hs->p<=nn
 |[],_,h=>h
 |_::_,_,h=>c_ h.1<|c_ (bx ..) h.2.le
theorem Wf.snoc:∀{hs:List<|HK d}{p:Nat},Wf h.at_ p hs->h.at_+Kk h.o<=nn->Wf nn p (hs++[h])
 |[],_,a,b=>⟨a,b⟩
 |_::_,_,a,b=>⟨a.1,a.2.snoc b⟩
theorem Wf.mono:∀{hs:List<|HK d}{p:Nat},Wf nn p hs->nn<=q->Wf q p hs
 |[],_,a,b=>c_ a b
 |_::_,_,a,b=>⟨a.1,a.2.mono b⟩
theorem ye:∀{hs:List<|HK d}{p:Nat},lay R q p (hs++[h])=lay R h.at_ p hs++(h.w++sl R (h.at_+Kk h.o) q)
 |[],_=>J
 |g::hs,p=>by
  show sl R p g.at_++(g.w++lay R q _ (hs++[h]))=(sl R p g.at_++(g.w++lay R h.at_ _ hs))++_;rw[ye,iN,iN]
def ÿ{a b c:Nat}(e:a<=b)(d:b<=c):sl R a b++sl R b c=sl R a c:=by
 unfold sl;rw[show c-a=(b-a)+(c-b) by lia,List.take_add,List.drop_drop,show a+(b-a)=b by lia]
theorem C4:∀{hs:List<|HK d}{p:Nat},Wf st p hs->st<=q->lay R q p hs=lay R st p hs++sl R st q
 |[],p,a,b=>(ÿ a b).symm
 |g::hs,p,a,b=>by
  show sl R p g.at_++(g.w++lay R q _ hs)=(sl R p g.at_++(g.w++lay R st _ hs))++_;rw[C4 a.2 b,iN,iN]
def bk:Nat->Nat->List (HK d)->List (HK d)
 |_,_,[]=>[]
 |q,p,h::hs=>⟨q+(h.at_-p),h.w,h.o⟩::bk (q+(h.at_-p)+Kk h.w) (h.at_+Kk h.o) hs
def Av{a b:Nat}(d:a<=b)(c:b<=Kk R):(sl R a b).length=b-a:=by simp;lia
def put[DecidableEq d](R:List d):List (HK d)->Option (List d)
 |[]=>U R
 |h::hs=>(put R hs).bind λX=>if sl X h.at_ (h.at_+Kk h.o)=h.o then U (X.take h.at_++(h.w++X.drop (h.at_+Kk h.o)))else Y
end
end K61
namespace K61
open D
variable(n:Nat){m:List _root_.D.Ob}
def EO(k L:Nat)(es:Ee):Prop:=∀(i:Nat)(e:Int),es[i]?=U e->e=-1\/((i:Int)+k<=e/\e<=L)
def EO.get(h:EO k L es)(a:p<Kk es):es.getD p 0=-1\/((p:Int)+k<=es.getD p 0/\es.getD p 0<=L):=h p _ (by rw[t_,dM a];rfl)
theorem EO.set{k L p:Nat}(h:EO k L es)(d:(p:Int)+k<=e)(c:e<=L):EO k L<|es.set p e:=λi x b=>by
 by_cases z:p=i
 .subst z
  have:=List.getElem?_set (l:=es) (i:=p) (j:=p) (a:=e)
  rw[this]at b;split at b
  .split at b
   .cases b;exact .inr ⟨d,c⟩
   .cases b
  .exact h p x b
 .rw[eV z]at b
  exact h i x b
def Ā(h:p<Kk l):Bt (.lst<|aI l) (.int (p:Nat))=U (.int<|l.getD p 0):=by
 show atT _ p=_;rw[qg<|by rw[cH];exact h,eQ,t_,dM h];rfl
def ixC(h:p<Kk l):iE (.str l) (.int (p:Nat))=U (.str [l.getD p 0]):=by
 show(atT l p).map _=_;rw[qg h,t_,dM h];rfl
theorem rep1(t:T):∀n:Nat,(cR n [t]).flatten=cR n t
 |0=>J
 |n+1=>by rw[tZ,yT,rep1 t n];rfl
def N8(h:k<=100001):Ib (.lst [.int<|-1]) (.int (k:Nat))=U (aI<|cR k<|-1):=by
 have e:Ib (.lst [.int<|-1]) (.int k)=U _:=gG ⟨by lia,by lia,by show 1*_<=_;lia⟩
 rw[e,A9,rep1,aI,Gg]
abbrev Rb(c:Nat)(p:Bool):T:=.tup [.str [c],.bl ZA,.str [if p then 43 else 49]]
def EW(c:Nat)(p:Bool)(row:B1)(b es:Ee)(a v8:Option C):S:=⟨[sv<|Rb c p,Io row,Iy<|aI b,Io [c],sv<|.bl ZA,sv<|.bl p,U<|.ol<|aI es,a,v8],[]⟩
section
variable{row:B1}
def pk6(a:q<Kk es)(h:b (EW c pl row y es F v8)=.ok (.int (q:Nat),EW c pl row y es F v8)):wV 6 b (EW c pl row y es F v8)=.ok (.int<|es.getD q 0,EW c pl row y es F v8):=by
 show Res.bind _ _=_;rw[h];show Res.bind (bj<|Bt _ _) _=_;rw[Ā a];rfl
def abj(a:p<Kk es):K6 6 (vF 7) (vF 8) (EW c pl row y es (px (p:Nat))<|px e)=.ok (.nx,EW c pl row y (es.set p e) (px (p:Nat))<|px e):=by
 show Res.bind (bj _) _=_;rw[gG ⟨by lia,by rw[cH];lia⟩]
 show Res.ok _=_;rw[<- List.map_set];rfl
def C5(he:Kk es=Kk row+1)(d:p<Kk row)(E:EO 1 row.length es)(b:x=-1\/((p:Int)+1<=x/\x<=Kk row)):W (aZ (a_<|bF (aM .Gt) (vF 8)<|wV 6<|vF 7) (K6 6 (vF 7)<|vF 8) aL<|EW c pl row y es (px (p:Nat))<|px x) λq=>q.1=.nx/\∃a F v8,EO 1 row.length a/\a.length=Kk row+1/\q.2=EW c pl row y a F v8:=by
 refine NG<|W.of (dU<|cU J (pk6 (by lia) J)<|EI _ _) ⟨λh=>?_,λh=>⟨_,J,J,es,_,_,E,he,J⟩⟩
 refine W.of (abj<|by lia) ⟨J,_,_,_,?_,by rw[eS];exact he,J⟩
 have:=E.get (p:=p) (by lia)
 exact E.set (by lia) (by lia)
def N9(hr:Kk row<=100000):Et [.int<|(Kk row:Int)-1,.int<|-1,.int<|-1]=U ((df row.length).map λk=>T.int<|((Kk row:Int)-1)-(k:Nat)):=by
 have e:((Kk row:Int)-1+1).toNat=Kk row:=by lia
 show gd _ _=_;rw[gG ⟨J,J,by lia,by lia⟩,e]
def o2r{s s1 s2:S}(h:a s=.ok (t,s1))(c:b s1=.ok (u,s2))(k:g t u=U v):o2 g a b s=.ok (v,s2):=by
 unfold o2;rw[h];apply dN;rw[c];apply dN;rw[k];rfl
def abk{c:FT}(h:c s=.ok (ZA,s1))(k:b s1=q):Zn c a b s=q:=by unfold Zn;rw[h];exact k
def N_(h:fl s=.ok (ts,s1)):iC i fl s=.ok (.nx,jT s1 i<|.ol ts):=by unfold iC;rw[h];rfl
def bOw{G:T×FX->Prop}(h:fl s=.ok (ts,s1))(k:WB B (jT s1 i<|.ol ts) G):WB (ah (iC i fl) B) s G:=nZ<|W.of (N_ h) ⟨J,k⟩
def kE:aB (aI cs)=O:=vd cs
def qE{f:Fn}{P:T->Prop}(h:aB ts=O)(k:W (f ts []) λp=>noOwn p.1=O/\P p.1):∃t,P t/\∀m,aK f ts m=.ok (t,m):=
 let⟨⟨t,_⟩,e,h1,h2⟩:=k
 ⟨t,h2,λ_=>eL h e h1⟩
def ve(o:Kk y=Kk row+1)(B:EO 0 row.length y)(hr:Kk row<=100000):∃t,(∃es,EO 1 row.length es/\es.length=Kk row+1/\t=.lst (aI es))/\∀m,cN (n+2) 23 [Rb c pl,.str row,.lst<|aI y] m=.ok (t,m):=by
 rw[wI _ 23 J];have g:cN (n+1) 17 [Rb c pl] []=.ok (.bl ZA,[]):=by
  cases pl<;>rfl
 have f:cN (n+1) 18 [Rb c pl] []=.ok (.bl pl,[]):=by
  cases pl<;>rfl
 refine qE (by show(O&&(O&&(aB _&&O)))=O;rw[kE];rfl)<|gK J<|bS J<|bS J<|bS (cE J f)<|bOw (abk (yL<|cE J g)<|o2r J J<|by rw[cH,o,N8<|by lia])<|nZ<|yb<|W.of (a:=((df row.length).map λk=>T.int<|(Kk row-1)-(k:Nat),EW c pl row y (cR (Kk row+1)<|-1) Y Y)) ?_ ?_
 . show Res.bind (bj<|Et [.int<|row.length-1,.int _,.int _]) _=_;rw[N9 hr];rfl
 refine(Ø (I:=λs=>∃es F v8,EO 1 row.length es/\es.length=Kk row+1/\s=EW c pl row y es F v8) (λt l s r=>?_) ⟨_,_,_,λi e h=>?_,vZ,J⟩).mono λq j=>⟨j.1,?_⟩
 .obtain⟨es,F,v8,E,d,rfl⟩:=r
  obtain⟨k,hk,rfl⟩:=gZ.mp l;have hk:=DF.mp hk;obtain⟨p,v⟩:∃p,p=Kk row-1-k:=⟨_,J⟩;rw[show(Kk row-1)-k=(p:Int) by lia]
  have x:=B.get (p:=p+1) (by lia)
  have w:=E.get (p:=p+1) (by lia)
  refine⟨_,J,NG<|W.of (dU<|cU (cU (cU J J<|ixC<|by lia) J J) J J) ⟨λ_=>?_,λ_=>⟨_,J,J,es,_,_,E,d,J⟩⟩⟩
  refine wS (cU J J<|Ā<|by lia)<|rQ<|NG<|W.of (qj (yL J)<|dU<|cU (pk6 (by lia) J) J<|EI _ _) ⟨λ_=>W.of (eT<|pk6 (by lia) J) ⟨J,C5 d (by lia) E<|by lia⟩,λ_=>⟨_,J,J,C5 d (by lia) E<|by lia⟩⟩
 .rw[yS]at h
  split at h
  .cases h;exact .inl J
  .cases h
 .obtain⟨es,F,v8,E,d,e⟩:=j.2
  rw[e];exact K8 J ⟨kE,es,E,d,J⟩
end
def oQ(n d j:Nat):iR n d (U ((j:Nat):Int))=min j n:=by
 unfold iR;dsimp only;rw[b0<|by lia,A9]
def yf(l:List a)(j:Nat):bT l Y (U ((j:Nat):Int))=l.take j:=by
 unfold bT;have c:iR l.length 0 Y=0:=J;have b:=oQ l.length l.length j;rw[c,wa,Pz]
 lia
def Aw(l:List a)(i j:Nat):bT l (U ((i:Nat):Int)) (U ((j:Nat):Int))=sl l i j:=by
 unfold bT sl;rw[oQ,oQ];by_cases h:i<=Kk l
 .rw[OZ h,Pz,kO]
  lia
 .rw[A4<|by lia,A4<|by lia];simp
def jF(l:List a)(i:Nat):bT l (U ((i:Nat):Int)) Y=l.drop i:=by
 unfold bT;rw[oQ];by_cases h:i<=Kk l
 .rw[OZ h,Pj<|by rw[kO];exact bL _]
 .rw[A4<|by lia,A4<|by lia];simp
def ā{c:FG}{b B:FS}{G:T×FX->Prop}{I:S->Prop}(h:src s=.ok (ts,s1))(g:I s1)(st:∀t∈ts,∀s,I s->∃r,c t s.r=U r/\W (b ⟨r,s.m⟩) λp=>(p.1=.nx/\I p.2)\/∃t,p.1=.rt t/\G (t,p.2.m))(k:∀s,I s->WB B s G):WB (ah (dD src c b) B) s G:=by
 have go:∀{ts:FR}{s:S},(∀t∈ts,∀s,I s->∃r,c t s.r=U r/\W (b ⟨r,s.m⟩) λp=>(p.1=.nx/\I p.2)\/∃t,p.1=.rt t/\G (t,p.2.m))->I s->W (aX c b ts s) λp=>(p.1=.nx/\I p.2)\/∃t,p.1=.rt t/\G (t,p.2.m):=λ{ts}=>by
  induction ts with
  |nil=>exact λ_ h=>⟨_,J,.inl ⟨J,h⟩⟩
  |cons t ts d=>
   intro s k h;obtain⟨r,j,⟨o,s1⟩,i,a⟩:=k t (d_ ..) s h;rw[aX,j];refine W.bind<|W.of J ?_;rw[i];rcases a with⟨rfl,a⟩|⟨u,rfl,a⟩
   .exact d (λt f=>k t<|ed _ f) a
   .exact⟨_,J,.inr ⟨u,J,a⟩⟩
 obtain⟨⟨o,s2⟩,e,q⟩:=go st g;show W (Res.bind _ _) _;rw[u6 h e];rcases q with⟨rfl,q⟩|⟨u,rfl,q⟩
 .exact k s2 q
 .exact⟨_,J,u,J,q⟩
theorem EO.take(h:EO k L es):EO k L<|es.take j:=λi e a=>by
 rw[List.getElem?_take]at a;split at a
 .exact h i e a
 .cases a
def EsT(p:oN)(row:B1)(t:T):Prop:=∃es,EO (least p) row.length es/\es.length<=Kk row+1/\t=.lst (aI es)
def o1r(h:a s=.ok (t,s1))(k:g t=U v):o1 g a s=.ok (v,s1):=by
 unfold o1;rw[h];apply dN;rw[k];rfl
def yh:lT 0 n=aI ((df n).map λi:Nat=>(i:Int)):=by
 unfold lT aI;rw[j5];exact v_ λk _=>ej T.int<|PK _
def nE(hr:Kk row<=100000):∃t,EsT p row t/\∀m,cN (n+3) 21 [p.val,.str row] m=.ok (t,m):=by
 rw[wI _ 21 J];have r:cN (n+2) 22 [.str row,.bl ZA] []=.ok (.lst<|aI<|(df<|row.length+1).map λi:Nat=>i,[]):=by
  rw[wI _ 22 J];refine sEq J J kE<|bN J<|bR (nC ?_) J;refine o1r (cU J J J) ?_;rw[show Es (.int<|row.length+1)=U _ from(gG ⟨by lia,by lia⟩).trans<|by rw[show(Kk row+1:Int).toNat=Kk row+1 by lia],yh]
 have k:EO 0 row.length<|(df<|row.length+1).map λi:Nat=>i:=λi e b=>by
  rw[eQ]at b;obtain⟨j,g,rfl⟩:=bW.mp b;obtain⟨f,d⟩:=dq.mp g;rw[lS]at f;rw[List.getElem_range]at d;exact .inr ⟨by lia,by lia⟩
 cases p with
 |one c pl=>
  obtain⟨t,⟨es,E,b,rfl⟩,o⟩:=ve n (by simp) k hr
  refine qE J<|gK J<|bS (cE J r)<|nZ<|W.of (a:=(Out.nx,⟨[sv (oN.one c pl).val,Io row,Iy _,sv<|Rb c pl],[]⟩)) ?_ ⟨J,bR J ⟨kE,es,E,q_ b,J⟩⟩;exact u6 J<|c8 J (eT<|cE J<|o []) J
 |emp=>
  have l:cN (n+2) 22 [.str row,.bl O] []=.ok (.lst<|aI<|cR row.length (-1)++[(Kk row:Int)],[]):=by
   rw[wI _ 22 J];refine sEq J J kE<|bY J<|bR (pE (t:=.lst<|aI<|cR row.length<|-1) (pE J J ?_) J ?_) J
   .have e:LY (.lst [.int<|-1]) (.int row.length)=U (.lst (cR (Kk row:Int).toNat _).flatten):=gG ⟨by lia,by lia,by show 1*_<=_;lia⟩
    show LY (.lst [.int<|-1]) (.int row.length)=_;rw[e,A9,rep1,aI,Gg]
   .refine(gG<|by simp;lia).trans ?_
    rw[aI,aI,gk];rfl
  refine qE J<|gK J<|bS (cE J l)<|nZ<|W.of J ⟨J,bR (t:=.lst<|aI<|(cR row.length (-1)++[(Kk row:Int)]).take 1) ?_ ⟨kE,_,EO.take λi e b=>?_,?_,J⟩⟩
  .have q:=yf (aI<|cR row.length (-1)++[(Kk row:Int)]) 1
   rw[<- v5]at q;exact ej (λz=>Res.ok (T.lst z,_)) q
  .rw[List.getElem?_append]at b
   split at b
   .rw[yS]at b
    split at b
    .cases b;exact .inl J
    .cases b
   .rename_i h
    have:=dq.mp b
    obtain⟨f,d⟩:=this;simp at f d;exact .inr ⟨by show i+(0)<=e;lia,by lia⟩
  .simp
def TX.mono{l:Tx}(h:TX k l)(q:k<=j):TX j l:=⟨c_ h.l q,h.n⟩
def TX.cat{l w:Tx}(h:TX k l)(q:TX j w):TX (k+j)<|l++w:=⟨by rw[cV];exact Nat.add_le_add h.l q.l,λz=>(eO.mp z).elim h.n q.n⟩
def TX.sub{l w y:Tx}(h:TX k l)(q:TX j w)(z:Kk y<=i/\y ⊆ l++w):TX i y:=⟨z.1,λy=>(eO.mp<|z.2 y).elim h.n q.n⟩
section
variable{p:oN}{row l w:B1}{es:Ee}{s:S}{a b:FE}
def yi{k:Nat}(d:a s=.ok (.str l,s))(c:b s=.ok (.str w,s))(h:(l++w).length<=1000000):oA a b s=.ok (.str<|l++w,s):=pE d c<|gG<|by rw[cV]at h;exact h
def cDE(h:fl s=.ok (ts,s))(k:g (ts++ds) s.m=.ok (t,s.m)):aj g ds fl s=.ok (t,s):=qe h k
def neI(x y:Int):aM .NotEq (.int x) (.int y)=U (.bl<|!decide (x=y)):=J
def StT(p:oN)(row:B1)(t:T):Prop:=t=.non\/∃b e:Nat,t=.tup [.int b,.int e]/\b+least p<=e/\e<=Kk row
def qF(hr:Kk row<=100000):∃t,StT p row t/\∀m,cN (n+4) 19 [p.val,.str row,.int 0] m=.ok (t,m):=by
 rw[wI _ 19 J];obtain⟨t,⟨es,E,c,rfl⟩,g⟩:=nE n (p:=p) hr;have d:aB [p.val,.str row,.int 0]=O:=by cases p<;>rfl
 refine qE d<|gK J<|bS (cE J<|g [])<|ā (ts:=aI<|(df es.length).map λi:Nat=>i) (I:=λs=>∃x,s=⟨[sv p.val,sv _,sv _,sv _,x],[]⟩) (ó (aA J<|aA (c7 J<|by show U _=_;rw[cH]) J) ?_) ⟨_,J⟩ (λt f s b=>?_) λs b=>?_
 .refine(gG ⟨by decide,by decide,by lia,by lia⟩).trans ?_
  rw[<- yh,show((Kk es:Int)-0).toNat=Kk es by lia]
 .obtain⟨x,rfl⟩:=b
  obtain⟨k,hk,rfl⟩:=gZ.mp f;obtain⟨i,a,rfl⟩:=gZ.mp hk;have a:=DF.mp a;refine⟨[sv p.val,sv _,sv _,sv _,sv _],J,NG<|W.of (dU<|cU (cU J J<|Ā a) J<|neI ..) ⟨λh=>?_,λ_=>⟨_,J,.inl ⟨J,_,J⟩⟩⟩⟩;obtain⟨e,c⟩:∃e:Nat,es.getD i 0=e:=⟨(es.getD i 0).toNat,by have:=E.get a;lia⟩
  refine W.of (jE<|c7 (aA J<|aA (cU J J<|(Ā a).trans<|by rw[c]) J)<|i9 ..)<|.inr ⟨_,J,J,.inr ⟨i,e,J,?_,?_⟩⟩
  all_goals have:=E.get a;lia
 . exact bR J ⟨J,.inl J⟩
def JT(hr:Kk row<=100000):∃b,∀m,cN (n+5) 20 [p.val,.str row] m=.ok (.bl b,m):=by
 obtain⟨t,h,c⟩:=qF n (p:=p) hr;have a:aB [p.val,.str row]=O:=by cases p<;>rfl
 rw[wI _ 20 J];rcases h with rfl|⟨b,e,rfl,_⟩
 .exact⟨ZA,λm=>sEq a J J<|bR (pE (cDE J<|c []) J J) J⟩
 .exact⟨O,λm=>sEq a J J<|bR (pE (cDE J<|c []) J J) J⟩
def JU(i:least p=1)(o:Kk l<=k)(g:Kk w<=j+1)(f:k+j<=99990):∃t,(∃a,t=.str a/\a.length<=k+j/\a ⊆ l++w)/\∀m,cN (n+5) 27 [.str l,p.val,.str w] m=.ok (t,m):=by
 obtain⟨t,h,d⟩:=qF n (p:=p) (row:=l) (by lia)
 rw[wI _ 27 J];have c:aB [.str l,p.val,.str w]=O:=by cases p<;>rfl
 refine qE c<|gK J<|bS (cDE J<|d []) ?_;rcases h with rfl|⟨b,e,rfl,r,q⟩
 .exact bY J<|bR J ⟨J,l,J,by lia,λ_ h=>lR _ h⟩
 .refine bN J<|bR (yi (k:=0) (yi (k:=0) (Ju J J J<|by show U _=_;rw[yf]) J ?_) (Ju J J J<|by show U _=_;rw[jF]) ?_) ⟨J,_,J,?_,?_⟩
  .rw[cV,tY];lia
  .rw[cV,cV,tY,kO];lia
  .rw[cV,cV,tY,kO];lia
  .exact λ_ h=>(eO.mp h).elim (λh=>(eO.mp h).elim (λh=>lR _<|A5 h) λh=>ji _ h) λh=>lR _<|rW h
def EV(l w:Tx)(p:oN)(es:Ee)(ps:List Tx)(k q:Nat):S:=⟨[Io l,sv p.val,Io w,Iy<|aI es,U<|.ol<|af ps,px (k:Nat),px (q:Nat)],[]⟩
theorem qG(E:EO 1 l.length es)(he:Kk es<=Kk l+1)(n:Kk l<=100000)(m:Kk w<=1):∀(d k q f:Nat)(ps:List Tx),Kk es<=q+d->d<f->k<=q->k<=Kk l->Kk ps<=k->Kk ps.flatten<=k/\ps.flatten ⊆ l++w->W (bU (a_<|bF (aM .Lt) (vF 6)<|aU bZ<|k1 zD) Vt f<|EV l w p es ps k q) λz=>z.1=.nx/\∃k q ps,z.2=EV l w p es ps k q/\k<=Kk l/\ps.flatten.length<=k/\ps.flatten ⊆ l++w
 |d,k,q,0,ps,_,h,_,_,_,_=>dw h<|Nat.not_lt_zero _
 |d,k,q,f+1,ps,C,B,A,o,r,g=>by
  have v:aU bZ (k1 zD) (EV l w p es ps k q)=.ok (.int es.length,EV l w p es ps k q):=c7 J (by show U _=_;rw[cH])
  have c:a_ (bF _ (vF 6) _) _=.ok (decide<|q<Kk es,EV l w p es ps k q):=dU<|pE J v<|(ò ..).trans<|ej (λb=>U _)<|decide_eq_decide.mpr<|by lia
  by_cases hq:q<Kk es
  .rw[de hq]at c
   obtain⟨d,rfl⟩:∃e,d=e+1:=⟨d-1,by lia⟩
   have j:=Ā hq;have Eq:=E.get hq;refine Vz c<|NG<|W.of (dU<|cU (cU J J j) J<|EL ..) ⟨λz=>?_,λz=>?_⟩
   .exact⟨_,J,J,qG E he n m d k _ f ps (by lia) (by lia) (by lia) o r g⟩
   .have z:=of_decide_eq_false z
    obtain⟨e,s⟩:∃e:Nat,es.getD q 0=e:=⟨(es.getD q 0).toNat,by lia⟩
    rw[s]at Eq j;refine rQ<|W.of (ya J (yi (k:=0) (Ju J J J<|by show U _=_;rw[Aw]) J ?_) J<|by rw[cH];lia) ⟨J,?_⟩
    .rw[cV,tY];lia
    .refine wS (pE (t:=.lst _) J J j)<|W.of (a:=(Out.nx,EV l w p es _ e e)) ?_ ⟨J,qG E he n m d e e f (ps++[sl l k q++w]) (by lia) (by lia) (bL _) (by lia) ?_ ⟨?_,?_⟩⟩
     .have i:af ps++[T.str<|sl l k q++w]=af (ps++[sl l k q++w]):=by simp
      show Res.ok (Out.nx,(⟨[sv _,sv p.val,sv _,sv _,U _,px e,px e],[]⟩:S))=_;rw[i];rfl
     .rw[cV,gY];lia
     . rw[PB,cV,PD,cV,tY];lia
     .rw[PB,PD]
      exact λ_ y=>(eO.mp y).elim (g.2 ·) λy=>(eO.mp y).elim (λy=>lR _<|rW<|A5 y) λy=>ji _ y
  .rw[b7 hq]at c
   exact aa9 c ⟨J,k,q,ps,J,o,g⟩
def JV(g:least p=1)(i:Kk l<=k)(hk:k<=100000)(f:Kk w<=1):∃t,(∃a,t=.str a/\a.length<=k/\a ⊆ l++w)/\∀m,cN (n+4) 28 [.str l,p.val,.str w] m=.ok (t,m):=by
 obtain⟨t,⟨es,E,o,rfl⟩,r⟩:=nE n (row:=l) (by lia)
 rw[g]at E;rw[wI _ 28 J];have d:aB [.str l,p.val,.str w]=O:=by cases p<;>rfl
 refine qE d (gK J (bS (cE J<|r []) (bOw J (bS J (bS J (nZ ((qG E o (c_ i hk) f es.length 0 0 many [] (by lia) (by lia) (bL _) (dz _) (bL _) ⟨bL _,λ_ h=>nomatch h⟩).mono λq b=>⟨b.1,?_⟩)))))))
 obtain⟨_,k2,q2,ps,e,v,c⟩:=b;rw[e];have j:Kk ps.flatten<=1000000:=by lia
 refine K8 (cU (u:=.str _) (K_ J J<|join_eq j) (Ju J J J<|by show U _=_;rw[jF])<|gG ?_) ⟨J,_,J,?_,?_⟩
 . rw[kO];lia
 .rw[cV,kO];lia
 .exact λ_ h=>(eO.mp h).elim (c.2 ·) λh=>lR _<|rW h
end
def EY(l:Tx):List Tx:=(aP 32 l).filter λw=>!decide (w=[])
theorem qH(c:Nat):∀l:Tx,(aP c l).length<=Kk l+1
 |[]=>bL _
 |d::l=>by
  have a:=qH c l;unfold aP;split
  .rw[ee,ee];lia
  .split
   .rename_i p r e
    rw[e]at a;rw[ee]at a ⊢;rw[ee];lia
   . show 1<=_;lia
theorem split_le:∀{l:Tx},∀w∈aP c l,Kk w<=Kk l/\∀d∈w,d∈l
 |[],w,h=>by rw[dJ.mp h];exact⟨bL _,λ_ h=>nomatch h⟩
 |d::l,w,h=>by
  have b:=λw=>split_le (c:=c) (l:=l) w;have up:∀{w:Tx},(Kk w<=Kk l/\∀d∈w,d∈l)->Kk w<=(d::l).length/\∀e∈w,e∈d::l:=λ{w} h=>⟨c_ h.1<|bx ..,λe a=>ed _<|h.2 e a⟩;unfold aP at h;split at h
  .rcases bH.mp h with z|z
   .rw[z];exact⟨dz _,λ_ h=>nomatch h⟩
   .exact up<|b w z
  .split at h
   .rename_i p r e
    rw[e]at b;rcases bH.mp h with z|z
    .have q:=b p<|d_ ..
     rw[z];exact⟨gX q.1 1,λe a=>(bH.mp a).elim (λy=>by rw[y];exact d_ ..) λy=>ed _<|q.2 e y⟩
    .exact up<|b w<|ed _ z
   .rw[dJ.mp h]
    exact⟨DE ..,λe a=>by rw[dJ.mp a];exact d_ ..⟩
def VL(h:TX k l)(b:w∈EY l):TX k w/\(nf l=O->nf w=O):=by
 obtain⟨c,a⟩:=split_le w (F8.mp b).1;exact⟨⟨c_ c h.l,λz=>h.n<|a _ z⟩,λz=>dP.mpr λd hd=>dP.mp z d<|a d hd⟩
def JW(a:Kk l<=100000):cN (n+1) 29 [.str l] m=.ok (.lst<|af<|EY l,m):=by
 rw[wI _ 29 J];have e:splitM l [.str [32]]=U _:=gG a;refine sEq J J (aY _)<|bR (ô (NJ (K_ J J e) J) ?_ J<|kD T.str _ λw _=>⟨_,_,_,J,J,J⟩) J;rw[cH];have:=qH 32 l;lia
def vf(l:Tx)(i:Nat):T:=if(EY l).length<i then .non else .str ((EY l).getD (i-1) [])
def ixW(b:1<=i)(a:i<=Kk ls):iE (.lst<|af ls) (.int ((i:Nat)-1:Int))=U (.str<|ls.getD (i-1) []):=by
 show atT _ _=_;rw[show(i-1)=((i-1:Nat):Int) by lia,qg<|by rw[cH];lia,eQ,t_,dM<|by lia]
 rfl
def qI(a:Kk l<=100000)(c:1<=i):cN (n+2) 30 [.str l,.int (i:Nat)] m=.ok (vf l i,m):=by
 rw[wI _ 30 J];refine sEq J J (by unfold vf;split<;>rfl)<|bS (cE J<|JW n a) ?_
 have e:a_ (bF (aM .Gt) zB<|aU bZ<|k1 zC) ⟨[Io l,px i,Iy<|af<|EY l],[]⟩=.ok (decide<|(EY l).length<i,⟨[Io l,px i,Iy<|af<|EY l],[]⟩):=by
  refine dU<|cU J (c7 J<|by show U _=_;rw[cH]) ?_
  exact ej (λb=>U _)<|decide_eq_decide.mpr<|by lia
 unfold vf;by_cases h:(EY l).length<i
 .rw[bt h]
  rw[de h]at e;exact bY e<|bR J J
 .rw[b0 h]
  rw[b7 h]at e;exact bN e<|bR (cU J J<|ixW c<|by lia) J
def JX(h:TX k l)(a:1<=i):vf l i=.non\/∃w,vf l i=.str w/\TX k w/\(nf l=O->nf w=O):=by
 by_cases z:(EY l).length<i
 .exact .inl<|bt z
 .refine .inr ⟨_,b0 z,VL h ?_⟩
  rw[t_,dM<|by lia]
  exact wc ..
end K61
namespace K61
open D PySem PySem.NumText
variable(n:Nat)
def Oa(h:CU EJ l=O):AllDigits l:=λc a=>by
 have:=bh<|dP.mp h c a
 simp only[EJ,bH,j4,i4]at this;rcases this with rfl|rfl|rfl|rfl|rfl|rfl|rfl|rfl|rfl|rfl<;>exact⟨by decide,by decide⟩
theorem Rf:∀(n:Nat)(cs:Tx),Kk cs=n->AllDigits cs->digitsVal cs<10^n
 |0,cs,h,_=>by rw[Gu h];decide
 |n+1,cs,h,hd=>by
  rcases A6 cs with e|⟨a,c,e⟩
  .rw[e]at h;cases h
  .rw[A7]at e
   subst e;rw[cV,gY]at h;have d:=Rf n a (by lia) λx b=>hd x<|lR _ b
   have f:=hd c (by simp)
   rw[digitsVal_snoc]
   lia
def NmO(t:T):Prop:=t=.non\/∃i:Int,t=.int i/\i.natAbs<10^60
def Ă(h:AllDigits d)(a:¬ (60:Int)<(Kk d:Nat)):digitsVal d<10^60:=fB (Rf _ _ J h)<|Nat.pow_le_pow_right (by decide)<|by lia
def vg(o:Kk l<=100000):∃t,(NmO t/\(nf l=O->t=.non))/\∀m,cN (n+2) 31 [.str l] m=.ok (t,m):=by
 rw[wI _ 31 J];obtain⟨F,f⟩:∃F,F=if pre [45] l then bT l (U 1) Y else l:=⟨_,J⟩
 have hB:Kk F<=100000:=by
  rw[f];split
  .exact c_ (by rw[show bT l (U 1) Y=l.drop 1 from jF l 1,kO];exact Nat.sub_le ..) o
  .exact o
 have v:qV (tB<|nV K4 zA<|k1<|cS [45]) (jU zA (gQ zI) oq) zA ⟨[Io l,Y],[]⟩=.ok (.str F,⟨[Io l,Y],[]⟩):=by
  unfold qV;rw[yL<|K_ J J J,f];show(if pre _ l then _ else _)=_
  cases pre _ l<;>rfl
 have h:ic (a_<|oE zB<|cS []) (ic (a_<|bF _ (aU bZ<|k1 zB)<|cI 60)<|dC<|tB<|aj _ []<|k2 zB<|cS EJ) ⟨[Io l,Io F],[]⟩=.ok (decide _ ||(decide ((60:Int)<Kk F) || !CU EJ F),⟨[sv _,sv _],[]⟩):=
  yc (dU<|cU J J<|uZ F [])<|yc (dU<|cU J J<|EI _ _)<|õ<|yL<|cE J<|Aq n hB
 refine qE J<|gK J<|bS v ?_;cases hk:(decide (F=[]) ||(decide ((60:Int)<Kk F) || !CU EJ F))with
 |true=>
  rw[hk]at h;exact bY h<|bR J ⟨J,.inl J,λ_=>J⟩
 |false=>
  rw[hk]at h;simp only[AV,n3,Bool.not_eq_false']at hk;obtain⟨i,s,q⟩:=hk;have hd:=Oa q;have k:=Ă hd s;have j:¬ nf l=O:=λz=>by
   obtain⟨d,c⟩:=List.exists_mem_of_ne_nil F i;have w:=hd d c;rw[f]at c
   have:=bh<|dP.mp z d<|by
    split at c
    .exact rW<|A5 c
    .exact c
   lia
  refine bN h ?_;cases g:pre _ l with
  |false=>
   have e:F=l:=by rw[f,g];rfl
   subst e;refine bR (t:=.int ((digitsVal F))) (c7 J ?_) ⟨J,.inr ⟨_,J,k⟩,λz=>dw z j⟩;show(pW _).bind _=_;rw[intText_digits hd i<|by show Kk F<=4300;lia]
   exact gG (by lia)
  |true=>
   have e:F=l.drop 1:=by rw[f,g];exact jF l 1
   cases l with
   |nil=>cases g
   |cons a r=>
    have p:a=45:=by
     have:=(kL.mp<|g).2
     have:=eq_of_beq this
     injection this
    have e:=e;subst e;refine bR (t:=.int<|-((digitsVal F))) (c7 J ?_) ⟨J,.inr ⟨_,J,by rw[Int.natAbs_neg];exact k⟩,λz=>dw z j⟩
    show(pW _).bind _=_;rw[intText_neg (by rw[p]) hd i<|by show(a::F).length<=4300;rw[ee];lia]
    exact gG (by rw[ee];lia)
def JY:ko (n:Int)=(Nat.toDigits 10 n).map va:=by
 show(Nat.repr n).toList.map va=_;rw[Nat.toList_repr]
def JZ{n:Nat}:10∉ko (n:Int):=λh=>by
 rw[JY]at h;obtain⟨c,a,e⟩:=gZ.mp h
 have:=Nat.isDigit_of_mem_toDigits (by decide) (by decide) a
 have:=(Char.isDigit_iff_toNat.mp this).1
 lia
def J0{n k:Nat}(hk:0<k)(h:n<10^k):(ko (n:Int)).length<=k:=by
 rw[JY,cH];exact(Nat.length_toDigits_le_iff (by decide) hk).mpr h
def VM:ko (Int.negSucc n)=45::ko ((n+1:Nat):Int):=by
 show(("-" ++ Nat.repr _)).toList.map va=_;rw[String.toList_append];rfl
def txI(hk:0<k)(h:i.natAbs<10^k):TX (k+1)<|ko i:=by
 cases i with
 |ofNat n=>exact⟨c_ (J0 hk h)<|bx ..,JZ⟩
 |negSucc n=>
  rw[VM];exact⟨gX (J0 hk h) 1,λz=>(bH.mp z).elim (by decide) JZ⟩
def ă(d:c<=900000)(h:i.natAbs<=c*10^60):strN [.int i]=U (.str<|ko i)/\TX 67 (ko i):=by
 have b:i.natAbs<10^66:=rh h<|rh (rT _ d)<|by decide
 have a:=txI (by decide) b
 refine⟨gG ⟨?_,c_ a.l<|by decide⟩,a⟩
 by_cases hz:i.natAbs=0
 .rw[hz];decide
 .exact(Nat.log2_lt hz).mpr<|FW b<|by decide
end K61
namespace K61
open D
variable(n:Nat){m:List _root_.D.Ob}
section
variable{m:FX}
def J1(h:a s=.ok (.own k,s1))(b:s1.m[k]?=U ob)(d:iV M.P.tab ob.c f=U j)(e:ob.fs[j]?=sv t):az M.P.tab f a s=.ok (t,s1):=by
 unfold az;rw[h];refine Eq.trans (Ñ _ _) ?_;show Res.bind _ _=_;rw[b];show Res.bind (bj<|(iV M.P.tab ob.c f).bind _) _=_;rw[d];show Res.bind (bj<|ob.fs[j]?) _=_;rw[e];rfl
def tK(h:m[kb]?=U ⟨nb,[.od ks ts]⟩):kq nb m (.own kb)=U (kb,ks,ts):=by
 have e:uP nb m (.own kb)=U (kb,.od ks ts):=by
  show(m[kb]?).bind _=_;rw[h];exact bt J
 unfold kq;rw[e];rfl
def Rg(h:m[kb]?=U ⟨nb,[.ol ts]⟩):zT nb m (.own kb)=U (kb,ts):=by
 have e:uP nb m (.own kb)=U (kb,.ol ts):=by
  show(m[kb]?).bind _=_;rw[h];exact bt J
 unfold zT;rw[e];rfl
def Ri(d:o s=.ok (.own kb,s))(b:s.m[kb]?=U ⟨nb,[.ol ts]⟩)(e:a s=.ok (t,s))(c:Kk ts<1000000):gS nb o a s=.ok (.nx,⟨s.r,s.m.set kb ⟨nb,[.ol<|ts++[t]]⟩⟩):=by
 unfold gS;rw[d];apply dN;rw[Rg b];apply dN;rw[e];apply dN;rw[Rg b];apply dN;rw[gG c];rfl
def Oc(c:o s=.ok (.own kb,s))(e:b s=.ok (t,s))(hd:d s=.ok (u,s))(hk:jy t=U ky)(a:s.m[kb]?=U ⟨nb,[.od ks ts]⟩):rL nb o b d s=.ok ((fG ks ts ky).getD u,s):=by
 unfold rL;rw[c];apply dN;rw[tK a];apply dN;rw[e];apply dN;rw[hd];apply dN;rw[tK a];rw[hk];rfl
def EZ(c:a s=.ok (u,s1))(d:o s1=.ok (.own kb,s1))(f:b s1=.ok (t,s1))(hk:jy t=U ky)(e:s1.m[kb]?=U ⟨nb,[.od ks ts]⟩)(hs:Kk ks<1000000):nY nb o b a s=.ok (.nx,⟨s1.r,s1.m.set kb ⟨nb,[.od (bw ks ts ky u).1 (bw ks ts ky u).2]⟩⟩):=by
 unfold nY;rw[c];apply dN;rw[d];apply dN;rw[f];apply dN;rw[tK e];apply dN;rw[hk];rw[gG hs];rfl
def VN(b:a s=.ok (t,s))(c:o s=.ok (.own kb,s))(hk:jy t=U ky)(d:s.m[kb]?=U ⟨nb,[.od ks ts]⟩):a_ (xC nb neg a o) s=.ok (if neg then !decide (ky∈ks)else decide (ky∈ks),s):=by
 apply dU;unfold xC;rw[b];apply dN;rw[c];apply dN;rw[tK d];rw[hk];rfl
def VO(a:o s=.ok (.own kb,s))(e:b s=.ok (t,s))(hk:jy t=U ky)(c:s.m[kb]?=U ⟨nb,[.od ks ts]⟩)(d:fG ks ts ky=U u):zU nb o b s=.ok (u,s):=by
 unfold zU;rw[a];apply dN;rw[e];apply dN;rw[tK c];rw[hk];show Res.bind (bj<|fG ks ts ky) _=_;rw[d];rfl
end
structure DI(P:Ky->Prop)(Q:T->Prop)(n:Nat)(ks:List Ky)(ts:FR):Prop where
 len:Kk ks=Kk ts
 le:Kk ks<=n
 p:∀k∈ks,P k
 q:∀t∈ts,Q t
theorem get_mem:∀{ks:List Ky}{ts:FR}{x:Ky},Kk ks=Kk ts->x∈ks->∃t,fG ks ts x=U t
 |[],_,_,_,h=>by cases h
 |q::ks,[],_,h,_=>by cases h
 |q::ks,t::ts,x,h,a=>by
  rw[fG];by_cases e:q=x
  .rw[bt e];exact⟨t,J⟩
  .rw[b0 e]
   rcases bH.mp a with z|z
   .exact dw z.symm e
   .exact get_mem (tW.inj h) z
theorem Ax:∀{ks:List Ky}{ts:FR}{x:Ky}{t:T},fG ks ts x=U t->t∈ts
 |[],_,_,_,h=>by cases h
 |_::_,[],_,_,h=>by cases h
 |q::ks,u::ts,x,t,h=>by
  rw[fG]at h;split at h
  .cases h;exact d_ ..
  .exact ed _<|Ax h
section
variable{P d:Ky->Prop}{Q j:T->Prop}
def DI.nil:DI P Q 0 [] []:=⟨J,bL _,(λ_ h=>nomatch h),λ_ h=>nomatch h⟩
def DI.mono(D:DI P Q nn ks ts)(h:nn<=n')(b:∀k,P k->d k)(a:∀t,Q t->j t):DI d j n' ks ts:=⟨D.len,c_ D.le h,λk z=>b k<|D.p k z,λt z=>a t<|D.q t z⟩
def DI.at_(D:DI P Q nn ks ts)(h:k∈ks):∃t,fG ks ts k=U t/\Q t:=let⟨t,e⟩:=get_mem D.len h;⟨t,e,D.q t<|Ax e⟩
def DI.get(D:DI P Q nn ks ts)(h:Q u):Q<|(fG ks ts k).getD u:=by
 cases e:fG ks ts k with
 |none=>exact h
 |some t=>exact D.q t<|Ax e
def vh(h:k∈ks):(bw ks ts k u).1=ks:=by unfold bw;rw[bt h]
def i_(h:k∉ks):bw ks ts k u=(ks++[k],ts++[u]):=by unfold bw;rw[b0 h]
def vj:k∈(bw ks ts k u).1:=by
 by_cases h:k∈ks
 .rw[vh h];exact h
 .rw[i_ h];exact ji _<|dJ.mpr J
def DI.put(D:DI P Q nn ks ts)(b:P k)(c:Q u):DI P Q (nn+1) (bw ks ts k u).1 (bw ks ts k u).2:=by
 by_cases h:k∈ks
 .unfold bw
  rw[bt h];refine⟨by rw[cH,wb,<- D.len,FZ],c_ D.le<|bx ..,D.p,λt d=>?_⟩
  obtain⟨p,b,rfl⟩:=gZ.mp d;split
  .exact c
  .exact D.q _ (AY b).2
 .rw[i_ h]
  refine⟨by rw[cV,cV,D.len];rfl,by rw[cV];exact gX D.le 1,λx a=>?_,λx a=>?_⟩
  .rcases eO.mp a with z|z
   .exact D.p x z
   .rw[dJ.mp z];exact b
  .rcases eO.mp a with z|z
   .exact D.q x z
   .rw[dJ.mp z];exact c
end
inductive Ev where
 |want (i:Int)|take (i:Nat)|meet (i:Int) (b:Bool)|give (l:Tx)|over|noo (i:Int)|fin
def Ev.val:Ev->T
 |.want i=>.tup [.str [119,97,110,116],.int i]
 |.take i=>.tup [.str [116,97,107,101],.int (i:Nat)]
 |.meet i b=>.tup [.str [109,101,101,116],.int i,.bl b]
 |.give l=>.tup [.str zg,.str l]
 |.over=>.tup [.str [111,118,101,114]]
 |.noo i=>.tup [.str [110,111,110,101],.int i]
 |.fin=>.tup [.str [101,110,100]]
structure KF where
 R:FX
 m0:Ob
 ln:List LN
 bm:T
 uk:List Ky
 uv:FR
 tk:Nat
 tr:T
 mt:Nat
structure KC where
 ps:Nat
 hand:T
 hr:Nat
 wt:Bool
 sk:List Ky
 sw:FR
 ks:List Ky
 zs:FR
 no:FR
 lg:List Ev
def iJ(w:Nat)(f:KF)(c:KC):Ob:=⟨26,[.val<|.lst<|aF f.ln,.val f.bm,.val<|.own<|w+1,.val f.tr,.val<|.int (c.ps:Nat),.val<|.own f.mt,.val<|.int (f.tk:Nat),.val c.hand,.val<|.int (c.hr:Nat),.val<|.own<|w+4,.val<|.own<|w+5,.val<|.own<|w+6,.val<|.own<|w+7,.val<|.bl c.wt]⟩
abbrev dB(ks:List Ky)(ts:FR):Ob:=⟨M.bc,[.od ks ts]⟩
abbrev lB(ts:FR):Ob:=⟨M.bc,[.ol ts]⟩
def tlO(w:Nat)(f:KF):Ob:=⟨25,[.val<|.lst<|f.ln.map LN.cond,.val<|.own<|w+2]⟩
def yj(w:Nat)(f:KF)(jj:FX)(c:KC):FX:=iJ w f c::tlO w f::dB f.uk f.uv::f.m0::dB c.sk c.sw::dB c.ks c.zs::lB c.no::lB (c.lg.map Ev.val)::jj
def st(w:Nat)(f:KF)(jj:FX)(c:KC):FX:=f.R++yj w f jj c
section
variable{w i j nn:Nat}{f f':KF}{jj v:FX}{c c':KC}{r:FC}
def b_(h:Kk f.R=w)(i:Nat):(st w f jj c)[w+i]?=(yj w f jj c)[i]?:=by
 unfold st;rw[iw<|by lia,h,O0]
def iu(h:Kk f.R=w)(i:Nat):(st w f jj c).set (w+i) x=f.R++(yj w f jj c).set i x:=by
 unfold st;rw[A8 _ _<|by lia,h,O0]
abbrev sW(w:Nat)(r:FC)(f:KF)(jj:FX)(c:KC):S:=⟨IH w::r,st w f jj c⟩
def c9(h:Kk f.R=w)(a:iV M.P.tab 26 j=U nn)(b:(iJ w f c).fs[nn]?=sv t):az M.P.tab j zA (sW w r f jj c)=.ok (t,sW w r f jj c):=J1 J (b_ h 0) a b
def j1(h:Kk f.R=w)(d:a (sW w r f jj c)=.ok (t,sW w r f jj c))(b:gz M.P.tab j (.val t) (iJ w f c)=U (iJ w f' c'))(e:f.R++(yj w f jj c).set 0 (iJ w f' c')=st w f' jj c'):aO M.P.tab j zA a (sW w r f jj c)=.ok (.nx,sW w r f' jj c'):=by
 unfold aO;rw[d];show Res.bind (bj _) _=_;rw[show(st w f jj c)[w]?=U _ from b_ h 0];show Res.bind (bj<|gz M.P.tab j _ _) _=_;rw[b];show Res.ok (Out.nx,(⟨sv _::r,(st w f jj c).set (w+0) _⟩:S))=_;rw[iu h,e]
def J3(h:Kk f.R=w)(d:iV M.P.tab 26 j=U nn)(g:(iJ w f c).fs[nn]?=sv (.int k))(b:(⟨26,(iJ w f c).fs.set nn<|.val<|.int<|k+1⟩:Ob)=iJ w f' c')(e:f.R++(yj w f jj c).set 0 (iJ w f' c')=st w f' jj c'):zV M.P.tab j jB zA zI (sW w r f jj c)=.ok (.nx,sW w r f' jj c'):=by
 have i:(st w f jj c)[w]?=U _:=b_ h 0;have a:jd M.P.tab j (st w f jj c) (.own w)=U (w,iJ w f c,nn,.val<|.int k):=by
  show((st w f jj c)[w]?).bind _=_;rw[i];show(iV M.P.tab 26 j).bind _=_;rw[d];show((iJ w f c).fs[nn]?).map _=_;rw[g];rfl
 show Res.bind (bj _) _=_;rw[a];apply dN;show Res.bind (bj _) _=_;rw[a];show Res.ok (Out.nx,(⟨sv _::r,(st w f jj c).set (w+0) _⟩:S))=_;rw[iu h,show(iJ w f c).c=26 from J,b,e]
def qJ(h:Kk f.R=w)(b:a (sW w r f jj c)=.ok (ev.val,sW w r f jj c))(z:Kk c.lg<1000000):gS M.bc (az M.P.tab 29 zA) a (sW w r f jj c)=.ok (.nx,sW w r f jj {c with lg:=c.lg++[ev]}):=by
 refine(Ri (c9 h J J) (b_ h 7) b<|by rw[cH];exact z).trans ?_
 rw[show⟨M.bc,[.ol _]⟩=lB ((c.lg++[ev]).map Ev.val) by rw[gk];rfl]
 rw[iu h];rfl
def fH(h:Kk f.R=w)(b:fl (sW w r f jj c)=.ok (ts,sW w r f jj c))(a:ai k (.own w::ts) (st w f jj c)=.ok (t,m')):aQ (aG (aw [(26,k)] ai) zA fl) (sW w r f jj c)=.ok (.nx,⟨IH w::r,m'⟩):=by
 unfold aQ;rw[CM J (b_ h 0) J b a];rfl
def vm(q:Nat)(h:Kk f.R=w)(z:Kk c.lg<1000000):cN (q+1) 95 [.own w] (st w f jj c)=.ok (.non,st w f jj {c with wt:=O,lg:=c.lg++[.want<|f.tk+1]}):=by
 rw[wI _ 95 J];refine x_ J (seq1 (qJ h (c7 (aA J<|aA (cU (c9 h J J) J J) J)<|i9 ..) z)<|j1 h (c':={c with wt:=O,lg:=c.lg++[.want _]}) J J J) J
def lK(q:Nat)(h:Kk f.R=w)(z:Kk c.lg<1000000):cN (q+1) 103 [.own w,.str l] (st w f jj c)=.ok (.non,st w f jj {c with lg:=c.lg++[.give l]}):=by
 rw[wI _ 103 J];exact x_ J (qJ h (c7 (aA J<|aA J J)<|i9 ..) z) J
def C6(q:Nat)(h:Kk f.R=w)(z:Kk c.lg<1000000):cN (q+1) 102 [.own w] (st w f jj c)=.ok (.non,st w f jj {c with lg:=c.lg++[.noo<|f.tk+1]}):=by
 rw[wI _ 102 J];exact x_ J (qJ h (c7 (aA J<|aA (cU (c9 h J J) J J) J)<|i9 ..) z) J
abbrev KC.rest(c:KC)(f:KF):KC:={c with hand:=.non,hr:=0,ps:=0,wt:=O,lg:=c.lg++[.over]++[.want<|f.tk+1]}
def C7(q:Nat)(h:Kk f.R=w)(z:Kk c.lg+1<1000000):cN (q+2) 104 [.own w] (st w f jj c)=.ok (.non,st w f jj<|c.rest f):=by
 rw[wI _ 104 J];exact x_ J (seq1 (qJ h J<|Nat.lt_of_succ_lt z)<|seq1 (j1 h (c':={c with hand:=.non,lg:=c.lg++[.over]}) J J J)<|seq1 (j1 h (c':={c with hand:=.non,hr:=0,lg:=c.lg++[.over]}) J J J)<|seq1 (j1 h (c':={c with hand:=.non,hr:=0,ps:=0,lg:=c.lg++[.over]}) J J J)<|fH h J<|vm q h<|by rw[cV];exact z) J
def vo(q:Nat)(h:Kk f.R=w)(a:c.hand=.str l)(z:Kk c.lg+2<1000000):cN (q+3) 105 [.own w] (st w f jj c)=.ok (.non,st w f jj<|KC.rest {c with lg:=c.lg++[.give l]} f):=by
 rw[wI _ 105 J];exact x_ J (seq1 (fH h (aA (c9 h J<|ej (λx=>U _) a) J)<|lK _ h<|by lia)<|fH h J<|C7 q h<|by rw[cV];exact z) J
end
def Ev.Ws:Ev->Option Nat
 |.take i=>U i
 |_=>AX
def takes(l:List Ev):B1:=l.filterMap Ev.Ws
def gives(l:List Ev):List Tx:=l.filterMap λe=>match e with
 |.give l=>U l
 |_=>AX
def oR(l:List Ev):Nat:=((gives l).map λl=>Kk l+1).sum
def szE:T->Nat
 |.tup<|.str l::_=>Kk l+1
 |_=>0
def rR:T->Nat
 |.lst ts=>(ts.map szE).sum
 |_=>0
def qK(sw:FR):Nat:=(sw.map rR).sum
def hB(tk b:Nat):Nat:=7*tk+2*b+3
def Ą(z:Bool)(tk b:Nat)(t:T):Prop:=t=.non\/∃l,t=.str l/\TX (hB tk b) l/\(z=O->nf l=O)
abbrev yk(p:Tx×Nat):T:=.tup [.str p.1,.int (p.2:Nat)]
def Th(tk b:Nat)(t:T):Prop:=∃a:List (Tx×Nat),t=.lst (a.map yk)/\a.length<=b/\∀p∈a,TX (hB tk b) p.1
def VP(tk b:Nat)(k:Ky):Prop:=∃x,k=.s x/\TX (hB tk b) x
def ZO(b:Nat)(t:T):Prop:=∃z:Int,t=.int z/\z.natAbs<=b*10^60
def VQ(b:Bool):Ev->Bool
 |.take _=>O
 |.over=>ZA
 |_=>b
def Wd(l:List Ev):Bool:=l.foldl VQ ZA
def vq(a b:List Ev):Wd (a++b)=b.foldl VQ (Wd a):=List.foldl_append
theorem C8:∀{es:List Ev}{b:Bool},takes es=[]->es.foldl VQ b=O->b=O/\Ev.over∉es
 |[],b,_,h=>⟨h,λh=>nomatch h⟩
 |e::es,b,a,h=>by
  cases e with
  |take i=>cases a
  |over=>
   have:=C8 (es:=es) (b:=ZA) a h
   cases this.1
  |_=>
   obtain⟨d,c⟩:=C8 (es:=es) (b:=b) a h;exact⟨d,λz=>by rcases bH.mp z with z|z;cases z;exact c z⟩
def Fl(c:KC):Prop:=∀l w,c.hand=.str l->vf l 1=.str w->Ky.s w∈c.ks
structure In(Q:Nat×Bool)(X N tk b:Nat)(c:KC):Prop where
 ps:c.ps<=N
 hd:Ą Q.2 tk b c.hand
 wh:c.wt=O\/∃l,c.hand=.str l
 sh:DI (λ_=>True) (Th tk b) b c.sk c.sw
 su:DI (VP tk b) (ZO b) b c.ks c.zs
 no:Kk c.no<=b/\aB c.no=O
 lg:Kk c.lg<=(b+9)*(b+9)+2
 gv:∀l,Ev.give l∈c.lg->TX (hB tk b+70) l
 tks:takes c.lg=fX 1 tk
 n1:2*Kk c.ks+Q.1<=b+1
 n2:Fl c\/2*Kk c.ks+Q.1<=b
 wq:c.wt=O->2*Kk c.ks+Q.1<=b/\c.lg.length<=(b+9)*(b+9)
 nd:c.sk.Nodup
 sz:oR c.lg+qK c.sw<=b*(hB tk b+1)+X
 op:Wd c.lg=O->c.hand≠.non/\N<1000
 kz:Q.2=O->c.ks=[]
structure Is(Q:Nat×Bool)(X N tk b:Nat)(c:KC):Prop where
 i:In Q X N tk b c
 sl:Kk c.lg<=(b+9)*(b+9)+1
def lL(a b:List Ev):oR (a++b)=oR a+oR b:=by
 unfold oR gives;rw[DK,gk,yW]
def iK(e:tk<=c)(d:b<=a):hB tk b<=hB c a:=by unfold hB;lia
section
variable{c c':KC}
def Ą.up(h:Ą z tk b t):Ą z tk (b+1) t:=h.imp id λ⟨l,e,x,y⟩=>⟨l,e,x.mono<|iK (bL _)<|bx ..,y⟩
def Th.le{d c:Nat}(h:Th tk b t)(g:tk<=d)(a:b<=c):Th d c t:=let⟨th,e,x,y⟩:=h;⟨th,e,c_ x a,λp f=>(y p f).mono<|iK g a⟩
def Th.up(h:Th tk b t):Th tk (b+1) t:=h.le (bL _)<|bx ..
def VP.le{c a:Nat}(h:VP tk b k)(f:tk<=c)(d:b<=a):VP c a k:=let⟨x,e,y⟩:=h;⟨x,e,y.mono<|iK f d⟩
def ZO.up(h:ZO b t):ZO (b+1) t:=let⟨z,e,h⟩:=h;⟨z,e,c_ h<|rT _<|bx ..⟩
def In.Eg(I:In Q X N tk b c):DI (λ_=>True) (Th tk<|b+1) (b+1) c.sk c.sw:=I.sh.mono (bx ..) (λ_ h=>h) λ_ h=>h.up
def In.su1(I:In Q X N tk b c):DI (VP tk<|b+1) (ZO<|b+1) (b+1) c.ks c.zs:=I.su.mono (bx ..) (λ_ h=>h.le (bL _)<|bx ..) λ_ h=>h.up
def C9(h:x<=b*(hB tk b+1)+X)(k:y<=x+(hB tk b+1)):y<=(b+1)*(hB tk (b+1)+1)+X:=by
 have:=AS (b+1)<|gX (iK (tk:=tk) (bL _)<|bx b 1) 1
 lia
def Od(b k:Nat)(h:k<=b+6):(b+9)*(b+9)+2+k<=(b+1+9)*(b+1+9):=by
 lia
def In.z(I:In Q X N tk b c)(a:b<=300):Kk c.lg+1000<1000000:=by
 have:=rV (show b+9<=309 by lia)<|show b+9<=309 by lia
 have:=I.lg
 lia
def In.lgs(I:In Q X N tk b c)(a:c'.lg=c.lg++es)(f:Kk es<=b+6)(e:∀l,Ev.give l∈es->TX (hB tk (b+1)+70) l)(d:takes es=[]):Kk c'.lg<=(b+1+9)*(b+1+9)/\(∀l,Ev.give l∈c'.lg->TX (hB tk (b+1)+70) l)/\takes c'.lg=fX 1 tk:=by
 rw[a];refine⟨?_,λl h=>?_,?_⟩
 .rw[cV]
  exact c_ (gX I.lg _)<|Od b _ f
 .exact(eO.mp h).elim (λh=>(I.gv l h).mono<|gX (iK (bL _)<|bx ..) _)<|e l
 .show(c.lg++es).filterMap Ev.Ws=_
  rw[DK,show es.filterMap Ev.Ws=[]from d,cJ];exact I.tks
def In.go(I:In Q X N tk b c)(es:List Ev)(j:c'.ps<=N)(n:Ą Q.2 tk (b+1) c'.hand)(i:c'.wt=O\/∃l,c'.hand=.str l)(hs:DI (λ_=>True) (Th tk<|b+1) (b+1) c'.sk c'.sw/\c'.sk.Nodup)(hk:c'.ks=c.ks)(g:c'.zs=c.zs)(m:c'.no=c.no)(a:c'.lg=c.lg++es)(p:Kk es<=b+6)(o:∀l,Ev.give l∈es->TX (hB tk (b+1)+70) l)(d:takes es=[])(f:oR es+qK c'.sw<=qK c.sw+(hB tk b+1))(k:Ev.over∈es\/(c'.hand=.non->c.hand=.non):=by first|exact .inr id|(refine .inl ?_;simp;done)|(refine .inr λh=>?_;cases h)):Is Q X N tk (b+1) c':=by
 obtain⟨a1,a2,a3⟩:=I.lgs a p o d;have n1:=I.n1;exact⟨⟨j,n,i,hs.1,by rw[hk,g];exact I.su1,by rw[m];exact⟨c_ I.no.1<|bx ..,I.no.2⟩,c_ a1<|bx ..,a2,a3,by rw[hk];lia,.inr<|by rw[hk];exact n1,λz=>⟨by rw[hk];exact n1,a1⟩,hs.2,C9 I.sz<|by rw[a,lL];lia,λq=>by
  rw[a,vq]at q;obtain⟨q1,q2⟩:=C8 d q;obtain⟨e,q4⟩:=I.op q1;exact⟨λz=>e<|(k.resolve_left q2) z,q4⟩,λz=>hk.trans<|I.kz z⟩,c_ a1<|bx ..⟩
theorem In.up(I:In Q X N tk b c):Is Q X N tk (b+1) c:=I.go [] I.ps I.hd.up I.wh ⟨I.Eg,I.nd⟩ J J J (cJ _).symm (dz _) (λ_ h=>nomatch h) J (by show 0+_<=_;lia)
theorem Is.le(I:Is Q X N tk b c)(h:b<=d):Is Q X N tk d c:=by
 obtain⟨k,rfl⟩:=Nat.le.dest h
 induction k with
 |zero=>exact I
 |succ k a=>exact(a<|bx ..).i.up
end
def Rs(Q:Nat×Bool)(X w:Nat)(f:KF)(jj:FX)(N b:Nat)(p:T×FX):Prop:=p.1=.non/\∃c,p.2=st w f jj c/\Is Q X N f.tk b c
def Rs.of(h:Is Q X N f.tk b c):Rs Q X w f jj N b (.non,st w f jj c):=⟨J,c,J,h⟩
def n_(h:Kk f.R=w)(d:fl (sW w r f jj c)=.ok (ts,sW w r f jj c))(a:W (ai k (.own w::ts)<|st w f jj c)<|Rs Q X w f jj N b):W (aQ (aG (aw [(26,k)] ai) zA fl)<|sW w r f jj c) λp=>p.1=.nx/\Rs Q X w f jj N b (.non,p.2.m):=by
 obtain⟨⟨t,j⟩,e,_,c',i,g⟩:=a;exact W.of (fH h d e) ⟨J,J,c',i,g⟩
theorem Rs.rest(I:In Q X N f.tk b c)(h:Kk f.R=w):Is Q X N f.tk (b+1)<|c.rest f:=I.go [.over,.want<|f.tk+1] (dz _) (.inl J) (.inl J) ⟨I.Eg,I.nd⟩ J J J (by simp) (by show 2<=_;lia) (λl h=>by simp at h) J (by show 0+_<=_;lia)
def Oe(I:In Q X N f.tk b c)(h:Kk f.R=w)(a:b<=300/\f.tk<=13):W (cN (n+2) 104 [.own w]<|st w f jj c)<|Rs Q X w f jj N<|b+1:=W.of (C7 n h<|by have:=I.z a.1;lia)<|Rs.of<|Rs.rest I h
def vt(I:In Q X N f.tk b c)(a:c.hand=.str l):Is Q X N f.tk (b+1)<|KC.rest {c with lg:=c.lg++[.give l]} f:=by
 refine I.go [.give l,.over,.want<|f.tk+1] (dz _) (.inl J) (.inl J) ⟨I.Eg,I.nd⟩ J J J (by simp) (by show 3<=_;lia) (λd h=>?_) J ?_
 all_goals rcases I.hd with e|⟨l2,e,x,_⟩<;>rw[a]at e<;>cases e
 .simp at h
  rw[h];exact x.mono (by unfold hB;lia)
 .show(Kk l+1+0)+qK c.sw<=_
  have:=x.l
  lia
def C_(I:In Q X N f.tk b c)(h:Kk f.R=w)(d:b<=300/\f.tk<=13)(a:c.hand=.str l):W (cN (n+3) 105 [.own w]<|st w f jj c)<|Rs Q X w f jj N<|b+1:=W.of (vo n h a<|by have:=I.z d.1;lia)<|Rs.of<|vt I a
def Of(I:In Q X N f.tk b c)(h:Kk f.R=w)(d:b<=300/\f.tk<=13)(a:TX (hB f.tk b) l):W (cN (n+1) 103 [.own w,.str l]<|st w f jj c)<|Rs Q X w f jj N<|b+1:=W.of (lK n h<|by have:=I.z d.1;lia)<|Rs.of<|I.go _ I.ps I.hd.up I.wh ⟨I.Eg,I.nd⟩ J J J J (by show 1<=_;lia) (λe h=>by simp at h;rw[h];exact a.mono<|by unfold hB;lia) J<|by show(Kk l+1+0)+qK c.sw<=_;have:=a.l;lia
def Og(I:In Q X N f.tk b c)(h:Kk f.R=w)(a:b<=300/\f.tk<=13):W (cN (n+1) 95 [.own w]<|st w f jj c)<|Rs Q X w f jj N<|b+1:=W.of (vm n h<|by have:=I.z a.1;lia)<|Rs.of<|I.go _ I.ps I.hd.up (.inl J) ⟨I.Eg,I.nd⟩ J J J J (by show 1<=_;lia) (λd h=>by simp at h) J<|by show 0+_<=_;lia
def qL(g:a->c)(l:List a)(lo b:Dx):bT (l.map g) lo b=(bT l lo b).map g:=by
 unfold bT;rw[cH,v5,v9]
def yl{x:a}(h:x∈bT l lo b):x∈l:=rW<|A5 h
def lq{l:List a}:(bT l lo b).length<=Kk l:=by
 unfold bT;rw[tY,kO];lia
def jG(h:clean k l=O):TX k l:=by
 unfold clean at h;rw[bP]at h;exact⟨bh h.1,by simpa using h.2⟩
section
variable{X w N b j nn:Nat}{f:KF}{a:FE}{t u:T}
def ja(h:Kk f.R=w)(a:c.hand=.str l):az M.P.tab 24 zA (sW w r f jj c)=.ok (.str l,sW w r f jj c):=c9 h J<|ej (λx=>U _) a
def Dc(I:In Q X N f.tk b c)(a:c.hand=.str l):TX (hB f.tk b) l:=by
 rcases I.hd with e|⟨l2,e,x,_⟩<;>rw[a]at e<;>cases e
 exact x
def J4(I:In Q X N f.tk b c)(a:c.hand=.str l)(z:Q.2=O):nf l=O:=by
 rcases I.hd with e|⟨l2,e,_,x⟩<;>rw[a]at e<;>cases e
 exact x z
def vv{w y:Tx}(h:nf l=O)(k:nf w=O)(s:y ⊆ l++w):nf y=O:=dP.mpr λd hd=>(eO.mp<|s hd).elim (dP.mp h d)<|dP.mp k d
def In.swap(I:In Q X N f.tk b c){a:Tx}(h:TX (hB f.tk b+2) a)(z:Q.2=O->nf a=O):Is Q X N f.tk (b+1) {c with hand:=.str a}:=I.go [] I.ps (.inr ⟨a,J,h.mono<|by unfold hB;lia,z⟩) (.inr ⟨a,J⟩) ⟨I.Eg,I.nd⟩ J J J (cJ _).symm (dz _) (λ_ h=>nomatch h) J (by show 0+_<=_;lia)
def Oh{a:Tx}(i:(DD.swap e p a).good=O)(I:In Q X N f.tk b c)(h:Kk f.R=w)(o:b<=300/\f.tk<=13)(d:c.hand=.str l):W (cN (n+6) 108 [.own w,(DD.swap e p a).val]<|st w f jj c)<|Rs Q X w f jj N<|b+1:=by
 have g:=Dc I d;have hk:hB f.tk b<=5000:=by unfold hB;lia
 have i:(((clean 3 a&&decide _)&&(!e ||clean 1 a))&&nf a)=O:=i;rw[bP,bP,bP]at i;obtain⟨⟨⟨g1,g2⟩,g3⟩,g4⟩:=i;rw[wI _ 108 J];cases e with
 |true=>
  obtain⟨_,⟨k,rfl,x⟩,m⟩:=JV _ (bh g2) g.l (by lia) (jG g3).l
  exact dS J<|jh J<|W.of (j1 h (c':={c with hand:=.str k}) (cE (aA (ja h d) J)<|m _) J J) ⟨J,Rs.of<|I.swap (g.sub (jG g3) ⟨c_ x.1<|bx ..,x.2⟩) λz=>vv (J4 I d z) g4 x.2⟩
 |false=>
  obtain⟨_,⟨k,rfl,x⟩,m⟩:=JU n (bh g2) g.l (jG g1).l (by lia)
  exact dS J<|b8 J<|W.of (j1 h (c':={c with hand:=.str k}) (cE (aA (ja h d) J)<|m _) J J) ⟨J,Rs.of<|I.swap (g.sub (jG g1) x) λz=>vv (J4 I d z) g4 x.2⟩
def Oi(I:In Q X N f.tk b c)(h:Kk f.R=w)(a:b<=300/\f.tk<=13)(d:c.hand=.str l):W (cN (n+4) 109 [.own w,(DD.join v).val]<|st w f jj c)<|Rs Q X w f jj N<|b+1:=by
 rw[wI _ 109 J];refine dS J<|NG<|W.of (dU<|pE (c9 h J J) J J) ⟨λ_=>?_,λ_=>?_⟩
 .exact n_ h J<|C_ n I h a d
 .exact n_ h J<|Og _ I h a
def vz(a:List<|Tx×Nat):rR (.lst<|a.map yk)=(a.map λp=>Kk p.1+1).sum:=by
 show((a.map yk).map szE).sum=_;rw[j5];rfl
def Oj{a:List<|Tx×Nat}{lo b:Dx}:((bT a lo b).map λp=>Kk p.1+1).sum<=(a.map λp=>Kk p.1+1).sum:=by
 have d:∀(l:List<|Tx×Nat)(i:Nat),((l.drop i).map λp=>Kk p.1+1).sum<=(l.map λp=>Kk p.1+1).sum:=λl i=>by
  have:=ej List.sum<|ej (yV λp:Tx×Nat=>Kk p.1+1)<|AZ i l
  rw[gk,yW]at this
  lia
 have c:∀(l:List<|Tx×Nat)(i:Nat),((l.take i).map λp=>Kk p.1+1).sum<=(l.map λp=>Kk p.1+1).sum:=λl i=>by
  have:=ej List.sum<|ej (yV λp:Tx×Nat=>Kk p.1+1)<|AZ i l
  rw[gk,yW]at this
  lia
 exact c_ (c _ _)<|d _ _
def J5(h:ks.Nodup):(bw ks ts k u).1.Nodup:=by
 by_cases z:k∈ks
 .rw[vh z];exact h
 .rw[i_ z]
  exact A2.mpr ⟨h,by simp,λa d b c e=>z<|by rw[dJ.mp c]at e;rw[<- e];exact d⟩
theorem Dd:∀{ks:List Ky}{ts:FR},k∉ks->Kk ks=Kk ts->((ks.zip ts).map λp=>rR<|if p.1=k then u else p.2).sum=qK ts
 |[],[],_,_=>J
 |q::ks,t::ts,h,e=>by
  have a:=Dd (k:=k) (λz=>h<|ed _ z)<|tW.inj e;show rR (if q=k then u else t)+((ks.zip ts).map λp=>rR _).sum=rR t+qK ts
  rw[b0 λz=>h<|by rw[z];exact d_ ..,a]
theorem ym:∀{ks:List Ky}{ts:FR},k∈ks->ks.Nodup->Kk ks=Kk ts->((ks.zip ts).map λp=>rR<|if p.1=k then u else p.2).sum+rR ((fG ks ts k).getD<|.lst [])=qK ts+rR u
 |q::ks,t::ts,h,a,e=>by
  have a:=oX.mp a;show rR _+((ks.zip ts).map λp=>rR _).sum+rR _=rR t+qK ts+rR u
  rw[fG];by_cases z:q=k
  .rw[bt z,bt z,Dd (by rw[<- z];exact a.1)<|tW.inj e]
   show rR u+qK ts+rR t=_
   lia
  .have b:=ym (k:=k) ((bH.mp h).resolve_left λy=>z y.symm) a.2<|tW.inj e
   lia
def De(a:ks.Nodup)(e:Kk ks=Kk ts):qK (bw ks ts k u).2+rR ((fG ks ts k).getD<|.lst [])=qK ts+rR u:=by
 by_cases z:k∈ks
 .unfold bw qK
  rw[bt z];rw[j5];exact ym z a e
 .have:fG ks ts k=Y:=by
   cases g:fG ks ts k with
   |none=>rfl
   |some t=>
    revert g z e;clear a
    induction ks generalizing ts with
    |nil=>intro _ _ g;cases g
    |cons q ks b=>
     intro e z g;cases ts with
     |nil=>cases e
     |cons c ts=>
      rw[fG,b0 λy=>z<|by rw[y];exact d_ ..]at g
      exact b (tW.inj e) (λy=>z<|ed _ y) g
  rw[i_ z,this];unfold qK;rw[gk,yW];show _+(rR u+0)+0=_
  lia
def Ay:Th tk b<|.lst []:=⟨[],J,dz _,λ_ h=>nomatch h⟩
def Ol(I:In Q X N f.tk b c)(h:Kk f.R=w)(L:b<=300/\f.tk<=13)(q:c.hand=.str l):W (cN (n+1) 110 [.own w,(DD.pile x v).val]<|st w f jj c)<|Rs Q X w f jj N<|b+1:=by
 obtain⟨j,B,G,F⟩:=I.sh.get Ay;obtain⟨d,m⟩:∃d,(DD.pile x v).val=.obj 19 [.str x,d]/\(d=.non\/∃i,d=.int i):=by
  cases v with
  |none=>exact⟨_,J,.inl J⟩
  |some i=>exact⟨_,J,.inr ⟨i,J⟩⟩
 obtain⟨C,m⟩:=m;rw[C,wI _ 110 J];have o:=Dc I q;obtain⟨D,e⟩:∃D,D=sv (.obj 19 [.str x,d]):=⟨_,J⟩;obtain⟨Ea,ņ⟩:∃t2,t2=j++[(l,c.hr)]:=⟨_,J⟩;have ŵ:∀{r:FC},az M.P.tab 26 zA _=.ok (.own _,sW w r f jj c):=c9 h J J;have K:oA (rL M.bc (az M.P.tab 26 zA) (az M.P.tab 13 zB)<|aU cO aT) (aU cO<|k1<|aU cz<|k2 (az M.P.tab 24 zA)<|az M.P.tab 25 zA) (sW w [D,Y] f jj c)=.ok (.lst<|Ea.map yk,sW w [D,Y] f jj c):=by
  refine pE (t:=.lst<|j.map yk) ?_ (c7 (aA (c7 (aA (ja h q)<|aA (c9 h J J) J)<|i9 ..) J) J) ?_
  .rw[<- B]
   exact Oc ŵ (by rw[e];rfl) J J<|b_ h 4
  .refine(gG<|by simp;lia).trans ?_
   rw[ņ,gk];rfl
 obtain⟨u,E,a,H⟩:∃u,Th f.tk _ u/\rR u<=(Ea.map λp=>Kk p.1+1).sum/\qV (a_<|bF (aM .Is) (az M.P.tab 12 zB)<|cF .non) zC (jU zC (gQ<|dg gx<|az M.P.tab 12 zB) oq) (sW w [D,sv _] f jj c)=.ok (u,sW w [D,sv _] f jj c):=by
  have y:∀p∈Ea,TX (hB f.tk<|b+1) _:=λp g=>by
   rw[ņ]at g;rcases eO.mp g with z|z
   .exact(F p z).mono<|iK (bL _)<|bx ..
   .rw[dJ.mp z];exact o.mono<|iK (bL _)<|bx ..
  have A:Kk Ea<=b+1:=by rw[ņ,cV];exact gX G 1
  rcases m with rfl|⟨i,rfl⟩
  .exact⟨.lst _,⟨Ea,J,A,y⟩,q_<|vz Ea,by rw[e];rfl⟩
  .refine⟨.lst<|bT _ (U _) Y,⟨bT Ea _ Y,by rw[qL],c_ lq A,λp g=>y p<|yl g⟩,by rw[qL,vz];exact Oj,by rw[e];rfl⟩
 refine dS J ?_;show W (ah _ _<|sW w [sv _,Y] f jj c) _;rw[<- e];refine wS K<|W.of (EZ H (c9 h J J) (by rw[e];rfl) J (b_ h 4)<|by have:=I.sh.le;lia) ⟨J,?_⟩
 refine⟨J,{c with sk:=(bw c.sk c.sw _ u).1,sw:=(bw c.sk c.sw _ u).2},iu h 4,?_⟩
 have ps:=De (u:=u) (k:=.s x) I.nd I.sh.len;rw[B,vz]at ps;refine I.go [] I.ps I.hd.up I.wh ⟨(I.sh.mono (bL _) (λ_ h=>h) λ_ h=>h.up).put trivial E,J5 I.nd⟩ J J J (cJ _).symm (dz _) (λ_ h=>nomatch h) J ?_;show 0+qK _<=qK c.sw+(hB f.tk b+1)
 have:=o.l
 rw[ņ,gk,yW]at a;have a:rR u<=(j.map λp=>Kk p.1+1).sum+(Kk l+1+0):=a
 lia
end
end K61
namespace K61
open D L2
variable(n:Nat){m:List _root_.D.Ob}
section
variable{X w N b j nn:Nat}{f:KF}{jj:FX}{c c':KC}{a:FE}{t u:T}{l:Tx}{Z:Option C}{es:List Ev}
abbrev KC.log(c:KC)(es:List Ev):KC:={c with lg:=c.lg++es}
def Df(es fs:List Ev):(c.log es).log fs=c.log (es++fs):=by
 show({c with lg:=(c.lg++es)++fs})=_
 rw[iN]
def Dg:c.log []=c:=by
 show({c with lg:=c.lg++[]})=_
 rw[cJ]
def Rk(Q:Nat×Bool)(X w:Nat)(f:KF)(jj:FX)(N b:Nat)(ks:List Ky)(p:T×FX):Prop:=p.1=.non/\∃c,p.2=st w f jj c/\Is Q X N f.tk b c/\c.ks=ks
def Rk.rs(h:Rk Q X w f jj N b ks p):Rs Q X w f jj N b p:=let⟨a,c,e,i,_⟩:=h;⟨a,c,e,i⟩
def VR(h:Kk f.R=w)(d:fl (sW w r f jj c)=.ok (ts,sW w r f jj c))(a:W (ai k (.own w::ts)<|st w f jj c)<|Rk Q X w f jj N b ks):W (aQ (aG (aw [(26,k)] ai) zA fl)<|sW w r f jj c) λp=>p.1=.nx/\Rk Q X w f jj N b ks (.non,p.2.m):=by
 obtain⟨⟨t,j⟩,e,_,c',i,g⟩:=a;exact W.of (fH h d e) ⟨J,J,c',i,g⟩
def J7(k:Nat)(es:List Ev):Prop:=∀e∈es,∃l,e=.give l/\TX k l
theorem J7.tk:∀{es:List Ev},J7 k es->takes es=[]
 |[],_=>J
 |e::es,h=>by
  obtain⟨l,rfl,_⟩:=h e<|d_ ..;exact J7.tk (es:=es) λe a=>h e<|ed _ a
def J7.gv(h:J7 k es)(q:k<=j):∀l,Ev.give l∈es->TX j l:=λl a=>by
 obtain⟨b,e,x⟩:=h _ a;cases e;exact x.mono q
def In.wk(I:In Q X N f.tk b c):In Q (X+d) N f.tk b c:={I with sz:=c_ I.sz (by lia)}
def In.lgE(I:In Q X N f.tk b c)(h:J7 (hB f.tk b+70) es)(a:Kk es<=b+6)(e:oR es<=d+(hB f.tk b+1)):Is Q (X+d) N f.tk (b+1)<|c.log es:=by
 obtain⟨a1,a2,a3⟩:=I.lgs (c':=c.log es) J a (h.gv<|gX (iK (bL _)<|bx ..) _) h.tk;have n1:=I.n1;have z:=I.sz;exact⟨⟨I.ps,I.hd.up,I.wh,I.Eg,I.su1,⟨c_ I.no.1<|bx ..,I.no.2⟩,c_ a1<|bx ..,a2,a3,c_ n1<|bx ..,.inr n1,λ_=>⟨n1,a1⟩,I.nd,C9 (x:=oR c.lg+qK c.sw+d) (by lia)<|by show oR _+qK c.sw<=_;rw[lL];lia,λq=>I.op (C8 h.tk<|(vq c.lg es).symm.trans q).1,I.kz⟩,c_ a1<|bx ..⟩
theorem tL:∀a:List<|Tx×Nat,oR (a.map λp=>Ev.give p.1)=(a.map λp=>Kk p.1+1).sum
 |[]=>J
 |p::a=>by
  show(Kk p.1+1)+oR _=_;rw[tL a];rfl
theorem J7.oR{k:Nat}:∀{es:List Ev},J7 k es->oR es<=Kk es*(k+1)
 |[],_=>dz _
 |e::es,h=>by
  obtain⟨l,rfl,x⟩:=h e<|d_ ..;have b:=J7.oR (es:=es) λe a=>h e<|ed _ a
  have:=x.l
  show(Kk l+1)+K61.oR es<=_;rw[ee,rf];lia
theorem yn(n:Nat)(h:Kk f.R=w):∀(a:List<|Tx×Nat)(c:KC)(x:Option C),Kk c.lg+Kk a<1000000->∃x',aX (setG 2) (aQ<|aG (aw [(26,103)]<|cN<|n+1) zA<|k1<|oI zC zO) (a.map yk) (sW w [Z,x] f jj c)=.ok (.nx,sW w [Z,x'] f jj<|c.log<|a.map λp=>.give p.1)
 |[],c,x,_=>⟨x,by rw[yU,yU,Dg];rfl⟩
 |p::a,c,x,z=>by
  rw[ee]at z;obtain⟨x',e⟩:=yn n h a (c.log [.give _]) _ (by rw[cV];show _+1+_<_;lia)
  rw[Df]at e;exact⟨x',c8 J (fH h J<|lK n h<|by lia) e⟩
def J8(I:In Q X N f.tk b c)(h:Kk f.R=w)(m:b<=300/\f.tk<=13):W (cN (n+2) 111 [.own w,(DD.bring x).val]<|st w f jj c)<|Rk Q X w f jj N (b+1) c.ks:=by
 obtain⟨d,i,r,o⟩:=I.sh.get Ay;rw[wI _ 111 J];obtain⟨Z,g⟩:∃Z,Z=sv (DD.bring x).val:=⟨_,J⟩;obtain⟨q,e⟩:=yn n h d c Y (by have:=I.z m.1;lia)
 refine dS J ?_;show W (ah _ _<|sW w [sv _,Y] f jj c) _;rw[<- g];refine rQ<|yb<|W.of (NJ (t:=.lst _) ?_ J)<|W.of e ⟨J,?_⟩
 .rw[<- i]
  exact Oc (c9 h J J) (by rw[g];rfl) J J<|b_ h 4
 .have ps:=De (u:=.lst []) (k:=.s x) I.nd I.sh.len
  rw[i,vz]at ps;have ps:_=qK c.sw+0:=ps;refine W.of (EZ J (c9 h J J) (by rw[g];rfl) J (b_ h 4)<|by have:=I.sh.le;lia) ⟨J,J,{c.log _ with sk:=(bw c.sk c.sw _ _).1,sw:=(bw c.sk c.sw _ _).2},iu h 4,?_,J⟩
  have gv:J7 (hB f.tk b+70) _:=λe l=>by
   obtain⟨p,j,rfl⟩:=gZ.mp l;exact⟨p.1,J,(o p j).mono<|by lia⟩
  refine I.go _ I.ps I.hd.up I.wh ⟨(I.sh.mono (bL _) (λ_ h=>h) λ_ h=>h.up).put trivial Ay,J5 I.nd⟩ J J J J (by rw[cH];lia) (gv.gv<|gX (iK (bL _)<|bx ..) _) gv.tk ?_
  rw[tL];show _+qK _<=qK c.sw+_
  lia
def ą{a b:FE}(h:cc s=.ok (ZA,s)):qV cc a b s=b s:=by unfold qV;rw[h];rfl
def Ň(t:T):aM .Is t .non=U (.bl<|kZ t):=by
 show U _=_;cases kZ t<;>rfl
theorem nF:∀{ts:FR},aB ts=O->noOwn t=O->aB (ts++[t])=O
 |[],_,h=>by show(noOwn t&&O)=O;rw[h];rfl
 |u::ts,h,k=>by
  have h:=kL.mp<|h;show(noOwn u&&aB (ts++[t]))=O;rw[h.1,nF h.2 k];rfl
def VS:ZO b<|.int 0:=⟨0,J,dz _⟩
def VT{i k:Nat}(H:c.wt=ZA)(I:In Q X N f.tk b c)(h:Kk f.R=w)(hb:b<=300/\f.tk<=13)(j:c.hand=.str l)(K:1<=i)(hk:1<=k)(L:i=1):W (cN (n+3) 113 [.own w,(DD.add i k).val,.int num]<|st w f jj c)<|Rs Q X w f jj N<|b+1:=by
 have D:=Dc I j;have S:hB f.tk b<=5000:=by unfold hB;lia
 have G:Kk l<=100000:=by have:=D.l;lia
 obtain⟨y,r,p,e2⟩:∃y,NmO y/\(Q.2=O->y=.non)/\∀(Z u v:Option C),qV (a_<|bF (aM .Is) (vF 4)<|cF .non) (cF .non) (aj _ []<|k1<|vF 4) (sW w [Z,u,v,sv<|vf l k,Y] f jj c)=.ok (y,sW w [Z,u,v,sv<|vf l k,Y] f jj c):=by
  rcases JX D hk with e|⟨x,e,q,M⟩
  .rw[e];exact⟨.non,.inl J,λ_=>J,λ_ _ _=>J⟩
  .obtain⟨y,⟨r,p⟩,e1⟩:=vg n<|c_ q.l<|by lia
   refine⟨y,r,λz=>p<|M<|J4 I j z,λZ u v=>?_⟩;rw[e];exact(ą J).trans<|cE J<|e1 _
 rw[wI _ 113 J];obtain⟨Z,E⟩:∃Z,Z=sv (DD.add i k).val:=⟨_,J⟩;refine dS J ?_;show W (ah _ _<|sW w [sv (DD.add i k).val,px num,Y,Y,Y] f jj c) _;rw[<- E];refine wS (cE (aA (ja h j)<|aA (by rw[E];rfl) J)<|qI n G K)<|wS (cE (aA (ja h j)<|aA (by rw[E];rfl) J)<|qI n G hk)<|wS (e2 Z _ _) ?_
 have V:ic (a_<|bF (aM .Is) zD<|cF .non) (a_<|bF (aM .Is) (vF 5)<|cF .non) _=.ok (kZ _ ||kZ y,sW w [Z,px num,sv<|vf l i,sv<|vf l k,sv y] f jj c):=yc (dU<|cU J J<|Ň _)<|dU<|cU J J<|Ň _;refine NG<|W.of V ⟨λ_=>?_,λq=>?_⟩
 .refine W.of (Ri (c9 h J J) (b_ h 6) (c7 (aA (c9 h J J)<|aA J J)<|i9 ..)<|by have:=I.no.1;lia) ⟨J,J,{c with no:=c.no++[.tup [.int f.tk,.int num]]},iu h 6,?_⟩
  have o:=I.up;have a:=o.i;exact⟨⟨a.ps,a.hd,a.wh,a.sh,a.su,⟨by rw[cV];exact gX I.no.1 1,nF I.no.2 J⟩,a.lg,a.gv,a.tks,a.n1,a.n2,a.wq,a.nd,a.sz,a.op,a.kz⟩,o.sl⟩
 .have q:=q
  rw[AV]at q;rcases JX D K with e|⟨x,e,A,_⟩
  .rw[e]at q;cases q.1
  rcases r with rfl|⟨z,rfl,Zl⟩
  .cases q.2
  rw[e];obtain⟨d,e0,m⟩:=I.su.get (k:=.s x) VS;have F:ZO (b+1)<|.int<|d+z:=⟨_,J,by
   rw[rf]
   generalize 10^60=B at Zl m ⊢
   generalize b*B=Cc at m ⊢
   lia⟩
  refine W.of (EZ (cU (t:=.int d) (by rw[<- e0];exact Oc (c9 h J J) J J J<|b_ h 5) J J) (c9 h J J) J J (b_ h 5)<|by have:=I.su.le;lia) ⟨J,J,{c with ks:=(bw c.ks c.zs _ _).1,zs:=(bw c.ks c.zs _ _).2},iu h 5,?_⟩
  have o:=I.up;have a:=o.i;have T:Fl {c with ks:=(bw c.ks c.zs _<|.int<|d+z).1,zs:=(bw c.ks c.zs (.s x)<|.int<|d+z).2}:=λP x' a1 a2=>by
   have a1:=a1;rw[j]at a1;cases a1;rw[L,a2]at e;cases e;exact vj
  have n1:2*(bw c.ks c.zs (.s x)<|.int<|d+z).1.length+Q.1<=b+1+1:=by
   by_cases hm:Ky.s x∈c.ks
   .rw[vh hm];exact a.n1
   .rw[i_ hm,cV,gY]
    rcases I.n2 with g|g
    .exact dw (g l x j<|by rw[<- L];exact e) hm
    .lia
  exact⟨⟨a.ps,a.hd,a.wh,a.sh,(I.su.mono (bL _) (λ_ h=>h.le (bL _)<|bx ..) λ_ h=>h.up).put ⟨x,J,A.mono<|iK (bL _)<|bx ..⟩ F,a.no,a.lg,a.gv,a.tks,n1,.inl T,λz=>(by rw[z]at H;cases H),a.nd,a.sz,a.op,λq=>nomatch p q⟩,o.sl⟩
theorem yo:∀{ks:List Ky},(∀k∈ks,VP tk b k)->∃xs:List Tx,xJ ks=U xs/\ks=xs.map Ky.s/\∀x∈xs,TX (hB tk b) x
 |[],_=>⟨[],J,J,λ_ h=>nomatch h⟩
 |k::ks,h=>by
  obtain⟨x,rfl,c⟩:=h k<|d_ ..;obtain⟨xs,f,e,d⟩:=yo λk hk=>h k<|ed _ hk;refine⟨x::xs,?_,by rw[e];rfl,λy a=>?_⟩
  .show(xJ ks).map _=_
   rw[f];rfl
  .rcases bH.mp a with rfl|a
   .exact c
   .exact d y a
theorem Dh(n:Nat)(h:Kk f.R=w):∀(xs:List Tx)(c:KC)(x:Option C),(∀y∈xs,Ky.s y∈c.ks/\TX (hB f.tk b) y)->DI (VP f.tk b) (ZO b) b c.ks c.zs->b<=300/\f.tk<=13->Kk c.lg+Kk xs<1000000->∃x' es,aX (setG 1) (Js<|cN<|n+1) (af xs) (sW w [x] f jj c)=.ok (.nx,sW w [x'] f jj<|c.log es)/\J7 (hB f.tk b+70) es/\es.length=Kk xs
 |[],c,x,_,_,_,_=>⟨x,[],by rw[Dg];rfl,(λ_ h=>nomatch h),J⟩
 |y::xs,c,x,i,D,j,z=>by
  rw[ee]at z;obtain⟨a,ty⟩:=i y<|d_ ..;obtain⟨_,g,q,rfl,k⟩:=D.at_ a;obtain⟨A,t1⟩:=ă (c_ j.1<|by decide) k
  have d:TX (hB f.tk b+70)<|(y++[32])++ko q:=((ty.cat ⟨bL _,by decide⟩).cat t1).mono (by show hB f.tk b+1+67<=_;lia)
  have l1:=d.l;have hk:hB f.tk b<=5000:=by unfold hB;lia
  rw[cV]at l1;obtain⟨x',es,e,p,o⟩:=Dh n h xs (c.log [.give _]) _ (λy a=>i y<|ed _ a) D j (by rw[cV];show _+1+_<_;lia)
  rw[Df]at e;have v:oA (oA zB<|cS [32]) (aU strN<|k1<|zU M.bc (az M.P.tab 27 zA) zB) _=.ok (.str _,sW w [Io y] f jj c):=pE (pE J J<|gG<|by have:=ty.l;show Kk y+1<=1000000;lia) (c7 (aA (VO (kb:=w+5) (c9 h J J) J J (b_ h 5) g) J) A)<|gG<|by lia
  refine⟨x',_,c8 J (fH h (aA v J)<|lK n h<|by lia) e,λe m=>?_,by rw[cV,o];exact FQ ..⟩
  rcases eO.mp m with z|z
  .rw[dJ.mp z];exact⟨_,J,d⟩
  .exact p e z
def Om(I:In Q X N f.tk b c)(h:Kk f.R=w)(i:b<=300/\f.tk<=13)(v:Kk c.ks<64/\c.ks.length*(hB f.tk b+71)<=d):W (cN (n+2) 114 [.own w]<|st w f jj c)<|Rk Q (X+d) w f jj N (b+1) c.ks:=by
 obtain⟨xs,r,k,j⟩:=yo I.su.p;have hk:hB f.tk b<=5000:=by unfold hB;lia
 have o:Kk c.ks=Kk xs:=by rw[k,cH]
 have es:Ih c.ks=U (.lst<|af<|pX xs):=by
  unfold Ih;rw[r];exact gG ⟨by lia,dP.mpr λx m=>de<|c_ (j x m).l<|by lia⟩
 rw[wI _ 114 J];have q:Ii M.bc (az M.P.tab 27 zA) (sW w [Y] f jj c)=.ok (.lst<|af<|pX xs,sW w [Y] f jj c):=by
  unfold Ii;rw[c9 h J J];apply dN;show Res.bind _ _=_;rw[tK<|b_ h 5];apply dN;show Res.bind _ _=_;rw[es];rfl
 have g:=mH xs;have lz:=I.z i.1;have u:=I.su.le;obtain⟨s,es,e,g1,g2⟩:=Dh n h _ c Y (λy a=>by
  have a:=g.mem_iff.mp a;exact⟨by rw[k];exact gZ.mpr ⟨y,a,J⟩,j y a⟩) I.su i (by rw[g.length_eq];lia)
 exact dS J<|yb<|W.of (NJ q J)<|W.of e ⟨J,J,c.log es,J,I.lgE g1 (by rw[g2,g.length_eq];lia)<|by have:=g1.oR;rw[g2,g.length_eq]at this;lia,J⟩
end
end K61
namespace K61
open D
variable(n:Nat){m:List _root_.D.Ob}
section
variable{f:KF}
def tM(d:DD)(hd:d.atEnd=O)(j:d.good=O)(I:In Q X N f.tk b c)(h:Kk f.R=w)(g:b<=300/\f.tk<=13)(m:d=.tell->Kk c.ks<64/\c.ks.length*(hB f.tk b+71)<=z):W (cN (n+3) 107 [.own w,d.val]<|st w f jj c)<|Rk Q (X+z) w f jj N (b+1) c.ks:=by
 rw[wI _ 107 J];cases d with
 |say a=>
  have i:=(jG<|j).mono<|show 3<=hB f.tk b by unfold hB;lia
  exact dS J<|jh J<|VR h J<|W.of (lK _ h<|by have:=I.z g.1;lia) ⟨J,c.log _,J,I.lgE (λe k=>by rw[dJ.mp k];exact⟨a,J,i.mono<|bx ..⟩) (by show 1<=_;lia)<|by show Kk a+1+0<=_;have:=i.l;lia,J⟩
 |bring x=>exact dS J<|b8 J<|jh J<|VR h J<|J8 n I.wk h g
 |tell=>exact dS J<|b8 J<|b8 J<|jh J<|VR h J<|Om n I h g<|m J
 |_=>cases hd
def Oo:cN (n+1) 106 [.own w,.obj 12 [.str x],.int num] (st w f jj c)=.ok (.non,st w f jj c):=by
 rw[wI _ 106 J];rfl
def Rm(d:DD)(y:c.wt=ZA)(A:d.EK=O)(m:d.good=O)(D:∀a,d.i8=U a->∃k:Nat,Bt f.bm (.str a)=U (.int (k:Nat))/\k<=N)(I:In Q X N f.tk b c)(h:Kk f.R=w)(g:b<=300/\f.tk<=13)(j:c.hand=.str l):W (cN (n+7) 106 [.own w,d.val,.int num]<|st w f jj c)<|Rs Q X w f jj N<|b+1:=by
 have q:d.atEnd=O->d≠.tell->W _ (Rs Q X w f jj N _):=λC B=>(tM (z:=0) (n+3) d C m I h g λz=>dw z B).mono λ_=>Rk.rs;rw[wI _ 106 J];cases d with
 |drop=>exact dS J<|jh J<|n_ h J<|Oe _ I h g
 |print=>exact dS J<|b8 J<|jh J<|n_ h (aA (ja h j) J)<|Of _ I h g<|Dc I j
 |done=>exact dS J<|b8 J<|b8 J<|jh J<|n_ h J<|C_ _ I h g j
 |swap e p o=>exact dS J<|b8 J<|b8 J<|b8 J<|jh J<|n_ h J<|Oh n m I h g j
 |join v=>exact dS J<|b8 J<|b8 J<|b8 J<|b8 J<|jh J<|n_ h J<|Oi _ I h g j
 |pile x v=>
  have e:=Ol (x:=x) (v:=v) (n+5) (jj:=jj) I h g j;cases v<;>exact dS J<|b8 J<|b8 J<|b8 J<|b8 J<|b8 J<|jh J<|n_ h J e
 |go x=>
  obtain⟨k,e,hk⟩:=D x J;exact dS J (b8 J (b8 J (b8 J (b8 J (b8 J (b8 J (jh J (W.of (j1 h (c':={c with ps:=k}) (pE (c9 h J J) J e) J J) ⟨J,Rs.of (I.go [] hk I.hd.up I.wh ⟨I.Eg,I.nd⟩ J J J (cJ _).symm (dz _) (λ_ h=>nomatch h) J<|by show 0+_<=_;lia)⟩))))))))
 |add v s=>
  have m:(decide _&&decide _)=O:=m;rw[bP]at m
  obtain rfl:=bh m.1
  obtain rfl:=bh m.2
  exact dS J<|b8 J<|b8 J<|b8 J<|b8 J<|b8 J<|b8 J<|b8 J<|jh J<|n_ h J<|VT _ y I h g j (by decide) (by decide) J
 |say o=>exact dS J (b8 J (b8 J (b8 J (b8 J (b8 J (b8 J (b8 J (b8 J (jh J (n_ h J (q J (by intro z;cases z))))))))))))
 |bring x=>exact dS J (b8 J (b8 J (b8 J (b8 J (b8 J (b8 J (b8 J (b8 J (jh J (n_ h J (q J (by intro z;cases z))))))))))))
 |tell=>cases A
end
def LN.dF:LN->Bool
 |.full .fin _=>O
 |_=>ZA
def WX(x:Res b)(Q:b->Prop):Prop:=match x with
 |.ok a=>Q a
 |.exc c fs _=>c=0/\∃i j,fs=[.int i,.int j]
 |.bad=>False
section
variable{f:d->Res a}{P Q:d->Prop}
def WX.mono(h:WX x Q)(k:∀a,Q a->P a):WX x P:=by
 cases x with
 |ok a=>exact k a h
 |exc=>exact h
 |bad=>exact h
theorem WX.bind(h:WX x λa=>WX (f a) R):WX (x.bind f) R:=by
 cases x with
 |ok a=>exact h
 |exc=>exact h
 |bad=>exact h.elim
def W.e(h:W x Q):WX x Q:=by
 obtain⟨a,rfl,q⟩:=h;exact q
def W.k(h:W x Q):W (z7 x) Q:=by
 obtain⟨a,rfl,q⟩:=h;exact⟨a,J,q⟩
def Az{a:d}(h:x=.ok a):z7 x=.ok a:=by rw[h];rfl
end
section
variable{A B:FS}{d:Out×S->Prop}{u:T×S->Prop}{G:T×FX->Prop}{o a:FE}{fl:FL}{g:Fn}
def E1(h:a s=.ok q):qX a s=.ok q:=Az h
def E2(h:WX (A s) λp=>p.1=.nx/\WX (B p.2) d):WX (ah A B s) d:=WX.bind<|h.mono λp a=>by
 obtain⟨e,k⟩:=a;obtain⟨o,s'⟩:=p;cases e;exact k
def abl(h:WX (A s) λp=>∃t,p.1=.rt t/\d p):WX (ah A B s) d:=WX.bind<|h.mono λp a=>by
 obtain⟨t,e,k⟩:=a;obtain⟨o,s'⟩:=p;cases e;exact k
def vOk(h:W (A s) λp=>p.1=.nx/\WX (B p.2) d):WX (ah (lP A) B s) d:=E2<|W.e<|W.k h
def vE(e:A s=.ok (.nx,s1))(h:WX (B s1) d):WX (ah (lP A) B s) d:=vOk ⟨_,e,J,h⟩
def Oq(e:c s=.ok (O,s'))(h:WX (A s') d):WX (aZ (mK c) A B s) d:=WX.bind<|W.e ⟨_,Az e,h⟩
def J9(e:c s=.ok (ZA,s'))(h:WX (B s') d):WX (aZ (mK c) A B s) d:=WX.bind<|W.e ⟨_,Az e,h⟩
def yq{a n:Nat}(h:Kk ts=a)(k:WX (B ⟨ts.map (λt=>sv t)++cR (n-Kk ts) Y,m⟩) λp=>(p.1=.nx/\G (.non,p.2.m))\/∃t,p.1=.rt t/\G (t,p.2.m)):WX (aC a n B ts m) G:=by
 unfold aC;rw[bt h];refine WX.bind<|k.mono λp b=>?_;rcases b with⟨e,q⟩|⟨t,e,q⟩<;>(rw[e];exact q)
def ň(d:o s=.ok (.own k,s))(f:s.m[k]?=U ob)(h:ob.c=cl)(i:fl s=.ok (ts,s1))(a:WX (g (.own k::ts) s1.m) λq=>u (q.1,⟨s1.r,q.2⟩)):WX (Cm cl g o fl s) u:=by
 have e:rcv cl s.m (.own k)=U ():=by
  show(s.m[k]?).bind _=_;rw[f];exact bt h
 refine WX.bind<|W.e ⟨_,Az d,?_⟩;dsimp only;rw[e];refine WX.bind<|W.e ⟨_,J,?_⟩;have j:bq (cF<|.own k) fl s=.ok _:=aA J i;unfold aj;rw[j];refine WX.bind<|W.e ⟨_,J,?_⟩;dsimp only;rw[cJ];cases b:g _ s1.m with
 |ok q=>rw[b]at a;exact a
 |exc c fs s=>rw[b]at a;exact a
 |bad=>rw[b]at a;exact a
def Di(h:WX (a s) λp=>d (.nx,p.2)):WX (aQ a s) d:=WX.bind<|h.mono λ_ q=>q
def VU(b:c s=.ok (O,s1))(h:WX (B s1) λq=>q.1=.nx/\WX (bU (mK c) B k q.2) d):WX (bU (mK c) B (k+1) s) d:=by
 refine WX.bind<|W.e ⟨_,Az b,?_⟩;refine WX.bind<|h.mono λq a=>?_;rw[a.1];exact a.2
def abm(a:c s=.ok (ZA,s1))(h:d (.nx,s1)):WX (bU (mK c) B (k+1) s) d:=WX.bind<|W.e ⟨_,Az a,h⟩
def vR2(h:fl s=.ok ([.int i,.int j],s')):WX (ZP 0 fl s) d:=by
 unfold ZP;rw[h];exact⟨J,_,_,J⟩
end
def vA(x:LN):gi M.P.sub [10] x.cond=U (.bl x.dF):=by
 cases x with
 |mark=>rfl
 |bare=>rfl
 |full c d=>cases c with
  |fin=>rfl
  |no=>rfl
  |pc c=>cases c with
   |rp q=>cases q<;>rfl
   |_=>rfl
structure Ŋ(bm:T)(N:Nat)(x:LN):Prop where
 ms:x.ms=O
 good:x.good=O
 go:∀a,x.i8=U a->∃k:Nat,Bt bm (.str a)=U (.int (k:Nat))/\k<=N
section
variable{X w N b j nn:Nat}{f:KF}{jj:FX}{mk:List Ky}{mv:FR}{x:LN}
def Ot(x:LN)(e:c.wt=ZA)(a:Ŋ f.bm N x)(he:x.dF=ZA)(I:In Q X N f.tk b c)(h:Kk f.R=w)(i:b<=300/\f.tk<=13)(g:c.hand=.str l):W (cN (n+7) 106 [.own w,x.mQ,.int num]<|st w f jj c)<|Rs Q X w f jj N<|b+1:=by
 cases x with
 |mark=>exact W.of (Oo _)<|Rs.of I.up
 |bare d=>exact Rm n d e a.ms a.good a.go I h i g
 |full j d=>
  refine Rm n d e ?_ (kL.mp a.good).2 a.go I h i g
  have:=a.ms
  cases j with
  |fin=>cases he
  |_=>exact this
abbrev jX(jj:FX)(mk:List Ky)(mv:FR):FX:=jj++[dB mk mv]
def AA(h:Kk f.R=w):(st w f (jX jj mk mv) c)[w+(Kk jj+8)]?=U (dB mk mv):=by
 rw[b_ h];show(jj++[dB mk mv])[Kk jj]?=_;rw[iw<|bL _,nH];rfl
def Ou(h:Kk f.R=w){a:List Ky}{b:FR}:(st w f (jX jj mk mv) c).set (w+(Kk jj+8)) (dB a b)=st w f (jX jj a b) c:=by
 rw[iu h];have e:(jj++[dB mk mv]).set jj.length (dB a b)=jj++[dB a b]:=by rw[A8 _ _<|bL _,nH];rfl
 show f.R++(_::_::_::_::_::_::_::_::(jj++[dB mk mv]).set jj.length _)=_;rw[e];rfl
theorem Is.meet{i:Int}(d:c.wt=ZA)(I:Is Q X N f.tk b c):In Q X N f.tk b<|c.log [.meet i tv]:=by
 have a:=I.i;refine⟨a.ps,a.hd,a.wh,a.sh,a.su,a.no,?_,λl h=>?_,?_,a.n1,a.n2,λz=>(by rw[z]at d;cases d),a.nd,?_,λq=>a.op<|(vq c.lg _).symm.trans q,a.kz⟩
 . rw[cV];exact gX I.sl 1
 .rcases eO.mp h with h|h
  .exact a.gv l h
  .cases dJ.mp h
 .show(c.lg++[_]).filterMap Ev.Ws=_
  rw[DK];exact(cJ _).trans a.tks
 .show oR _+qK c.sw<=_
  rw[lL];exact a.sz
abbrev Ć(w:Nat)(f:KF)(jj:FX):Prop:=f.mt=w+(Kk jj+8)
def J_(he:x.dF=O){G:T×FX->Prop}(k:G (.non,st w f jj c)):WX (cN (n+1) 99 [.own w,x.val,.int num]<|st w f jj c) G:=by
 rw[wI _ 99 J];exact yq J<|abl<|Oq (qi J<|(vA x).trans<|by rw[he]) ⟨.non,J,.inr ⟨.non,J,k⟩⟩
def Ka(h:Kk f.R=w)(b:Ć w f jj){a:FX}:az M.P.tab 22 zA (sW w r f a c)=.ok (.own<|w+(Kk jj+8),sW w r f a c):=c9 h J (by rw[<- b];rfl)
def Kc(he:x.dF=ZA)(h:Kk f.R=w)(a:Ć w f jj)(hk:Ky.i num∈mk){G:T×FX->Prop}:WX (cN (n+1) 99 [.own w,x.val,.int num]<|st w f (jX jj mk mv) c) G:=by
 rw[wI _ 99 J];exact yq J<|E2<|J9 (qi J<|(vA x).trans<|by rw[he]) ⟨J,E2<|Oq ((VN J (Ka h a) J<|AA h).trans<|by rw[b0 eU,de hk])<|vR2<|aA (c9 h J J) J⟩
def Kd(a:c.wt=ZA)(j:Ŋ f.bm N x)(he:x.dF=ZA)(h:Kk f.R=w)(d:Ć w f jj)(hk:Ky.i num∉mk)(o:Kk mk<1000)(m:Bt f.tr (.int<|num-1)=U (.bl tv))(I:Is Q X N f.tk b c)(g:b<=300/\f.tk<=13)(v:c.hand=.str l):WX (cN (n+8) 99 [.own w,x.val,.int num]<|st w f (jX jj mk mv) c)<|Rs Q X w f (jX jj (mk++[.i num])<|mv++[.bl O]) N<|b+1:=by
 rw[wI _ 99 J];refine yq J<|E2<|J9 (qi J<|(vA x).trans<|by rw[he]) ⟨J,E2<|J9 ((VN J (Ka h d) J<|AA h).trans<|by rw[b0 eU,b7 hk]) ⟨J,?_⟩⟩
 refine vE (s1:=sW w _ f _ c) ((EZ J (Ka h d) J J (AA h)<|FW o<|by decide).trans<|by rw[i_ hk];exact ej (λz=>Res.ok (Out.nx,(⟨_,z⟩:S)))<|Ou h) ?_
 refine vE (eT<|pE (c9 h J J) J m) ?_;refine vE (qJ (ev:=.meet num tv) h (c7 (aA J<|aA J<|aA J J)<|ES ..)<|by have:=I.i.z g.1;lia) ?_
 cases tv with
 |false=>exact J9 J<|.inl ⟨J,J,_,J,(Is.meet a I).up⟩
 |true=>
  have e:=Ot (num:=num) (jj:=jX jj (mk++[.i num])<|mv++[.bl O]) n x (c:=c.log [.meet num O]) a j he (Is.meet a I) h g v;exact Oq J<|W.e<|W.k<|(n_ h J e).mono λp q=>.inl q
end
def ixP{a:Type}(g:a->T){y:List a}(h:p<Kk y):Bt (.lst<|y.map g) (.int<|((p+1:Nat):Int)-1)=U (g y[p]):=by
 show atT _ _=_;rw[show(((p+1:Nat))-1)=(p:Int) by lia,qg<|by rw[cH];exact h,eQ,dM h];rfl
structure LI(Q:Nat×Bool)(X:Nat)(f:KF)(C b:Nat)(c:KC)(mk lf:List Ky):Prop where
 i:Is Q X f.ln.length f.tk b c
 bc:b+Kk lf+1<=C
 ml:Kk mk+Kk lf<=500
 lk:∀(i:Nat)(h:i<Kk f.ln),f.ln[i].dF=ZA->Ky.i ((i+1:Nat):Int)∈mk\/Ky.i ((i+1:Nat):Int)∈lf
def Ke(N:Nat)(lf:List Ky)(p:Nat):Nat:=Kk lf*(N+2)+(N-p)
structure FO(w:Nat)(f:KF):Prop where
 R:Kk f.R=w
 L:∀x∈f.ln,Ŋ f.bm f.ln.length x
 n:Kk f.ln<=24
def LO(Q:Nat×Bool)(X w:Nat)(f:KF)(jj:FX)(C b:Nat)(lf:List Ky)(p:Nat)(q:T×FX):Prop:=∃a c g,q.2=st w f (jX jj c g) a/\((a.wt=O/\Is Q X f.ln.length f.tk C a)\/(a.wt=ZA/\∃e d,LI Q X f C e a c d/\Ke f.ln.length d a.ps<Ke f.ln.length lf p))
section
variable{Q:Nat×Bool}{X w b j C nn:Nat}{f:KF}{jj:FX}{c c':KC}{a:FE}{t u:T}{l:Tx}{mk lf:List Ky}{mv:FR}{x:LN}{bs:Fs}{B x1:Option D.C}
def Kf(F:FO w f)(s:Ć w f jj)(G:f.tr=.lst (bs.map T.bl))(ć:Kk bs=Kk f.ln)(h:c.wt=ZA)(K:C<=300/\f.tk<=13)(I:LI Q X f C b c mk lf):WX (cN (n+9) 98 [.own w]<|st w f (jX jj mk mv) c)<|LO Q X w f jj C b lf c.ps:=by
 have v:b<=300/\f.tk<=13:=⟨by have:=I.bc;lia,K.2⟩
 obtain⟨l,m⟩:∃l,c.hand=.str l:=I.i.i.wh.resolve_left (by rw[h];exact eU)
 rw[wI _ 98 J];have p:∀{r:List _}{c:KC}{jj:FX},az M.P.tab 21 zA _=.ok (.int c.ps,sW w r f jj c):=c9 F.R J J;have Ĳ:∀{r:List _}{c:KC}{jj:FX},az M.P.tab 0 zA _=.ok (.lst _,sW w r f jj c):=c9 F.R J J;have d:a_ (oE _<|aU bZ<|k1<|az M.P.tab 0 zA) _=.ok (decide<|c.ps=Kk f.ln,sW w [] f (jX jj mk mv) c):=dU<|pE p (c7 (aA Ĳ J)<|by show U _=_;rw[cH])<|(EL ..).trans<|ej (λb=>U _)<|decide_eq_decide.mpr<|by lia
 by_cases hp:c.ps=Kk f.ln
 .rw[de hp]at d
  exact yq J<|Oq d<|W.e<|W.k<|W.of (fH F.R J<|vo _ F.R m<|by have:=I.i.i.z v.1;lia)<|.inl ⟨J,_,mk,mv,J,.inl ⟨J,(vt I.i.i m).le<|by have:=I.bc;lia⟩⟩
 .rw[b7 hp]at d
  have g:c.ps<Kk f.ln:=by have:=I.i.i.ps;lia
  refine yq J<|J9 d<|vE (s1:=sW w [] f _ {c with ps:=c.ps+1}) (J3 F.R J J J J)<|Di<|ň J (b_ F.R 0) J (aA (E1<|pE Ĳ (cU p J J)<|ixP LN.val g)<|aA (E1 p) J) ?_
  have A:Is Q X f.ln.length f.tk b {c with ps:=c.ps+1}:=⟨⟨g,I.i.i.hd,I.i.i.wh,I.i.i.sh,I.i.i.su,I.i.i.no,I.i.i.lg,I.i.i.gv,I.i.i.tks,I.i.i.n1,I.i.i.n2,I.i.i.wq,I.i.i.nd,I.i.i.sz,I.i.i.op,I.i.i.kz⟩,I.i.sl⟩
  have E:=F.L _<|wc g;by_cases a:f.ln[c.ps].dF=O
  .refine J_ _ a<|.inl ⟨J,{c with ps:=c.ps+1},mk,mv,J,.inr ⟨h,b,lf,⟨A,I.bc,I.ml,I.lk⟩,?_⟩⟩
   show Kk lf*(Kk f.ln+2)+(Kk f.ln-(c.ps+1))<Kk lf*(Kk f.ln+2)+(Kk f.ln-c.ps)
   lia
  .have a:=by simpa using a
   by_cases hk:Ky.i ((c.ps+1))∈mk
   .exact Kc _ a F.R s hk
   .refine(Kd (c:={c with ps:=c.ps+1}) n h E a F.R s hk (by have:=I.ml;lia) (by rw[G];exact ixP T.bl<|by lia) A v m).mono λq H=>.inl ⟨J,?_⟩
    obtain⟨_,c',e,i⟩:=H;have x:=(I.lk c.ps g a).resolve_left hk;have el:=List.length_erase_of_mem x;have B:=List.length_pos_of_mem x;refine⟨c',_,_,e,?_⟩;cases Ĵ:c'.wt with
    |true=>exact .inl ⟨J,i.le<|by have:=I.bc;lia⟩
    |false=>
     refine .inr ⟨J,b+1,lf.erase<|Ky.i ((c.ps+1:Nat)),⟨i,by have:=I.bc;lia,by rw[cV,gY];have:=I.ml;lia,λk j o=>?_⟩,?_⟩
     .by_cases z:k=c.ps
      .subst z;exact .inl<|ji _<|dJ.mpr J
      .rcases I.lk k j o with q|q
       .exact .inl<|lR _ q
       .exact .inr<|(List.mem_erase_of_ne λy=>z<|by injection y with y;lia).mpr q
     .unfold Ke
      have:=i.i.ps
      obtain⟨k,hk⟩:∃k,Kk lf=k+1:=⟨Kk lf-1,by lia⟩
      rw[el,hk,Nat.add_sub_cancel,rf]
      lia
def Ro(F:FO w f):dC (D.tB<|az M.P.tab 30 zA) (sW w r f jj c)=.ok (!c.wt,sW w r f jj c):=by
 unfold dC D.tB;rw[c9 F.R J J];rfl
theorem Dk(n:Nat)(F:FO w f)(m:Ć w f jj)(l:f.tr=.lst (bs.map T.bl))(ć:Kk bs=Kk f.ln)(o:C<=300/\f.tk<=13):∀(e:Nat){b:Nat}{c:KC}{mk lf:List Ky}{mv:FR},c.wt=ZA->LI Q X f C b c mk lf->Ke f.ln.length lf c.ps+2<=e->WX (bU (mK<|dC<|D.tB<|az M.P.tab 30 zA) (aQ<|Cm 26 (cN (n+9) 98) zA aT) e<|sW w [B,x1] f (jX jj mk mv) c) λz=>z.1=.nx/\∃c' a h,z.2=sW w [B,x1] f (jX jj a h) c'/\c'.wt=O/\Is Q X f.ln.length f.tk C c'
 |0,b,c,mk,lf,mv,i,I,u=>by lia
 |e+1,b,c,mk,lf,mv,i,I,u=>by
  have d:=Ro F (r:=[B,x1]) (c:=c) (jj:=jX jj mk mv);rw[i]at d;refine VU d<|Di<|ň J (b_ F.R 0) J J<|(Kf n F m l ć i o I).mono λq j=>⟨J,?_⟩;obtain⟨t,x⟩:=q;obtain⟨c',a,h,rfl,j⟩:=j;rcases j with⟨g,p⟩|⟨g,y,s,v,p⟩
  .obtain⟨e,rfl⟩:∃k,e=k+1:=⟨e-1,by lia⟩
   have d:=Ro F (r:=[B,x1]) (c:=c') (jj:=jX jj a h);rw[g]at d;exact abm d ⟨J,c',a,h,J,g,p⟩
  .exact Dk n F m l ć o e g v (by lia)
end
section
variable{X w b j C N tk nn:Nat}{c c':KC}{l x h':Tx}
abbrev KC.tkn(c:KC)(i:Nat)(h':Tx):KC:={c with lg:=c.lg++[.take i],hand:=.str h',hr:=c.hr+1,wt:=ZA}
theorem Is.take(k:N<1000)(I:Is Q X N tk b c)(j:c.wt=O)(g:TX (hB (tk+1) b) h')(f:Q.2=O->nf h'=O):Is Q X N (tk+1) b<|c.tkn (tk+1) h':=by
 have a:=I.i;obtain⟨q1,d⟩:=a.wq j;have le:tk<=tk+1:=bx ..;have hs:=a.sz;have m:=AS b<|gX (iK (b:=b) le<|bL _) 1;have e:(c.lg++[Ev.take<|tk+1]).length<=(b+9)*(b+9)+1:=by rw[cV];exact gX d 1
 refine⟨⟨a.ps,.inr ⟨h',J,g,f⟩,.inr ⟨h',J⟩,a.sh.mono (bL _) (λ_ h=>h) λ_ h=>h.le le<|bL _,a.su.mono (bL _) (λ_ h=>h.le le<|bL _) λ_ h=>h,a.no,c_ e<|vX _,λl h=>?_,?_,a.n1,.inr q1,(λz=>by cases z),a.nd,by show oR _+qK c.sw<=_;rw[lL];show oR c.lg+0+_<=_;lia,λ_=>⟨(λz=>nomatch z),k⟩,a.kz⟩,e⟩
 .rcases eO.mp h with h|h
  .exact(a.gv l h).mono<|gX (iK le<|bL _) _
  .cases dJ.mp h
 .show(c.lg++[_]).filterMap Ev.Ws=_
  rw[DK,show c.lg.filterMap Ev.Ws=_ from a.tks,List.range'_concat,Nat.one_mul,FQ 1 tk];rfl
def Ĉ(h:Kk f.R=w):aO M.P.tab 22 zA (mG M.bc) (sW w r f jj c)=.ok (.nx,sW w r {f with mt:=w+(Kk jj+8)} (jX jj [] []) c):=by
 have e:st w f jj c++[dB [] []]=st w f (jX jj [] []) c:=by
  unfold st;rw[iN];rfl
 have el:(st w f jj c).length=w+(Kk jj+8):=by
  unfold st;rw[cV,h];rfl
 show Res.bind (bj _) _=_;rw[e,show(st w f _ c)[w]?=U _ from b_ h 0,el];show Res.ok (Out.nx,(⟨sv _::r,(st w f _ c).set (w+0) _⟩:S))=_;rw[iu h];rfl
def LfO(f:KF)(lf:List Ky):Prop:=∀(i:Nat)(h:i<Kk f.ln),f.ln[i].dF=ZA->Ky.i ((i+1:Nat):Int)∈lf
def vB(F:FO w f)(ć:Kk bs=Kk f.ln)(j:TX 6 x)(a:Q.2=O->nf x=O)(I:Is Q X f.ln.length f.tk b c)(A:c.wt=O)(hb:1<=b)(B:LfO f lf)(o:b+Kk lf+1<=C)(K:C<=300)(Be:f.tk+1<=13):WX (cN (n+10) 97 [.own w,.str x,.lst<|bs.map T.bl]<|st w f jj c) λp=>∃Z mt c',p.2=st w {f with tk:=f.tk+1,tr:=.lst (bs.map T.bl),mt:=mt} Z c'/\c'.wt=O/\Is Q X f.ln.length (f.tk+1) C c':=by
 obtain⟨h',m,g,H⟩:∃h',TX (hB (f.tk+1) b) h'/\(Q.2=O->nf h'=O)/\∀(f:KF)(lg:List Ev)(r:List _),Kk f.R=w->qV (a_<|bF (aM .Is) (az M.P.tab 24 zA)<|cF .non) zB (oA (oA (az M.P.tab 24 zA)<|cS [32]) zB) (sW w (Io x::r) f jj {c with lg:=lg})=.ok (.str h',sW w (Io x::r) f jj {c with lg:=lg}):=by
  have q2:=I.i.hd;have hk:hB (f.tk+1) b<=5000:=by unfold hB;lia
  have E:hB (f.tk+1) b=hB f.tk b+7:=by unfold hB;lia
  rcases q2 with e|⟨l,e,y,q⟩
  .refine⟨x,j.mono<|by lia,a,λf lg r h=>?_⟩
   unfold qV;rw[dU<|pE (c9 h J<|ej (λx=>U<|D.C.val x) e) J J];rfl
  .have y1:=y.l
   have y2:=j.l;have s:=(y.cat (⟨bL _,by decide⟩:TX 1 [32])).cat j
   refine⟨(l++[32])++x,s.mono<|by lia,λz=>vv (vv (q z) J λ_ h=>h) (a z) λ_ h=>h,λf lg r h=>?_⟩
   have o:a_ (bF (aM .Is) (az M.P.tab 24 zA)<|cF .non) _=.ok (ZA,sW w (Io x::r) f jj {c with lg:=lg}):=dU<|pE (ja (c:={c with lg:=lg}) h e) J J
   rw[ą o];refine(yi (k:=0) (yi (k:=0) (ja h e) J ?_) J ?_)
   .rw[cV];show Kk l+1<=_;lia
   .rw[cV,cV];show Kk l+1+_<=_;lia
 have h:=F.R;have lz:=I.i.z<|by lia
 rw[wI _ 97 J];refine yq J ?_;refine vE (s1:=sW w _ {f with tk:=f.tk+1} jj c) (J3 h J J J J) ?_
 refine vE (qJ (ev:=.take _) h (c7 (aA J<|aA (c9 h J J) J)<|i9 ..)<|by lia) ?_
 refine vE (j1 h (c':={c with lg:=c.lg++[.take _],hand:=.str h'}) (H _ _ _ h) J J) ?_
 refine vE (J3 h (c':={c with lg:=c.lg++[.take _],hand:=.str h',hr:=c.hr+1}) J J J J) ?_
 refine vE (j1 (f':={f with tk:=f.tk+1,tr:=.lst _}) h J J J) ?_
 refine vE (Ĉ h) ?_
 refine vE (j1 (c':=c.tkn (f.tk+1) h') h J J J) ?_
 refine(Dk (f:={f with tk:=f.tk+1,tr:=.lst (bs.map T.bl),mt:=w+(Kk jj+8)}) n ⟨h,F.L,F.n⟩ J J ć ⟨K,Be⟩ many J ⟨Is.take (by have:=F.n;lia) I A m g,o,by show 0+Kk lf<=_;lia,λi G z=>.inr<|B i G z⟩ ?_).mono λz v=>?_
 .unfold Ke many
  have N:Kk lf<=300:=by lia
  have:=rV N<|show Kk f.ln+2<=26 by have:=F.n;lia
  have:=F.n
  lia
 .obtain⟨e,c',d,Dj,W,V,S⟩:=v
  exact .inl ⟨e,jX jj d Dj,w+(Kk jj+8),c',by rw[W],V,S⟩
end
theorem ĉ{I:Nat->FX->Prop}{R:T->Prop}:∀{ts:FR}{i:Nat}{m:FX},(∀t∈ts,∀i m,i<N->I i m->∃b1,a t r=U b1/\W (e ⟨b1,m⟩) λp=>R p.1/\I (i+1) p.2.m)->i+Kk ts<=N->I i m->W (bu a fj e r ts m) λp=>(∀t∈p.1,R t)/\I (i+Kk ts) p.2
 |[],i,m,_,_,h=>⟨_,J,(λ_ z=>nomatch z),h⟩
 |t::ts,i,m,k,g,h=>by
  rw[ee]at g;obtain⟨b1,s,p,o,c,l⟩:=k t (d_ ..) i m (by lia) h
  obtain⟨q,n,b,j⟩:=ĉ (λt f=>k t<|ed _ f) (by lia) l
  refine⟨(p.1::q.1,q.2),?_,λu d=>?_,by rw[ee,show i+(Kk ts+1)=i+1+Kk ts by lia];exact j⟩
  .rw[bu,s]
   show Res.bind (e _) _=_;rw[o];show Res.bind (bu a fj e r ts _) _=_;rw[n];rfl
  .rcases bH.mp d with z|z
   .rw[z];exact c
   .exact b u z
def Ċ(t:T):Prop:=∃b,t=.bl b
def nm:oN->Tx
 |.one c p=>c::if p then[43]else[]
 |.emp=>[94,36]
def Ov(h:p.qv=O) :cN (n+5) 13 [p.val] m=.ok (.str<|nm p,m):=by
 cases p with
 |one c p=>
  have h:=bh h;unfold yM at h;simp only[bH,j4,i4]at h;rcases h with rfl|rfl|rfl<;>cases p<;>kernel_rfl
 |emp=>kernel_rfl
abbrev lM(x:Tx)(k:Nat):Ob:=⟨24,[.val<|.str x,.val<|.int ((k+1:Nat):Int),.val<|.own<|2*k+1]⟩
structure RO(rows:List Tx)(cc:Nat)(R:FX):Prop where
 len:Kk R=2*Kk rows
 at_:∀(k:Nat)(h:k<Kk rows),R[2*k]?=U (lM rows[k] k)/\∃ks ts,R[2*k+1]?=U (dB ks ts)/\DI (λ_=>True) Ċ cc ks ts
 tx:∀x∈rows,TX 6 x
abbrev KF.up(f:KF)(R:FX)(uk:List Ky)(uv:FR):KF:={f with R:=R,uk:=uk,uv:=uv}
structure TO(rows:List Tx)(w cc:Nat)(f:KF):Prop where
 ro:RO rows cc f.R
 w:w=2*Kk rows
 up:DI (λ_=>True) Ċ cc f.uk f.uv
def TB(rows:List Tx)(w cc:Nat)(f:KF)(jj:FX)(c:KC)(q:T×FX):Prop:=∃b R uk uv,q=(.bl b,st w (f.up R uk uv) jj c)/\TO rows w cc (f.up R uk uv)
section
variable{w cc k:Nat}{p:oN}
def TO.Rw(I:TO rows w cc f):Kk f.R=w:=I.ro.len.trans I.w.symm
theorem TO.mono{c:Nat}(I:TO rows w cc f)(h:cc<=c):TO rows w c f:=⟨⟨I.ro.len,λk hk=>let⟨a,ks,ts,b,d⟩:=I.ro.at_ k hk;⟨a,ks,ts,b,d.mono h (λ_ h=>h) λ_ h=>h⟩,I.ro.tx⟩,I.w,I.up.mono h (λ_ h=>h) λ_ h=>h⟩
theorem TB.mono{a:Nat}(h:TB rows w cc f jj c q)(k:cc<=a):TB rows w a f jj c q:=let⟨b,R,uk,uv,e,i⟩:=h;⟨b,R,uk,uv,e,i.mono k⟩
def Ow(h:k<Kk f.R):(st w f jj c)[k]?=f.R[k]?:=jP h
def ċ(h:k<Kk f.R):(st w f jj c).set k x=st w (f.up (f.R.set k x) f.uk f.uv) jj c:=PF _ _ h
def jN(I:TO rows w cc f)(hk:k<Kk rows)(a:o s=.ok (.own<|2*k,s))(hs:s.m=st w f jj c)(b:iV M.P.tab 24 i=U j)(d:(lM rows[k] k).fs[j]?=sv t):az M.P.tab i o s=.ok (t,s):=J1 a (by rw[hs,Ow<|by rw[I.ro.len];lia];exact(I.ro.at_ k hk).1) b d
def RO.put(I:RO rows cc R)(hk:k<Kk rows)(D:DI (λ_=>True) Ċ (cc+1) ks ts):RO rows (cc+1)<|R.set (2*k+1)<|dB ks ts:=by
 refine⟨by rw[eS];exact I.len,λj a=>⟨?_,?_⟩,I.tx⟩
 .rw[eV<|by lia];exact(I.at_ j a).1
 .by_cases z:j=k
  .subst z
   exact⟨ks,ts,fR<|by rw[I.len];lia,D⟩
  .obtain⟨_,b,c,e,d⟩:=I.at_ j a
   exact⟨b,c,by rw[eV<|by lia];exact e,d.mono (bx ..) (λ_ h=>h) λ_ h=>h⟩
def Kg(I:TO rows w cc f)(hk:k<Kk rows)(x:p.qv=O)(A:cc<900000):W (cN (n+6) 89 [.own<|2*k,p.val]<|st w f jj c)<|TB rows w (cc+1) f jj c:=by
 obtain⟨_,ks,ts,z,D⟩:=I.ro.at_ k hk;obtain⟨b,y⟩:=JT n (row:=rows[k]) (by have:=(I.ro.tx _<|wc hk).l;lia)
 have i:(st w f jj c)[2*k+1]?=U _:=(Ow<|by rw[I.ro.len];lia).trans z
 have d:∀{r:FC},az M.P.tab 15 zA _=.ok (.own _,⟨sv _::r,st w f jj c⟩):=jN I hk J J J J;rw[wI _ 89 J];refine gK J<|bS (cE J<|Ov n x) ?_;have e:=VN (neg:=O) (a:=vF 2) (s:=⟨[sv _,sv p.val,Io<|nm p],st w f jj c⟩) J d J i;by_cases hm:Ky.s (nm p)∈ks
 .rw[de hm]at e
  obtain⟨_,g,m,rfl⟩:=D.at_ hm;exact bN e<|bR (VO d J J i g) ⟨m,f.R,f.uk,f.uv,J,I.mono<|bx ..⟩
 .rw[b7 hm]at e
  have v:=D.put (k:=.s<|nm p) trivial ⟨b,J⟩;obtain⟨_,g,m,rfl⟩:=v.at_ vj;have ro:=I.ro.put hk v;have q:TO rows w _<|f.up _ f.uk f.uv:=⟨ro,I.w,I.up.mono (bx ..) (λ_ h=>h) λ_ h=>h⟩;refine nZ<|jh e<|W.of ((EZ (cE (aA J<|aA (jN I hk J J J J) J)<|y _) d J J i<|rh D.le<|by lia).trans<|by rw[ċ<|by rw[I.ro.len];lia]) ⟨J,?_⟩
  refine bR (VO (jN q hk J J J J) J J ?_ g) ⟨m,_,_,_,J,q⟩;exact(Ow<|by rw[ro.len];lia).trans<|fR<|by rw[I.ro.len];lia
end
abbrev bO(j:Nat):T:=.own<|2*j
def cM(h:fl s=.ok (ts,s))(k:g ts s.m=.ok (t,m')):aj g [] fl s=.ok (t,⟨s.r,m'⟩):=qe h (by rw[cJ];exact k)
def Kh(I:TO rows w cc f)(hk:k<Kk rows):(st w f jj c)[2*k]?=U (lM rows[k] k):=(Ow<|by rw[I.ro.len];lia).trans (I.ro.at_ k hk).1
def TB.of(I:TO rows w cc f):TB rows w cc f jj c (.bl b,st w f jj c):=⟨b,f.R,f.uk,f.uv,J,I⟩
def qM(q:RP)(a:q.qv=O)(I:TO rows w cc f)(hk:k<Kk rows)(b:cc<900000):W (cN (n+7) 25 [q.val,bO k]<|st w f jj c)<|TB rows w (cc+1) f jj c:=by
 rw[wI _ 25 J];cases q with
 |row v=>exact gK J<|bY J<|bR (pE J (jN I hk J J J J)<|EL ..)<|TB.of<|I.mono<|bx ..
 |like p=>
  obtain⟨⟨u,d⟩,e,q⟩:=Kg n I hk a b;exact gK J<|bN J<|bY J<|K8 (mE J (Kh I hk) J J e) q
def Rp(I:TO rows w cc f):(st w f jj c)[w+2]?=U (dB f.uk f.uv):=b_ I.Rw 2
def Kl(I:TO rows w cc f):az M.P.tab 17 zA ⟨sv (.own<|w+1)::r,st w f jj c⟩=.ok (.own<|w+2,⟨sv (.own<|w+1)::r,st w f jj c⟩):=J1 J (b_ I.Rw 1) J J
def Km(I:TO rows w cc f)(e:cc<900000)(d:a s=.ok (.bl b,⟨[sv<|.own<|w+1,px i,sv b1,sv b2],st w f jj c⟩)):∃uk uv,nY M.bc (az M.P.tab 17 zA) zB a s=.ok (.nx,⟨[sv<|.own<|w+1,px i,sv b1,sv b2],st w (f.up f.R uk uv) jj c⟩)/\TO rows w (cc+1) (f.up f.R uk uv):=by
 refine⟨(bw f.uk f.uv _ _).1,(bw f.uk f.uv (.i i) _).2,(EZ d (Kl I) J J (Rp I)<|rh I.up.le<|by lia).trans ?_,⟨(I.mono<|bx ..).ro,I.w,I.up.put trivial ⟨b,J⟩⟩⟩
 rw[iu I.Rw];rfl
def AB{x y:RP}(G:x.qv=O)(F:y.qv=O)(I:TO rows w cc f)(hk:k<Kk rows)(Q:cc+5<900000):W (cN (n+8) 93 [.own<|w+1,.int i,(PC.ft x y).val,bO k]<|st w f jj c)<|TB rows w (cc+3) f jj c:=by
 rw[wI _ 93 J];obtain⟨g,L⟩:=I.up.get ⟨ZA,J⟩;have z:=Oc (b:=vF 1) (d:=cF<|.bl ZA) (s:=⟨[sv _,px i,sv (PC.ft x y).val,sv<|bO k],st w f jj c⟩) (Kl I) J J J<|Rp I;rw[L]at z;cases g with
 |true=>
  obtain⟨⟨u,E⟩,e,b,l,uk,uv,B,h⟩:=qM n y F I hk (by lia)
  cases B;have ŋ:aj _ [] (k2 (az M.P.tab 7 zC) zD) ⟨[sv<|.own<|w+1,px i,sv (PC.ft x y).val,sv _],st w f jj c⟩=.ok _:=cM J e;obtain⟨r,q,A,C⟩:=Km h (by lia)<|NI ŋ
  exact gK J<|bHt (yL z)<|nZ<|W.of A ⟨J,bR J ⟨O,_,_,_,J,C.mono<|by lia⟩⟩
 |false=>
  obtain⟨⟨u,E⟩,e,b,l,uk,uv,B,h⟩:=qM n x G I hk (by lia)
  cases B;have K:dC (D.tB<|aj (cN (n+7) 25) []<|k2 (az M.P.tab 6 zC) zD) ⟨[sv<|.own<|w+1,px i,sv (PC.ft x y).val,sv<|bO k],st w f jj c⟩=.ok (!b,⟨[sv<|.own<|w+1,px i,sv (PC.ft x y).val,sv<|bO k],st w (f.up l uk uv) jj c⟩):=by
   unfold dC D.tB;rw[cM J e];rfl
  refine gK J<|bN (yL z)<|bBr<|W.of K ⟨λ_=>bR J ⟨ZA,_,_,_,J,h.mono<|by lia⟩,λ_=>?_⟩
  have H:∃b,∀m,cN (n+7) 26 [y.val,.int ((k+1))] m=.ok (.bl b,m):=by
   rw[wI _ 26 J];cases y with
   |row v=>exact⟨_,λm=>sEq J J J<|bR J J⟩
   |like p=>exact⟨ZA,λm=>sEq (by cases p<;>rfl) J J<|bR J J⟩
  obtain⟨b2,A⟩:=H;obtain⟨r,q,N,C⟩:=Km h (by lia) (a:=nS<|aj _ []<|k2 (az M.P.tab 7 zC)<|az M.P.tab 3 zD) (s:=⟨[sv _,sv _,sv (PC.ft x y).val,sv _],st w _ jj c⟩)<|NI<|cE (aA J<|aA (jN h hk J J J J) J)<|A _
  exact nZ<|W.of N ⟨J,bR J ⟨O,_,_,_,J,C.mono<|by lia⟩⟩
def Kn:∀{us:FR},(∀t∈us,Ċ t)->∃b,Ei [.lst us]=U (.bl b):=λ{us} h=>by
 have:∃bs:Fs,us=bs.map T.bl:=by
  induction us with
  |nil=>exact⟨[],J⟩
  |cons t us a=>
   obtain⟨b,rfl⟩:=h t<|d_ ..;obtain⟨bs,rfl⟩:=a λt c=>h t<|ed _ c;exact⟨b::bs,J⟩
 obtain⟨bs,rfl⟩:=this;refine⟨bs.any id,?_⟩;have e:=mR (λb=>b) bs;rw[List.map_id']at e;show(boolsOf _).map _=_;rw[e];rfl
def Ox(s:p.qv=O)(I:TO rows w cc f)(hB:∀j∈B,j<Kk rows)(z:Kk B<=12)(K:cc+20<900000):W (cN (n+7) 92 [.own<|w+1,pl,(PC.soon v p).val,t,.lst<|B.map bO]<|st w f jj c)<|TB rows w (cc+13) f jj c:=by
 rw[wI _ 92 J];have hs:Yc (.lst<|bT (B.map bO) Y<|U v)=U ((bT B Y<|U v).map bO):=by rw[qL];rfl
 have L:((bT B Y<|U v).map bO).length<=12:=by rw[cH];exact c_ lq z
 refine gK J<|bN J<|bN J<|bN J<|bY J<|Ó<|aaV<|Ò<|aaY<|Ö<|W.of (NJ (Ju J J J J) hs) ⟨by show((bT B Y _).map bO).length<=_;lia,?_⟩
 refine(ĉ (R:=Ċ) (N:=12) (I:=λi m=>∃R uk uv,m=st w (f.up R uk uv) jj c/\TO rows w (cc+i) (f.up R uk uv)) (i:=0) (λt o i m H C=>?_) (by lia) ⟨f.R,f.uk,f.uv,J,I⟩).mono λq r=>?_
 .obtain⟨R,uk,uv,rfl,l⟩:=C
  obtain⟨j,a,rfl⟩:=gZ.mp o;have a:=hB j<|yl a;obtain⟨⟨u,G⟩,e,b,F,g,d,E,h⟩:=Kg _ l a s (by lia)
  cases E;exact⟨[Y,sv _,sv _],J,W.of (mE J (Kh l a) J J e) ⟨⟨b,J⟩,F,g,d,J,h⟩⟩
 .obtain⟨D,R,uk,uv,e,h⟩:=r
  obtain⟨b,A⟩:=Kn D;exact⟨_,J,.bl b,A,b,R,uk,uv,by rw[e],h.mono<|by lia⟩
section
variable{rows:List Tx}{w cc k tk b q:Nat}{f:KF}{jj m:FX}{c:KC}{p:oN}{x:Ob}{a:FE}{t u pl bm:T}{r:FC}{B:B1}{i:Int}{ln:List LN}{lf:List Ky}
def qN(x:PC)(a:x.qv=O)(I:TO rows w cc f)(hk:k<Kk rows)(hB:∀j∈B,j<Kk rows)(d:Kk B<=12)(g:cc+20<900000):W (cN (n+9) 92 [.own<|w+1,.int i,x.val,bO k,.lst<|B.map bO]<|st w f jj c)<|TB rows w (cc+13) f jj c:=by
 cases x with
 |last=>
  rw[wI _ 92 J];exact gK J<|bN J<|bN J<|bY J<|bR J<|TB.of<|I.mono<|bx ..
 |soon v p=>exact Ox _ a I hB d g
 |ft x y=>
  have a:(x.qv&&y.qv)=O:=a;rw[bP]at a;obtain⟨⟨u,b⟩,e,z⟩:=AB n a.1 a.2 I hk (by lia)
  rw[wI _ 92 J];exact gK J<|bN J<|bY J<|K8 (mE J (b_ I.Rw 1) J J e)<|z.mono<|by lia
 |rp x=>
  obtain⟨⟨u,b⟩,e,z⟩:=qM _ x a I hk (by lia)
  rw[wI _ 92 J];have z:TB rows w (cc+13) f jj c _:=z.mono (by lia)
  cases x with
  |row v=>exact gK J<|bN J<|bN J<|bN J<|bN J<|K8 (cM J e) z
  |like p=>exact gK J<|bN J<|bN J<|bN J<|bN J<|K8 (cM J e) z
def qO(a:v=.obj 3 []\/v=.obj 10 [])(I:TO rows w cc f):W (cN (n+9) 92 [.own<|w+1,.int i,v,bO k,.lst<|B.map bO]<|st w f jj c)<|TB rows w (cc+13) f jj c:=by
 have e:cN (n+8) 25 [v,bO k] (st w f jj c)=.ok (.bl O,st w f jj c):=by
  rw[wI _ 25 J];rcases a with rfl|rfl<;>rfl
 rw[wI _ 92 J];rcases a with rfl|rfl<;>exact gK J<|bN J<|bN J<|bN J<|bN J<|bR (cE J e)<|TB.of<|I.mono<|bx ..
def Ko(x:LN)(a:x.good=O)(I:TO rows w cc f)(hk:k<Kk rows)(hB:∀j∈B,j<Kk rows)(g:Kk B<=12)(h:cc+20<900000):W (cN (n+10) 92 [.own<|w+1,.int i,x.cond,bO k,.lst<|B.map bO]<|st w f jj c)<|TB rows w (cc+13) f jj c:=by
 cases x with
 |mark=>exact qO _ (.inl J) I
 |bare=>exact qO _ (.inl J) I
 |full l d=>
  have a:=(kL.mp<|a).1;cases l with
  |fin=>exact qO _ (.inr J) I
  |pc y=>exact qN _ y a I hk hB g h
  |no y=>
   obtain⟨⟨u,p⟩,e,b,R,uk,uv,m,o⟩:=qN n y a I hk hB g h;cases m;show W _ _;rw[wI _ 92 J];exact gK J<|bY J<|K8 (NI<|mE J (b_ I.Rw 1) J J e) ⟨!b,R,uk,uv,J,o⟩
def E3{u:Nat->Fn}{x y:Fn}{s p v r b:T}(c:gi M.P.sub [9] v=U (.bl ZA)):ä (ups u 92 x) [s,p,v,r,b] m=ä (ups u 92 y) [s,p,v,r,b] m:=by
 obtain⟨st,a⟩:∃st:S,st=⟨[sv s,sv p,sv v,sv r,sv b],m⟩:=⟨_,J⟩;have d:tB (dg (gi M.P.sub [9]) zC) st=.ok (ZA,st):=by rw[a];exact qi J c
 have e:∀A:FS,aZ (tB _) A aL st=.ok _:=λA=>by
  unfold aZ;rw[d];rfl
 simp only[ä,mo];unfold aC;rw[bt<|show[s,p,v,r,b].length=5 from J];refine ej (λz=>Res.bind z _) ?_;show Res.bind (aZ _ _ aL ⟨[sv s,sv p,sv v,sv r,sv b],m⟩) _=Res.bind (aZ _ _ aL ⟨[sv s,sv p,sv v,sv r,sv b],m⟩) _;rw[<- a,e,e];rfl
def iL(c:60<=n){s p v r b:T}(a:gi M.P.sub [9] v=U (.bl ZA)):cN (n+2) 92 [s,p,v,r,b] m=cN (n+1) 92 [s,p,v,r,b] m:=by
 rw[wI _ 92 J,swp c (q:=92) (d_ ..) J<|by decide +kernel,wI _ 92 J,<- lI (cN n) 92]
 exact(E3 a).trans (by rw[lI])
def Kp(x:PC):gi M.P.sub [9] x.val=U (.bl ZA):=by
 cases x with
 |rp x=>cases x<;>rfl
 |_=>rfl
def AD(q:60<=n)(x:LN)(a:x.good=O)(I:TO rows w cc f)(hk:k<Kk rows)(hB:∀j∈B,j<Kk rows)(h:Kk B<=12)(l:cc+20<900000):cN (n+11) 92 [.own<|w+1,.int i,x.cond,bO k,.lst<|B.map bO] (st w f jj c)=cN (n+10) 92 [.own<|w+1,.int i,x.cond,bO k,.lst<|B.map bO] (st w f jj c):=by
 cases x with
 |mark=>exact iL _ (by lia) J
 |bare=>exact iL _ (by lia) J
 |full g d=>
  have a:=(kL.mp<|a).1;cases g with
  |fin=>exact iL _ (by lia) J
  |pc y=>exact iL _ (by lia)<|Kp y
  |no y=>
   obtain⟨⟨u,o⟩,e,b,R,uk,uv,m,r⟩:=qN n y a I hk hB h l;cases m;have run:∀n',cN n' 92 _ _=.ok _->cN _ 92 _ _=.ok _:=λn' e=>by
    have z:W (cN (n'+1) 92 [.own<|w+1,.int i,.obj 9 [y.val],bO k,.lst<|B.map bO]<|st w f jj c) λp=>p=(.bl<|!b,st w (f.up R uk uv) jj c):=by
     rw[wI _ 92 J];exact gK J<|bY J<|K8 (NI<|mE J (b_ I.Rw 1) J J e) J
    obtain⟨p,e,rfl⟩:=z;exact e
   exact(run _<|(iL _ (by lia)<|Kp y).trans e).trans (run _ e).symm
theorem Dl{g:Fn}(l:(∀(x:LN)(i:Int)(cc:Nat)(f:KF),x.good=O->TO rows w cc f->cc+20<900000->W (g [.own<|w+1,.int i,x.cond,bO k,.lst<|B.map bO]<|st w f jj c) (TB rows w (cc+13) f jj c))):∀(L:List LN)(i:Int)(bs:Fs)(cc:Nat)(f:KF)(u v:Option C),(∀x∈L,x.good=O)->TO rows w cc f->cc+13*Kk L<800000->Kk bs+Kk L<1000 ->
  W (aX (dc [4,5]) (fU 3<|aG (aw [(25,92)]<|ups u0 92 g) zA<|bq (vF 4)<|k3 (vF 5) zB zC) (eG i<|L.map LN.cond) ⟨[sv<|.own<|w+1,sv<|bO k,Iy<|B.map bO,U<|.ol<|bs.map T.bl,u,v],st w f jj c⟩) λp=>p.1=.nx/\∃(u v:Option C)(Ō:Fs)(R:FX)(uk:List Ky)(uv:FR),p.2=⟨[sv<|.own<|w+1,sv<|bO k,Iy<|B.map bO,U<|.ol<|Ō.map T.bl,u,v],st w (f.up R uk uv) jj c⟩/\Ō.length=Kk bs+Kk L/\TO rows w (cc+13*Kk L) (f.up R uk uv)
 |[],i,bs,cc,f,u,v,_,I,_,_=>⟨_,J,J,u,v,bs,f.R,f.uk,f.uv,J,J,I⟩
 |x::L,i,bs,cc,f,u,v,j,I,r,s=>by
  rw[ee]at r s;obtain⟨⟨t,m1⟩,e,b,R,uk,uv,z,D⟩:=l x i cc f (j x<|d_ ..) I (by lia)
  cases z;have g:=Dl (u0:=u0) l L (i+1) (bs++[b]) _ _ (px i) (sv x.cond) (λy q=>j y<|ed _ q) D (by lia) (by simp;lia)
  rw[gk]at g;refine Jt J<|W.of (ya J (mE J (b_ I.Rw 1) J J e) J<|by rw[cH];lia) ⟨J,g.mono λp h=>⟨h.1,?_⟩⟩
  obtain⟨_,n,m,Ō,A,d,a,q2,o,q4⟩:=h;exact⟨n,m,Ō,A,d,a,q2,by rw[o,cV,gY,ee];lia,by rw[ee,show cc+13*(Kk L+1)=cc+13+13*Kk L by lia];exact q4⟩
def Oz{g:Fn}(h:(∀(x:LN)(i:Int)(cc:Nat)(f:KF),x.good=O->TO rows w cc f->cc+20<900000->W (g [.own<|w+1,.int i,x.cond,bO k,.lst<|B.map bO]<|st w f jj c) (TB rows w (cc+13) f jj c)))(d:∀x∈f.ln,x.good=O)(n:Kk f.ln<=24)(I:TO rows w cc f)(o:cc+400<800000):W (ã (ups u0 92 g) [.own<|w+1,bO k,.lst<|B.map bO]<|st w f jj c) λp=>∃(bs:Fs)(R:FX)(uk:List Ky)(uv:FR),p=(.lst<|bs.map T.bl,st w (f.up R uk uv) jj c)/\bs.length=Kk f.ln/\TO rows w (cc+312) (f.up R uk uv):=by
 refine gK J<|nZ<|W.of J ⟨J,nZ<|yb<|W.of (a:=(eG 0 _,⟨[sv<|.own<|w+1,sv<|bO k,Iy<|B.map bO,U<|.ol [],Y,Y],st w f jj c⟩)) ?_<|(Dl h f.ln 0 [] cc f Y Y d I (by lia) (by show 0+_<_;lia)).mono λp b=>⟨b.1,?_⟩⟩
 .unfold jc
  rw[J1 J (b_ I.Rw 1) J J];rfl
 .obtain⟨_,u,v,bs,R,uk,uv,e,m,l⟩:=b
  rw[e];exact K8 J ⟨bs,R,uk,uv,J,by rw[m];exact yO _,l.mono<|by lia⟩
def qx(e:Nat):Nat->Nat×Bool
 |0|1=>(0,decide<|0<e)
 |_=>(e,ZA)
def Is.nx(I:Is (qx e tk) 0 N tk b c)(h:0<tk->e<=b):Is (qx e<|tk+1) 0 N tk b c:=by
 match tk with
 |0=>exact I
 |1=>
  have h:=h (by decide)
  rcases Nat.eq_zero_or_pos e with rfl|z
  .exact I
  have k:2*Kk c.ks+e<=b:=by rw[I.i.kz<|de z,Ge];lia
  exact⟨{I.i with hd:=I.i.hd.imp id λ⟨l,e,x,_⟩=>⟨l,e,x,nofun⟩,n1:=c_ k (bx ..),n2:=.inr k,wq:=λz=>⟨k,(I.i.wq z).2⟩,kz:=nofun},I.sl⟩
 |_+2=>exact I
def abn:∀{k:Nat},(qx e<|k+1).2=O->k=0/\0<e
 |0,q=>⟨J,bh q⟩
 |_+1,q=>nomatch q
def WK(e:Nat)(rows:List Tx)(ln:List LN)(bm:T)(w tk cc b:Nat)(m:FX):Prop:=∃f jj c,m=st w f jj c/\f.ln=ln/\f.bm=bm/\f.tk=tk/\FO w f/\TO rows w cc f/\Is (qx e tk) 0 ln.length tk b c/\c.wt=O/\(0<tk->e<=b)
def VV{g:Fn}(o:W (g [.own<|w+1,bO k,.lst<|B.map bO]<|st w f jj c) λp=>∃(bs:Fs)(R:FX)(uk:List Ky)(uv:FR),p=(.lst<|bs.map T.bl,st w (f.up R uk uv) jj c)/\bs.length=Kk f.ln/\TO rows w (cc+312) (f.up R uk uv))(F:FO w f)(I:TO rows w cc f)(y:Is Q 0 f.ln.length f.tk b c)(D:f.tk+1<=13)(l:c.wt=O)(hk:k<Kk rows)(i:Q.2=O->nf rows[k]=O)(hB:∀j∈B,j<Kk rows)(E:Kk B<=12)(z:LfO f lf)(q:1<=b)(Č:b+Kk lf+1<=300)(G:cc+400<800000):WX (Wr (ups (cN<|n+11) 91 g) [.own w,bO k,.lst<|B.map bO]<|st w f jj c) λp=>∃f' d c',p.2=st w f' d c'/\f'.ln=f.ln/\f'.bm=f.bm/\f'.tk=f.tk+1/\FO w f'/\TO rows w (cc+312) f'/\Is Q 0 f.ln.length (f.tk+1) (b+Kk lf+1) c'/\c'.wt=O:=by
 obtain⟨⟨t,m1⟩,e,bs,R,uk,uv,v,r,a⟩:=o;cases v;have A:FO w _:=⟨a.Rw,F.L,F.n⟩;have h:=vB (jj:=jj) (n+1) A r (I.ro.tx _<|wc hk) i y l q z (bL _) Č D;have s:k2 (qX<|az M.P.tab 14 zB) (qX<|aG (aw [(25,91)]<|ups (cN<|n+11) 91 g) (az M.P.tab 19 zA)<|k2 zB zC) ⟨[sv _,sv _,sv _],st w f jj c⟩=.ok _:=aA (E1<|jN I hk J J J J)<|aA (E1<|CM (c9 F.R J J) (b_ F.R 1) J J e) J;refine yq J ?_;apply Di;refine ň J (b_ F.R 0) J s ?_;refine WX.mono h λp m=>.inl ⟨J,?_⟩;obtain⟨d,mt,c',u,Ĵ,x⟩:=m;exact⟨_,d,c',u,J,J,J,⟨a.Rw,F.L,F.n⟩,⟨a.ro,a.w,a.up⟩,x,Ĵ⟩
def OA{e:Nat}{g:Fn}(s:∀(f:KF)(jj:FX)(c:KC),TO rows w cc f->FO w f->W (g [.own<|w+1,bO k,.lst<|B.map bO]<|st w f jj c) λp=>∃(bs:Fs)(R:FX)(uk:List Ky)(uv:FR),p=(.lst<|bs.map T.bl,st w (f.up R uk uv) jj c)/\bs.length=Kk f.ln/\TO rows w (cc+312) (f.up R uk uv))(hk:k<Kk rows)(hB:∀j∈B,j<Kk rows)(r:Kk B<=12)(M:∀(i:Nat)(h:i<Kk ln),ln[i].dF=ZA->Ky.i ((i+1:Nat):Int)∈lf)(u:1<=b)(Č:b+Kk lf+1<=300)(t:cc+400<800000)(a:k+1<=13)(he:e<=Kk lf+1)(l:0<e->∀h:0<Kk rows,nf rows[0]=O)(K:WK e rows ln bm w k cc b m):WX (Wr (ups (cN<|n+11) 91 g) [.own w,bO k,.lst<|B.map bO] m) λp=>WK e rows ln bm w (k+1) (cc+312) (b+Kk lf+1) p.2:=by
 obtain⟨f,jj,c,rfl,rfl,rfl,rfl,F,I,L,o,N⟩:=K;exact(VV n (s f jj c I F) F I (L.nx N) a o hk (λq=>by
  obtain⟨E,d⟩:=abn q;simp only[E];exact l d _) hB r M u Č t).mono λp ⟨G,P,H,d,D,C,A,z,y,x,v⟩=>⟨G,P,H,d,D,C,A,z,y,x,v,λ_=>by lia⟩
end
section
variable{Q:Nat×Bool}{X w b N:Nat}{f:KF}{jj:FX}{c c':KC}{x:LN}{v:Option C}
def yr(L:List LN):Nat:=(L.filter LN.dF).length
theorem mU(n:Nat)(h:Kk f.R=w)(s:f.tk<=13)(k:B<=300):∀(L:List LN)(X b:Nat)(c:KC)(v:Option C),(∀y∈L,y.ms=O/\y.good=O/\(y.dF=O->Kk c.ks<64/\c.ks.length*(hB f.tk B+71)<=z))->In Q X N f.tk b c->b+Kk L<=B->W (aX (setG 1) (CO<|cN<|n+3) (aF L)<|sW w [v] f jj c) λp=>p.1=.nx/\∃(g:Option C)(c':KC),p.2=sW w [g] f jj c'/\In Q (X+z*yr L) N f.tk (b+Kk L) c'
 |[],X,b,c,v,_,I,_=>⟨_,J,J,v,c,J,I⟩
 |x::L,X,b,c,v,q,I,A=>by
  rw[ee]at A;obtain⟨F,E,m⟩:=q x<|d_ ..;have l:D.tB (dg _<|az M.P.tab 1 zB) _=.ok (x.dF,sW w [sv x.val] f jj c):=qi J<|vA x;by_cases a:x.dF=O
  .have u:yr (x::L)=yr L+1:=by unfold yr;rw[Gq a];rfl
   obtain⟨d,rfl⟩:∃d,x=.full .fin d:=by
    cases x with
    |full K d=>cases K with
     |fin=>exact⟨d,J⟩
     |_=>cases a
    |_=>cases a
   have m:=m J;obtain⟨⟨t,S⟩,e,H,c',G,i,hk⟩:=tM n d F (kL.mp<|show(CD.fin.qv&&d.good)=O from E).2 I h ⟨by lia,s⟩ λ_=>⟨m.1,c_ (AS _<|gX (iK (bL _)<|by lia) _) m.2⟩
   cases G;refine Jt J<|jh l<|W.of (fH h J e) ⟨J,(mU n h s k L _ _ c' _ (λy o=>by rw[hk];exact q y<|ed _ o) i.i<|by lia).mono λp j=>⟨j.1,?_⟩⟩
   obtain⟨_,g,c2,e,i⟩:=j;exact⟨g,c2,e,by rw[ee,show b+(Kk L+1)=b+1+Kk L by lia,u,O1,show X+(z*yr L+z)=X+z+z*yr L by lia];exact i⟩
  .have a:=by simpa using a
   have u:yr (x::L)=yr L:=by unfold yr;rw[Gs<|by rw[a];exact eU]
   rw[a]at l;refine Jt J<|b8 l ⟨_,J,J,(mU n h s k L X _ c _ (λy o=>q y<|ed _ o) I.up.i<|by lia).mono λp j=>⟨j.1,?_⟩⟩
   obtain⟨_,g,c',e,i⟩:=j;exact⟨g,c',e,by rw[ee,show b+(Kk L+1)=b+1+Kk L by lia,u];exact i⟩
def E4(F:FO w f)(K:Kk f.ln<=10)(N:f.tk<=13)(I:In Q X f.ln.length f.tk b c)(Z:b+14<=300)(A:(Kk c.ks<64/\c.ks.length*(hB f.tk (b+14)+71)<=z)\/∀y∈f.ln,y.dF=ZA):W (cN (n+4) 101 [.own w]<|st w f jj c) λp=>p.1=.non/\∃c',p.2=st w f jj c'/\In Q (X+z*yr f.ln) 1000 f.tk (b+14) c':=by
 have h:=F.R;rw[wI _ 101 J];have o:∀(c:KC)(d:Nat),c.hand=.non->In Q X f.ln.length f.tk d c->d+11<=b+14->((Kk c.ks<64/\c.ks.length*(hB f.tk _+71)<=z)\/∀y∈f.ln,y.dF=ZA)->W (ah (gS M.bc (az M.P.tab 29 zA)<|aU cz<|k1<|cS [101,110,100]) (dD (jV<|az M.P.tab 0 zA) (setG 1)<|CO<|cN<|n+3)<|sW w [Y] f jj c) λp=>p.1=.nx/\∃c',p.2.m=st w f jj c'/\In Q _ 1000 f.tk (b+14) c':=λc d V I Ff A=>by
  have I:In Q X 1000 f.tk d c:={I with ps:=c_ I.ps (c_ K<|by decide),op:=λq=>dw V (I.op q).1}
  have I1:Is Q X 1000 f.tk _<|c.log [.fin]:=I.go _ I.ps I.hd.up I.wh ⟨I.Eg,I.nd⟩ J J J J (by show 1<=_;lia) (λl h=>by cases dJ.mp h) J (by show 0+_<=_;lia)
  refine rQ<|W.of (qJ h J<|by have:=I.z ?_<;>lia) ⟨J,yb<|W.of (NJ (c9 h J J) J)<|(mU n h N Z f.ln X _ (c.log [.fin]) Y (λy E=>⟨(F.L y E).ms,(F.L y E).good,λz=>A.resolve_right λq=>by rw[q y E]at z;cases z⟩) I1.i<|by lia).mono λp v=>⟨v.1,?_⟩⟩
  obtain⟨_,v',c',e,i⟩:=v;obtain⟨k,hk⟩:∃k,b+14=(d+1+Kk f.ln)+k:=⟨b+14-(d+1+Kk f.ln),by lia⟩
  refine⟨c',by rw[e],?_⟩
  rw[hk];cases k with
  |zero=>exact i
  |succ k=>exact(i.up.le<|by lia).i
 have fin:∀{s:S}{B:FS},(W (B s) λp=>p.1=.nx/\∃c',p.2.m=st w f jj c'/\In Q _ 1000 f.tk _ c')->W (B s) λp=>p.1=.nx/\(T.non,p.2.m).1=.non/\∃c',(T.non,p.2.m).2=st w f jj c'/\In Q (X+z*yr f.ln) 1000 f.tk (b+14) c':=λh=>h.mono λp v=>⟨v.1,J,v.2⟩;have H:=(I.go (c':=c.log [.noo<|f.tk+1]) _ I.ps I.hd.up I.wh ⟨I.Eg,I.nd⟩ J J J J (by show 1<=_;lia) (λl h=>by cases dJ.mp h) J<|by show 0+_<=_;lia).i
 refine dS J<|rQ<|W.of (fH h J<|C6 _ h<|by have:=I.z ?_<;>lia) ⟨J,?_⟩
 rcases I.hd with j|⟨l,j,_⟩
 .have G:a_ (bF (aM .IsNot) (az M.P.tab 24 zA)<|cF .non) _=.ok (ZA,sW w [Y] f jj<|c.log [.noo<|f.tk+1]):=dU<|pE (c9 h J<|ej (λx=>U<|D.C.val x) j) J J
  exact rQ<|b8 G ⟨_,J,J,fin<|o _ _ j H (by lia) A⟩
 .have G:a_ (bF (aM .IsNot) (az M.P.tab 24 zA)<|cF .non) _=.ok (O,sW w [Y] f jj<|c.log [.noo<|f.tk+1]):=dU<|pE (ja (c:=c.log [.noo<|f.tk+1]) h j) J J
  have z1:=H.z<|by lia
  have g:=(vt H j).i;have z2:=g.z<|by lia
  have e2:=(g.go (c':=(KC.rest {c.log [.noo<|f.tk+1]with lg:=(c.log [.noo<|f.tk+1]).lg++[.give l]} f).log [.noo<|f.tk+1]) [.noo<|f.tk+1] g.ps g.hd.up g.wh ⟨g.Eg,g.nd⟩ J J J J (by show 1<=_;lia) (λl h=>by cases dJ.mp h) J<|by show 0+_<=_;lia).i
  exact rQ<|jh G<|rQ<|W.of (fH h J<|vo n h j<|by lia) ⟨J,W.of (fH h J<|C6 (n+2) h<|by lia) ⟨J,fin<|o _ _ J e2 (by lia) A⟩⟩
end
def NkO(N:Nat)(t:T):Prop:=∃k:Nat,t=.int (k:Nat)/\k<=N
theorem vC:∀(xs:List LN)(j:Nat)(ks:List Ky)(ts:FR)(u v:Option C)(b:Nat),DI (λ_=>True) (NkO N) b ks ts->b+Kk xs<=500->j+Kk xs<=N+1->∃c d g f,aX (dc [2,3]) Vu (eG (j:Nat)<|aF xs) ⟨[R,U<|.od ks ts,u,v],[]⟩=.ok (.nx,⟨[R,U<|.od c d,g,f],[]⟩)/\DI (λ_=>True) (NkO N) (b+Kk xs) c d/\(∀k∈ks,k∈c)/\∀a∈names xs,Ky.s a∈c
 |[],j,ks,ts,u,v,b,I,_,_=>⟨ks,ts,u,v,J,I,λ_ h=>h,λ_ h=>nomatch h⟩
 |x::xs,j,ks,ts,u,v,b,I,A,w=>by
  rw[ee]at A w;have hs:dc [2,3] (.tup [.int j,x.val]) [R,U<|.od ks ts,u,v]=U _:=J;have l:D.tB (dg _<|az M.P.tab 2 zD) _=.ok (x.name.isSome,⟨[R,U<|.od ks ts,px j,sv x.val],[]⟩):=yL<|K9 J<|JM x;cases i:x.name with
  |none=>
   rw[i]at l;have q:names _=names xs:=Gp i;rw[q];obtain⟨c,d,g,f,e,p,m,o⟩:=vC xs (j+1) ks ts _ _ (b+1) (I.mono (bx ..) (λ_ h=>h) λ_ h=>h) (by lia) (by lia)
   exact⟨c,d,g,f,c8 hs (je l J) e,by rw[ee,show b+(Kk xs+1)=b+1+Kk xs by lia];exact p,m,o⟩
  |some a=>
   have ex:=tD i;subst ex;obtain⟨c,d,g,f,e,p,m,o⟩:=vC xs (j+1) _ _ _ _ _ (I.put trivial ⟨j,J,by lia⟩) (by lia) (by lia)
   have r:K6 1 (az M.P.tab 9<|az M.P.tab 2 zD) zC ⟨[R,U<|.od ks ts,px j,sv (LN.mark a).val],[]⟩=.ok (.nx,⟨[R,U<|.od (bw ks ts (.s a)<|.int j).1 (bw ks ts (.s a)<|.int j).2,px j,sv (LN.mark a).val],[]⟩):=by
    show Res.bind _ _=_;rw[gG<|rh I.le<|by lia];rfl
   refine⟨c,d,g,f,c8 hs (x9 l r) e,by rw[ee,show b+(Kk xs+1)=b+1+Kk xs by lia];exact p,λk hk=>m k ?_,λy n=>?_⟩
   .by_cases z:Ky.s a∈ks
    .rw[vh z];exact hk
    .rw[i_ z];exact lR _ hk
   .rcases bH.mp n with rfl|n
    .exact m _ vj
    .exact o y n
theorem kF:∀{ts:FR},(∀t∈ts,noOwn t=O)->aB ts=O
 |[],_=>J
 |t::ts,h=>by
  show(noOwn t&&aB ts)=O;rw[h t<|d_ ..,kF λu a=>h u<|ed _ a];rfl
def OB(f:Kk L<=24):∃ks ts,DI (λ_=>True) (NkO L.length) 24 ks ts/\(∀a∈names L,Ky.s a∈ks)/\∀m,cN (n+1) 33 [.lst<|aF L] m=.ok (.fh ks ts,m):=by
 rw[wI _ 33 J];obtain⟨ks,ts,u,v,e,b,_,d⟩:=vC (N:=Kk L) L 1 [] [] Y Y 0 DI.nil (by lia) (by lia)
 refine⟨ks,ts,b.mono (by lia) (λ_ h=>h) λ_ h=>h,d,λm=>?_⟩
 exact eL (ø<|cD L) (iI J (seq1 J<|seq1 (u6 J e) J) J)<|kF λt c=>by
  obtain⟨k,rfl,_⟩:=b.q t c;rfl
section
variable{m:FX}{x:B1}{a:FE}
def yt{a:Type}{m:List a}{x:a}:(m++[x])[Kk m]?=U x:=by
 rw[iw<|bL _,nH];rfl
def yu{a:Type}{m:List a}{x y:a}:(m++[x]).set m.length y=m++[y]:=by
 rw[A8 _ _<|bL _,nH];rfl
def Kq{a:Type}{m:List a}{k:Nat}{ob x:a}(h:m[k]?=U ob):(m++[x])[k]?=U ob:=by
 rw[jP (dq.mp h).1];exact h
def Kr(c:a ⟨IH m.length::r,m++[ob]⟩=.ok (t,⟨IH m.length::r,m++[ob]⟩))(b:gz M.P.tab f (.val t) ob=U nz):aO M.P.tab f zA a ⟨IH m.length::r,m++[ob]⟩=.ok (.nx,⟨IH m.length::r,m++[nz]⟩):=by
 unfold aO;rw[c];show Res.bind (bj _) _=_;rw[yt];show Res.bind (bj<|gz M.P.tab f _ ob) _=_;rw[b];show Res.ok _=_;rw[yu]
def Rq(a:gz M.P.tab f (.val<|.own<|m.length+1) ob=U nz):aO M.P.tab f zA (mG M.bc) ⟨IH m.length::r,m++[ob]⟩=.ok (.nx,⟨IH m.length::r,m++[nz,dB [] []]⟩):=by
 show Res.bind (bj _) _=_;rw[Kq yt,cV];show Res.bind (bj<|gz M.P.tab f (.val<|.own<|m.length+1) ob) _=_;rw[a];have e:(m++[ob]++[dB [] []]).set m.length nz=m++[nz,dB [] []]:=by
  rw[PF _ _<|by simp,yu,iN];rfl
 exact ej (λz=>Res.ok (Out.nx,(⟨_,z⟩:S))) e
def Ks(a:Kk m=2*i):cN (n+1) 88 [.own m.length,.str x,.int ((i+1:Nat):Int)] (m++[⟨24,[]⟩])=.ok (.non,m++[lM x i,dB [] []]):=by
 rw[wI _ 88 J];exact x_ J (seq1 (Kr J J)<|seq1 (Kr J J)<|Rq<|by rw[a];rfl) J
def qP:Nat->List Tx->FX
 |_,[]=>[]
 |i,x::l=>lM x i::dB [] []::qP (i+1) l
theorem vD:∀(i:Nat)(l:List Tx),(qP i l).length=2*Kk l
 |_,[]=>J
 |i,x::l=>by
  show(qP _ l).length+1+1=2*(Kk l+1);rw[vD _ l];lia
theorem Ku:∀(l:List Tx)(i k:Nat)(row:Tx),l[k]?=U row->(qP i l)[2*k]?=U (lM row<|i+k)/\(qP i l)[2*k+1]?=U (dB [] [])
 |[],_,_,_,h=>by simp at h
 |x::l,i,0,row,h=>by
  simp at h;subst h;exact⟨J,J⟩
 |x::l,i,k+1,row,h=>by
  obtain⟨a,b⟩:=Ku l _ k row (by simpa using h)
  rw[show i+1+k=i+(k+1) by lia]at a
  exact⟨a,b⟩
theorem Dm(n:Nat):∀(l:List Tx)(i:Nat)(m:FX),Kk m=2*i->bu (dc [1,2]) fj (kc 24 (cN (n+1) 88)<|k2 zC zB) [Y,Y,Y] (eG ((i+1:Nat):Int)<|af l) m=.ok ((fX i l.length).map bO,m++qP i l)
 |[],i,m,_=>by
  rw[show qP i []=[]from J,cJ];rfl
 |x::l,i,m,a=>by
  have b:=Dm n l (i+1) (m++[lM x i,dB [] []]) (by simp;lia)
  show bu _ _ _ _ (eG _<|T.str x::af l) m=_;rw[eG];have e:kc 24 _ (k2 zC zB) ⟨[Y,px ((i+1:Nat)),sv _],m⟩=.ok (.own m.length,⟨[Y,px ((i+1)),sv _],m++[lM x i,dB [] []]⟩):=Vx (s':=⟨[Y,px ((i+1)),sv _],m⟩) J<|Ks n a;show Res.bind (kc _ _ _ ⟨[Y,px ((i+1:Nat)),sv _],m⟩) _=_;rw[e];show Res.bind (bu _ _ _ _ (eG (((i+1+1:Nat))) _) _) _=_;rw[b];show Res.ok _=_;rw[ee,Gv,a,iN];rfl
def OC(c:Kk rows<=1000):cN (n+2) 24 [.lst<|af rows] []=.ok (.lst<|(fX 0 rows.length).map bO,qP 0 rows):=by
 rw[wI _ 24 J];have b:∀(i:Int)(l:FR),(eG i l).length=Kk l:=λi l=>by
  induction l generalizing i with
  |nil=>rfl
  |cons t l a=>exact ej (· + 1)<|a _
 exact iI J (jE<|nC<|qh J (by rw[b,cH];lia)<|Dm n rows 0 [] J) J
end
section
variable{m Z Z':FX}{L:List LN}{t bm:T}
theorem yv:∀(L:List LN)(m:FX),bu (setG 1) fj (az M.P.tab 1 zB) [Y,Y] (aF L) m=.ok (L.map LN.cond,m)
 |[],_=>J
 |q::L,m=>cgS J J<|yv L m
def yw(d:Kk L<=1000):cN (n+1) 90 [.own m.length,.lst<|aF L] (m++[⟨25,[]⟩])=.ok (.non,m++[⟨25,[.val<|.lst<|L.map LN.cond,.val<|.own<|m.length+1]⟩,dB [] []]):=by
 rw[wI _ 90 J];obtain⟨a,b⟩:∃a:Ob,a=⟨25,[]⟩:=⟨_,J⟩;rw[<- b];have c:eW (dh (jV zB) 2 [] _ fj _) ⟨IH m.length::[Iy _],m++[a]⟩=.ok _:=nC<|qh (s1:=⟨sv _::[sv _],m++[a]⟩) J (by rw[cH];lia)<|yv L _
 exact x_ J (seq1 (Kr c<|by rw[b];rfl)<|Rq J) J
def Dp{a:Type}{m Z:List a}{x:a}:(m++x::Z)[Kk m]?=U x:=by
 rw[iw<|bL _,nH];rfl
def OD{a:Type}{m Z:List a}{x y:a}:(m++x::Z).set m.length y=m++y::Z:=by
 rw[A8 _ _<|bL _,nH];rfl
def č(c:a ⟨IH m.length::r,m++ob::Z⟩=.ok (t,⟨IH m.length::r,m++ob::Z'⟩))(b:gz M.P.tab f (.val t) ob=U nz):aO M.P.tab f zA a ⟨IH m.length::r,m++ob::Z⟩=.ok (.nx,⟨IH m.length::r,m++nz::Z'⟩):=by
 unfold aO;rw[c];show Res.bind (bj _) _=_;rw[Dp];show Res.bind (bj<|gz M.P.tab f _ ob) _=_;rw[b];exact ej (λz=>Res.ok (Out.nx,(⟨sv _::r,z⟩:S))) OD
def Rr(a:iV M.P.tab ob.c f=U j)(b:ob.fs[j]?=sv t):az M.P.tab f zA ⟨IH m.length::r,m++ob::Z⟩=.ok (t,⟨IH m.length::r,m++ob::Z⟩):=J1 J Dp a b
def Rt:(Res.ok (T.own (m++ob::Z).length,(⟨IH m.length::r,m++ob::Z++[⟨M.bc,[c]⟩]⟩:S)):Res<|T×S)=.ok (.own<|m.length+1+Kk Z,⟨IH m.length::r,m++ob::(Z++[⟨M.bc,[c]⟩])⟩):=by
 rw[iN,cV,ee,show Kk m+(Kk Z+1)=Kk m+1+Kk Z by lia];rfl
def Kv:mG M.bc ⟨IH m.length::r,m++ob::Z⟩=.ok (.own<|m.length+1+Kk Z,⟨IH m.length::r,m++ob::(Z++[dB [] []])⟩):=Rt
def Ru:wW M.bc (jY aT) ⟨IH m.length::r,m++ob::Z⟩=.ok (.own<|m.length+1+Kk Z,⟨IH m.length::r,m++ob::(Z++[lB []])⟩):=Rt
def La(m:FX)(L:List LN)(bm:T):KF:=⟨m,dB [] [],L,bm,[],[],0,.lst [],Kk m+3⟩
def kc0:KC:=⟨0,.non,0,ZA,[],[],[],[],[],[]⟩
def Wt:KC:=⟨0,.non,0,O,[],[],[],[],[],[.want 1]⟩
abbrev wO(m:FX)(L:List LN)(bm:T)(k:Nat):Ob:=⟨26,(iJ m.length (La m L bm) kc0).fs.take k⟩
def gU(c:a ⟨IH m.length::r,m++wO m L bm k::Z⟩=.ok (t,⟨IH m.length::r,m++wO m L bm k::Z'⟩))(b:gz M.P.tab f (.val t) (wO m L bm k)=U (wO m L bm<|k+1))(h:W (B ⟨IH m.length::r,m++wO m L bm (k+1)::Z'⟩) Q):W (ah (aO M.P.tab f zA a) B ⟨IH m.length::r,m++wO m L bm k::Z⟩) Q:=rQ<|W.of (č c b) ⟨J,h⟩
def yx(d:Kk L<=24)(g:cN (n+1) 33 [.lst<|aF L] (m++[wO m L bm 1])=.ok (bm,m++[wO m L bm 1])):cN (n+2) 94 [.own m.length,.obj 0 [.lst<|aF L]] (m++[⟨26,[]⟩])=.ok (.non,st m.length (La m L bm) [] Wt):=by
 refine W.eq ?_;rw[wI _ 94 J];obtain⟨pg,c⟩:∃pg:T,pg=.obj 0 [.lst<|aF L]:=⟨_,J⟩;rw[<- c];obtain⟨tT,b⟩:∃tT:Ob,tT=⟨25,[.val<|.lst<|L.map LN.cond,.val<|.own<|m.length+2]⟩:=⟨_,J⟩;refine dS J ?_;show W (ah _ _ ⟨sv _::[sv pg],m++wO m L bm 0::[]⟩) _;refine gU (by rw[c];rfl) J ?_
 refine gU (cM (aA (Rr J J) J) g) J ?_;refine gU (Z':=[tT,dB [] []]) ?_ J ?_
 .obtain⟨a,hB⟩:∃a:Ob,a=wO m L bm 2:=⟨_,J⟩
  have h:k1 (az M.P.tab 0 zA) ⟨IH m.length::[sv pg],m++a::[]⟩=.ok ([.lst<|aF L],⟨IH m.length::[sv pg],m++a::[]⟩):=by rw[hB];exact aA (Rr J J) J
  rw[<- hB];refine Eq.trans (ej (λx=>Res.bind x _) h) ?_;apply dN;have q:=yw n (m:=m++[a])<|c_ d<|by decide
  rw[q];show Res.ok _=_;rw[cV,iN,b];rfl
 refine gU J J<|gU J J<|gU Kv J<|gU J J<|gU J J<|gU J J<|gU Kv J<|gU Kv J ?_;refine gU Ru J<|gU Ru J<|gU J J ?_;have e:m++wO m L bm 14::[tT,dB [] [],dB [] [],dB [] [],dB [] [],lB [],lB []]=st m.length (La m L bm) [] kc0:=by rw[b];rfl
 show W (aQ _ ⟨sv _::[sv pg],m++wO m L bm 14::[tT,dB [] [],dB [] [],dB [] [],dB [] [],lB [],lB []]⟩) _;rw[e];exact W.of (fH J J<|vm n J<|by decide) ⟨J,J⟩
end
section
variable{B:FS}{f:Fn}{m:FX}{G:T×FX->Prop}
def Ď(h:d t s.r=U r)(k:WX (B ⟨r,s.m⟩) λp=>p.1=.nx/\WX (aX d B ts p.2) j):WX (aX d B (t::ts) s) j:=by
 rw[aX,h];refine WX.bind<|W.e ⟨_,J,WX.bind<|k.mono λp a=>?_⟩;obtain⟨o,b⟩:=p;obtain⟨rfl,a⟩:=a;exact a
def abp(h:src s=.ok (ts,s1))(k:WX (aX d B ts s1) j):WX (dD (rN src) d B s) j:=WX.bind<|W.e ⟨_,Az h,k⟩
def ď(h:aB ts=O)(k:WX (f ts []) λp=>noOwn p.1=O/\G (p.1,m)):WX (aK f ts m) G:=by
 unfold aK;rw[bt h];cases a:f ts []with
 |ok q=>
  rw[a]at k;show WX (if noOwn _=O then _ else _) _
  rw[bt k.1];exact k.2
 |exc c fs s=>
  rw[a]at k;show WX _ _
  obtain⟨rfl,i,j,rfl⟩:=k;exact⟨J,i,j,J⟩
 |bad=>rw[a]at k;exact k.elim
end
def vP:List LN->Nat->List Ky
 |[],_=>[]
 |x::l,i=>if x.dF then vP l (i+1)else .i ((i+1:Nat):Int)::vP l (i+1)
theorem Kw:∀(l:List LN)(i j:Nat)(h:j<Kk l),l[j].dF=ZA->Ky.i ((i+j+1:Nat):Int)∈vP l i
 |x::l,i,0,h,a=>by
  have a:x.dF=ZA:=a;unfold vP;rw[b0<|by rw[a];exact eU]
  exact d_ ..
 |x::l,i,j+1,h,a=>by
  have b:=Kw l (i+1) j (Nat.lt_of_succ_lt_succ h) a;rw[show i+1+j+1=i+(j+1)+1 by lia]at b
  unfold vP;split
  .exact b
  .exact ed _ b
theorem vG:∀(l:List LN)(i:Nat),(vP l i).length<=Kk l/\((∀y∈l,y.dF=ZA)\/(vP l i).length+1<=Kk l)
 |[],_=>⟨bL _,.inl λ_ h=>nomatch h⟩
 |x::l,i=>by
  obtain⟨b,c⟩:=vG l _;unfold vP;split
  . exact⟨c_ b<|bx ..,.inr<|gX b 1⟩
  .rename_i h
   refine⟨gX b 1,c.imp (λq y a=>?_) λq=>gX q 1⟩;rcases bH.mp a with rfl|a
   .simpa using h
   .exact q y a
theorem Kz:∀(l:List LN)(i:Nat),(vP l i).length+yr l=Kk l
 |[],_=>J
 |x::l,i=>by
  have a:=Kz l<|i+1;unfold yr at a;unfold vP yr;cases h:x.dF with
  |true=>rw[Gq h,ee,ee];lia
  |false=>rw[b0 eU,Gs<|by rw[h];exact eU,ee,ee];lia
section
variable{rows:List Tx}{w i d q:Nat}{ln:List LN}{bm P t0:T}{m:FX}{u v:Option C}
def Đ(K:WK e rows ln bm w tk cc b m):∃f c,m[w]?=U (iJ w f c):=by
 obtain⟨f,a,c,rfl,_,_,_,F,_⟩:=K;exact⟨f,c,b_ F.R 0⟩
def yC(a:i<=13)(b:q<=10):i*(q+1)<=143:=rV a<|show q+1<=11 by lia
theorem Dq{g:Fn}{e:Nat}(s:(∀(k:Nat)(B:B1)(lf:List Ky)(cc b:Nat)(m:FX),k<Kk rows->(∀j∈B,j<Kk rows)->Kk B<=12->(∀(i:Nat)(h:i<Kk ln),ln[i].dF=ZA->Ky.i ((i+1:Nat):Int)∈lf)->1<=b->b+Kk lf+1<=300->cc+400<800000->k+1<=13->e<=Kk lf+1->WK e rows ln bm w k cc b m->WX (g [.own w,bO k,.lst<|B.map bO] m) λp=>WK e rows ln bm w (k+1) (cc+312) (b+Kk lf+1) p.2))(hr:Kk rows<=13)(n:(vP ln 0).length=q)(l:q<=10)(he:e<=q+1):∀(d i:Nat)(m:FX)(u v:Option C),i+d=Kk rows->WK e rows ln bm w i (312*i) (1+i*(q+1)) m->WX (aX (dc [4,5]) (aQ<|Cm 26 g zD<|k2 (qX<|vF 5)<|qX<|jU zC (gQ<|vF 4) oq) (eG ((i+1:Nat):Int)<|(fX i d).map bO) ⟨[sv P,sv t0,Iy<|(fX 0 rows.length).map bO,sv<|.own w,u,v],m⟩) λp=>p.1=.nx/\∃u v m',p.2=⟨[sv P,sv t0,Iy<|(fX 0 rows.length).map bO,sv<|.own w,u,v],m'⟩/\WK e rows ln bm w rows.length (312*Kk rows) (1+Kk rows*(q+1)) m'
 |0,i,m,u,v,h,K=>by
  have D:i=Kk rows:=by lia
  subst D;exact⟨J,u,v,m,J,K⟩
 |d+1,i,m,u,v,h,K=>by
  obtain⟨f,c,A⟩:=Đ K;have F:=yC (show i<=13 by lia) l
  have tk:=s i ((fX 0 rows.length).drop<|i+1) _ _ _ m (by lia) (λj o=>by
   have:=List.mem_range'.mp<|rW o
   lia) (by rw[kO,PH];lia) (λj o he=>by
   have:=Kw ln 0 j o he
   rw[yO]at this;exact this) (by lia) (by lia) (by lia) (by lia) (by rw[n];exact he) K
  have E:1+i*(q+1)+(vP ln 0).length+1=1+(i+1)*(q+1):=by rw[rf];lia
  rw[E]at tk;refine Ď J<|Di<|ň J A J (aA (E1 J)<|aA (E1<|Ju J J J<|by show U _=_;rw[jF,v9]) J)<|tk.mono λp z=>⟨J,?_⟩
  exact Dq s hr n l he d _ _ _ _ (by lia) z
theorem Rv:∀(lg:List Ev)(m:FX),bu (setG 1) (a_<|oE (oI zB zO)<|cS zg) (oI zB zI) [Y,Y] (lg.map Ev.val) m=.ok (af<|gives lg,m)
 |[],_=>J
 |e::lg,m=>by
  have a:=Rv lg m;apply dN;cases e with
  |give l=>
   have c:a_ (oE (oI zB zO)<|cS zg) ⟨[Y,sv (Ev.give l).val],m⟩=.ok (O,⟨[Y,sv _],m⟩):=J;show Res.bind (a_ _ ⟨[Y,sv _],m⟩) _=_;rw[c];apply dN;rw[bt J];apply dN;rw[a];rfl
  |_=>
   refine Eq.trans (b:=bu _ _ _ _ _ m) ?_ (by rw[a];rfl)
   rfl
theorem yD:∀lg:List Ev,aB (lg.map Ev.val)=O
 |[]=>J
 |e::lg=>by
  show(noOwn e.val&&aB _)=O;rw[yD lg];cases e<;>rfl
def KA(a:Kk lg<=1000000):cN (n+1) 32 [.lst<|lg.map Ev.val] m=.ok (.lst<|af<|gives lg,m):=by
 rw[wI _ 32 J];exact eL (ø<|yD lg) (iI J (jE<|nC<|qh J (by rw[cH];exact a)<|Rv lg []) J)<|aY _
end
abbrev jn(rows:List Tx):Tx:=fm [10] rows
def fV(rows:List Tx):Bool:=rows.getLast? == U []
def vH(rows:List Tx)(e:Bool):Tx:=if rows=[]then[]else if(e ||fV rows)=O then jn rows++[10]else jn rows
def Ct(t:Tx)(rows:List Tx)(e:Bool):Prop:=(e=O/\aP 10 t=rows++[[]])\/(e=ZA/\aP 10 t=rows/\rows≠[]/\fV rows=ZA)
def gh(a b:Tx)(r:List Tx):jn (a::b::r)=a++10::jn (b::r):=by
 show a++[10]++fm _ _=_;rw[iN];rfl
def lr:∀t:Tx,aP 10 t≠[]
 |[]=>yX _ _
 |d::t=>by
  rw[aP];split
  .exact yX _ _
  .split<;>exact yX _ _
theorem qQ:∀{rows:List Tx},rows≠[]->(∀r∈rows,10∉r)->aP 10 (jn rows)=rows
 |[a],_,h=>km<|h a<|d_ ..
 |a::b::r,_,h=>by
  rw[gh,kC<|h a<|d_ ..,qQ (yX _ _) λx c=>h x<|ed _ c]
theorem Dr:∀{rows:List Tx},rows≠[]->jn (rows++[[]])=jn rows++[10]
 |[a],_=>by show a++[10]++[]=_;rw[cJ];rfl
 |a::b::r,_=>by
  show jn (a::b::(r++[[]]))=_;rw[gh,gh,show b::(r++[[]])=(b::r)++[[]]from J,Dr<|yX _ _,iN];rfl
section
variable{rows d:List Tx}
def fJ(xs:List Tx)(x:Tx):fV (xs++[x])=decide (x=[]):=by
 unfold fV;rw[List.getLast?_concat];cases x<;>rfl
def Ct.uniq(h:Ct t rows e)(k:Ct t d e'):rows=d/\e=e':=by
 rcases h with⟨rfl,h⟩|⟨rfl,h,b,a⟩<;>rcases k with⟨rfl,k⟩|⟨rfl,k,k1,k2⟩<;>rw[h]at k
 .exact⟨List.append_cancel_right k,J⟩
 .rw[<- k,fJ]at k2;cases k2
 .rw[k,fJ]at a;cases a
 .exact⟨k,J⟩
def mV(rows:List Tx)(e:Bool):Bool:=decide (rows=[]) ||(e ||fV rows)
def AE(h:∀r∈rows,10∉r)(e:Bool):Ct (vH rows e) rows<|mV rows e:=by
 unfold K61.vH mV;by_cases z:rows=[]
 .subst z
  exact .inl ⟨J,J⟩
 .rw[b0 z,b7 z]
  cases k:(e ||fV rows)with
  |true=>
   rw[<- Dr z];exact .inl ⟨J,qQ (by simp) λr hr=>(eO.mp hr).elim (h r) λq=>by rw[dJ.mp q];exact λh=>nomatch h⟩
  |false=>
   exact .inr ⟨J,qQ z h,z,(AV.mp k).2⟩
theorem KD:∀{rows:List Tx}{k:Nat},(∀r∈rows,Kk r<=k)->(jn rows).length<=Kk rows*(k+1)
 |[],_,_=>dz _
 |[a],k,h=>by
  have:=h a<|d_ ..
  show Kk a<=1*(k+1)
  lia
 |a::b::r,k,h=>by
  have d:=KD λx c=>h x<|ed _ c
  have:=h a<|d_ ..
  rw[gh,cV,ee,ee]
  lia
def oS(h:rows≠[]):∃x,iE (.lst<|af rows) (.int<|-1)=U (.str x)/\decide (x=[])=fV rows:=by
 rcases A6 rows with z|⟨xs,x,z⟩
 .exact dw z h
 .rw[A7]at z
  subst z;refine⟨x,?_,(fJ xs x).symm⟩;rw[af,gk];exact lJ _ _
def AF(h:Ct t rows e)(b:Kk t<=100000):cN (n+1) 1 [.str t] m=.ok (.tup [.lst<|af rows,.bl e],m):=by
 rw[wI _ 1 J];have j:splitM t [.str [10]]=U _:=gG b;obtain⟨x,i,g⟩:=oS<|lr t;have a:a_ (oE (oI zB<|dg gx zI)<|cS []) ⟨[Io t,Iy<|af<|aP 10 t],[]⟩=.ok (fV<|aP 10 t,⟨[Io t,Iy<|af<|aP 10 t],[]⟩):=by
  rw[<- g];exact dU<|pE (pE J (K9 J EM) i) J<|uZ x []
 have c:=aY rows;refine sEq J J (by show(aB _&&O)=O;rw[c];rfl)<|bS (K_ J J j) ?_
 rcases h with⟨rfl,h⟩|⟨rfl,h,k,d⟩
 .rw[h]at a ⊢
  rw[fJ]at a;have f:bT (af<|rows++[[]]) Y (U<|-1)=af rows:=by
   rw[af,gk];exact qu _ _
  exact bY a<|bR (c7 (aA (Ju J J J<|by show U _=_;rw[f]) J)<|i9 ..) J
 .rw[h]at a ⊢
  rw[d]at a;exact bN a<|bR (c7 (aA J J)<|i9 ..) J
end
section
variable{rows a:List Tx}{e:Bool}
theorem KG:∀rows:List Tx,(rows.map (·.length)).sum+Kk rows*1<=(jn rows).length+1
 |[]=>dz _
 |[a]=>by simp[fm]
 |a::b::r=>by
  have c:=KG<|b::r;rw[gh];simp only[cV,ee,f6,Ph]at c ⊢
  lia
def AG(h:(jn rows).length<=900000):joinM [10] [.lst<|af rows]=U (.str<|jn rows):=by
 show(strsOf _).bind _=_;rw[mT];exact gG<|c_ (KG rows)<|by lia
def len0(rows:List Tx):decide (((af rows).length:Int)=0)=decide (rows=[]):=decide_eq_decide.mpr (by
 rw[cH];exact⟨λz=>Gu<|by lia,λz=>by rw[z];rfl⟩)
def abq(h:c s=.ok (O,s)):ic c d s=.ok (O,s):=by unfold ic;rw[h];rfl
def E5(f:(jn rows).length<=500000):cN (n+1) 2 [.lst<|af rows,.bl e] m=.ok (.str<|vH rows e,m):=by
 rw[wI _ 2 J];have b:=by show(aB (af rows)&&O)=O;rw[aY];rfl
 have a:a_ (oE (aU bZ<|k1 zA) zO) ⟨[Iy<|af rows,sv<|.bl e,Y],[]⟩=.ok (decide<|rows=[],⟨[Iy<|af rows,sv<|.bl e,Y],[]⟩):=by
  rw[<- len0];exact dU<|pE J J<|EL ..
 unfold vH;refine sEq b J J ?_;by_cases z:rows=[]
 .rw[de z]at a
  rw[bt z];exact bY a<|bR J J
 .rw[b7 z]at a
  rw[b0 z];obtain⟨x,d,c⟩:=oS z;refine bN a<|bS (K_ J J<|AG<|by lia) ?_
  have hd:ic (D.tB zB) (a_<|oE (oI zA<|dg gx zI)<|cS []) ⟨[Iy<|af rows,sv<|.bl e,Io<|jn rows],[]⟩=.ok (e ||fV rows,⟨[Iy<|af rows,sv<|.bl e,Io<|jn rows],[]⟩):=by
   rw[<- c];exact yc (yL J)<|dU<|pE (pE J (K9 J EM) d) J<|uZ x []
  cases k:(e ||fV rows)with
  |true=>
   rw[k]at hd;exact bY hd<|bR (yi (k:=0) J J<|by rw[cV];show _+1<=_;lia) J
  |false=>
   rw[k]at hd;exact bN hd<|bR J J
def Ĝ(rows:List Tx):aM .NotEq (.lst<|af rows) (.lst [])=U (.bl<|!decide (rows=[])):=by
 cases rows<;>rfl
def AH(f:(jn rows).length<=500000):cN (n+1) 65 [.lst<|af rows,.bl e] m=.ok (.str<|vH rows e,m):=by
 rw[wI _ 65 J];have b:=by show(aB (af rows)&&O)=O;rw[aY];rfl
 refine sEq b J J<|bS (K_ J J<|AG<|by lia) ?_
 have a:a_ (bF _ zA<|aU cO aT) ⟨[Iy<|af rows,sv<|.bl e,Io<|jn rows],[]⟩=.ok _:=dU<|pE J J<|Ĝ rows;unfold vH;by_cases z:rows=[]
 .rw[de z]at a
  rw[bt z,show jn rows=[] by rw[z];rfl]at *
  exact bN (Vy a)<|bR J J
 .rw[b7 z]at a
  rw[b0 z];obtain⟨x,d,c⟩:=oS z;have hd:iU (a_<|bF (aM .NotEq) zA<|aU cO aT) (ic (D.tB zB)<|a_<|oE (oI zA<|dg gx zI)<|cS []) ⟨[Iy<|af rows,sv<|.bl e,Io<|jn rows],[]⟩=.ok (e ||fV rows,⟨[Iy<|af rows,sv<|.bl e,Io<|jn rows],[]⟩):=by
   rw[<- c];exact qj a<|yc (yL J)<|dU<|pE (pE J (K9 J EM) d) J<|uZ x []
  cases k:(e ||fV rows)with
  |true=>
   rw[k]at hd;exact bY hd<|bR (yi (k:=0) J J<|by rw[cV];show _+1<=_;lia) J
  |false=>
   rw[k]at hd;exact bN hd<|bR J J
def Dt(h:Ct t rows e)(c:Kk t<=100000):cN (n+1) 64 [.str t] m=.ok (.tup [.lst<|af rows,.bl e],m):=by
 rw[wI _ 64 J];have d:=aY rows;refine sEq J J (by show(aB _&&O)=O;rw[d];rfl) ?_
 by_cases z:t=[]
 .subst z
  obtain⟨rfl,rfl⟩:=h.uniq<|show Ct [] [] O from .inl ⟨J,J⟩;exact bY J<|bR (c7 (aA J<|aA J J)<|i9 ..) J
 .refine bN (dU<|pE J J<|(uZ ..).trans<|by rw[b7 z]) ?_
  have k:splitM t [.str [10]]=U _:=gG c;obtain⟨x,j,i⟩:=oS<|lr t;have a:a_ (oE (oI zB<|dg gx zI)<|cS []) ⟨[Io t,Iy<|af<|aP 10 t],[]⟩=.ok (fV<|aP 10 t,⟨[Io t,Iy<|af<|aP 10 t],[]⟩):=by
   rw[<- i];exact dU<|pE (pE J (K9 J EM) j) J<|uZ x []
  refine bS (K_ J J k) ?_;rcases h with⟨rfl,h⟩|⟨rfl,h,o,f⟩
  .rw[h]at a ⊢
   rw[fJ]at a;have g:bT (af<|rows++[[]]) Y (U<|-1)=af rows:=by
    rw[af,gk];exact qu _ _
   exact bY a<|bR (c7 (aA (Ju J J J<|by show U _=_;rw[g]) J)<|i9 ..) J
  .rw[h]at a ⊢
   rw[f]at a;exact bN a<|bR (c7 (aA J J)<|i9 ..) J
abbrev szT(rows:List Tx)(e:Bool):T:=.tup [.int (Kk rows:Nat),.bl e]
def size_eq(h:Ct t rows e)(a:Kk t<=100000):cN (n+2) 36 [.str t] m=.ok (szT rows e,m):=by
 rw[wI _ 36 J];refine sEq J J J<|bS (cE J<|AF n h a)<|bR (c7 (aA (c7 (aA (pE J J J) J) ?_)<|aA (pE J J J) J)<|i9 ..) J;show U _=_;rw[cH]
end
theorem vI:∀{xs:List Tx}{x:Tx},xs≠[]->jn (xs++[x])=jn xs++10::x
 |[a],x,_=>gh a x []
 |a::b::r,x,_=>by
  show jn (a::b::(r++[x]))=_;rw[gh,gh,show b::(r++[x])=(b::r)++[x]from J,vI<|yX _ _,iN];rfl
def VW(h:rows≠[])(b:∀r∈rows,10∉r):(jn rows=[]/\fV rows=O)\/(jn rows≠[]/\∃d,atT (jn rows) (-1)=U d/\decide (d=10)=fV rows):=by
 rcases A6 rows with z|⟨xs,x,z⟩
 .exact dw z h
 rw[A7]at z;subst z;have a:=b x (by simp)
 rw[fJ];rcases A6 x with z|⟨y,d,z⟩
 .subst z
  by_cases k:xs=[]
  .subst k;exact .inl ⟨J,J⟩
  .rw[vI k]
   exact .inr ⟨by simp,10,lJ _ _,J⟩
 .rw[A7]at z
  subst z;have hd:decide (d=10)=decide (y++[d]=[]):=by
   rw[b7 λe=>a<|by rw[e];simp,b7<|by simp]
  by_cases k:xs=[]
  .subst k
   exact .inr ⟨by show y++[d]≠[];simp,d,lJ y d,hd⟩
  .rw[vI k]
   refine .inr ⟨by simp,d,?_,hd⟩
   rw[show jn xs++10::(y++[d])=(jn xs++10::y)++[d] by simp]
   exact lJ _ _
section
variable{v:List Tx}{e:Bool}{cs ns:Ee}
theorem Du(n:Nat):∀cs:Ee,∃v:List Tx,Kk v=Kk cs/\(∀w∈v,TX 6 w)/\∀(m:FX),bu (setG 1) fj (aj (cN (n+1) 61) []<|k1 zB) [Y,Y] (aI cs) m=.ok (af v,m)
 |[]=>⟨[],J,(λ_ h=>nomatch h),λ_=>J⟩
 |c::cs=>by
  obtain⟨w,b,g⟩:=VJ n c;obtain⟨v,f,e,d⟩:=Du n cs;refine⟨w::v,by rw[ee,ee,f],λx a=>?_,λm=>cgS J (cE J<|g m)<|d m⟩
  rcases bH.mp a with rfl|a
  .exact b
  .exact e x a
def OE(j:Kk cs<=30):∃v:List Tx,Kk v=Kk cs/\(∀w∈v,TX 6 w)/\∀m,cN (n+2) 62 [.lst<|aI cs,.bl e] m=.ok (.str<|vH v e,m):=by
 obtain⟨v,f,g,i⟩:=Du n cs;refine⟨v,f,g,λm=>?_⟩;rw[wI _ 62 J];have o:(jn v).length<=1000:=c_ (KD λr hr=>(g r hr).l) (by lia)
 refine sEq (by show(aB _&&O)=O;rw[kE];rfl) J J<|bS (K_ J (aA (ô J (by rw[cH];lia) J<|i _) J)<|AG<|by lia) ?_
 have a:a_ (bF _ zA<|aU cO aT) ⟨[Iy<|aI cs,sv<|.bl e,Io<|jn v],[]⟩=.ok (!decide (v=[]),⟨[sv _,sv _,sv _],[]⟩):=dU<|pE J J<|(ne_nil cs).trans<|by
  cases cs with
  |nil=>rw[Gu f];rfl
  |cons c cs=>cases v with
   |nil=>cases f
   |cons=>rfl
 unfold vH;by_cases z:v=[]
 .rw[de z]at a
  rw[bt z,show jn v=[] by rw[z];rfl]at *
  exact bN (Vy a)<|bR J J
 .rw[b7 z]at a
  rw[b0 z];have hd:iU (a_<|bF (aM .NotEq) zA<|aU cO aT) (ic (D.tB zB)<|ic (a_<|oE zC<|cS [])<|a_<|oE (oI zC<|dg gx zI)<|cS [10]) ⟨[Iy<|aI cs,sv<|.bl e,Io<|jn v],[]⟩=.ok (e ||fV v,⟨[Iy<|aI cs,sv<|.bl e,Io<|jn v],[]⟩):=by
   refine qj a<|yc (yL J) ?_;rcases VW z λr hr=>(g r hr).n with⟨q1,q2⟩|⟨q1,d,q2,h⟩
   .rw[q2]
    exact abq<|dU<|pE J J<|(uZ ..).trans<|by rw[de q1]
   .rw[<- h]
    refine(orN (dU<|pE J J<|(uZ ..).trans<|by rw[b7 q1])<|dU<|pE (t:=.str [d]) (pE J (K9 J EM) ?_) J<|(uZ ..).trans ?_)
    .show(atT _ _).map _=_
     rw[q2];rfl
    .exact ej (λb=>U _)<|decide_eq_decide.mpr<|by simp
  cases k:(e ||fV v)with
  |true=>
   rw[k]at hd;exact bY hd<|bR (yi (k:=0) J J<|by rw[cV];show _+1<=_;lia) J
  |false=>
   rw[k]at hd;exact bN hd<|bR J J
def OF(ns:Ee)(k:Nat):∃c:Int,∀m,cN (n+1) 57 [.scr ns,.int (k:Nat)] m=.ok (.int c,m):=by
 rw[wI _ 57 J];have a:∀m,a_ (bF _ zB<|aU bZ<|k1 zA) ⟨[sv<|.scr ns,px (k:Nat)],m⟩=.ok (decide<|k<Kk ns,⟨[sv _,px k],m⟩):=λm=>dU<|pE J J<|(ò ..).trans<|ej (λb=>U _)<|decide_eq_decide.mpr<|by lia
 by_cases h:k<Kk ns
 .rw[de h]at a
  refine⟨ns[k],λm=>sEq J J J<|bY (a [])<|bR (pE J J ?_) J⟩;show(atT ns k).map _=_;rw[qg h,dM h];rfl
 .rw[b7 h]at a
  exact⟨0,λm=>sEq J J J<|bN (a [])<|bR J J⟩
end
section
variable{s:S}
def Ry(a:s.m[w]?=U ob)(b:iV M.P.tab ob.c f=U j)(d:ob.fs[j]?=U c):jd M.P.tab f s.m (.own w)=U (w,ob,j,c):=by
 show(s.m[w]?).bind _=_;rw[a];show(iV M.P.tab ob.c f).bind _=_;rw[b];show(ob.fs[j]?).map _=_;rw[d];rfl
def fx1(h:a s=.ok (.own w,s))(d:s.m[w]?=U ob)(g:iV M.P.tab ob.c f=U j)(i:ob.fs[j]?=sv (.own kb))(k:s.m[kb]?=U ⟨M.bc,[c]⟩)(b:Ur c=U u):iZ M.bc M.P.tab f a s=.ok (u,⟨s.r,(s.m.set kb ⟨M.bc,[]⟩).set w ⟨ob.c,ob.fs.set j<|.val u⟩⟩):=by
 have e:uP M.bc s.m (.own kb)=U (kb,c):=by
  show(s.m[kb]?).bind _=_;rw[k];show(if M.bc=M.bc then U _ else Y)=_
  rw[bt J]
 unfold iZ;rw[h];apply dN;rw[Ry d g i];apply dN;dsimp only;rw[e];dsimp only;rw[b];rfl
def fx2(h:a s=.ok (.own w,s))(d:s.m[w]?=U ob)(e:iV M.P.tab ob.c f=U j)(g:ob.fs[j]?=sv u)(b:uP M.bc s.m u=Y):iZ M.bc M.P.tab f a s=.ok (u,s):=by
 unfold iZ;rw[h];apply dN;rw[Ry d e g];apply dN;dsimp only;rw[b]
end
structure ō(n:Nat)(lg:List Ev):Prop where
 tk:takes lg=fX 1 n
 gv:∀l∈gives lg,TX 3000 l
 le:Kk lg<=100000
 sz:oR lg<=99000
 op:Wd lg=ZA
def KI(h:l∈gives lg):Ev.give l∈lg:=by
 obtain⟨e,b,a⟩:=DG.mp h;cases e<;>first|(cases a;done)|(cases a;exact b)
structure PO(ln:List LN):Prop where
 n:Kk ln<=10
 x:∀x∈ln,x.ms=O/\x.good=O/\∀a,x.i8=U a->a∈names ln
def đ(h:Kk f.R=w)(e:∀m',vF 3 (⟨s3,m'⟩:S)=.ok (.own w,⟨s3,m'⟩))(s:Kk c.lg<=1000000):∃m',bq (aj (cN (n+1) 32) []<|k1<|iZ M.bc M.P.tab 29 zD) (k3 (iZ M.bc M.P.tab 27 zD) (iZ M.bc M.P.tab 28 zD)<|iZ M.bc M.P.tab 29 zD) ⟨s3,st w f jj c⟩=.ok ([.lst<|af<|gives c.lg,.fh c.ks c.zs,.lst c.no,.lst<|c.lg.map Ev.val],⟨s3,m'⟩):=by
 obtain⟨m3,d⟩:∃m3,m3=st w f jj c:=⟨_,J⟩;have m:m3[w]?=U (iJ w f c):=by rw[d];exact b_ h 0
 have b5:m3[w+5]?=U (dB c.ks c.zs):=by rw[d];exact b_ h 5
 have b6:m3[w+6]?=U (lB c.no):=by rw[d];exact b_ h 6
 have y:m3[w+7]?=U (lB<|c.lg.map Ev.val):=by rw[d];exact b_ h 7
 rw[<- d];have a:=(dq.mp m).1;have l:=fx1 (f:=29) (e m3) m J J y J;obtain⟨m4,Ŏ⟩:∃m4,m4=(m3.set (w+7) ⟨M.bc,[]⟩).set w ⟨(iJ w f c).c,(iJ w f c).fs.set 12<|.val<|.lst<|c.lg.map Ev.val⟩:=⟨_,J⟩;have l:iZ M.bc M.P.tab 29 zD ⟨s3,m3⟩=.ok (.lst<|c.lg.map Ev.val,⟨s3,m4⟩):=by rw[Ŏ];exact l
 have r:m4[w]?=U ⟨(iJ w f c).c,(iJ w f c).fs.set 12<|.val<|.lst<|c.lg.map Ev.val⟩:=by rw[Ŏ];exact fR (by rw[eS];exact a)
 have b4:∀{k ob},k≠w->k≠w+7->m3[k]?=U ob->m4[k]?=U ob:=λv t h=>by
  rw[Ŏ,eV<|f3 v,eV<|f3 t];exact h
 have i:=fx1 (f:=27) (e m4) r J J (b4 (by lia) (by lia) b5) J
 obtain⟨m5,ŏ⟩:∃m5,m5=(m4.set (w+5) ⟨M.bc,[]⟩).set w ⟨(iJ w f c).c,((iJ w f c).fs.set 12<|.val<|.lst<|c.lg.map Ev.val).set 10<|.val<|.fh c.ks c.zs⟩:=⟨_,J⟩;have i:iZ M.bc M.P.tab 27 zD ⟨s3,m4⟩=.ok (.fh c.ks c.zs,⟨s3,m5⟩):=by rw[ŏ];exact i
 have l4:Kk m4=Kk m3:=by rw[Ŏ,eS,eS]
 have q:m5[w]?=U ⟨(iJ w f c).c,((iJ w f c).fs.set 12<|.val<|.lst<|c.lg.map Ev.val).set 10<|.val<|.fh c.ks c.zs⟩:=by rw[ŏ];exact fR (by rw[eS,l4];exact a)
 have x:m5[w+6]?=U (lB c.no):=by
  rw[ŏ,eV<|by lia,eV<|by lia]
  exact b4 (by lia) (by lia) b6
 have g:=fx1 (f:=28) (e m5) q J J x J;obtain⟨m6,b⟩:∃m6,m6=(m5.set (w+6) ⟨M.bc,[]⟩).set w ⟨(iJ w f c).c,(((iJ w f c).fs.set 12<|.val<|.lst<|c.lg.map Ev.val).set 10<|.val<|.fh c.ks c.zs).set 11<|.val<|.lst c.no⟩:=⟨_,J⟩;have g:iZ M.bc M.P.tab 28 zD ⟨s3,m5⟩=.ok (.lst c.no,⟨s3,m6⟩):=by rw[b];exact g
 have l5:Kk m5=Kk m3:=by rw[ŏ,eS,eS,l4]
 have p:m6[w]?=U ⟨(iJ w f c).c,(((iJ w f c).fs.set 12<|.val<|.lst<|c.lg.map Ev.val).set 10<|.val<|.fh c.ks c.zs).set 11<|.val<|.lst c.no⟩:=by rw[b];exact fR (by rw[eS,l5];exact a)
 have o:iZ M.bc M.P.tab 29 zD _=.ok _:=fx2 (e m6) p J J J;have xg:aj _ [] (k1 _) _=.ok _:=qe (aA l J) (KA n s)
 exact⟨m6,aA xg<|aA i<|aA g<|aA o J⟩
def abr(a b c d:T):cz [a,b,c,d]=U (.tup [a,b,c,d]):=gG (by show 4<=1000;decide)
def RwO(rows:List Tx):Prop:=Kk rows<=12\/Kk rows=13/\∀h:0<Kk rows,nf rows[0]=O
def VY{ln:List LN}{rows:List Tx}{t:Tx}{e:Bool}{g:Fn}(hg:∀(z:Nat)(bm:T)(w:Nat),(0<z->∀h:0<Kk rows,nf rows[0]=O)->(∀(k:Nat)(B:B1)(lf:List Ky)(cc b:Nat)(m:FX),k<Kk rows->(∀j∈B,j<Kk rows)->Kk B<=12->(∀(i:Nat)(h:i<Kk ln),ln[i].dF=ZA->Ky.i ((i+1:Nat):Int)∈lf)->1<=b->b+Kk lf+1<=300->cc+400<800000->k+1<=13->z<=Kk lf+1->WK z rows ln bm w k cc b m->WX (g [.own w,bO k,.lst<|B.map bO] m) λp=>WK z rows ln bm w (k+1) (cc+312) (b+Kk lf+1) p.2))(P:PO ln)(ct:Ct t rows e)(Z:Kk t<=100000)(hr:RwO rows)(d:∀r∈rows,TX 6 r):WX (Ý (ups (cN<|n+12) 96 g) [.obj 0 [.lst<|aF ln],.str t] m) λq=>∃lg ks ts no,q=(.tup [.lst<|af<|gives lg,.fh ks ts,.lst no,.lst<|lg.map Ev.val],m)/\ō rows.length lg:=by
 obtain⟨nk,nt,D1,hnm,en⟩:=OB (n+10) (L:=ln) (by have:=P.n;lia)
 obtain⟨bm,E⟩:∃bm,bm=T.fh nk nt:=⟨_,J⟩;obtain⟨w,D⟩:∃w,w=(qP 0 rows).length:=⟨_,J⟩;have V:=D.trans<|vD ..;obtain⟨PT,AI⟩:∃PT,PT=T.obj 0 [.lst<|aF ln]:=⟨_,J⟩;have vJ:aB [PT,.str t]=O:=by
  rw[AI];show((aB (aF ln)&&O)&&(O&&O))=O;rw[cD];rfl
 have hLn:∀x∈ln,Ŋ bm ln.length x:=λx d=>⟨(P.x x d).1,(P.x x d).2.1,λa ha=>by
  obtain⟨_,g,k,rfl,hk⟩:=D1.at_<|hnm a<|(P.x x d).2.2 a ha;exact⟨k,by rw[E];exact g,hk⟩⟩
 have FO0:FO w<|La (qP 0 rows) ln bm:=⟨D.symm,hLn,by have:=P.n;show Kk ln<=24;lia⟩
 have TO0:TO rows w 0<|La (qP 0 rows) ln bm:=⟨⟨vD ..,λk hk=>by
  have q:=Ku rows 0 k rows[k]<|dM hk;rw[yO]at q;exact⟨q.1,[],[],q.2,DI.nil⟩,d⟩,V,DI.nil⟩
 obtain⟨q,Mx⟩:∃q,q=(vP ln 0).length:=⟨_,J⟩;have Ő:Kk rows<=13:=by
  rcases hr with h|h
  .lia
  .exact q_ h.1
 obtain⟨z,N,Zl,M⟩:∃z,z<=q+1/\(0<z->∀h:0<Kk rows,nf rows[0]=O)/\∀x,2*x+(qx z rows.length).1<=1+Kk rows*(q+1)+1->x<=7+6*q:=by
  rcases hr with h|⟨h,k⟩
  .refine⟨0,dz _,λz=>dw z<|qZ _,λx d=>?_⟩
   have:=rT (q+1) h
   lia
  .refine⟨q+1,bL _,λ_=>k,λx d=>?_⟩
   rw[h]at d;have d:2*x+(q+1)<=1+13*(q+1)+1:=d
   lia
 have Is0:Is (qx z 0) 0 ln.length 0 1 Wt:=⟨⟨dz _,.inl J,.inl J,DI.nil.mono (dz _) (λ_ h=>h) λ_ h=>h,DI.nil.mono (dz _) (λ_ h=>h) λ_ h=>h,⟨dz _,J⟩,by decide,λl h=>by(cases dJ.mp h),J,dz _,.inr<|dz _,λ_=>⟨dz _,by decide⟩,List.nodup_nil,by decide,λq=>dw q<|by decide,λ_=>J⟩,by decide⟩
 have K0:WK z rows ln bm w 0 (312*0) (1+0*((vP ln 0).length+1))<|st w (La (qP 0 rows) ln bm) [] Wt:=⟨_,[],Wt,J,J,J,J,FO0,TO0,by rw[Nat.zero_mul];exact Is0,J,λh=>dw h<|qZ _⟩
 have hq:=c_ (vG ln 0).1 P.n;rw[<- AI];obtain⟨A,G⟩:∃A,A=sv (.lst<|(fX 0 rows.length).map bO):=⟨_,J⟩;have ec:aj (cN (n+12) 1) [] (k1 zB) (⟨[sv PT,Io t,Y,Y,Y,Y],[]⟩:S)=.ok (.tup [.lst<|af rows,.bl e],⟨[sv PT,Io t,Y,Y,Y,Y],[]⟩):=cE J<|AF (n+11) ct Z;have er:aj (cN (n+12) 24) [] (k1<|oI (aj (cN (n+12) 1) []<|k1 zB) zO) (⟨[sv PT,Io t,Y,Y,Y,Y],[]⟩:S)=.ok (.lst<|(fX 0 rows.length).map bO,⟨[sv PT,Io t,Y,Y,Y,Y],qP 0 rows⟩):=cM (aA (pE ec J J) J)<|OC (n+10)<|by lia
 have eN:=by
  have wi:=yx (n+10) (m:=qP 0 rows) (L:=ln) (bm:=bm) (by have:=P.n;lia) (by rw[E];exact en _)
  rw[<- D,<- AI]at wi
  have:=Vx (g:=cN (n+12) 94) (s:=(⟨[sv PT,Io t,A,Y,Y,Y],qP 0 rows⟩:S)) (fl:=k1 zA) J (by show cN (n+12) _ (T.own (qP 0 rows).length::_) _=_;rw[<- D];exact wi)
  rw[D.symm]at this;exact this
 refine ď vJ<|yq J ?_;refine vE (s1:=⟨[sv PT,Io t,A,Y,Y,Y],qP 0 rows⟩) ((eT er).trans<|by rw[G];rfl) ?_
 refine vE (eT eN) ?_;rw[G];have go:=Dq (P:=PT) (t0:=.str t) (hg z bm w Zl) Ő J hq (by rw[<- Mx];exact N) rows.length 0 _ Y Y (yO _) K0
 refine E2<|abp J<|go.mono λp hp=>⟨hp.1,?_⟩;obtain⟨_,u,v,m2,e2,K⟩:=hp;rw[e2];obtain⟨f,jj,c,rfl,rfl,rfl,Be,F,I,H,hwt,_⟩:=K;obtain⟨b,hb⟩:∃b,b=1+Kk rows*((vP f.ln 0).length+1):=⟨_,J⟩;rw[<- hb]at H;have hk:=M _ (by rw[Mx,<- hb];exact H.i.n1)
 obtain⟨Q,hQ⟩:∃Q,Q=qx z rows.length:=⟨_,J⟩;rw[<- hQ,<- Be]at H;have Qx:=yC Ő hq;have hbq:b<=14+13*q:=by
  have:=rT ((vP f.ln 0).length+1) Ő
  rw[Mx];lia
 have abt:f.tk<=13:=by rw[Be];exact Ő
 have hH:hB f.tk (b+14)<=150+26*q:=by unfold hB;lia
 have h6:(Kk c.ks<64/\c.ks.length*(hB f.tk (b+14)+71)<=(7+6*q)*(221+26*q))\/∀y∈f.ln,y.dF=ZA:=by
  rcases(vG f.ln 0).2 with z|z
  .exact .inr z
  .have:=P.n
   exact .inl ⟨by lia,rV hk<|by lia⟩
 obtain⟨⟨t3,m3⟩,e3,X,o,VX,C⟩:=E4 (n+8) F P.n abt H.i (by lia) h6
 cases X;cases VX;refine vE (s1:=⟨[sv PT,Io t,Iy<|(fX 0 rows.length).map bO,sv<|.own w,u,v],st w f jj o⟩) ?_ ?_
 .unfold aQ
  rw[CM J (b_ F.R 0) J J e3];rfl
 .have lz:=C.z (by lia)
  obtain⟨m6,e6⟩:=đ (c:=o) (n+11) F.R (s3:=[sv PT,Io t,Iy<|(fX 0 rows.length).map bO,sv<|.own w,u,v]) (λ_=>J) (by lia)
  refine W.e<|W.k<|W.of (jE<|c7 e6<|abr ..)<|.inr ⟨_,J,?_,o.lg,o.ks,o.zs,o.no,J,by rw[<- Be];exact C.tks,λl hl=>(C.gv l<|KI hl).mono<|by lia,?_,?_,Bool.eq_false_iff.mpr λq=>dw (C.op q).2<|by decide⟩
  .show(aB (af<|gives o.lg)&&(aB o.zs&&(aB o.no&&(aB (o.lg.map Ev.val)&&O))))=O
   rw[aY,yD,C.no.2,kF λt Z=>by
    obtain⟨z,rfl,_⟩:=C.su.q t Z;rfl];rfl
  .have:=C.lg
   have:=rV (show b+14+9<=309 by lia)<|show b+14+9<=309 by lia
   lia
  .have hs:=C.sz
   have Wn:=Kz f.ln 0;have h1:=rV (show b+14<=28+13*q by lia)<|show hB f.tk (b+14)+1<=151+26*q by lia
   have h2:=AS ((7+6*q)*(221+26*q))<|show yr f.ln<=10-q by have:=P.n;lia
   have h3:∀q:Fin 11,(28+13*q.1)*(151+26*q.1)+(7+6*q.1)*(221+26*q.1)*(10-q.1)<=99000:=by decide
   have h3:=h3 ⟨q,by lia⟩
   dsimp only at h3
   lia
def Dv(D:60<=n)(P:PO ln)(ct:Ct t rows e)(C:Kk t<=100000)(hr:RwO rows)(j:∀r∈rows,TX 6 r):cN (n+14) 34 [.obj 0 [.lst<|aF ln],.str t] m=cN (n+13) 34 [.obj 0 [.lst<|aF ln],.str t] m/\WX (cN (n+13) 34 [.obj 0 [.lst<|aF ln],.str t] m) λq=>∃lg ks ts no,q=(.tup [.lst<|af<|gives lg,.fh ks ts,.lst no,.lst<|lg.map Ev.val],m)/\ō rows.length lg:=by
 have s:∀{o:Type}{x:Res _}{Q:o×FX->Prop},WX x Q->x≠.bad:=λh e=>by rw[e]at h;exact h
 have a:=VY n (m:=m) (g:=Q9 _ _) (λz bm w A k B lf cc b m hk hB l H G Č d M E K=>by
  have z:=OA n (g:=Q9 _ _) (λf jj c I F=>by
   have y:=Oz (u0:=cN<|n+10) (g:=Q9 _ _) (λx i cc f u I d=>by
    rw[JA (AD n D x u I hk hB l d).symm];exact Ko n x u I hk hB l d) (λx j=>(F.L x j).good) F.n I d (jj:=jj) (c:=c)
   have q:=two (n:=n+10) (by lia) (ed _<|d_ ..) J (by decide +kernel) NL Jy Jz _ _ (λh=>by obtain⟨p,v,_⟩:=y;rw[h]at v;cases v)
   rw[JA<|q.1.trans q.2.symm,q.1];exact y) hk hB l H G Č d M E A K
  have q:=two (by lia) (ed _<|ed _<|d_ ..) J (by decide +kernel) NN Jy Jz _ _<|s z
  rw[JA<|q.1.trans q.2.symm,q.1];exact z) P ct C hr j
 have q:=two (by lia) (ed _<|ed _<|ed _<|d_ ..) J (by decide +kernel) NO Jy Jz _ _<|s a
 exact⟨q.2.trans q.1.symm,by rw[q.1];exact a⟩
abbrev HT:=HK Tx
def fK(h:HT):T:=.tup [.int (h.at_:Nat),.lst<|af h.o,.lst<|af h.w]
def hk(R:List Tx):List Ev->List HT->Nat->Nat->List Tx->List HT
 |[],hs,_,_,_=>hs
 |.take i::es,hs,s,_,g=>hk R es hs s i g
 |.give l::es,hs,s,k,g=>hk R es hs s k<|g++[l]
 |.over::es,hs,s,k,g=>hk R es (if g=sl R s k then hs else hs++[⟨s,sl R s k,g⟩]) k k []
 |_::es,hs,s,k,g=>hk R es hs s k g
theorem oU:∀a b:List Tx,ib (af a) (af b)=decide (a=b)
 |[],[]=>J
 |[],_::_=>J
 |_::_,[]=>J
 |x::a,y::b=>by
  show(decide _&&ib _ _)=_;rw[oU a b];by_cases h:x=y<;>by_cases k:a=b<;>simp[k]
theorem lN{n:Nat}:∀a b:List Tx,all2 (shape n) (af a) (af b)=O
 |[],_=>by cases n<;>rfl
 |_::_,[]=>by cases n<;>rfl
 |x::a,y::b=>by
  show(shape n _ _&&all2 _ _ _)=O;rw[lN a b];cases n<;>rfl
def neR(a b:List Tx):aM .NotEq (.lst<|af a) (.lst<|af b)=U (.bl<|!decide (a=b)):=by
 show gd (all2 _ _ _=O) (T.bl<|!ib _ _)=_;rw[gG<|lN a b,oU]
def HS(A:Option C)(R:List Tx)(hs:List HT)(s k:Nat)(g:List Tx)(x:Option C):S:=⟨[A,Iy<|af R,U<|.ol<|hs.map fK,px (s:Nat),px (k:Nat),U<|.ol<|af g,x],[]⟩
section
variable{A x:Option C}{R g:List Tx}{hs:List HT}{s k:Nat}
theorem tN:∀(es:List Ev)(hs:List HT)(s k:Nat)(g:List Tx)(x:Option C),Kk hs+Kk es<900000->Kk g+Kk es<900000->∃s' k' g' x',aX (setG 6) Jr (es.map Ev.val) (HS A R hs s k g x)=.ok (.nx,HS A R (hk R es hs s k g) s' k' g' x')
 |[],hs,s,k,g,x,_,_=>⟨s,k,g,x,J⟩
 |e::es,hs,s,k,g,x,j,h=>by
  rw[ee]at j h;have step:∀{hs':List HT}{s' k':Nat}{g':List Tx}{x':Option C},Jr _=.ok _->(∃s2 k2 g2 d,aX _ Jr _ (HS A R hs' s' k' g' x')=.ok (.nx,HS A R (hk R es hs' s' k' g') s2 k2 g2 d))->hk R es hs' s' k' g'=hk R _ hs s k g->∃s2 k2 g2 d,aX (setG 6) Jr ((e::es).map Ev.val) (HS A R hs s k g x)=.ok (.nx,HS A R (hk R (e::es) hs s k g) s2 k2 g2 d):=λ{hs' s' k' g' x'} a b c=>by
   obtain⟨s2,k2,g2,d,b⟩:=b;rw[c]at b;exact⟨s2,k2,g2,d,c8 J a b⟩
  cases e with
  |take i=>exact step (x9 (dU J)<|eT (s':=HS A R hs s k g _) J) (tN es hs s i g _ (by lia)<|by lia) J
  |give l=>
   refine step (x':=sv (Ev.give l).val) (je (dU J)<|x9 (dU J)<|(ya J J J<|by rw[cH];lia).trans ?_) (tN es hs s k _ _ (by lia)<|by rw[cV,gY];lia) J
   have e:af g++[T.str l]=af (g++[l]):=by simp
   rw[e];rfl
  |over=>
   have m:bF _ (vF 5) (jU zB (gQ zD)<|gQ<|vF 4) (HS A R hs s k g _)=.ok (.bl<|!decide (g=sl R s k),⟨[A,sv _,U _,sv _,sv _,sv _,sv Ev.over.val],[]⟩):=cU J (Ju J J J<|by show U _=_;rw[Aw];simp[af,v5,v9])<|neR ..
   have f:a_ (bF (aM .NotEq) (vF 5)<|jU zB (gQ zD)<|gQ<|vF 4) (HS A R hs s k g<|sv Ev.over.val)=.ok (!decide (g=sl R s k),⟨[A,Iy<|af R,U<|.ol<|hs.map fK,px s,px k,Iy<|af g,sv Ev.over.val],[]⟩):=by unfold a_;rw[m];rfl
   by_cases z:g=sl R s k
   .rw[de z]at f
    exact step (je (dU J)<|je (dU J)<|x9 (dU J)<|seq1 (je f J)<|seq1 (eT J) J) (tN es hs k k [] _ (by lia)<|by show 0+_<_;lia) (by rw[hk,bt z])
   .rw[b7 z]at f
    refine step (hs':=hs++[⟨s,sl R s k,g⟩]) (x':=sv Ev.over.val) (je (dU J)<|je (dU J)<|x9 (dU J)<|seq1 (x9 f<|ya (t:=fK ⟨s,sl R s k,g⟩) J (c7 (aA J<|aA (Ju J J J<|by show U _=_;rw[Aw];simp[af,v5,v9])<|aA J J)<|ES ..) J<|by rw[cH];lia)<|seq1 (eT J) ?_) (tN es _ k k [] _ (by rw[cV,gY];lia)<|by show 0+_<_;lia) (by rw[hk,b0 z])
    have e:hs.map fK++[fK ⟨s,sl R s k,g⟩]=(hs++[(⟨s,sl R s k,g⟩:HT)]).map fK:=by simp
    rw[e];rfl
  |_=>exact step (je (dU J)<|je (dU J)<|je (dU J) J) (tN es hs s k g _ (by lia)<|by lia) J
theorem qR:∀hs:List HT,aB (hs.map fK)=O
 |[]=>J
 |h::hs=>by
  show((O&&(aB _&&(aB _&&O)))&&aB _)=O;rw[aY,aY,qR hs];rfl
def KJ(b:Kk lg<=100000):cN (n+1) 37 [.lst<|lg.map Ev.val,.lst<|af R] m=.ok (.lst<|(hk R (lg++[.over]) [] 0 0 []).map fK,m):=by
 rw[wI _ 37 J];obtain⟨s,k,g,x,e⟩:=tN (lg++[.over]) [] 0 0 [] Y (by rw[cV];show 0+(_+1)<_;lia) (by rw[cV];show 0+(_+1)<_;lia)
 rw[gk]at e;have a:jZ .Add (.lst<|lg.map Ev.val) (.lst [Ev.over.val])=U _:=gG (by rw[cH];show _+1<=_;lia)
 refine eL (by show(aB _&&(aB _&&O))=O;rw[yD,aY];rfl) (iI J (seq1 (N_ J)<|seq1 (eT J)<|seq1 (eT J)<|seq1 (N_ J)<|seq1 (u6 (NJ (pE J J a) J) e) J) J)<|qR _
end
section
variable{R g G:List Tx}{hs:List HT}{s k nn:Nat}{P:Tx->Prop}
structure HO(R:List Tx)(P:Tx->Prop)(hs:List HT)(s:Nat)(G:List Tx):Prop where
 wf:Wf s 0 hs
 ly:lay R s 0 hs=G
 mt:Mt R hs
 tx:∀h∈hs,∀x∈h.w,P x
def HO.step(I:HO R P hs s G)(b:s<=k)(f:k<=Kk R)(d:∀x∈g,P x):HO R P (if g=sl R s k then hs else hs++[⟨s,sl R s k,g⟩]) k<|G++g:=by
 have c:=Av b f;split
 .rename_i e
  exact⟨I.wf.mono b,by rw[C4 I.wf b,I.ly,<- e],I.mt,I.tx⟩
 .refine⟨Wf.snoc I.wf<|by lia,?_,λh a=>?_,λh a=>?_⟩
  .rw[ye]
   rw[I.ly,c,show s+(k-s)=k by lia,show sl R k k=[] by simp,cJ]
  .rcases eO.mp a with z|z
   .exact I.mt h z
   .rw[dJ.mp z]
    rw[c,show s+(k-s)=k by lia]
  .rcases eO.mp a with z|z
   .exact I.tx h z
   .rw[dJ.mp z];exact d
theorem nG:∀(es:List Ev)(hs:List HT)(s k:Nat)(g G:List Tx),HO R P hs s G->s<=k->k<=Kk R->takes es=fX (k+1) (Kk R-k)->(∀x∈g,P x)->(∀x∈gives es,P x)->HO R P (hk R (es++[.over]) hs s k g) R.length (G++(g++gives es))
 |[],hs,s,k,g,G,I,f,c,a,b,_=>by
  have:=ej F9 a
  rw[PH]at this;have e:k=Kk R:=by
   have:0=Kk R-k:=this
   lia
  have:=I.step f c b
  rw[show gives []=[]from J,cJ];rw[<- e];exact this
 |.take i::es,hs,s,k,g,G,I,f,c,a,b,d=>by
  cases o:Kk R-k with
  |zero=>rw[o]at a;cases a
  |succ j=>
   rw[o]at a;injection a with e1 e2
   subst e1;exact nG es hs s _ g G I (by lia) (by lia) (by rw[show Kk R-(k+1)=j by lia];exact e2) b d
 |.give l::es,hs,s,k,g,G,I,f,c,a,b,d=>by
  have m:=nG es hs s k _ G I f c a (λx n=>(eO.mp n).elim (b x) λz=>by rw[dJ.mp z];exact d l<|d_ ..) λx n=>d x<|ed _ n
  rw[iN g]at m;exact m
 |.over::es,hs,s,k,g,G,I,f,c,a,b,d=>by
  have m:=nG es _ k k [] _ (I.step f c b) (bL _) c a (λ_ h=>nomatch h) d;rw[iN]at m;exact m
 |.want _::es,hs,s,k,g,G,I,f,c,a,b,d=>nG es hs s k g G I f c a b d
 |.meet _ _::es,hs,s,k,g,G,I,f,c,a,b,d=>nG es hs s k g G I f c a b d
 |.noo _::es,hs,s,k,g,G,I,f,c,a,b,d=>nG es hs s k g G I f c a b d
 |.fin::es,hs,s,k,g,G,I,f,c,a,b,d=>nG es hs s k g G I f c a b d
def m_(rows:List Tx):Nat:=(rows.map λl=>Kk l+1).sum
def wsum(hs:List HT):Nat:=(hs.map λh=>m_ h.w).sum
def OG(a b:List Tx):m_ (a++b)=m_ a+m_ b:=by unfold m_;rw[gk,yW]
def OH(R:List Tx):Kk R<=m_ R:=by
 induction R with
 |nil=>exact bL _
 |cons a R b=>show Kk R+1<=(Kk a+1)+m_ R;lia
theorem vK:∀rows:List Tx,(jn rows).length<=m_ rows
 |[]=>bL _
 |[a]=>by show Kk a<=(Kk a+1)+0;lia
 |a::b::r=>by
  have c:=vK<|b::r;rw[gh,cV,ee];show _<=(Kk a+1)+m_ (b::r)
  lia
def vL(rows:List Tx)(e:Bool):(vH rows e).length<=m_ rows+1:=by
 have:=vK rows
 unfold vH;split
 .exact dz _
 .split
  .rw[cV];exact gX this 1
  .lia
theorem gW:∀(es:List Ev)(hs:List HT)(s k:Nat)(g:List Tx),wsum (hk R es hs s k g)<=wsum hs+m_ g+oR es
 |[],hs,_,_,g=>by show wsum hs<=_;lia
 |.over::es,hs,s,k,g=>by
  have a:=gW es (if g=sl R s k then hs else hs++[⟨s,sl R s k,g⟩]) k k []
  have e:wsum (if g=sl R s k then hs else hs++[⟨s,sl R s k,g⟩])<=wsum hs+m_ g:=by
   split
   .lia
   .unfold wsum
    rw[gk,yW];exact bL _
  show wsum (hk R es _ k k [])<=wsum hs+m_ g+oR es
  have:m_ []=0:=J
  lia
 |.give l::es,hs,s,k,g=>by
  have a:=gW es hs s k<|g++[l];rw[OG]at a;show wsum (hk R es hs s k _)<=wsum hs+m_ g+((Kk l+1)+oR es)
  have:m_ [l]=Kk l+1+0:=J
  lia
 |.take i::es,hs,s,k,g=>gW es hs s i g
 |.want _::es,hs,s,k,g=>gW es hs s k g
 |.meet _ _::es,hs,s,k,g=>gW es hs s k g
 |.noo _::es,hs,s,k,g=>gW es hs s k g
 |.fin::es,hs,s,k,g=>gW es hs s k g
structure PL where
 n:Nat
 e:Bool
 n':Nat
 e':Bool
 hs:List HT
def PL.val(p:PL):T:=.tup [.tup [.int (p.n:Nat),.bl p.e],.tup [.int (p.n':Nat),.bl p.e'],.lst<|p.hs.map fK]
end
def lO(p:PL):noOwn p.val=O:=by
 show((O&&(O&&O))&&((O&&(O&&O))&&(aB _&&O)))=O;rw[qR];rfl
section
variable{rows:List Tx}{e:Bool}{m:FX}
def VZ{A:FS}(h:A s=.ok (o,s')):lP A s=.ok (o,s'):=by unfold lP;rw[h];rfl
abbrev Ē(rows:List Tx)(e:Bool)(lg:List Ev):PL:=⟨Kk rows,e,(gives lg).length,mV (gives lg) e,hk rows (lg++[Ev.over]) [] 0 0 []⟩
def vM(L:ō rows.length lg)(ct:Ct t rows e)(k:Kk t<=1000)(b:cN (n+13) 34 [.obj 0 [.lst<|aF ln],.str t] []=.ok (.tup [.lst<|af<|gives lg,.fh ks ts,.lst no,.lst<|lg.map Ev.val],[])):cN (n+14) 35 [.obj 0 [.lst<|aF ln],.str t] m=.ok ((Ē rows e lg).val,m):=by
 obtain⟨PT,f⟩:∃PT,PT=T.obj 0 [.lst<|aF ln]:=⟨_,J⟩;have h:aB [PT,.str t]=O:=by
  rw[f];show((aB _&&O)&&(O&&O))=O;rw[cD];rfl
 have ē:Kk t<=100000:=c_ k (by decide)
 rw[<- f]at b;rw[<- f,wI _ 35 J];obtain⟨a,c⟩:∃a,a=T.tup [.lst<|af<|gives lg,.fh ks ts,.lst no,.lst<|lg.map Ev.val]:=⟨_,J⟩;have j:iE a (.int 0)=U (.lst<|af<|gives lg):=by rw[c];rfl
 have i:iE a (.int 3)=U (.lst<|lg.map Ev.val):=by rw[c];rfl
 rw[<- c]at b;have g:∀{r:FC},aj _ [] (k1 zB) ⟨sv PT::Io t::r,[]⟩=.ok _:=cE J<|AF (n+12) ct ē;have hs:=L.sz;have q:=vK<|gives lg;have p:=vL (gives lg) e;have o:m_ _<=99000:=hs;have d:=AE (λr hr=>(L.gv r hr).n) e;have l:aj _ [] (k2 (oI zC<|cI 3) zD) ⟨[sv PT,Io t,sv a,Iy<|af rows,Io<|vH (gives lg) e],[]⟩=.ok _:=cE (aA (pE J J i)<|aA J J)<|KJ (n+12) L.le;exact eL h (iI J
  (seq1 (eT<|cE J b)
 <|seq1 (VZ<|eT<|pE g J J)
 <|seq1 (VZ<|eT<|cE (aA (pE J J j)<|aA (pE g J J) J)<|E5 _<|by lia)
 <|VZ<|jE<|c7 (aA (cE J<|size_eq _ ct ē)<|aA (cE J<|size_eq _ d<|by lia)<|aA l J)<|ES ..) J)<|lO _
end
section
variable{m:FX}{f:Fn}
abbrev OI(f:Fn):Fn:=aK<|aC 2 5<|ah (aH 2<|cF .non)<|ah (aH 3<|aU cz aT)<|ah (rO 2 4 3 0<|aj f []<|rN<|k2 zA zB)<|aD<|aU cz<|k2 zC zD
def qS(a:aB [PT,.str t]=O)(b:noOwn u=O)(h:f [PT,.str t] []=.ok (u,[])):OI f [PT,.str t] m=.ok (.tup [u,.tup []],m):=by
 have c:aj f [] (rN<|k2 zA zB) ⟨[sv PT,Io t,sv .non,sv<|.tup [],Y],[]⟩=.ok _:=cE J h;have d:rO 2 4 3 0 (aj f []<|rN<|k2 zA zB) ⟨[sv PT,Io t,sv .non,sv<|.tup [],Y],[]⟩=.ok (.nx,⟨[sv PT,Io t,sv u,sv<|.tup [],Y],[]⟩):=by
  unfold rO;rw[c];rfl
 exact eL a (iI J (seq1 J<|seq1 J<|seq1 d<|jE<|c7 J<|i9 ..) J) (by show(noOwn u&&(aB []&&O))=O;rw[b];rfl)
def mW(a:aB [PT,.str t]=O)(h:f [PT,.str t] []=.exc 0 [.int i,.int j] S0):OI f [PT,.str t] m=.ok (.tup [.non,.tup [.int i,.int j]],m):=by
 have b:aj f [] (rN<|k2 zA zB) ⟨[sv PT,Io t,sv .non,sv<|.tup [],Y],[]⟩=.exc 0 [.int i,.int j] ⟨[sv PT,Io t,sv .non,sv<|.tup [],Y],S0.m⟩:=by
  show(match f [PT,.str t] []with
   |.ok q=>_
   |.bad=>_
   |.exc c fs s'=>_)=_
  rw[h]
 have d:rO 2 4 3 0 (aj f []<|rN<|k2 zA zB) ⟨[sv PT,Io t,sv .non,sv<|.tup [],Y],[]⟩=.ok (.nx,⟨[sv PT,Io t,sv .non,sv<|.tup [.int i,.int j],Y],S0.m⟩):=by
  unfold rO;rw[b];rfl
 exact eL a (iI J (seq1 J<|seq1 J<|seq1 d<|jE<|c7 J<|i9 ..) J) J
def yE(u:Nat->Fn):t66 u=OI (u 34):=J
def jO(u:Nat->Fn):t67 u=OI (u 35):=J
def yF(a:aB [PT,.str t]=O)(h:cN (n+13) 34 [PT,.str t] []=.exc 0 [.int i,.int j] S0):∃e,cN (n+14) 35 [PT,.str t] m=.exc 0 [.int i,.int j] e:=by
 rw[wI _ 35 J];have d:aj (cN (n+13) 34) [] (k2 (qX zA)<|qX zB) ⟨[sv PT,Io t,Y,Y,Y],[]⟩=.exc 0 [.int i,.int j] ⟨[sv PT,Io t,Y,Y,Y],S0.m⟩:=by
  show(match cN _ 34 [PT,.str t] []with
   |.ok q=>_
   |.bad=>_
   |.exc c fs f=>_)=_
  rw[h]
 have b:∀B:FS,aC 2 5 (ah (aH 2<|aj _ [] _) B) _ []=.exc 0 _ _:=λB=>by
  unfold aC ah aH;rw[bt<|show[PT,T.str t].length=2 from J];show Res.bind (Res.bind (Res.bind (aj _ [] _ ⟨[sv PT,sv _,Y,Y,Y],[]⟩) _) _) _=_;rw[d];rfl
 refine⟨⟨[sv PT,Io t,Y,Y,Y],m⟩,?_⟩;show aK _ _ _=_;unfold aK;rw[bt a,b];rfl
end
section
variable{A x:Option C}{R g o:List Tx}{hs:List HT}{s k:Nat}
def LH(A:Option C)(R:List Tx)(hs:List HT)(s:Nat)(o g:List Tx)(x:Option C):S:=⟨[A,Iy<|af R,U<|.ol<|hs.map fK,px (s:Nat),Iy<|af o,Iy<|af g,x],[]⟩
def OJ(b:s<=k)(a:k<Kk R):sl R s (k+1)=sl R s k++[R[k]]:=by
 show(R.drop s).take _=(R.drop s).take _++[R[k]];rw[show k+1-s=(k-s)+1 by lia,List.take_add_one,List.getElem?_drop,show s+(k-s)=k by lia,dM a];rfl
def Ĕ(a b:List Tx)(h:(a++b).length<=1000000):jZ .Add (.lst<|af a) (.lst<|af b)=U (.lst<|af<|a++b):=by
 refine(gG<|by rw[cH,cH,<- cV];exact h).trans ?_
 rw[<- gk]
def ixR(h:k<Kk R):iE (.lst<|af R) (.int (k:Nat))=U (.str R[k]):=by
 have:=ixP T.str h
 rw[show((k+1:Nat):Int)-1=k by lia]at this
 exact this
theorem tQ:∀(es:List Ev)(hs:List HT)(s k:Nat)(g:List Tx)(x:Option C)(b:Bool),takes es=fX (k+1) (Kk R-k)->s<=k->k<=Kk R->Kk R<=1000->Kk hs+Kk es<900000->Kk g+Kk es<900000->(b=ZA->s=k)->∃(hs':List HT)(s' k':Nat)(g':List Tx)(x':Option C),aX (setG 6) EH (es.map Ev.val) (LH A R hs s (sl R s k) g x)=.ok (.nx,LH A R hs' s' (sl R s' k') g' x')/\hk R (es++[Ev.over]) hs s k g=(if g'=sl R s' k' then hs' else hs'++[⟨s',sl R s' k',g'⟩])/\(es.foldl VQ b=ZA->s'=k')/\hs'.length<=Kk hs+Kk es/\g'.length<=Kk g+Kk es/\s'<=k'/\k'<=Kk R
 |[],hs,s,k,g,x,b,_,h,f,_,_,_,p=>⟨hs,s,k,g,x,J,J,p,bL _,bL _,h,f⟩
 |e::es,hs,s,k,g,x,b,d,h,f,m,B,y,p=>by
  rw[ee]at B y;have step:∀{hs1:List HT}{s1 k1:Nat}{g1:List Tx}{x1:Option C},EH (LH A R hs s (sl R s k) g<|sv e.val)=.ok (.nx,LH A R hs1 s1 (sl R s1 k1) g1 x1)->hk R (e::es++[Ev.over]) hs s k g=hk R (es++[Ev.over]) hs1 s1 k1 g1->Kk hs1<=Kk hs+1->Kk g1<=Kk g+1->(∃(hs':List HT)(s' k':Nat)(g':List Tx)(x':Option C),aX (setG 6) EH (es.map Ev.val) (LH A R hs1 s1 (sl R s1 k1) g1 x1)=.ok (.nx,LH A R hs' s' (sl R s' k') g' x')/\hk R (es++[Ev.over]) hs1 s1 k1 g1=(if g'=sl R s' k' then hs' else hs'++[⟨s',sl R s' k',g'⟩])/\(es.foldl VQ (VQ b e)=ZA->s'=k')/\hs'.length<=Kk hs1+Kk es/\g'.length<=Kk g1+Kk es/\s'<=k'/\k'<=Kk R)->∃(hs':List HT)(s' k':Nat)(g':List Tx)(x':Option C),aX (setG 6) EH ((e::es).map Ev.val) (LH A R hs s (sl R s k) g x)=.ok (.nx,LH A R hs' s' (sl R s' k') g' x')/\hk R (e::es++[Ev.over]) hs s k g=(if g'=sl R s' k' then hs' else hs'++[⟨s',sl R s' k',g'⟩])/\((e::es).foldl VQ b=ZA->s'=k')/\hs'.length<=Kk hs+(Kk es+1)/\g'.length<=Kk g+(Kk es+1)/\s'<=k'/\k'<=Kk R:=λa c l1 l2 ⟨hs',s',k',g',x',d1,d2,d3,d4,d5,d6⟩=>
   ⟨hs',s',k',g',x',c8 J a d1,c.trans d2,d3,by lia,by lia,d6⟩
  cases e with
  |take i=>
   have d:=d;cases w:Kk R-k with
   |zero=>rw[w]at d;cases d
   |succ j=>
    rw[w,Gv]at d;injection d with e1 e2
    subst e1;have hk:k<Kk R:=by lia
    have n:=Av h f;have D:oI zB (oA zD<|aU bZ<|k1<|vF 4) (LH A R hs s (sl R s k) g<|sv (Ev.take<|k+1).val)=.ok (.str R[k],LH A R hs s (sl R s k) g<|sv (Ev.take<|k+1).val):=by
     refine pE J (pE J (c7 (aA J J) J) ?_)<|ixR hk;rw[cH,n];exact ej (λz:Int=>U<|T.int z) (by lia)
    refine step (x1:=sv (Ev.take<|k+1).val) (seq1 (x9 (dU J)<|eT<|pE (u:=.lst<|af [R[k]]) J (c7 (aA D J) J)<|Ĕ _ _<|by rw[cV,n];show _+1<=_;lia)<|seq1 (je (dU J) J)<|je (dU J) ?_) J (bx ..) (bx ..) (tQ es hs s (k+1) g _ _ (by rw[show Kk R-(k+1)=j by lia];exact e2) (by lia) hk m (by lia) (by lia) (λz=>by cases z))
    rw[OJ h hk];rfl
  |give l=>
   refine step (seq1 (je (dU J) J)<|seq1 (x9 (dU J)<|eT<|pE (u:=.lst<|af [l]) J (c7 (aA J J) J)<|Ĕ _ _<|by rw[cV];show _+1<=_;lia)<|je (dU J) J) J (bx ..) (by rw[cV];exact bL _)<|tQ es hs s k (g++[l]) _ _ d h f m (by lia) (by rw[cV,gY];lia) p
  |over=>
   have n:=Av h f;have o:a_ (bF (aM .NotEq) (vF 4)<|vF 5) (LH A R hs s (sl R s k) g<|sv Ev.over.val)=.ok (!decide (sl R s k=g),LH A R hs s (sl R s k) g<|sv Ev.over.val):=by
    have:=cU (a:=vF 4) (b:=vF 5) (s:=LH A R hs s (sl R s k) g<|sv Ev.over.val) J J<|neR ..
    unfold a_;rw[this];rfl
   have v:∀(hs1:List HT),ah (aH 3<|oA zD<|aU bZ<|k1<|vF 4) (ah (aH 4<|aU cO aT)<|aH 5<|aU cO aT) (LH A R hs1 s (sl R s k) g<|sv Ev.over.val)=.ok (.nx,LH A R hs1 k (sl R k k) []<|sv Ev.over.val):=λhs1=>by
    refine seq1 (eT<|pE J (c7 (aA J J) J) ?_)<|seq1 (s':=LH A R hs1 k [] g<|sv Ev.over.val) J ?_
    .rw[cH,n]
     exact ej (λz:Int=>U<|T.int z) (by lia)
    .rw[show sl R k k=[] by simp]
     rfl
   by_cases z:sl R s k=g
   .rw[de z]at o
    exact step (hs1:=hs) (s1:=k) (k1:=k) (g1:=[]) (x1:=sv Ev.over.val) (seq1 (je (dU J) J)<|seq1 (je (dU J) J)<|x9 (dU J)<|seq1 (je o J)<|v hs) (by show hk R (es++[Ev.over]) (if g=sl R s k then hs else _) k k []=_;rw[bt z.symm]) (bx ..) (dz _)<|tQ es hs k k [] _ _ d (bL _) f m (by lia) (by show 0+_<_;lia) λ_=>J
   .rw[b7 z]at o
    refine step (hs1:=hs++[⟨s,sl R s k,g⟩]) (s1:=k) (k1:=k) (g1:=[]) (x1:=sv Ev.over.val) (seq1 (je (dU J) J)<|seq1 (je (dU J) J)<|x9 (dU J)<|seq1 (s':=LH A R (hs++[⟨s,sl R s k,g⟩]) s (sl R s k) g<|sv Ev.over.val) (x9 o<|(ya (t:=fK ⟨s,sl R s k,g⟩) (MF:=hs.map fK) (ts:=hs.map fK) (s1:=LH A R hs s (sl R s k) g<|sv Ev.over.val) J (c7 (aA (t:=.int (s:Nat)) J<|aA (t:=.lst<|af<|sl R s k) J<|aA (t:=.lst<|af g) J J)<|ES ..) J<|by rw[cH];lia).trans ?_)<|v _) (by show hk R (es++[Ev.over]) (if g=sl R s k then hs else _) k k []=_;rw[b0 λq=>z q.symm]) (by rw[cV];exact bL _) (dz _)<|tQ es _ k k [] _ _ d (bL _) f m (by rw[cV,gY];lia) (by show 0+_<_;lia) λ_=>J
    have e:hs.map fK++[fK ⟨s,sl R s k,g⟩]=(hs++[(⟨s,sl R s k,g⟩:HT)]).map fK:=by simp
    rw[e];rfl
  |_=>exact step (hs1:=hs) (s1:=s) (k1:=k) (g1:=g) (x1:=sv<|Ev.val _) (seq1 (je (dU J) J)<|seq1 (je (dU J) J)<|je (dU J) J) J (bx ..) (bx ..)<|tQ es hs s k g _ _ d h f m (by lia) (by lia) p
def E6(L:ō R.length lg)(j:Kk R<=1000):cN (n+1) 71 [.lst<|lg.map Ev.val,.lst<|af R] m=.ok (.lst<|(hk R (lg++[Ev.over]) [] 0 0 []).map fK,m):=by
 have v:=L.le;obtain⟨hs,s,k,g,x,d,i,p,l1,l2,l3,l4⟩:=tQ lg [] 0 0 [] Y ZA (by rw[L.tk];rfl) (bL _) (dz _) j (by show 0+_<_;lia) (by show 0+_<_;lia) λ_=>J
 cases p L.op;have l:sl R s s=[]:=by simp
 rw[l]at d i;have c:a_ (bF (aM .NotEq) (vF 5)<|aU cO aT) (LH (Iy<|lg.map Ev.val) R hs s [] g x)=.ok (!decide (g=[]),LH (Iy<|lg.map Ev.val) R hs s [] g x):=by
  have:=cU (a:=vF 5) (b:=aU cO aT) (u:=.lst<|af []) (s:=LH (Iy<|lg.map Ev.val) R hs s [] g x) J J<|neR ..
  unfold a_;rw[this];rfl
 rw[wI _ 71 J,i];have start:∀{B:FS}{q:Res _},B _=q->ah (iC 2<|jY aT) (ah (aH 3 zO)<|ah (aH 4<|aU cO aT)<|ah (aH 5<|aU cO aT)<|ah (dD (jV zA) _ EH) B) ⟨[Iy _,sv _,Y,Y,Y,Y,Y],[]⟩=q:=λ{B q} h=>
  seq1 (N_ J)<|seq1 (eT J)<|seq1 (eT J)<|seq1 (eT J)<|seq1 (u6 J d) h
 have f:=by
  show(aB (lg.map Ev.val)&&(aB (af R)&&O))=O;rw[yD,aY];rfl
 by_cases z:g=[]
 .rw[de z]at c
  rw[bt z];exact eL f (iI J (start<|seq1 (je c J)<|jE J) J)<|qR _
 .rw[b7 z]at c
  rw[b0 z];have e:hs.map fK++[fK ⟨s,[],g⟩]=(hs++[(⟨s,[],g⟩:HT)]).map fK:=by simp
  have o:fU 2 (aU cz<|k3 zD (aU cO aT)<|vF 5) (LH (Iy<|lg.map Ev.val) R hs s [] g x)=.ok (.nx,LH (Iy<|lg.map Ev.val) R (hs++[⟨s,[],g⟩]) s [] g x):=by
   refine(ya (t:=fK ⟨s,[],g⟩) J (c7 (aA J<|aA J<|aA J J)<|ES ..) J<|by rw[cH];have:Kk hs<=0+Kk lg:=l1;lia).trans ?_
   rw[e];rfl
  exact eL f (iI J (start<|seq1 (x9 c o)<|jE J) J)<|qR _
end
section
variable{R:List Tx}{hs:List HT}{m:FX}
theorem KL:∀hs:List HT,ib (hs.map fK) (hs.map fK)=O
 |[]=>J
 |h::hs=>by
  show((decide _&&(ib _ _&&(ib _ _&&O)))&&ib _ _)=O;rw[oU,oU,KL hs];simp
theorem KN:∀hs:List HT,all2 (shape 3) (hs.map fK) (hs.map fK)=O
 |[]=>J
 |h::hs=>by
  show((O&&(all2 _ _ _&&(all2 _ _ _&&O)))&&all2 _ _ _)=O;rw[lN,lN,KN hs];rfl
def Rz(p:PL):X6 p.val p.val=U (.bl O):=by
 have e:eqT p.val p.val=O:=by
  show((decide _&&((p.e == p.e)&&O))&&((decide _&&((p.e' == p.e')&&O))&&(ib _ _&&O)))=O;rw[KL];simp
 have s:shape 5 p.val p.val=O:=by
  show((O&&(O&&O))&&((O&&(O&&O))&&(all2 _ _ _&&O)))=O;rw[KN];rfl
 show gd _ _=_;rw[gG s,e]
def ĕ(p:PL):ī p.val p.val=U (.bl ZA):=by
 have h:=Rz p;unfold ī;obtain⟨c,h⟩:=bo h;rw[gG c];injection h with h
 rw[h];rfl
theorem Dw:∀R:List Tx,bu (setG 1) fj (dg (yJ "str") zB) [Y,Y] (af R) m=.ok (R.map λ_=>T.bl O,m)
 |[]=>J
 |l::R=>by
  have a:=Dw R;show bu _ fj _ _ (.str l::af R) m=_;show Res.bind (bu _ fj _ _ _ m) _=_;rw[a];rfl
theorem KO:∀R:List Tx,boolsOf (R.map λ_=>T.bl O)=U (R.map λ_=>O)
 |[]=>J
 |_::R=>by
  show(boolsOf _).map _=_;rw[KO R];rfl
def Dy(a:Kk R<=1000000):cN (n+1) 69 [.lst<|af R] m=.ok (.bl O,m):=by
 rw[wI _ 69 J];refine eL (by show(aB _&&O)=O;rw[aY];rfl) (iI (s':=⟨[Iy<|af R],[]⟩) J (jE ?_) J) J
 show aU Eh _ _=_;refine c7 (aA (nC<|qh J (by rw[cH];exact a)<|Dw R) J) ?_
 show(boolsOf _).map _=_;rw[KO R];show U _=_
 simp
def yG:cN (n+1) 68 [.int i] m=.ok (.bl O,m):=by
 rw[wI _ 68 J];rfl
def RA(h:a s=.ok (.bl b,s')):D.tB a s=.ok (b,s'):=by unfold D.tB;rw[h];rfl
def nT(h:a s=.ok (b,s')):dC a s=.ok (!b,s'):=by unfold dC;rw[h];rfl
def V0(h:a s=.ok (ZA,s))(k:b s=q):ic a b s=q:=by unfold ic;rw[h];exact k
def E7(p:PL)(c:∀h∈p.hs,Kk h.o<=1000000/\h.w.length<=1000000):cN (n+2) 70 [p.val] m=.ok (.bl O,m):=by
 rw[wI _ 70 J];obtain⟨V,d⟩:∃V,V=p.val:=⟨_,J⟩;have a:∀(i:Int)(b:Bool)(x:Option C),â _ ⟨[sv V,sv<|.tup [.int i,.bl b],x],[]⟩=.ok _:=λi b x=>
  je (V0 (nT<|RA (b:=O) J)<|V0 (dU J)<|V0 (nT<|RA<|cE J<|yG n)<|nT<|RA (b:=O) J) J
 have f:∀(h:HT)(x:Option C),Kk h.o<=1000000->Kk h.w<=1000000->Vw _ _=.ok (.nx,⟨[sv V,x,sv<|fK h],[]⟩):=λh x l k=>
  seq1 (je (V0 (nT<|RA (b:=O) J)<|V0 (dU J)<|nT<|RA<|cE J<|yG n) J)<|je (V0 (nT<|RA<|cE J<|Dy n l)<|nT<|RA<|cE J<|Dy n k) J
 have go:∀(hs:List HT)(x y:Option C),(∀h∈hs,Kk h.o<=1000000/\h.w.length<=1000000)->∃z,aX (setG 2) _ (hs.map fK) ⟨[sv V,x,y],[]⟩=.ok (.nx,⟨[sv V,x,z],[]⟩):=λhs=>by
  induction hs with
  |nil=>exact λx y _=>⟨y,J⟩
  |cons h hs g=>
   intro x y c;obtain⟨z,e⟩:=g x _ λq j=>c q<|ed _ j;exact⟨z,c8 J (f h x (c h<|d_ ..).1 (c h<|d_ ..).2) e⟩
 obtain⟨z,s⟩:=go p.hs (sv<|.tup [.int p.n',.bl p.e']) Y c;have t:oI zA (cI 2) ⟨[sv V,sv<|.tup [.int p.n',.bl p.e'],Y],[]⟩=.ok (.lst<|p.hs.map fK,⟨[sv V,sv<|.tup [.int p.n',.bl p.e'],Y],[]⟩):=by rw[d];rfl
 have u:jV (aU cO<|k2 (oI zA zO)<|oI zA zI) ⟨[sv V,Y,Y],[]⟩=.ok ([.tup [.int p.n,.bl p.e],.tup [.int p.n',.bl p.e']],⟨[sv V,Y,Y],[]⟩):=by rw[d];rfl
 rw[<- d];refine eL (by rw[d];show(noOwn p.val&&O)=O;rw[lO];rfl) (iI J (seq1 (je (by rw[d];rfl) J)<|seq1 (u6 u<|c8 J (a _ _ _)<|c8 J (a _ _ _) J)<|seq1 (u6 (NJ t J) s)<|jE J) J) J
end
open PySem PyProof.Rows in
def RB(ns:Ee)(lo hi:Nat):(dY ns (U (lo:Int)) (U (hi:Int)) 2).length<=(hi-lo+1)/2:=by
 refine c_ (List.length_filterMap_le ..) ?_;have e:gV (U lo) (U hi) (U 2) ns.length=(max 0<|min (lo:Int) ns.length,max 0<|min (hi:Int) ns.length,2):=by
  have a1:¬ (lo:Int)<0:=by lia
  have a2:¬ (hi:Int)<0:=by lia
  have a3:(2:Int) > 0:=by decide
  unfold gV;simp only[Option.getD_some,b0 a1,b0 a2,bt a3]
 show(zr _ _ 2).length<=_;unfold zr;rw[cH,lS]
 split<;>lia
section
variable{ns cs:Ee}{m:FX}
def mulM(k:Int)(c:Int):Int:=c*k % 2147483647
theorem AJ(k:Int)(hk:-(2^64)<k/\k<2^64):∀(cs:Ee)(m:FX),bu (setG 1) fj (oM (bF (jZ .Mult) zB<|cI k)<|cI 2147483647) [Y,Y] (aI cs) m=.ok (aI<|cs.map<|mulM k,m)
 |[],_=>J
 |c::cs,m=>cgS J (md (pE (t:=.int c) J J<|gG<|.inl<|.inr hk)<|by decide)<|AJ k hk cs m
def KP(ns:Ee):∃(k:Bool)(rs:List Tx)(ls:List LN)(d:List Tx)(e:Bool),PG k k rs ls/\rs.length<=10/\d.length<=12/\(∀w∈d,TX 6 w)/\∀m,cN (n+3) 63 [.scr ns] m=.ok (.tup [.str<|flat rs,.str<|vH d e],m):=by
 have l:=RB ns 1 21;have j:=RB ns 2 26;obtain⟨c1,ŋ⟩:∃c,c=(dY ns (U 1) (U 21) 2).map (mulM 69621):=⟨_,J⟩;obtain⟨c2,ļ⟩:∃c,c=(dY ns (U 2) (U 26) 2).map (mulM 48271):=⟨_,J⟩;have l1:Kk c1<=10:=by rw[ŋ,cH];exact l
 have l2:Kk c2<=12:=by rw[ļ,cH];exact j
 obtain⟨c0,q⟩:=OF _ ns 0;obtain⟨rs,ls,P,hr,p⟩:=N7 n (cs:=c1) (by lia)
 obtain⟨d,r,g,o⟩:=OE n (cs:=c2) (by lia)
 refine⟨_,rs,ls,d,decide<|0<c0 % 3,P,by lia,by lia,g,λm=>?_⟩
 rw[wI _ 63 J];have f:∀(lo b:Nat){s:S},vF 0 s=.ok (.scr ns,s)->z_ 2 zA (gQ<|cI lo) (gQ<|cI b) s=.ok (.lst<|aI<|dY ns (U lo) (U b) 2,s):=λlo b {s} h=>by
  refine Eq.trans (ej (λx=>Res.bind x _) h) ?_;apply dN;apply dN;apply dN;show Res.bind (bj<|MW 2 (U lo) (U b) _) _=_;rw[show MW 2 (U lo) (U b) (.scr ns)=U (.lst<|aI<|dY ns (U lo) (U b) 2)from gG<|by decide];rfl
 refine sEq J J J<|bS (ô (NJ (f 1 21 J) J) (by rw[cH];lia) J<|by rw[ŋ];exact AJ 69621 (by decide) _ _)<|bS (ô (NJ (f 2 26 J) J) (by rw[cH];lia) J<|by rw[ļ];exact AJ 48271 (by decide) _ _)<|bR (c7 (aA (cE J<|p _)<|aA (cE (aA J<|aA (pE (md (cE J<|q _)<|by decide) J<|EI ..) J)<|o _) J)<|i9 ..) J
end
def PG.po(P:PG k k rs ls)(c:Kk rs<=10):PO ls:=by
 obtain⟨ps,rfl,rfl,d⟩:=P.p;rw[cH]at c;refine⟨by rw[cH];lia,λx b=>⟨?_,P.g x b,λa h=>?_⟩⟩
 .obtain⟨q,h,rfl⟩:=gZ.mp b
  exact(d q h).2
 .obtain⟨rfl,hk⟩:=P.go x b a h
  rw[P.n,hk];exact dJ.mpr J
def RW(k:Nat)(Z:List Tx):Prop:=Kk Z<=k/\∀z∈Z,TX 6 z
def V1(h:RW k R):m_ R<=7*k:=by
 have:∀R:List Tx,(∀z∈R,TX 6 z)->m_ R<=7*Kk R:=λR h=>by
  induction R with
  |nil=>exact bL _
  |cons a R b=>
   have:=b λz c=>h z<|ed _ c
   have:=(h a<|d_ ..).l
   show Kk a+1+m_ R<=7*(Kk R+1)
   lia
 have:=this R h.2
 have:=h.1
 lia
def Ė(ct:Ct t v e):Ct ([97,98,10]++t) ([97,98]::v) e:=by
 have h:aP 10 ([97,98,10]++t)=[97,98]::aP 10 t:=J;rcases ct with⟨rfl,k⟩|⟨rfl,k,k1,k2⟩
 .exact .inl ⟨J,by rw[h,k];rfl⟩
 .refine .inr ⟨J,by rw[h,k],yX _ _,?_⟩
  cases v with
  |nil=>exact dw J k1
  |cons=>exact k2
def V2(p:PL):MY p.val=O:=by
 obtain⟨_,_,_,_,hs⟩:=p;cases hs<;>rfl
def h13(k:60<=n)(P:PO ln)(ct:Ct t v e)(o:Kk t<=900)(l:Kk v<=12)(a:∀w∈v,TX 6 w):∃u r,cN (n+15) 67 [.obj 0 [.lst<|aF ln],.str<|[97,98,10]++t] []=.ok (.tup<|u::r,[])/\MY u=O:=by
 have ct:=Ė ct;have f:([97,98,10]++t).length<=1000:=by rw[cV];show 3+_<=_;lia
 obtain⟨_,b⟩:=Dv n k P ct (c_ f<|by decide) (by
  by_cases h:Kk v<=11
  .exact .inl<|Nat.succ_le_succ h
  .exact .inr ⟨by rw[ee];lia,λ_=>J⟩) λr hr=>(bH.mp hr).elim (λz=>by rw[z];exact⟨by decide,by decide⟩)<|a r
 have d:∀t:Tx,aB [.obj 0 [.lst<|aF ln],.str t]=O:=λt=>by
  show((aB _&&O)&&(O&&O))=O;rw[cD];rfl
 rw[wI _ 67 J];cases a:cN _ 34 _ []with
 |bad=>rw[a]at b;exact b.elim
 |exc c fs S0=>
  rw[a]at b;obtain⟨rfl,i,j,rfl⟩:=b;obtain⟨p,g⟩:=yF n (d _) a;exact⟨_,_,(dA (dA (jO _) _) _).trans<|mW (d _) g,J⟩
 |ok q=>
  rw[a]at b;obtain⟨lg,ks,ts,no,rfl,L⟩:=b;exact⟨_,_,(dA (dA (jO _) _) _).trans<|qS (d _) (lO _)<|vM n L ct f a,V2 _⟩
def KQ(h:a s=.ok (t,s1))(k:b t s1.r=U r):nU b a s=.ok (.nx,⟨r,s1.m⟩):=by
 unfold nU;rw[h];apply dN;rw[k];rfl
def KR(h:a s=.ok (.bl O,s'))(k:b s'=q):k6 a b s=q:=by unfold k6;rw[h];exact k
theorem Wf.RC{n:Nat}:∀{hs:List HT}{q:Nat},Wf n q hs->∀h∈hs,h.at_+Kk h.o<=n
 |g::hs,q,w,h,a=>by
  rcases bH.mp a with rfl|a
  .exact w.2.le
  .exact Wf.RC w.2 h a
theorem yH:∀{hs:List HT}{h:HT},h∈hs->Kk h.w<=wsum hs
 |g::hs,h,a=>by
  show _<=m_ g.w+wsum hs;rcases bH.mp a with rfl|a
  .have:=OH h.w
   lia
  .have:=yH a
   lia
def AK(p:oN):uT p.val=O:=by cases p<;>rfl
def KS(x:RP):uT x.val=O:=by
 cases x with
 |row=>rfl
 |like p=>show(uT p.val&&O)=O;rw[AK];rfl
def RD(x:PC):uT x.val=O:=by
 cases x with
 |last=>rfl
 |soon v p=>show(O&&(uT p.val&&O))=O;rw[AK];rfl
 |rp x=>exact KS x
 |ft x y=>show(uT x.val&&(uT y.val&&O))=O;rw[KS,KS];rfl
def ė(x:CD):uT x.val=O:=by
 cases x with
 |fin=>rfl
 |pc x=>exact RD x
 |no x=>show(uT x.val&&O)=O;rw[RD];rfl
def RE(x:DD):uT x.val=O:=by
 cases x with
 |swap e p w=>show(uT p.val&&(O&&(O&&O)))=O;rw[AK];rfl
 |pile x v=>cases v<;>rfl
 |_=>rfl
def Ę(x:LN):uT x.val=O:=by
 cases x with
 |mark=>rfl
 |bare d=>show(O&&(uT d.val&&O))=O;rw[RE];rfl
 |full c d=>show(uT c.val&&(uT d.val&&O))=O;rw[ė,RE];rfl
theorem Dz:∀ls:List LN,mL (aF ls)=O
 |[]=>J
 |x::ls=>by
  show(uT x.val&&mL _)=O;rw[Ę,Dz ls];rfl
def OL(h:aK g ts m=.ok (t,m')):noOwn t=O:=by
 unfold aK at h;split at h
 .split at h
  .split at h
   .cases h;assumption
   .cases h
  .cases h
  .split at h<;>cases h
 .cases h
def abv(h:a s=.ok (.rt t,s')):ah a b s=.ok (.rt t,s'):=by unfold ah;rw[h];rfl
def ę(i j:Int):X6 (.tup [.int i,.int j]) (.tup [.int i,.int j])=U (.bl O):=by
 show U (T.bl<|decide _&&(decide _&&O))=_;simp
def V3(hn:60<=n)(ns:Ee):cN (n+16) 72 [.scr ns] []=.ok (.bl O,[]):=by
 obtain⟨k,rs,E,a,b,PR,Ņ,y,ő,es⟩:=KP (n+12) ns;have wno:=λw I=>(ő w I).n;have wl:=V1 ⟨y,ő⟩;have ct:=AE wno b;have ht:(vH a b).length<=900:=c_ (vL a b) (by lia)
 obtain⟨t0,K⟩:∃t,t=vH a b:=⟨_,J⟩;obtain⟨d,he1⟩:∃e,e=mV a b:=⟨_,J⟩;rw[<- K,<- he1]at ct;rw[<- K]at ht es;have Q:=PR.po Ņ;have RG:=λm=>PR.read (m:=m) (by lia)<|n+1
 obtain⟨lt,fq⟩:∃lt,lt=flat rs:=⟨_,J⟩;rw[<- fq]at es RG;have vJ:∀t:Tx,aB [.obj 0 [.lst<|aF E],.str t]=O:=λt=>by
  show((aB (aF E)&&O)&&(O&&O))=O;rw[cD];rfl
 have ē:Kk t0<=100000:=c_ ht (by decide)
 obtain⟨G,v⟩:=Dv n hn Q ct ē (.inl y) ő;obtain⟨uo,ro,eo,ho⟩:=h13 n hn Q ct ht y ő;obtain⟨PT,C⟩:∃PT,PT=T.obj 0 [.lst<|aF E]:=⟨_,J⟩;rw[wI _ 72 J];have start:∀{B:FS}{l OM z x:T}{q:Res<|Out×S},cN (n+15) 66 [PT,.str t0] []=.ok (.tup [l,OM],[])->cN (n+15) 67 [PT,.str t0] []=.ok (.tup [z,x],[])->B ⟨[sv<|.scr ns,sv PT,Y,Y,Io lt,Io t0,sv l,sv OM,sv z,sv x,Y,Y,Y,Y],[]⟩=q->ah (nU (dc [4,5])<|aj (cN (n+15) 63) []<|k1 zA) (ah (aH 1<|aj (cN (n+15) 53) []<|k1<|vF 4)<|ah (nU (dc [6,7])<|aj (cN (n+15) 66) []<|k2 zB<|vF 5)<|ah (nU (dc [8,9])<|aj (cN (n+15) 67) []<|k2 zB<|vF 5) B) ⟨[sv<|.scr ns,Y,Y,Y,Y,Y,Y,Y,Y,Y,Y,Y,Y,Y],[]⟩=q:=λ{B l OM z x q} h1 Z h3=>by
  refine seq1 (KQ (cE J<|es _) J) ?_;refine seq1 (s':=⟨[sv<|.scr ns,sv PT,Y,Y,Io lt,Io t0,Y,Y,Y,Y,Y,Y,Y,Y],[]⟩) (eT<|cE J<|by rw[C];exact RG _) ?_
  refine seq1 (KQ (cE J h1) J) ?_;exact seq1 (KQ (cE J Z) J) h3
 rw[<- C]at G v eo vJ;have Ě:∀{t:Tx},aB [PT,.str t]=O:=vJ _;have fin:∀{B:FS}{s':S},B ⟨[sv<|.scr ns,Y,Y,Y,Y,Y,Y,Y,Y,Y,Y,Y,Y,Y],[]⟩=.ok (.rt<|.bl O,s')->s'.m=[]->aK (aC 1 14 B) [.scr ns] []=.ok (.bl O,[]):=λ{B s'} h hm=>eL J (iI J h hm) J;cases s:cN (n+13) 34 [PT,.str t0] []with
 |bad=>rw[s]at v;exact v.elim
 |exc c fs S0=>
  rw[s]at v;obtain⟨rfl,i,j,rfl⟩:=v;obtain⟨S1,V⟩:=yF n Ě s;have I:cN (n+15) 66 [PT,.str t0] []=.ok (.tup [.non,.tup [.int i,.int j]],[]):=by
   rw[wI _ 66 J];exact(dA (dA (yE _) _) _).trans<|mW Ě<|G.trans s
  have W:cN (n+15) 67 [PT,.str t0] []=.ok (.tup [.non,.tup [.int i,.int j]],[]):=by
   rw[wI _ 67 J];exact(dA (dA (jO _) _) _).trans<|mW Ě V
  refine fin (start I W<|abv<|x9 J<|jE<|KR J<|KR J<|pE (t:=.tup [.int i,.int j]) J J<|ę i j) J
 |ok q=>
  rw[s]at v;obtain⟨lg,ks,ts,no,rfl,L⟩:=v;obtain⟨g,X⟩:∃g,g=T.tup [.lst<|af<|gives lg,.fh ks ts,.lst no,.lst<|lg.map Ev.val]:=⟨_,J⟩;have V:cN (n+14) 35 [PT,.str t0] []=.ok ((Ē a d lg).val,[]):=by rw[C];rw[C]at s;exact vM n L ct (by lia) s
  have Fd:cN (n+15) 35 [PT,.str t0] []=.ok ((Ē a d lg).val,[]):=by
   rw[C];rw[C]at s G;exact vM (n+1) L ct (by lia)<|G.trans s
  rw[<- X]at s;have hWn:=by
   rw[wI _ 34 J]at s;exact OL s
  have i0:iE g (.int 0)=U (.lst<|af<|gives lg):=by rw[X];rfl
  have i3:iE g (.int 3)=U (.lst<|lg.map Ev.val):=by rw[X];rfl
  have isW:kZ g=ZA:=by rw[X];rfl
  obtain⟨p,hP⟩:∃p,p=Ē a d lg:=⟨_,J⟩;rw[<- hP]at V Fd;have I:cN (n+15) 66 [PT,.str t0] []=.ok (.tup [g,.tup []],[]):=by
   rw[wI _ 66 J];exact(dA (dA (yE _) _) _).trans<|qS Ě hWn<|G.trans s
  have W:cN (n+15) 67 [PT,.str t0] []=.ok (.tup [p.val,.tup []],[]):=by
   rw[wI _ 67 J];exact(dA (dA (jO _) _) _).trans<|qS Ě (lO p) V
  have hs:=L.sz;have hj:=vK<|gives lg;have hpz:=vL (gives lg) d;have hz:m_ (gives lg)<=99000:=hs;have ct2:=AE (λr hr=>(L.gv r hr).n) d;have hrw:Kk a<=1000:=by lia
  have H:=gW (R:=a) (lg++[Ev.over]) [] 0 0 [];obtain⟨f,F⟩:∃f,f=p.val:=⟨_,J⟩;have isP:kZ f=ZA:=by rw[F];rfl
  rw[<- F]at W Fd;obtain⟨hd,M⟩:∃hd,hd=hk a (lg++[Ev.over]) [] 0 0 []:=⟨_,J⟩;have due:f=.tup [.tup [.int (Kk a:Nat),.bl d],.tup [.int ((gives lg).length:Nat),.bl<|mV (gives lg) d],.lst<|hd.map fK]:=by rw[F,hP,M];rfl
  have hb:∀h∈p.hs,Kk h.o<=1000000/\h.w.length<=1000000:=by
   rw[hP];have HH:=nG lg [] 0 0 [] [] ⟨bL _,by show(a.drop 0).take 0=[];rw[Pe],(λ_ h=>nomatch h),λ_ h=>nomatch h⟩ (bL _) (dz _) L.tk (λ_ h=>nomatch h) L.gv
   intro h hh;have h1:=Wf.RC HH.wf h hh;have Z:=yH hh;rw[lL]at H;have H:wsum (hk a (lg++[Ev.over]) [] 0 0 [])<=0+0+(oR lg+0):=H;have Z:=Z;exact⟨by lia,by lia⟩
  have eA:aH 2 (aU cz<|k3 (aU cz<|k2 (aU bZ<|k1<|vF 10)<|vF 11) (aU cz<|k2 (aU bZ<|k1<|vF 12)<|vF 13)<|aj (cN (n+15) 71) []<|k2 (oI (vF 6)<|cI 3)<|vF 10) (⟨[sv<|.scr ns,sv PT,Y,Y,Io lt,Io t0,sv g,sv<|.tup [],sv f,sv<|.tup [],Iy<|af a,sv<|.bl d,Iy<|af<|gives lg,sv<|.bl<|mV (gives lg) d],[]⟩:S)=.ok (.nx,⟨[sv<|.scr ns,sv PT,sv f,Y,Io lt,Io t0,sv g,sv<|.tup [],sv f,sv<|.tup [],Iy<|af a,sv<|.bl d,Iy<|af<|gives lg,sv<|.bl<|mV (gives lg) d],[]⟩):=by
   rw[show f=.tup [.tup [.int ((af a).length:Nat),.bl d],.tup [.int ((af<|gives lg).length:Nat),.bl<|mV (gives lg) d],.lst<|hd.map fK] by rw[due,cH,cH]]
   exact eT (s':=⟨[sv<|.scr ns,sv PT,Y,Y,Io lt,Io t0,sv g,sv<|.tup [],_,sv<|.tup [],Iy<|af a,sv<|.bl d,Iy<|af<|gives lg,sv<|.bl<|mV (gives lg) d],[]⟩)<|c7 (aA (c7 (aA (c7 (aA J J) J)<|aA J J)<|i9 ..)<|aA (c7 (aA (c7 (aA J J) J)<|aA J J)<|i9 ..)<|aA (cE (aA (pE J J i3)<|aA J J)<|by rw[M];exact E6 (n+14) L hrw) J)<|ES ..
  obtain⟨SF,A⟩:∃SF:S,SF=⟨[sv<|.scr ns,sv PT,sv f,Y,Io lt,Io t0,sv g,sv<|.tup [],sv f,sv<|.tup [],Iy<|af a,sv<|.bl d,Iy<|af<|gives lg,sv<|.bl<|mV (gives lg) d],[]⟩:=⟨_,J⟩;have pF:aM .NotEq f f=U (.bl ZA):=by rw[F];exact ĕ p
  have N:aM .Eq f f=U (.bl O):=by rw[F];exact Rz p
  have eB:ic (dC<|D.tB<|aj (cN (n+15) 70) []<|k1<|vF 8) (a_<|bF (aM .NotEq) (vF 8) zC) SF=.ok (ZA,SF):=by
   rw[A];exact V0 (nT<|RA (b:=O)<|cE (ts:=[f]) J<|by rw[F];exact E7 (n+13) p hb)<|dU<|pE (t:=f) (u:=f) J J pF
  have gdP:mL ([PT,.str<|[97,98,10]++t0]++[])=O:=by
   rw[C];show(((((aF E).head?).all Cs&&mL (aF E))&&O)&&(O&&O))=O;rw[Dz];cases E<;>rfl
  have eC:EA 3 (cN (n+15) 67) [] (k2 zB<|oA (cS [97,98,10])<|vF 5) SF=.ok (.nx,SF):=by
   have d:k2 zB (oA (cS [97,98,10])<|vF 5) SF=.ok ([PT,.str<|[97,98,10]++t0],SF):=by
    rw[A];exact aA J<|aA (pE (t:=.str [97,98,10]) (u:=.str t0) J J<|gG<|by show 3+Kk t0<=_;lia) J
   unfold EA;rw[show(k2 zB<|oA (cS [97,98,10])<|vF 5) SF=_ from d];apply dN;have hm:SF.m=[]:=by rw[A]
   dsimp only;rw[hm];dsimp only;rw[bt gdP,cJ,eo];apply dN;dsimp only;rw[bt ho,A];rfl
  have eD:k6 (oE (vF 8) zC) (oE (aj (cN (n+15) 35) []<|k2 zB<|vF 5) zC) SF=.ok (.bl O,SF):=by
   rw[A];exact KR (pE (t:=f) (u:=f) J J N)<|pE (t:=f) (u:=f) (cE (ts:=[PT,.str t0]) J Fd) J N
  refine fin (s':=SF) (start I W<|seq1 (s':=⟨[sv<|.scr ns,sv PT,Y,Y,Io lt,Io t0,sv g,sv<|.tup [],sv f,sv<|.tup [],Y,Y,Y,Y],[]⟩) (je (yc (dU<|cU (t:=g) (u:=.non) J J<|(Ň _).trans<|by rw[isW])<|dU<|cU (t:=f) (u:=.non) J J<|(Ň _).trans<|by rw[isP]) J)<|seq1 (s':=⟨[sv<|.scr ns,sv PT,Y,Y,Io lt,Io t0,sv g,sv<|.tup [],sv f,sv<|.tup [],Iy<|af a,sv<|.bl d,Y,Y],[]⟩) (KQ (cE (ts:=[.str t0]) J<|Dt (n+14) ct ē) J)
   <|seq1 (s':=⟨[sv<|.scr ns,sv PT,Y,Y,Io lt,Io t0,sv g,sv<|.tup [],sv f,sv<|.tup [],Iy<|af a,sv<|.bl d,Iy<|af<|gives lg,sv<|.bl<|mV (gives lg) d],[]⟩) (KQ (cE (ts:=[.str<|vH (gives lg) d]) (aA (cE (ts:=[.lst<|af<|gives lg,.bl d]) (aA (pE (t:=g) (u:=.int 0) J J i0)<|aA J J)<|AH (n+14)<|by lia) J)<|Dt (n+14) ct2<|by lia) J)
   <|seq1 eA<|by rw[<- A];exact seq1 (je eB J)<|seq1 eC<|jE eD) (by rw[A])
end K61
namespace K61
open PySem D L2
variable(n:Nat)
set_option maxHeartbeats 0
def ON:∀P,Vp (KH.K P) M Ft It=O:=λP=>by kernel_rfl
def OO:∀P,M.cs.all (NC<|KH.K P)=O:=λP=>by kernel_rfl
def OP:∀P,Ft.map (Q4<|KH.K P)=Ft.map λe=>(Q4 (KH.K P) e).map<|ED e:=λP=>by kernel_rfl
set_option maxHeartbeats 0
def BnL:List Fe->Prop
 |[]=>True
 |e::r=>Bn e/\BnL r
theorem RH:∀{l:List Fe},BnL l->∀e∈l,Bn e
 |e::r,h,x,a=>by
  rcases bH.mp a with z|z
  .rw[z];exact h.1
  .exact RH h.2 x z
def lz0{P:B2->Prop}(h:P []):∀us:B2,Kk us=0->P us
 |[],_=>h
 |_::_,e=>by cases e
def ě{n:Nat}{P:B2->Prop}(h:∀a,∀us:B2,Kk us=n->P (a::us)):∀us:B2,Kk us=n+1->P us
 |[],e=>by cases e
 |a::us,e=>h a us<|tW.inj e
def lz1{P:B2->Prop}(h:∀a,P [a]):∀us:B2,Kk us=1->P us:=ě λa=>lz0<|h a
def lz2{P:B2->Prop}(h:∀a b,P [a,b]):∀us:B2,Kk us=2->P us:=ě λa=>lz1<|h a
def lz3{P:B2->Prop}(h:∀a b c,P [a,b,c]):∀us:B2,Kk us=3->P us:=ě λa=>lz2<|h a
def lz4{P:B2->Prop}(h:∀a b c d,P [a,b,c,d]):∀us:B2,Kk us=4->P us:=ě λa=>lz3<|h a
def lz5{P:B2->Prop}(h:∀a b c d e,P [a,b,c,d,e]):∀us:B2,Kk us=5->P us:=ě λa=>lz4<|h a
def E8:Bn ⟨Y,"stretch","stretch",top 65,["one","row","start","ends","begin"],["one","row","start"],[],O,[.int 0]⟩:=λ_ _ _ _ _ _ s a o j n e g hd i=>by
 obtain⟨d,rfl⟩:=PJ.mp<|show Kk j=1 from i;refine⟨λh=>?_,λh=>?_⟩
 .have h:(e++[d]).length=3:=h
  rw[cV]at h;obtain⟨c,b,rfl⟩:∃c b,e=[c,b]:=by
   match e,h with
   |[c,b],_=>exact⟨c,b,J⟩
  exact .of_defaults J g hd J J
 .have h:Kk e=3:=h
  obtain⟨c,b,f,rfl⟩:∃c b f,e=[c,b,f]:=by
   match e,h with
   |[c,b,f],_=>exact⟨c,b,f,J⟩
  exact .of_defaults J g hd J J
def KU:Bn ⟨Y,"pasted","pasted",top 10,["rows","ended","text"],["rows","ended"],[],O,[.bl O]⟩:=λ_ _ _ _ _ _ s a o i n c f hd g=>by
 obtain⟨d,rfl⟩:=PJ.mp<|show Kk i=1 from g;refine⟨λh=>?_,λh=>?_⟩
 .have h:(c++[d]).length=2:=h
  rw[cV]at h;obtain⟨b,rfl⟩:∃b,c=[b]:=by
   match c,h with
   |[b],_=>exact⟨b,J⟩
  exact .of_defaults J f hd J J
 .have h:Kk c=2:=h
  obtain⟨b,e,rfl⟩:∃b e,c=[b,e]:=by
   match c,h with
   |[b,e],_=>exact⟨b,e,J⟩
  exact .of_defaults J f hd J J
def bn:∀e∈Ft,Bn e:=RH (by
 repeat' first|exact trivial|refine And.intro ?_ ?_
 all_goals first|exact λ_ _ _ _ _ _=>lz0 J|exact λ_ _ _ _ _ _=>lz1 λ_=>J|exact λ_ _ _ _ _ _=>lz2 λ_ _=>J|exact λ_ _ _ _ _ _=>lz3 λ_ _ _=>J|exact λ_ _ _ _ _ _=>lz4 λ_ _ _ _=>J|exact λ_ _ _ _ _ _=>lz5 λ_ _ _ _ _=>J|exact E8|exact KU)
end K61
end
open PySem PySem.W PyProof.Rows
set_option maxRecDepth 100000 in
set_option maxHeartbeats 0 in
theorem PySem.Challenge.cw_rowblade_k61_turns_that_differ_holds : PySem.Challenge.rw_rowblade_k61_turns_that_differ.Holds := by
 w_on
 refine holds_law (by
  unfold OpenLaw.wellSaid OpenRow.wellSaid OpenRow.partSaid looksOpen
  repeat' (with_reducible refine look_both ?_ ?_)
  all_goals decide +kernel) λabD=>?_
 refine holds_open (q:=KH.vw) (loose:=KH.lz) (Xt:=KH.Xt) (XP:=XL KH.vw []) (Yf:=Hook.obs<|kHook KH.K KH.as KH.Wc) (Ya:=Hook.val<|kHook KH.K KH.as KH.Wc) (YP:=Hook.says<|kHook KH.K KH.as KH.Wc) (N:=22696) KH.left (Hook.of<|kHook KH.K KH.as KH.Wc) (Hook.keeps<|kHook KH.K KH.as KH.Wc) (λs e=>xl_of s (Bool.and_eq_true_iff.mp e).1) XL.keeps (by rfl) (by rfl) (by rfl) (λs e=>recFacts_of (Bool.and_eq_true_iff.mp e).2) (by rfl) (by first|assumption|decide +kernel) (by decide +kernel) ⟨J,J,J,J,J,by decide +kernel⟩ ?hw ?hc
 (case hw=>w_witness2)
 k_fill
 refine _root_.D.Ð (l:=PySem.Challenge.rw_rowblade_k61_turns_that_differ) (m:=63) (n:=76) (K:=KH.K) (M:=K61.M) (Ft:=K61.Ft) (It:=K61.It) (i:=72) J (by decide) J ⟨J,by decide,by decide⟩ (λw h a=>PySem.W.kIn_of a) J J J J J (λP=>⟨⟨K61.ON P,K61.OP P,K61.bn⟩,K61.OO P⟩) λns _ _=>⟨[],K61.V3 60 (Nat.le_refl _) ns⟩
