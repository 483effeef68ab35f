import PyProof.Rows.All
import Wide.All
import OpenK.AllK
import Wide.FinOn
import Lean
import PyProof.EqAt
import PyProof.EqKinds
import PyProof.TupleCall
import PyProof.Rows.EnumRows
import PyProof.EnumMake
import KE.KIntText
import KE.KEqDict
import PyProof.TupleOfGen
import PyProof.CollectIter
import KE.KRevIter
import PyProof.Rows.SortStr
import KE.KDictSum
import PyProof.DictItems
import KE.KPairComp
import PyProof.StrBlock
import KE.IntTextText
import PySem.Challenge.RW_rowblade_k37_boxes_and_faults
set_option Elab.async false
set_option linter.all false
set_option maxRecDepth 100000
set_option compiler.extract_closed false
noncomputable section
set_option genSizeOf false
set_option bootstrap.genMatcherCode false
local macro_rules|`(def $x $s:optDeclSig $v:declVal)=>do return(←`(noncomputable def $x $s:optDeclSig $v:declVal)).raw.rewriteBottomUp (·.setInfo .none)
local macro_rules|`(abbrev $x $s:optDeclSig $v:declVal)=>do return(←`(noncomputable abbrev $x $s:optDeclSig $v:declVal)).raw.rewriteBottomUp (·.setInfo .none)
open PySem renaming wpAny_bind→ab,Value→ar,Shared→bh,Addr→cw,wpAny_pure→c7,model→da,Expr→de,sizeLine→dv,starEach→dy,World→dA,Program→ef,wpAny→eg,sizeLine_eq→ew,compareOp→eJ,Around→eL,mainGlobals→eR,FuncData→eX,eval→e6,behindInMarks→ff,Heap→fA,foldedSetIterable→fE,swapsWith→fI,treeTable→fY,wpAny_mono→f6,attributeBase→gL,wpAny_Call_Name_kw→gV,sysModules→hA,Scope→hB,mem_of_lookup→hI,wpAny_typeNameOfWhole_itemiter→hR,backTo→hW,bootBuiltins→ih,assignEach→ij,wpAny_passesOwn→ip,DictEntry→iq,wpAny_pyIter_list→i3,cLine→kd,OsState→ke,binaryOp→kn,wpAny_typeNameOf_itemiter→k4,wpAny_setField_rec→lY,tupleKind_room_in1→ma,wpAny_getItem_str_slice→mx,keywordEach→my,Stmt→mB,wpAny_truthy_bool→mF,wpAny_newObj_type→mI,Params→nJ,IsItemIter→nL,wpAny_holding→nO,sliceBounds→n2,wpAny_execs_nil→n5,Thread→n7,CmpOp→oa,codeAny_mono→ox,call_meets→oT,Operator→o7,wpAny_call_entry→pv,backToKw→pB,NameKind→pF,wpAny_rule→p0,wpAny_isOneOf_itemiter→p5,valueAt→qd,typeIs_str→qx,Keyword→rb,wpAny_loadPart'→rg,post_val_or_str→ri,letOwnedTupleGo→ro,subscripted→ry,codeAny_call_builtin→rz,tupleKind→rN,standAt→rO,holding→rS,codeAny→r0,Str→sd,wpAny_standAt→si,swappedStores→sk,builtinsNs→sr,assign→sx,wpAny_pyIter_enum→sX,wpAny_dictEntries→sY,callerA→s9,call_meetsIn→tb,intText?→tc,boot_len→td,getMethod→ui,PassesOwn→vi,wpAny_field→vk,IsRangeIter→vu,wpAny_dictEpoch→vy,importedModules→vT,Within→wk,getItem→wI,wpAny_call→xp,rawInt→xr,pyNext→xt,atKey→xu,Paired→xI,GenState→xK,evalArgs_none→yB,wpAny_attempt→y8,IsItemIterOut→zv,wpAny_callSpecial?_slot→zH,wpAny_Call_method0_late→z3,seqIndex?→z4,bindL→Cp,bindC→CC,wpAny_pyNext_range_end→D3,wpAny_pyIter_rangeiter→FD,seqIndex_neg→FX,relabel→F7,isTrue→Gf
open PySem.Heap renaming get?_push_of_some→bp,get?_push_size→c8,lt_size→dk,size_push→lK,SameBut→ph,get?_update_other→xk,get?_push_ne→Hf,size_update→Hu
open PyProof.Rows renaming wpS_bind→cq,wpS_pure→cx,Keyed→ed,SortSt→eh,pendingOf→et,arrOf→fu,wpS_forRange→fw,failedOf→fC,wpS_mono→hQ,oneType'→hV,wpS_modify→ic,wpS_get→oe,seqObj→pk,wpS_lift→rr,AllBare→r1,envOfC→uj,StrsAre→xa,subscriptTail→y_,subscriptTail_builtinR→FV
open PySem.W.Fast renaming te10110043849684766642→dz
open Array renaming length_toList→eo,getElem?_toList→ey,toList_append→eY,toList_extract→hG,toList_push→h7,toList_reverse→mN,toArray_toList→nr,toList_setIfInBounds→tj,getElem?_eq_getElem→tR,toList→wH
open PyProof.Rows.KeyOrd renaming kle_trans→eC,kle_of_klt→fv,kle_of_not_klt→me,kle_refl→sq,kle→y4
open PySem.Builtin.Str renaming occurrences→eH,strSliceIndices→f7,strKind→gN,strSub→ra
open PySem.Str renaming ofString→f5,join→uW,empty→xc
open False renaming elim→gk
open ForInStep renaming yield→gC
open True renaming intro→hJ
open PySem.Flow renaming next→hZ
open PySem.Builtin.Int renaming intBits→il
open PySem.Builtin.Range renaming rangeSize→iv,small→sT
open PySem.W renaming looks_pair→kf,segRun_of→kA,piece_app→kF,piecesOf→mL,SharedT→n0,segRunT→og,boot_heap→pz,emptyDict→BG
open PyProof.Rows.SortSt renaming mk'→kv
open PySem.Builtin.Dict_items renaming ownsTuple→kz,ownedTupleIsFree→n8,ownedTupleFields→n9,pairFromOwner→oP,newIterator→Hw,dictOf→HI
open PySem.Value renaming none→kS,type→pa,bool→pb,isStrOf→uk,float→xB,isStrOf_shape→yA
open PySem.StrLaws renaming sliceText→k6,subAt_eq→oy
open PySem.Obj renaming mapSeq→ll
open PySem.Calls renaming callWith_builtin→lr,spliced_cons→rp,Name_function_global→ti,evalArgs_plain→x5,spliced_nil→DR
open PySem.Heap.SameBut renaming extBut→mr
open PySem.Txt renaming strip→mM,startswith→qB,slice_le→r2,endswith→r3,slice→wK
open PySem.Builtin.List renaming listTooLong→nz
open PySem.SeqAt renaming EqAt→n4,RcNeAt→wh,RcAt→zr
open PySem.F renaming plainAttrs_list→oB,plainAttrs_dict→oC,slot_dict_get→pf,type_list_append→tf,slot_list_append→th,slot_dict_items→tq,args_dict_get_3→tJ,slot_dict_keys→u9,entry_dict_get→va
open Sum renaming inr→r4,inl→r_
open PySem.SeqAt.RcAt renaming lists_lengths→sm,tuples→wj,lists→xi
open PySem.Builtin.Dict renaming showsAll→sy
open Char renaming toNat→tL
open PyProof renaming noPylong_small→vb
open PySem.SeqAt.EqAt renaming str_int→vl,int_str→vr
open PySem.Around renaming under→vx
open PySem.Heap.IsList renaming push→wq
open PySem.Code renaming isFrame→xl
open PySem.Expr renaming Name→Hv
def ag:=@if_neg
def bt:=@if_pos
def cm:=@congrArg
def dc:=@of_decide_eq_true
def dd:=@decide_eq_false
def dr:=@decide_eq_true
def eD:=@absurd
def eI:=@congrFun
def eP:=@decide_eq_true_eq
def gs:=@decide_eq_false_iff_not
def hH:=@or_false
def ix:=@beq_iff_eq
def n6:=@beq_self_eq_true
def o_:=@if_true
def pq:=@decide_eq_true_iff
def tW:=@not_or
def v3:=@if_false
def He:=@funext
open Option renaming some→U,none→Y
open Bool renaming true→O,false→Zb
theorem J.{u}{α:Sort u}{a:α}:a=a:=rfl
abbrev Ap:=List<|List Nat
abbrev B1:=List Nat
abbrev B2:=List PySem.Value
abbrev Bi:=List sd
abbrev Bz:=List PySem.Expr
abbrev BM:=List PySem.Addr
abbrev D1:=Option PySem.Value
abbrev D2:=Option Int
abbrev Dx:=List Int
abbrev DD:=List PySem.Stmt
abbrev Ee:=List Bool
namespace Z0
end Z0
open PySem.W renaming Frag→bG,findIn→gp,kia_one→lQ,keepIn→pG,nsIn→pH,emptyDict→rj,kitOne→rm,instObj→tX,fnOf→A9,plainGet→tY,isFn→tZ,makesIn→t_,lookIn→yk,hasDictIn→yl,specialIn→ym,takesIn→yn,mroIn→yo,methodObj→Cz,plainGet_of→CA,plainOver→CB,takerIn→CD,kitx_dict→CF,callWith_K→CG,callWith_K0→CH,codeIn→CI,kitAny→CJ,handedIn→K9,kitx_list→K_,kitx_own→La,methodCall_KW→Lb,cellsFrom_some→Ld,Dflts→Le
open Nat renaming le_refl→bW,le_trans→dq,le_add_right→cH,ne_of_lt→dP,lt_of_lt_of_le→ez,zero_le→gq,sub_self→kH,lt_succ_self→pI,lt_of_le_of_lt→pJ,zero_add→pK,succ→pL,lt_irrefl→ua,add_le_add_right→uc,le_of_eq→wL,ne_of_gt→A_,le_of_not_lt→ud,lt_succ_of_lt→ue,le_of_lt→yp,le_succ→yq,lt_of_le_of_ne→yr,succ_mul→CK,mul_le_mul→CL,sub_lt_sub_left→CM,lt_or_ge→CN,add_sub_cancel_left→CO,add_assoc→CP,mul_comm→Lf,lt_trans→Lg,le_add_left→Lh,min_self→Li,le_antisymm→Lj,eq_zero_of_not_pos→Lk,pos_of_ne_zero→Ll,mul_le_mul_right→Lm,mul_succ→Ln
open List renaming length_map→bX,length_append→dg,getElem?_eq_some_iff→du,replicate→dN,mem_cons_of_mem→eE,mem_cons_self→bC,length_cons→bI,mem_cons→bK,size_toArray→bT,range→bZ,append_assoc→b_,getElem?_eq_getElem→cD,getElem?_set_ne→cJ,mem_of_getElem?→dh,append_nil→dw,map_cons→dG,getElem?_map→dH,getElem?_set_self→dQ,getElem?_append_right→eF,length_take→eT,length_set→eU,getElem?_append_left→e_,prefix_rfl→fh,all_cons→fG,mem_range→gu,mem_map→gA,getD_eq_getElem?_getD→gP,mem_append→ir,map_map→iu,mem_singleton→iw,not_mem_nil→iC,all_eq_true→iD,map_append→i6,mem_append_right→jj,lookup_cons→jk,pairwise_append→jl,length_drop→jL,take_append_drop→jM,drop_eq_getElem_cons→jN,length_replicate→kI,flatten_cons→kJ,Perm→kK,lookup→lR,nodup_cons→lS,nil_append→lT,mem_reverse→lU,replicate_succ→m_,length_singleton→ng,length_range→nh,flatten→ni,zip_cons_cons→nj,length_zip→nk,any_cons→rn,foldl_cons→uf,ext_getElem?→ug,map_congr_left→uh,drop_zero→um,cons_append→uo,reverse_perm→uq,set→ur,getElem?_replicate→wM,length_reverse→wN,getElem_mem→wQ,mem_append_left→Ba,length→Bb,find?_cons→Bc,extract_eq_take_drop→qi,take_left'→qj,isEmpty_iff→qk,map→uu,length_nil→uv,length_eq_zero_iff→uw,take_of_length_le→ux,perm_append_comm→uy,drop_sublist→uz,pairwise_iff_getElem→uA,pairwise_reverse→uB,flatten_append→uC,of_mem_zip→yt,getElem?_range→yu,drop_length→yv,prefix_append→yw,mem_of_mem_take→yx,mem_iff_getElem→yy,mem_of_mem_drop→yz,reverse_append→yC,reverse_reverse→yD,getElem?_drop→yE,getElem?_take→yF,getElem?_eq_none→yG,range'→yH,mem_filter→CQ,filterMap_cons→CS,mem_filterMap→CT,take_sublist→CU,foldl→CV,map_nil→CW,range_succ_eq_map→CY,all_map→CZ,map_replicate→C0,any_eq_true→C1,map_drop→C2,reverse_cons→C4,getElem?_reverse→C5,pairwise_cons→C6,pairwise_singleton→C7,Pairwise→C8,contains_iff_mem→C9,filter_cons_of_neg→C_,filter_cons_of_pos→Dc,eq_nil_of_length_eq_zero→Dd,flatMap_append→De,forIn_cons→Lo,any_map→Lp,length_flatten→Lq,map_take→Lr,map_id→Ls,idxOf?→Lu,findIdx?_eq_some_iff_getElem→Lv,zip_nil_right→Lw,nodup_append→Lx,zip_append→Ly,all_nil→Lz,take_add→LA,getElem_drop→LB,getElem_take→LC,extract→LD,map_fst_zip→LF,foldl_map→LG,take_succ_cons→LH,getElem_map→LI,drop_eq_nil_of_le→LJ,set_append_right→LK,set_append_left→LL,range'_succ→LO,range_eq_range'→LP
open Bool renaming and_eq_true→dj,false_ne_true→cK,and_eq_true_iff→uD,not_eq_true'→uE,or_eq_true→Bd,or_eq_false_iff→uF,and_true→yI,true_and→yJ,not_eq_false'→yK,false_and→Df,and_false→LQ,eq_iff_iff→LR,eq_false_or_eq_true→LS,false_eq_true→LU,not_true→LV,not_not→LW
open Option renaming bind_eq_some_iff→dI,map_eq_some_iff→bD,some→kL,ite_none_right_eq_some→ql,isSome_iff_exists→Dg,isSome_map→Dh,or_eq_some_iff→Di,getD_none→LX,none→LY
open Int renaming ofNat→lV,toNat_natCast→qm,zero_add→uG,emod_nonneg→yL,emod_lt_of_pos→yM,natAbs_natCast→LZ,emod_two_eq→L0
open PyProof.Rows renaming callWith_type1→Be,boot_list→uH,boot_isinstance→yN,recsOf→L3,drecsOf→L4,boot_enumerate→L5,boot_str→L6,boot_int→L7,envOfC→L8,boot_sorted→L_
namespace Z1
end Z1
abbrev dm:=List<|PySem.Addr×PySem.Obj
abbrev cy(x:sd):Prop:=(x == ("__debug__":sd))=Zb
abbrev i7(x:sd):Prop:=(x == ("__classdict__":sd))=Zb
theorem aak.{u,v}{α:Type u}{c:Type v}{x:Option α}{f:α→Option c}{b:c}{P:Prop}(k:∀a,x=U a→f a=U b→P)(h:x.bind f=U b):P:=(Option.bind_eq_some_iff.mp h).elim λa q=>k a q.1 q.2
theorem aal{α γ d:Type}{x:Option<|α×γ}{f:α×γ→Option d}{b:d}{P:Prop}(k:∀a c,x=U (a,c)→f (a,c)=U b→P)(h:x.bind f=U b):P:=(Option.bind_eq_some_iff.mp h).elim λa q=>k a.1 a.2 q.1 q.2
theorem aam{α γ δ e:Type}{x:Option<|α×γ×δ}{f:α×γ×δ→Option e}{b:e}{P:Prop}(k:∀a c d,x=U (a,c,d)→f (a,c,d)=U b→P)(h:x.bind f=U b):P:=(Option.bind_eq_some_iff.mp h).elim λa q=>k a.1 a.2.1 a.2.2 q.1 q.2
namespace L2
open PySem PySem.Spec PyProof.Rows
abbrev Key:=Sum Int Str
def jO:Key->ar->Bool
 |.inl k,v=>Value.isInt k v
 |.inr x,v=>uk x v
def XJ(w:dA):Key->Int
 |.inl k=>hashInt k
 |.inr x=>hashStr w x
def bJ:∀{k:Key}{v:ar},jO k v=O->(∃i t,k=r_ i/\v=Value.int i t)\/(∃x t,k=r4 x/\v=Value.str x t)
 |.inl i,v,h=>by
  obtain⟨t,e⟩:=Value.isInt_shape (k:=i) (v:=v) h;exact .inl ⟨i,t,J,e⟩
 |.inr x,v,h=>by
  obtain⟨t,e⟩:=yA (x:=x) (v:=v) h;exact .inr ⟨x,t,J,e⟩
def Bf(i:Int)(t:Tok):jO (.inl i) (.int i t)=O:=by simp[jO,Value.isInt]
def Bg(x:Str)(t:Tok):jO (.inr x) (.str x t)=O:=by simp[jO,uk]
def Nu(a b:Int):decide ((r_ a:Key)=r_ b)=(a == b):=by
 by_cases e:a=b
 .subst e;simp
 .have h:¬ (r_ a:Key)=r_ b:=λq=>e<|Sum.inl.inj q
  rw[dd h];exact(beq_eq_false_iff_ne.mpr e).symm
def Nv(a b:Str):decide ((r4 a:Key)=r4 b)=decide (a=b):=by
 by_cases e:a=b
 .subst e;simp
 .have h:¬ (r4 a:Key)=r4 b:=λq=>e<|Sum.inr.inj q
  rw[dd h,dd e]
def Nx(a:Int)(b:Str):decide ((r_ a:Key)=r4 b)=Zb:=dd (λq=>nomatch q)
def Ny(a:Str)(b:Int):decide ((r4 a:Key)=r_ b)=Zb:=dd (λq=>nomatch q)
def bj(prog:ef)(w:dA):PySem.KeyKind prog w Key where
 is:=jO
 hash:=XJ w
 inj:=λv a b g d=>by
  rcases bJ g with⟨i,t,rfl,rfl⟩|⟨x,t,rfl,rfl⟩
  .rcases bJ d with⟨j,u,rfl,e⟩|⟨y,u,rfl,e⟩
   .injection e with e1 _;rw[e1]
   .exact nomatch e
  .rcases bJ d with⟨j,u,rfl,e⟩|⟨y,u,rfl,e⟩
   .exact nomatch e
   .injection e with e1 _;rw[e1]
 byValue:=λk v h=>by
  rcases bJ h with⟨i,t,rfl,rfl⟩|⟨x,t,rfl,rfl⟩<;>rfl
 pyHash:=λc h=>by
  rcases bJ c with⟨i,t,rfl,rfl⟩|⟨x,t,rfl,rfl⟩
  .exact wpAny_pyHash_int h
  .exact wpAny_pyHash_str h
 eqBool:=λf c h=>by
  rcases bJ f with⟨i,t,rfl,rfl⟩|⟨x,t,rfl,rfl⟩
  .rcases bJ c with⟨j,u,rfl,rfl⟩|⟨y,u,rfl,rfl⟩
   .rw[Nu]at h;exact wpAny_eqBool_int h
   .rw[Nx]at h;exact vr i t y u _ _ _ _ h
  .rcases bJ c with⟨j,u,rfl,rfl⟩|⟨y,u,rfl,rfl⟩
   .rw[Ny]at h;exact vl x t j u _ _ _ _ h
   .rw[Nv]at h;exact wpAny_eqBool_str h
 «strs»:=λk x t v h=>by
  rcases bJ h with⟨i,u,rfl,e⟩|⟨y,u,rfl,e⟩
  .exact nomatch e
  .injection e with e1 _
   subst e1;cases v<;>rfl
def wR(prog:ef)(w:dA)(k:Key)(v:ar):(bj prog w).is k v=jO k v:=J
def uI(prog:ef)(w:dA)(i:Int)(t:Tok):(bj prog w).is (.inl i) (.int i t)=O:=Bf i t
def uJ(prog:ef)(w:dA)(x:Str)(t:Tok):(bj prog w).is (.inr x) (.str x t)=O:=Bg x t
inductive V where
 |non|bl (b:Bool)|int (i:Int)|str (x:Str)|byt (b:Array UInt8)|flt (b:UInt64)|ref (a:cw)|ty (n:String)
 deriving DecidableEq
def RelV:V->ar->Prop
 |.non,u=>u=kS
 |.bl b,u=>u=pb b
 |.int i,u=>∃t,u=Value.int i t
 |.str x,u=>∃t,u=Value.str x t
 |.byt b,u=>∃t,u=Value.bytes b t
 |.flt b,u=>∃t,u=xB b t
 |.ref a,u=>u=Value.ref a
 |.ty n,u=>u=pa n
abbrev Vals:List V->B2->Prop:=xI RelV
theorem Vals.length{xs:List V}{us:B2}(r:Vals xs us):xs.length=us.length:=Paired.length r
theorem Vals.get:∀{xs:List V}{us:B2}{i:Nat}{x:V},Vals xs us->xs[i]?=U x->∃u,us[i]?=U u/\RelV x u
 |_,_,_,_,.nil,e=>by simp at e
 |_,_,0,_,.cons r _,e=>by simp at e;subst e;exact⟨_,J,r⟩
 |_,_,i+1,x,.cons _ t,e=>by
  obtain⟨u,b,a⟩:=Vals.get (i:=i) (x:=x) t (by simpa using e)
  exact⟨u,by simpa using b,a⟩
theorem Vals.set{x:V}{u:ar}(r:RelV x u):∀{xs:List V}{us:B2}(i:Nat),Vals xs us->Vals (xs.set i x) (us.set i u)
 |_,_,_,.nil=>.nil
 |_,_,0,.cons _ t=>.cons r t
 |_,_,i+1,.cons q t=>.cons q<|Vals.set r i t
theorem Vals.append:∀{xs ys:List V}{us a:B2},Vals xs us->Vals ys a->Vals (xs++ys) (us++a)
 |_,_,_,_,.nil,s=>s
 |_,_,_,_,.cons r t,s=>.cons r<|Vals.append t s
theorem Vals.take:∀{xs:List V}{us:B2}(n:Nat),Vals xs us->Vals (xs.take n) (us.take n)
 |_,_,0,_=>.nil
 |_,_,_+1,.nil=>.nil
 |_,_,n+1,.cons r t=>.cons r<|Vals.take n t
theorem Vals.drop:∀{xs:List V}{us:B2}(n:Nat),Vals xs us->Vals (xs.drop n) (us.drop n)
 |_,_,0,r=>r
 |_,_,_+1,.nil=>.nil
 |_,_,n+1,.cons _ t=>Vals.drop n t
def iy:Option V->D1->Prop
 |some v,some u=>RelV v u
 |none,none=>True
 |_,_=>False
def KV{κ:Type}:List (κ×V)->List (κ×ar)->Prop:=xI λ(p:κ×V) (q:κ×ar)=>p.1=q.1/\RelV p.2 q.2
def kV:Key->V
 |.inl i=>.int i
 |.inr x=>.str x
inductive HO where
 |lst (xs:List V)
 |tup (xs:List V)
 |dK (kvs:List<|Key×V)|dT (kvs:List<|List Key×V)
 |set (S:Int->Bool) (n:Nat)
 |ins (C dx:cw) (fs:List<|Str×V)
 |own (x:cw)
 |xd (fs:List<|Str×V)
 |met (f x:cw)
 |lW (lo hi:Int)
 |f9 (o:Obj) (u:HO)
 |tbl (ps:Array ar)
 |ext (φ:fA->Prop)
abbrev Hp:=cw->Option HO
def upd(H:Hp)(a:cw)(o:HO):Hp:=λb=>if b=a then U o else H b
def ah{H:Hp}{a:cw}{o:HO}:upd H a o a=U o:=by unfold upd;rw[bt J]
def ak{H:Hp}{a b:cw}{o:HO}(h:b≠a):upd H a o b=H b:=by unfold upd;rw[ag h]
def yO{H:Hp}{a:cw}{o u:HO}:upd (upd H a o) a u=upd H a u:=by
 funext b;unfold upd;split<;>rfl
def RN{H:Hp}{a b:cw}{o u:HO}(h:H a=U o)(h':H b=U u)(d:o≠u):a≠b:=by
 intro e;subst e;rw[h]at h';exact d<|kL.inj h'
def aA{H:Hp}{a b:cw}{o:HO}(h:H a=U o)(h':H b=Y):a≠b:=by
 intro e;subst e;rw[h]at h';cases h'
section
variable(P:ef)(w:dA)
def bP(H:Hp)(h:fA)(a:cw):HO->Prop
 |.lst d=>d.length<=dv/\∃(c:B2)(n:Nat),Vals d c/\h.get? a=U {cls:=.type "list",data:=.seq c.toArray n}
 |.tup d=>d.length<=dv/\∃c:B2,Vals d c/\IsTup h a c.toArray
 |.dK b=>b.length<=dv/\(a == hA)=Zb/\∃vs,KV b vs/\h.DictOf (bj P w) a vs
 |.dT b=>b.length<=dv/\(a == hA)=Zb/\∃d:List (List Key×cw×ar),
   xI (λ(p:List Key×V) (q:List Key×cw×ar)=>p.1=q.1/\H q.2.1=U (.tup<|p.1.map kV)/\RelV p.2 q.2.2) b d /\
   ∃o l m,h.get? a=U o/\o.ExactDict/\o.data=.dict l m/\l.toList=d.map (entryOfKey<|rN<|bj P w)/\(d.map (·.1)).Nodup
 |.set S n=>h.SetOf (intKind P w) a S n
 |.ins C g fs=>H g=U (.own a)/\fs.length<=1000/\g≠a/\h.get? a=U (tX C g) /\
   ∃e,h.Ns1 g e/\(∀f,iy (fs.lookup f)<|e f)/\wk e (fs.map (·.1))
 |.own _=>∃o,h.get? a=U o
 |.xd fs=>∃e,h.Ns1 a e/\∀f,iy (fs.lookup f)<|e f
 |.lW lo hi=>∃t u v,h.get? a=U {cls:=.type "range",data:=.fields #[.int lo t,.int hi u,.int 1 v]}
 |.f9 o u=>h.get? a=U o/\bP H h a u
 |.tbl ps=>h.get? a=U {cls:=.none,data:=.fields ps}
 |.met f x=>h.get? a=U (Cz (.ref f)<|.ref x)
 |.ext i=>i h/\(∃o,h.get? a=U o)/\∀k j:fA,i k->(∀o,k.get? a=U o->j.get? a=U o)->i j
def jI(H:Hp)(h:fA):Prop:=∀a o,H a=U o->bP P w H h a o
end
variable{C a dx f x:cw}{A:eL}{b e o:de}{h h':fA}{H H':Hp}{ae:dm}{es:Bz}{p pos:Pos}{P:ef}{s:bh}{E:ar->bh->Prop}{w:dA}
section
variable{o:HO}
theorem bP.lt(x:bP P w H h a o):a<h.objs.size:=by
 cases o with
 |lst c=>obtain⟨_,_,_,_,e⟩:=x;exact dk e
 |tup c=>obtain⟨_,_,_,p⟩:=x;exact p.lt
 |dK b=>obtain⟨_,_,_,_,o,_,_,e,_⟩:=x;exact dk e
 |dT b=>obtain⟨_,_,_,_,o,_,_,e,_⟩:=x;exact dk e
 |set S n=>obtain⟨o,_,_,_,e,_⟩:=x;exact dk e
 |ins C dx fs=>obtain⟨_,_,_,e,_⟩:=x;exact dk e
 |own y=>obtain⟨_,e⟩:=x;exact dk e
 |xd fs=>obtain⟨_,⟨_,_,_,e,_⟩,_⟩:=x;exact dk e
 |lW lo hi=>obtain⟨_,_,_,e⟩:=x;exact dk e
 |f9 ob u=>obtain⟨e,_⟩:=x;exact dk e
 |tbl ps=>exact dk<|show h.get? a=U _ from x
 |met f y=>exact dk<|show h.get? a=U _ from x
 |ext d=>obtain⟨_,⟨_,e⟩,_⟩:=x;exact dk e
theorem Paired.Nz{α c:Type}{F G:α->c->Prop}:∀{l₁:List α}{l₂:List c},xI F l₁ l₂->(∀a b,F a b->G a b)->xI G l₁ l₂
 |_,_,.nil,_=>.nil
 |_,_,.cons r t,f=>.cons (f _ _ r)<|Paired.Nz t f
def bP.pM(x:bP P w H h a o)(k:∀b u,(b=a\/H b=U (.own a))->h.get? b=U u->h'.get? b=U u)
  (A:∀b,H b=U (.own a)->H' b=U (.own a)) (s:∀b xs,H b=U (.tup xs)->H' b=U (.tup xs)):bP P w H' h' a o:=by
 induction o with
 |lst xs=>obtain⟨z,i,n,r,e⟩:=x;exact⟨z,i,n,r,k _ _ (.inl J) e⟩
 |tup xs=>obtain⟨z,i,r,ob,e,c⟩:=x;exact⟨z,i,r,ob,k _ _ (.inl J) e,c⟩
 |dK l=>obtain⟨z,y,vs,r,ob,es,g,e,c⟩:=x;exact⟨z,y,vs,r,ob,es,g,k _ _ (.inl J) e,c⟩
 |dT l=>
  obtain⟨z,y,xs,r,ob,es,g,e,c⟩:=x;exact⟨z,y,xs,Paired.Nz r λp q z=>⟨z.1,s _ _ z.2.1,z.2.2⟩,ob,es,g,k _ _ (.inl J) e,c⟩
 |set S n=>obtain⟨ob,es,g,t,e,c⟩:=x;exact⟨ob,es,g,t,k _ _ (.inl J) e,c⟩
 |ins C dx fs=>
  obtain⟨d,z,ne,e,j,⟨od,es,g,B,c⟩,r⟩:=x;exact⟨A _ d,z,ne,k _ _ (.inl J) e,j,⟨od,es,g,k _ _ (.inr d) B,c⟩,r⟩
 |own y=>obtain⟨ob,e⟩:=x;exact⟨ob,k _ _ (.inl J) e⟩
 |xd fs=>obtain⟨j,⟨od,es,g,e,c⟩,r⟩:=x;exact⟨j,⟨od,es,g,k _ _ (.inl J) e,c⟩,r⟩
 |lW lo hi=>obtain⟨t,u,v,e⟩:=x;exact⟨t,u,v,k _ _ (.inl J) e⟩
 |f9 ob u m=>obtain⟨e,q⟩:=x;exact⟨k _ _ (.inl J) e,m q⟩
 |tbl ps=>
  have e:h.get? a=U {cls:=.none,data:=.fields ps}:=x;show h'.get? a=U {cls:=.none,data:=.fields ps};exact k a _ (.inl J) e
 |met f y=>
  have e:h.get? a=U (Cz (.ref f)<|.ref y):=x;show h'.get? a=U (Cz (.ref f)<|.ref y);exact k a _ (.inl J) e
 |ext D=>obtain⟨p,⟨o,e⟩,st⟩:=x;exact⟨st _ _ p λo q=>k _ _ (.inl J) q,⟨o,k _ _ (.inl J) e⟩,st⟩
theorem jI.lt(x:jI P w H h)(e:H a=U o):a<h.objs.size:=(x a o e).lt
def jI.fresh(x:jI P w H h)(e:h.objs.size<=a):H a=Y:=by
 cases q:H a with
 |none=>rfl
 |some u=>exact eD (ez (x.lt q) e)<|ua _
def jI.kept(x:jI P w H h)(k:∀b u,h.get? b=U u->h'.get? b=U u):jI P w H h':=λa o e=>
 (x a o e).pM (λb u _ q=>k b u q) (λ_ q=>q) λ_ _ q=>q
def jI.laid(x:jI P w H h)(k:∀b u,h.get? b=U u->h'.get? b=U u)(f:h.objs.size<=a)(new:bP P w (upd H a o) h' a o):jI P w (upd H a o) h':=λb u e=>by
 have d:=x.fresh f;by_cases hb:b=a
 .subst hb;rw[ah]at e;cases e;exact new
 .rw[ak hb]at e
  exact(x b u e).pM (λc v _ q=>k c v q) (λc q=>by rw[ak<|aA q d];exact q) λc g q=>by rw[ak<|aA q d];exact q
end
def Rd(H:Hp)(a:cw)(u:HO):Prop:=H a=U u\/∃o,H a=U (.f9 o u)
def Rd.ok{P:ef}{w:dA}{H:Hp}{h:fA}{a:cw}{u:HO}(r:Rd H a u)(x:jI P w H h):bP P w H h a u:=by
 rcases r with r|⟨o,r⟩
 .exact x a u r
 .obtain⟨_,q⟩:=x a _ r
  exact q
def RO:Option HO->Prop
 |U<|.lst _=>True
 |U<|.dK _=>True
 |U<|.dT _=>True
 |U<|.set _ _=>True
 |U<|.ins _ _ _=>True
 |U<|.ext _=>True
 |_=>False
section
variable{e:cw}{j:HO}
def jI.write(ok:jI P w H h)(mu:RO<|H x)(he:e=x\/H e=U (.own x))(k:∀b u,b≠e->h.get? b=U u->h'.get? b=U u)(i:∃u,h'.get? e=U u)
  (new:bP P w (upd H x j) h' x j):jI P w (upd H x j) h':=λb u q=>by
 have RP:∀c y,H c=U (.own y)->c≠x:=λc y r z=>by subst z;rw[r]at mu;exact mu
 have XM:∀c a,H c=U (.tup a)->c≠x:=λc a r z=>by subst z;rw[r]at mu;exact mu
 by_cases hb:b=x
 .subst hb;rw[ah]at q;cases q;exact new
 .rw[ak hb]at q
  by_cases hbe:b=e
  .have f:H b=U (.own x):=by
    rcases he with z|z
    .exact eD (hbe.trans z) hb
    .rw[hbe];exact z
   rw[q]at f;cases f;obtain⟨v,g⟩:=i;exact⟨v,by rw[hbe];exact g⟩
  .refine(ok b u q).pM (λc v d r=>k c v ?_ r) (λc r=>by rw[ak<|RP c b r];exact r) λc a r=>by rw[ak<|XM c a r];exact r
   rcases d with rfl|d
   .exact hbe
   .rintro rfl
    rcases he with z|z
    .exact RP c b d z
    .rw[d]at z;cases z;exact hb J
end
structure Un(fs ex:BM)(H H':Hp)(h h':fA):Prop where
 keep:∀b o,h.get? b=U o->H b=Y->b∉fs->b∉ex->h'.get? b=U o
 slot:∀b o,h.get? b=U o->H b=Y->b∈fs->b∉ex->∃sl,h'.get? b=U {o with slots:=sl}
 free:∀b o,h.get? b=U o->H b=Y->b∉ex->H' b=Y
 there:∀b o,h.get? b=U o->b∉ex->∃o',h'.get? b=U o'
 uK:∀b xs,H b=U (.tup xs)->H' b=U (.tup xs)
 rq:∀b o u,H b=U (.f9 o u)->H' b=U (.f9 o u)
 uL:∀b ps,H b=U (.tbl ps)->∃more,H' b=U (.tbl<|ps++more)
section
variable{fs j ex g:BM}{H1 n:Hp}{d u:fA}{e:cw}{o:HO}
def Un.any(u:Un fs ex H H1 h d){b:cw}{ob:Obj}(q:h.get? b=U ob)(n:H b=Y)(a:b∉ex):∃sl,d.get? b=U {ob with slots:=sl}:=by
 by_cases hb:b∈fs
 .exact u.slot b ob q n hb a
 .exact⟨ob.slots,u.keep b ob q n hb a⟩
def Un.kept(k:∀b u,h.get? b=U u->h'.get? b=U u):Un fs ex H H h h':=
 ⟨λb ob q _ _ _=>k b ob q,λb ob q _ _ _=>⟨ob.slots,k b ob q⟩,λ_ _ _ n _=>n,λb ob q _=>⟨ob,k b ob q⟩,λ_ _ q=>q,λ_ _ _ q=>q,λ_ ps q=>⟨#[],by rw[q];simp⟩⟩
def Un.refl:Un fs ex H H h h:=Un.kept λ_ _ q=>q
def Un.laid(k:∀b u,h.get? b=U u->h'.get? b=U u)(e:h.objs.size<=a)(c:H a=Y):Un fs ex H (upd H a o) h h' where
 keep:=λb u q _ _ _=>k b u q
 slot:=λb u q _ _ _=>⟨u.slots,k b u q⟩
 free:=λb u q n _=>by rw[ak<|dP<|ez (dk q) e];exact n
 there:=λb u q _=>⟨u,k b u q⟩
 uK:=λb d q=>by rw[ak<|aA q c];exact q
 rq:=λb u d q=>by rw[ak<|aA q c];exact q
 uL:=λb ps q=>⟨#[],by rw[ak<|aA q c,q];simp⟩
def Un.write(mu:RO<|H x)(he:e=x\/H e=U (.own x))(k:∀b u,b≠e->h.get? b=U u->h'.get? b=U u)(i:∃u,h'.get? e=U u):Un fs ex H (upd H x o) h h':=by
 have c:∀b,H b=Y->b≠x:=λb n z=>by subst z;rw[n]at mu;exact mu
 have d:∀b,H b=Y->b≠e:=λb n z=>by
  subst z;rcases he with r|r
  .exact c b n r
  .rw[n]at r;cases r
 have a:∀b u,H b=U u->¬ RO (U u)->b≠x:=λb u q g z=>by subst z;rw[q]at mu;exact g mu
 refine⟨λb u q n _ _=>k b u (d b n) q,λb u q n _ _=>⟨u.slots,k b u (d b n) q⟩,λb u q n _=>by rw[ak<|c b n];exact n,λb u q _=>?_,
  λb f q=>by rw[ak<|a b _ q λz=>z];exact q,λb u f q=>by rw[ak<|a b _ q λz=>z];exact q,λb ps q=>⟨#[],by rw[ak<|a b _ q λz=>z,q];simp⟩⟩
 by_cases hbe:b=e
 .subst hbe;exact i
 .exact⟨u,k b u hbe q⟩
end
def Wz(h:fA)(H:Hp):BM:=(bZ h.objs.size).filter λa=>(H a).isSome
def rA(h:fA)(H:Hp):fA:=PySem.W.hideAll h<|Wz h H
def Bh(h:fA)(H:Hp):(rA h H).objs.size=h.objs.size:=PySem.W.hideAll_size _ _
def Dj{h:fA}{H:Hp}{b:cw}{o:Obj}(e:h.get? b=U o)(n:H b=Y):(rA h H).get? b=U o:=
 PySem.W.hideAll_get _ e λa=>by
  have q:(H b).isSome=O:=(CQ.mp a).2;rw[n]at q;simp at q
def HD{h:fA}{H:Hp}{b:cw}{o:Obj}(e:(rA h H).get? b=U o):h.get? b=U o/\H b=Y:=by
 have a:h.get? b=U o:=PySem.W.of_hideAll (Wz h H) e;refine⟨a,?_⟩;cases q:H b with
 |none=>rfl
 |some x=>
  have c:b∈Wz h H:=CQ.mpr ⟨gu.mpr<|dk a,by simp[q]⟩
  have z:(rA h H).get? b=Y:=PySem.W.hideAll_none (Wz h H) c;rw[z]at e;cases e
def HE(g h:fA)(L:cw):dm:=(bZ h.objs.size).filterMap λa=>if a=L\/(g.get? a).isSome=O then Y else(h.get? a).map λo=>(a,o)
def rest(g h:fA)(L d:cw):dm:=(HE g h L).filter λp=>decide<|p.1≠d
structure Mod(K:bG)(mg:Str->D1)(base:fA):Prop where
 kin:K.In base
 glob:base.Ns eR mg
 blt:∃mb,base.Ns sr mb/\∀x:Str,x ≠ "__name__" -> mb x=ih x
 nolimit:base.NoLimit
structure Cx where
 prog:ef
 w:dA
 K:bG
 mg:Str->D1
 base:fA
 A:eL
 N:Bi
 s₀:bh
 H₀:Hp
 env:Env
 outer:List Env
 stack:List Env
 ex:BM
 fn:Str->Bool
 calm:Bool
 pn:dm
 xe:ar->bh->Prop
def Dk(l:List Env):BM:=l.filterMap (·.frame)
abbrev Cx.fs(X:Cx):BM:=Dk X.outer
def uM(sc:hB)(x:Str):Prop:=sc.names.lookup x=U .local\/sc.names.lookup x=U .cell\/sc.names.lookup x=U .free
def Loc(sc:hB)(x:Str):Prop:=sc.names.lookup x=U .local\/sc.names.lookup x=U .cell
def Look(env:Env)(h:fA)(m:Str->D1)(x:Str)(u:ar):Prop:=
 (env.kindOf x=U .local/\m x=U u)\/((env.kindOf x=U .cell\/env.kindOf x=U .free)/\∃c,env.cells.lookup x=U c/\h.IsCell c (U u))
structure Cx.Ok(X:Cx):Prop where
 mod:Mod X.K X.mg X.base
 kind:X.env.scope.kind=.function
 glob:X.env.globals=eR
 blt:X.env.builtins=sr
 above:X.s₀.heap.objs.size<=X.env.locals
 inj:∀x y c,X.env.cells.lookup x=U c->X.env.cells.lookup y=U c->x=y
 has:∀x,(X.env.kindOf x=U .cell\/X.env.kindOf x=U .free)->∃c,X.env.cells.lookup x=U c
 cab:∀x c,X.fn x=O->X.env.cells.lookup x=U c->X.s₀.heap.objs.size<=c
 hd:X.calm=O->X.A.handled=Y
 frames:X.A.frames=U X.stack
 stk:X.stack=X.outer\/(X.stack=X.env::X.outer/\X.env.frame=U X.env.locals)
 exf:∀b∈X.ex,b≠X.env.locals/\∀x c,X.env.cells.lookup x=U c->c≠b
 bs:∀b o,X.base.get? b=U o->X.s₀.heap.get? b=U o/\X.H₀ b=Y
 bsz:X.base.objs.size<=X.s₀.heap.objs.size
 noex:∀b o,X.base.get? b=U o->b∉X.ex
 exfs:∀b∈X.ex,b∉X.fs
 lX:X.s₀.heap.FunFrames X.base X.outer
 frf:∀b∈X.fs,X.H₀ b=Y
structure Inv(X:Cx)(ae:dm)(σ:List<|Option V)(H:Hp)(s:bh):Prop where
 ok:X.Ok
 os:s.os=X.s₀.os
 bare:r1 s.gens
 base:Un X.fs X.ex X.H₀ H X.s₀.heap s.heap
 loc:∃m,s.heap.Ns X.env.locals m/\∀(i:Nat)(x:Str)(v:V),X.N[i]?=U x->σ[i]?=U (U v)->uM X.env.scope x->∃u,RelV v u/\Look X.env s.heap m x u
 cell:∀x c,X.env.cells.lookup x=U c->∃v,s.heap.IsCell c v
 free:H X.env.locals=Y
 freeC:∀x c,X.env.cells.lookup x=U c->H c=Y
 pin:∀p∈X.pn++ae,s.heap.get? p.1=U p.2/\H p.1=Y/\p.1≠X.env.locals/\p.1∉X.fs/\∀v,p.2.data≠.cell v
 aZ:jI X.prog X.w H s.heap
 len:σ.length=X.N.length
section
variable{X:Cx}{σ:List<|Option V}
def Cx.Ok.XN(ok:X.Ok){b:cw}{o:Obj}(e:X.base.get? b=U o):b∉X.fs:=λa=>by
 have:=(ok.lX.mem a).1
 rw[e]at this;cases this
theorem Inv.bs(I:Inv X ae σ H s):∀b o,X.base.get? b=U o->s.heap.get? b=U o/\H b=Y:=λb o e=>
 ⟨I.base.keep b o (I.ok.bs b o e).1 (I.ok.bs b o e).2 (I.ok.XN e)<|I.ok.noex b o e,I.base.free b o (I.ok.bs b o e).1 (I.ok.bs b o e).2<|I.ok.noex b o e⟩
def Inv.bk(I:Inv X ae σ H s):∀b o,X.base.get? b=U o->s.heap.get? b=U o:=λb o e=>(I.bs b o e).1
theorem Inv.mod(I:Inv X ae σ H s):Mod X.K X.mg X.base:=I.ok.mod
def Inv.jJ(I:Inv X ae σ H s):X.K.In s.heap:=I.ok.mod.kin.keeps I.bk
theorem Inv.lt(I:Inv X ae σ H s):X.env.locals<s.heap.objs.size:=let⟨_,hn,_⟩:=I.loc;hn.lt
def Inv.sz(I:Inv X ae σ H s):X.s₀.heap.objs.size<=s.heap.objs.size:=dq I.ok.above<|yp I.lt
def Inv.XO(I:Inv X ae σ H s){a:cw}(h:s.heap.objs.size<=a):a∉X.fs:=λc=>by
 obtain⟨_,o,b,_⟩:=I.ok.lX.mem c;exact eD (ez (dk b)<|dq I.sz h)<|ua _
def Inv.NB(I:Inv X ae σ H s):∀x c,X.env.cells.lookup x=U c->c≠X.env.locals:=λx c e z=>by
 obtain⟨v,o,a,hd⟩:=I.cell x c e;obtain⟨m,⟨f,es,g,d,b,_⟩,_⟩:=I.loc;rw[z,d]at a;cases a;rw[b]at hd;cases hd
theorem Inv.lX(I:Inv X ae σ H s):s.heap.FunFrames X.base X.outer:=by
 have all:∀(l:List Env),(∀b∈Dk l,b∈X.fs)->X.s₀.heap.FunFrames X.base l->s.heap.FunFrames X.base l:=by
  intro l
  induction l with
  |nil=>intro _ _;trivial
  |cons env r g=>
   intro f j;obtain⟨k,⟨L,o,a,i,h,hd⟩,hr⟩:=j;have d:L∈X.fs:=f L (by unfold Dk;rw[CS,a];exact bC)
   obtain⟨sl,e⟩:=I.base.slot L o h (I.ok.frf L d) d λz=>I.ok.exfs L z d;exact⟨k,⟨L,_,a,i,e,hd⟩,g (λb c=>f b<|by unfold Dk;rw[CS,a];exact eE _ c) hr⟩
 exact all X.outer (λ_ c=>c) I.ok.lX
theorem Inv.stack(I:Inv X ae σ H s):s.heap.FunFrames X.base X.stack:=by
 rcases I.ok.stk with e|⟨e,b⟩
 .rw[e];exact I.lX
 .rw[e]
  obtain⟨m,a,_⟩:=I.loc;refine .cons (by rw[I.ok.kind];decide) b a ?_ I.lX
  exact Heap.get?_none_of_le<|dq I.ok.bsz I.ok.above
def Inv.rB(I:Inv X ae σ H s):∀b∈Dk X.stack,b∈X.env.locals::X.fs:=λb a=>by
 rcases I.ok.stk with e|⟨e,c⟩
 .rw[e]at a;exact eE _ a
 .rw[e]at a
  unfold Dk at a;rw[CS,c]at a;exact a
def Inv.yP(I:Inv X ae σ H s):∀b∈Dk X.stack,H b=Y:=λb a=>by
 rcases bK.mp (I.rB b a)with e|a
 .rw[e];exact I.free
 .obtain⟨_,o,c,_⟩:=I.ok.lX.mem a
  exact I.base.free b o c (I.ok.frf b a) λz=>I.ok.exfs b z a
def Inv.step{g':Array xK}{t':Nat}{d':Drawn}{ch:BM}(I:Inv X ae σ H s)
  (D:∀b∈ch,(b∈X.ex\/X.s₀.heap.objs.size<=b)/\b≠X.env.locals/\(∀x c,X.env.cells.lookup x=U c->c≠b)/\∀p∈X.pn++ae,p.1≠b)
  (keep:∀b o,b≠X.env.locals->b∉X.fs->b∉ch->s.heap.get? b=U o->H b=Y->h'.get? b=U o)
  (slot:∀b o,b≠X.env.locals->b∈X.fs->b∉ch->s.heap.get? b=U o->H b=Y->∃sl,h'.get? b=U {o with slots:=sl}) (free:∀b o,b∉ch->s.heap.get? b=U o->H b=Y->H' b=Y)
  (there:∀b o,b∉ch->s.heap.get? b=U o->∃y,h'.get? b=U y)
  (uK:∀b h,H b=U (.tup h)->H' b=U (.tup h)) (rq:∀b o u,H b=U (.f9 o u)->H' b=U (.f9 o u)) (uL:∀b ps,H b=U (.tbl ps)->∃A,H' b=U (.tbl<|ps++A))
  (ns:∀m,s.heap.Ns X.env.locals m->h'.Ns X.env.locals m) (aZ:jI X.prog X.w H' h') (M:r1 g') :
  Inv X ae σ H' {s with heap:=h',gens:=g',drawn:=d',toks:=t'}:=by
 have Ġ:∀b o,X.s₀.heap.get? b=U o->b≠X.env.locals:=λb o e=>dP<|ez (dk e) I.ok.above;have E:∀b o,X.s₀.heap.get? b=U o->b∉X.ex->b∉ch:=λb o e a j=>by
  rcases(D b j).1 with z|z
  .exact a z
  .exact eD (ez (dk e) z)<|ua _
 have f:∀x c,X.env.cells.lookup x=U c->∀v,s.heap.IsCell c v->h'.IsCell c v:=λx c e v G=>by
  obtain⟨o,t,hd⟩:=G;have C:c∉ch:=λz=>(D c z).2.2.1 x c e J;by_cases hc:c∈X.fs
  .obtain⟨sl,q⟩:=slot c o (I.NB x c e) hc C t<|I.freeC x c e
   exact⟨_,q,hd⟩
  .exact⟨o,keep c o (I.NB x c e) hc C t<|I.freeC x c e,hd⟩
 refine⟨I.ok,I.os,M,⟨λb o e n j a=>?_,λb o e n j a=>?_,λb o e n a=>?_,λb o e a=>?_,λb h e=>uK b h<|I.base.uK b h e,λb o h e=>rq b o h<|I.base.rq b o h e,λb ps e=>?_⟩,?_,λx c e=>?_,?_,λx c e=>?_,λp F=>?_,aZ,I.len⟩
 .exact keep b o (Ġ b o e) j (E b o e a) (I.base.keep b o e n j a)<|I.base.free b o e n a
 .obtain⟨sl,g⟩:=I.base.slot b o e n j a
  obtain⟨P,B⟩:=slot b _ (Ġ b o e) j (E b o e a) g<|I.base.free b o e n a;exact⟨P,B⟩
 .obtain⟨y,g⟩:=I.base.there b o e a
  exact free b y (E b o e a) g<|I.base.free b o e n a
 .obtain⟨y,g⟩:=I.base.there b o e a
  exact there b y (E b o e a) g
 .obtain⟨m1,g⟩:=I.base.uL b ps e
  obtain⟨m2,B⟩:=uL b _ g;exact⟨m1++m2,by rw[B,Array.append_assoc]⟩
 .obtain⟨m,K,L⟩:=I.loc
  refine⟨m,ns m K,λi x v g B N=>?_⟩;obtain⟨u,r,l⟩:=L i x v g B N;refine⟨u,r,?_⟩;rcases l with l|⟨k,c,e,z⟩
  .exact .inl l
  .exact .inr ⟨k,c,e,f x c e _ z⟩
 .obtain⟨v,z⟩:=I.cell x c e
  exact⟨v,f x c e v z⟩
 .obtain⟨m,⟨o,_,_,t,_⟩,_⟩:=I.loc
  exact free _ o (λz=>(D _ z).2.1 J) t I.free
 .obtain⟨v,o,t,hd⟩:=I.cell x c e
  exact free c o (λz=>(D c z).2.2.1 x c e J) t<|I.freeC x c e
 .obtain⟨e,n,ne,nf,d⟩:=I.pin p F
  have C:p.1∉ch:=λz=>(D p.1 z).2.2.2 p F J;exact⟨keep p.1 p.2 ne nf C e n,free p.1 p.2 C e n,ne,nf,d⟩
def Inv.un{t':Nat}(I:Inv X ae σ H s)(u:Un X.fs [] H H' s.heap h')(aZ:jI X.prog X.w H' h'):Inv X ae σ H' {s with heap:=h',toks:=t'}:=by
 obtain⟨m,⟨o,es,p,c,r⟩,_⟩:=id I.loc;obtain⟨sl,h⟩:=u.any c I.free (by simp)
 exact I.step (g':=s.gens) (d':=s.drawn) (ch:=[]) (λ_ z=>nomatch z) (λb o _ a _ e n=>u.keep b o e n a<|by simp) (λb o _ a _ e n=>u.slot b o e n a<|by simp) (λb o _ e n=>u.free b o e n<|by simp) (λb o _ e=>u.there b o e<|by simp) u.uK u.rq u.uL (λl g=>by
  obtain⟨k,j,i,d,f⟩:=g;rw[c]at d;cases d;exact⟨_,j,i,h,f⟩) aZ I.bare
def Inv.call{g':Array xK}{t':Nat}{d':Drawn}{ch:BM}(I:Inv X ae σ H s)(u:Un (Dk X.stack) ch H H' s.heap h')(aZ:jI X.prog X.w H' h')(k:r1 g')
  (h:∀b∈ch,(b∈X.ex\/X.s₀.heap.objs.size<=b)/\b≠X.env.locals/\(∀x c,X.env.cells.lookup x=U c->c≠b)/\∀p∈X.pn++ae,p.1≠b) :
  Inv X ae σ H' {s with heap:=h',gens:=g',drawn:=d',toks:=t'}:=by
 obtain⟨m,⟨o,es,A,f,r⟩,_⟩:=id I.loc;obtain⟨sl,d⟩:=u.any f I.free λz=>(h _ z).2.1 J;exact I.step (ch:=ch) h (λb o d l a e n=>u.keep b o e n (λz=>(bK.mp<|I.rB b z).elim d l) a) (λb o _ _ a e n=>u.any e n a) (λb o a e n=>u.free b o e n a) (λb o a e=>u.there b o e a) u.uK u.rq u.uL (λy j=>by
  obtain⟨v,t,q,g,i⟩:=j;rw[f]at g;cases g;exact⟨_,t,q,d,i⟩) aZ k
def Inv.turned{t':Nat}{it:cw}(I:Inv X ae σ H s)(k:∀b o,b≠it->s.heap.get? b=U o->h'.get? b=U o)(g:H it=Y)(d:it≠X.env.locals)
  (t:it∈X.ex\/X.s₀.heap.objs.size<=it) (l:∀x c,X.env.cells.lookup x=U c->c≠it) (j:∀p∈X.pn++ae,p.1≠it):Inv X ae σ H {s with heap:=h',toks:=t'}:=by
 have ġ:∀b u,H b=U u->b≠it:=λb u e z=>by rw[z,g]at e;cases e
 refine I.step (g':=s.gens) (d':=s.drawn) (ch:=[it]) (λb i=>?_) (λb o _ _ a e _=>k b o (λz=>a<|by simp[z]) e) (λb o _ _ a e _=>⟨o.slots,k b o (λz=>a<|by simp[z]) e⟩) (λ_ _ _ _ n=>n)
  (λb o a e=>⟨o,k b o (λz=>a<|by simp[z]) e⟩) (λ_ _ e=>e) (λ_ _ _ e=>e) (λb ps e=>⟨#[],by rw[e];simp⟩) (λm h=>?_) (λb u e=>?_) I.bare
 .have e:b=it:=by simpa using i
  subst e;exact⟨t,d,l,j⟩
 .obtain⟨o,es,w,f,r⟩:=h
  exact⟨o,es,w,k _ o (Ne.symm d) f,r⟩
 .refine(I.aZ b u e).pM (λc v a q=>k c v ?_ q) (λ_ q=>q) λ_ _ q=>q
  rcases a with z|z
  .rw[z];exact ġ b u e
  .exact ġ c _ z
def Inv.tok(I:Inv X ae σ H s)(t:Nat):Inv X ae σ H {s with toks:=t}:=I.un (h':=s.heap) (t':=t) Un.refl I.aZ
theorem Inv.kept{t':Nat}(I:Inv X ae σ H s)(k:∀b u,s.heap.get? b=U u->h'.get? b=U u):Inv X ae σ H {s with heap:=h',toks:=t'}:=I.un (Un.kept k)<|I.aZ.kept k
theorem Inv.laid{a:cw}{o:HO}{t':Nat}(I:Inv X ae σ H s)(k:∀b u,s.heap.get? b=U u->h'.get? b=U u)(c:s.heap.objs.size<=a)(new:bP X.prog X.w (upd H a o) h' a o) :
  Inv X ae σ (upd H a o) {s with heap:=h',toks:=t'}:=I.un (Un.laid k c<|I.aZ.fresh c)<|I.aZ.laid k c new
theorem Inv.write{x e:cw}{o:HO}{t':Nat}(I:Inv X ae σ H s)(mu:RO<|H x)(he:e=x\/H e=U (.own x))(k:∀b u,b≠e->s.heap.get? b=U u->h'.get? b=U u)(a:∃u,h'.get? e=U u)
  (new:bP X.prog X.w (upd H x o) h' x o):Inv X ae σ (upd H x o) {s with heap:=h',toks:=t'}:=I.un (Un.write mu he k a)<|I.aZ.write mu he k a new
def Inv.weak{a:List<|Option V}(I:Inv X ae σ H s)(b:a.length=σ.length)(w:∀(i:Nat)v,a[i]?=U (U v)->σ[i]?=U (U v)):Inv X ae a H s:=
 ⟨I.ok,I.os,I.bare,I.base,let⟨m,hn,HG⟩:=I.loc;⟨m,hn,λi x v e d c=>HG i x v e (w i v d) c⟩,I.cell,I.free,I.freeC,I.pin,I.aZ,b.trans I.len⟩
def Inv.yQ{a:dm}(I:Inv X ae σ H s)(h:∀p∈a,s.heap.get? p.1=U p.2/\H p.1=Y/\p.1≠X.env.locals/\p.1∉X.fs/\∀v,p.2.data≠.cell v):Inv X a σ H s:=
 ⟨I.ok,I.os,I.bare,I.base,I.loc,I.cell,I.free,I.freeC,λp b=>(ir.mp b).elim (λz=>I.pin p<|Ba _ z)<|h p,I.aZ,I.len⟩
def uN{N:Bi}(c:N.Nodup){i j:Nat}{x:Str}(a:N[i]?=U x)(b:N[j]?=U x):i=j:=by
 obtain⟨g,e⟩:=du.mp a;obtain⟨f,d⟩:=du.mp b;exact(List.getElem_inj c).mp<|e.trans d.symm
def qp{M:Model}{A:eL}{E:ar->bh->Prop}{i:Nat}{x:Str}{v:V}{u:ar}{Q:Unit->bh->Prop}(I:Inv X ae σ H s)(hN:X.N.Nodup)(hi:X.N[i]?=U x)(B:Loc X.env.scope x)(r:RelV v u)
  (h:∀s',Inv X ae (σ.set i<|U v) H s'->(∃a,ph a s.heap s'.heap/\(a=X.env.locals\/X.env.cells.lookup x=U a))->Q () s') (hf:X.fn x=O\/X.env.scope.names.lookup x=U .local:=by first|exact .inl J|exact .inr J|assumption):eg M A (storeName X.env x u) Q E s:=by
 obtain⟨m,hn,hl⟩:=id I.loc;have XQ:(X.env.scope.kind == .class ||(X.env.scope.kind == .module&&X.env.locals != X.env.globals))=Zb:=by rw[I.ok.kind];rfl
 have F:i<σ.length:=by rw[I.len];exact(du.mp hi).1
 have NB:=I.NB;have g:∀{a:cw}{h':fA},(∃o,s.heap.get? a=U o/\H a=Y)->ph a s.heap h'->jI X.prog X.w H h':=λ{a h'} ha f b ob e=>by
  obtain⟨_,_,qq⟩:=ha;refine(I.aZ b ob e).pM (λc K t q=>(f.2 c ?_).trans q) (λ_ q=>q) λ_ _ q=>q
  rintro rfl
  rcases t with rfl|t
  .rw[qq]at e;cases e
  .rw[qq]at t;cases t
 rcases B with D|D
 .refine wpAny_storeName_local D hn (λh' hn' f=>?_) XQ
  obtain⟨oL,_,_,Z,_⟩:=id hn;refine h _ ⟨I.ok,I.os,I.bare,⟨λb o e n G B=>?_,λb o e n G B=>?_,I.base.free,λb o e B=>?_,I.base.uK,I.base.rq,I.base.uL⟩,⟨_,hn',λj y P l C e3=>?_⟩,λy c e=>?_,I.free,I.freeC,λp W=>?_,g ⟨oL,Z,I.free⟩ f,by simpa using I.len⟩ ⟨_,f,.inl J⟩
  .exact(f.2 b<|dP<|ez (dk e) I.ok.above).trans<|I.base.keep b o e n G B
  .obtain⟨sl,l⟩:=I.base.slot b o e n G B
   exact⟨sl,(f.2 b<|dP<|ez (dk e) I.ok.above).trans l⟩
  .obtain⟨T,l⟩:=I.base.there b o e B
   exact⟨T,(f.2 b<|dP<|ez (dk e) I.ok.above).trans l⟩
  .by_cases hj:j=i
   .subst hj
    rw[hi]at l;cases l;rw[dQ F]at C;cases C;exact⟨u,r,.inl ⟨D,by simp⟩⟩
   .rw[cJ<|Ne.symm hj]at C
    obtain⟨R,S,q⟩:=hl j y P l C e3;refine⟨R,S,?_⟩;rcases q with⟨k,e⟩|⟨k,c,e,z⟩
    .refine .inl ⟨k,?_⟩
     have:y≠x:=λe=>hj<|uN hN l<|e▸hi
     simp[this,e]
    .exact .inr ⟨k,c,e,z.sameBut f<|NB y c e⟩
  .obtain⟨K,z⟩:=I.cell y c e
   exact⟨K,z.sameBut f<|NB y c e⟩
  .obtain⟨e,n,ne,nf,d⟩:=I.pin p W
   exact⟨(f.2 p.1 ne).trans e,n,ne,nf,d⟩
 .have RT:X.fn x=O:=by
   rcases hf with z|z
   .exact z
   .rw[z]at D;cases D
  obtain⟨c,t⟩:=I.ok.has x<|.inl D;obtain⟨K,z⟩:=I.cell x c t;refine wpAny_storeName_cell I.ok.kind D t z λh' Ģ f=>?_;obtain⟨oc,ģ,XR⟩:=id z;refine h {s with heap:=h'} ⟨I.ok,I.os,I.bare,⟨λb o e n G B=>?_,λb o e n G B=>?_,I.base.free,λb o e B=>?_,I.base.uK,I.base.rq,I.base.uL⟩,⟨m,hn.sameBut f<|Ne.symm<|NB x c t,λj y P l C e3=>?_⟩,λy L e=>?_,I.free,I.freeC,λp W=>?_,g ⟨oc,ģ,I.freeC x c t⟩ f,by simpa using I.len⟩ ⟨c,f,.inr t⟩
  .exact(f.2 b<|dP<|ez (dk e)<|I.ok.cab x c RT t).trans<|I.base.keep b o e n G B
  .obtain⟨sl,l⟩:=I.base.slot b o e n G B
   exact⟨sl,(f.2 b<|dP<|ez (dk e)<|I.ok.cab x c RT t).trans l⟩
  .obtain⟨T,l⟩:=I.base.there b o e B
   exact⟨T,(f.2 b<|dP<|ez (dk e)<|I.ok.cab x c RT t).trans l⟩
  .by_cases hj:j=i
   .subst hj
    rw[hi]at l;cases l;rw[dQ F]at C;cases C;exact⟨u,r,.inr ⟨.inl D,c,t,Ģ⟩⟩
   .rw[cJ<|Ne.symm hj]at C
    obtain⟨R,S,q⟩:=hl j y P l C e3;refine⟨R,S,?_⟩;rcases q with q|⟨k,L,e,z'⟩
    .exact .inl q
    .refine .inr ⟨k,L,e,z'.sameBut f ?_⟩
     rintro rfl
     exact hj<|uN hN l<|I.ok.inj _ _ _ e t▸hi
  .by_cases Rk:L=c
   .subst Rk;exact⟨_,Ģ⟩
   .obtain⟨w2,z2⟩:=I.cell y L e
    exact⟨w2,z2.sameBut f Rk⟩
  .obtain⟨e,n,ne,nf,d⟩:=I.pin p W
   refine⟨(f.2 p.1 ?_).trans e,n,ne,nf,d⟩;intro q;rw[q,ģ]at e;have q':oc=p.2:=kL.inj e;exact d K (by rw[<- q'];exact XR)
def nq{M:Model}{A:eL}{E:ar->bh->Prop}{i:Nat}{x:Str}{v:V}{u:ar}{Q:Unit->bh->Prop}(I:Inv X ae σ H s)(c:X.N.Nodup)(hi:X.N[i]?=U x)(a:Loc X.env.scope x)(r:RelV v u)
  (h:∀s',Inv X ae (σ.set i<|U v) H s'->Q () s') (b:X.fn x=O\/X.env.scope.names.lookup x=U .local:=by first|exact .inl J|exact .inr J|assumption):eg M A (storeName X.env x u) Q E s:=
 qp I c hi a r (λs' d _=>h s' d) b
def Inv.RU{s':bh}{ch:BM}(I:Inv X ae σ H s)(d:s'.os=s.os)(u:Un (Dk X.stack) ch H H' s.heap s'.heap)(aZ:jI X.prog X.w H' s'.heap)(f:r1 s'.gens)
  (g:∀b∈ch,(b∈X.ex\/X.s₀.heap.objs.size<=b)/\b≠X.env.locals/\(∀x c,X.env.cells.lookup x=U c->c≠b)/\∀p∈X.pn++ae,p.1≠b):Inv X ae σ H' s':=by
 obtain⟨h',g',d',t',a⟩:=s';have e:a=s.os:=d;subst e;exact I.call (g':=g') (t':=t') (d':=d') u aZ f g
end
abbrev XK:=ar->Option cw->Hp->Prop
abbrev St:=List<|Option V
abbrev VK:=V->Hp->Prop
abbrev TE:=St->Hp->VK->Prop
abbrev TT:=St->Hp->(Bool->Hp->Prop)->Prop
abbrev TA:=St->Hp->(List V->Hp->Prop)->Prop
structure Ends where
 nx:St->Hp->Prop
 rt:VK
 bk:St->Hp->Prop:=λ_ _=>False
 ct:St->Hp->Prop:=λ_ _=>False
abbrev TS:=Ends->St->Hp->Prop
def EP(X:Cx)(ae:dm)(a:St)(Q:VK)(u:ar)(s':bh):Prop:=∃v H',Inv X ae a H' s'/\RelV v u/\Q v H'
def TP(X:Cx)(ae:dm)(a:St)(Q:Bool->Hp->Prop)(b:Bool)(s':bh):Prop:=∃H',Inv X ae a H' s'/\Q b H'
def AP(X:Cx)(ae:dm)(a:St)(Q:List V->Hp->Prop)(us:B2)(s':bh):Prop:=∃vs H',Inv X ae a H' s'/\Vals vs us/\Q vs H'
def SP(X:Cx)(ae:dm)(D:Ends)(f:Flow)(s':bh):Prop:=
 match f with
 |.next=>∃a H',Inv X ae a H' s'/\D.nx a H'
 |.brk=>∃a H',Inv X ae a H' s'/\D.bk a H'
 |.cont=>∃a H',Inv X ae a H' s'/\D.ct a H'
 |.ret u=>∃v a H',Inv X ae a H' s'/\RelV v u/\D.rt v H'
def PE(X:Cx)(e:de)(t:TE):Prop:=
 ∀(ae:dm)(s:bh)(a:St)(H:Hp)(Q:VK),Inv X ae a H s->t a H Q->eg (da X.prog X.w) X.A (e6 e X.env) (EP X ae a Q) X.xe s
def PT(X:Cx)(e:de)(t:TT):Prop:=
 ∀(ae:dm)(s:bh)(a:St)(H:Hp)(Q:Bool->Hp->Prop),Inv X ae a H s->t a H Q->eg (da X.prog X.w) X.A (Gf e X.env<|e6 e X.env) (TP X ae a Q) X.xe s
def PW(X:Cx)(e:de)(t:TT):Prop:=
 ∀(b:Sem ar)(ae:dm)(s:bh)(a:St)(H:Hp)(Q:Bool->Hp->Prop),Inv X ae a H s->t a H Q->eg (da X.prog X.w) X.A (Gf e X.env b) (TP X ae a Q) X.xe s
def PW.pt{X:Cx}{e:de}{t:TT}(h:PW X e t):PT X e t:=h _
def PA(X:Cx)(es:Bz)(t:TA):Prop:=
 ∀(pos:Pos)(ae:dm)(s:bh)(a:St)(H:Hp)(Q:List V->Hp->Prop),Inv X ae a H s->t a H Q->eg (da X.prog X.w) X.A (spliced<|hW pos<|dy es X.env) (AP X ae a Q) X.xe s
def PS(X:Cx)(st:mB)(t:TS):Prop:=
 ∀(ae:dm)(s:bh)(a:St)(H:Hp)(D:Ends),Inv X ae a H s->t D a H->eg (da X.prog X.w) X.A (exec st X.env) (SP X ae D) X.xe s
def jP(X:Cx)(st:DD)(t:TS):Prop:=
 ∀(ae:dm)(s:bh)(a:St)(H:Hp)(D:Ends),Inv X ae a H s->t D a H->eg (da X.prog X.w) X.A (execs st X.env) (SP X ae D) X.xe s
def bV{α:Type}{t:Sem α}{Q b:α->bh->Prop}{M:Model}{A:eL}{E:ar->bh->Prop}{s:bh}(h:eg M A t Q E s)(c:∀a s,Q a s->b a s):eg M A t b E s:=f6 h c λ_ _ x=>x
section
variable{X:Cx}
def HH(i:Nat):TE:=λa H Q=>∃v,a[i]?=U (U v)/\Q v H
def tC(v:V):TE:=λ_ H Q=>Q v H
def fj{i:Nat}{x:Str}{pos:Pos}(p:X.N[i]?=U x)(j:uM X.env.scope x)(hd:cy x:=by decide)(g:i7 x:=by decide):PE X (.Name x pos)<|HH i:=by
 intro ae s f H Q I h;obtain⟨v,e,h⟩:=h;obtain⟨m,k,o⟩:=I.loc;obtain⟨u,r,l⟩:=o i x v p e j;have fin:EP X ae f Q u s:=⟨v,H,I,r,h⟩;rcases l with⟨b,n⟩|⟨b,c,d,a⟩
 .exact wpAny_Name (wpAny_loadName_local I.ok.kind b k n fin) hd
 .rcases b with b|b
  .exact wpAny_Name (wpAny_loadName_cell I.ok.kind b d a fin) hd
  .exact wpAny_Name (wpAny_loadName_free I.ok.kind b d a fin g) hd
def Dl{i j pos}:PE X (.Constant (.int i) j pos)<|tC<|.int i:=λ_ _ _ H _ I h=>wpAny_Constant_int ⟨.int i,H,I.tok _,⟨_,J⟩,h⟩
def RV{b j pos}:PE X (.Constant (.bool b) j pos)<|tC<|.bl b:=λ_ _ _ H _ I h=>Constant_bool ⟨.bl b,H,I,J,h⟩
def ND{j pos}:PE X (.Constant .none j pos)<|tC .non:=λ_ _ _ H _ I h=>Constant_none ⟨.non,H,I,J,h⟩
def NF{x j pos}:PE X (.Constant (.str x) j pos)<|tC<|.str x:=λ_ _ _ H _ I h=>Calls.Constant_str ⟨.str x,H,I.tok _,⟨_,J⟩,h⟩
def Gl(X:Cx)(x:Str):Prop:=X.env.kindOf x=U .globalImplicit
def jQ{E:ar->bh->Prop}{ae:dm}{s:bh}{a:St}{H:Hp}{x:Str}{u:ar}{pos:Pos}{Q:ar->bh->Prop}(I:Inv X ae a H s)(c:Gl X x)(b:X.mg x=U u)(h:Q u s)
  (hd:cy x:=by decide):eg (da X.prog X.w) X.A (e6 (.Name x pos) X.env) Q E s:=
 ti I.ok.kind c (Calls.loadGlobal_global (by rw[I.ok.glob];exact I.mod.glob.keeps I.bk) b h) hd
def gQ{E:ar->bh->Prop}{ae:dm}{s:bh}{a:St}{H:Hp}{x:Str}{u:ar}{pos:Pos}{Q:ar->bh->Prop}(I:Inv X ae a H s)(e:Gl X x)(d:X.mg x=Y)(b:ih x=U u)(h:Q u s)
  (c:x ≠ "__name__" := by decide) (hd:cy x:=by decide):eg (da X.prog X.w) X.A (e6 (.Name x pos) X.env) Q E s:=by
 obtain⟨i,g,f⟩:=I.mod.blt;exact ti I.ok.kind e (Calls.loadGlobal_builtin (by rw[I.ok.glob];exact I.mod.glob.keeps I.bk) d (by rw[I.ok.blt];exact g.keeps I.bk) ((f x c).trans b) h) hd
def rC{x:Str}{v:V}{u:ar}{pos:Pos}(b:Gl X x)(a:X.mg x=U u)(r:RelV v u)(hd:cy x:=by decide):PE X (.Name x pos)<|tC v:=
 λ_ _ _ H _ I h=>jQ I b a ⟨v,H,I,r,h⟩ hd
def yR{x:Str}{v:V}{u:ar}{pos:Pos}(d:Gl X x)(c:X.mg x=Y)(a:ih x=U u)(r:RelV v u)(b:x ≠ "__name__" := by decide)(hd:cy x:=by decide):PE X (.Name x pos)<|tC v:=
 λ_ _ _ H _ I h=>gQ I d c a ⟨v,H,I,r,h⟩ b hd
variable{a:de}{n u:TE}
def tB(t:TE):TT:=λa H Q=>t a H λx H1=>∃c,x=.bl c/\Q c H1
variable{tA v:TT}{rest:Bz}
def XS(t u:TT):TT:=λa H Q=>t a H λc H1=>if c=O then u a H1 Q else Q Zb H1
def tOr(t u:TT):TT:=λa H Q=>t a H λc H1=>if c=O then Q O H1 else u a H1 Q
def XT(t:TT):TT:=λa H Q=>t a H λc H1=>Q (!c) H1
def HJ(d:PT X a tA):PW X (.BoolOp .And [a] pos) tA:=by
 intro f ae s b H Q I h;refine isTrue_and<|bV (d ae s b H Q I h) λc g e=>?_;cases c with
 |true=>exact isTrue_and_nil e
 |false=>exact e
def NG(d:PT X a tA):PW X (.BoolOp .Or [a] pos) tA:=by
 intro f ae s b H Q I h;refine isTrue_or<|bV (d ae s b H Q I h) λc g e=>?_;cases c with
 |false=>exact isTrue_or_nil e
 |true=>exact e
def NH(k:PT X a tA)(j:PW X (.BoolOp .And (b::rest) pos) v):PW X (.BoolOp .And (a::b::rest) pos)<|XS tA v:=by
 intro g ae s d H Q I h;refine isTrue_and<|bV (k ae s d H _ I h) λc i f=>?_;obtain⟨H1,e,q1⟩:=f;cases c with
 |true=>exact j g ae i d H1 Q e q1
 |false=>exact⟨H1,e,q1⟩
def RW(k:PT X a tA)(j:PW X (.BoolOp .Or (b::rest) pos) v):PW X (.BoolOp .Or (a::b::rest) pos)<|tOr tA v:=by
 intro g ae s d H Q I h;refine isTrue_or<|bV (k ae s d H _ I h) λc i f=>?_;obtain⟨H1,e,q1⟩:=f;cases c with
 |true=>exact⟨H1,e,q1⟩
 |false=>exact j g ae i d H1 Q e q1
def NI(d:PT X a tA):PT X (.UnaryOp .Not a pos)<|XT tA:=by
 intro ae s b H Q I h;exact isTrue_not<|d ae s b H (λc H1=>Q (!c) H1) I h
def RY(n u:TE):TE:=λa H Q=>n a H λx H1=>∃c,x=.bl c/\if c=O then u a H1 Q else Q (.bl Zb) H1
def RZ(n:TE):TE:=λa H Q=>n a H λx H1=>∃c,x=.bl c/\Q (.bl<|!c) H1
def NJ{op}{t:TE}(h:PE X a t):PE X (.BoolOp op [a] pos) t:=λae s b H Q I c=>BoolOp_one<|h ae s b H Q I c
def NK(k:PE X a n)(j:PE X (.BoolOp .And (b::rest) pos) u):PE X (.BoolOp .And (a::b::rest) pos)<|RY n u:=by
 intro ae s d H Q I h;refine BoolOp_and<|bV (k ae s d H _ I h) λv g f=>?_;obtain⟨x,H1,e,i,q1⟩:=f;obtain⟨c,rfl,q1⟩:=q1;cases i;refine mF ?_;cases c with
 |true=>exact j ae g d H1 Q e q1
 |false=>exact⟨.bl Zb,H1,e,J,q1⟩
def NL(f:PE X a n):PE X (.UnaryOp .Not a pos)<|RZ n:=by
 intro ae s b H Q I h;refine UnaryOp_<|bV (f ae s b H _ I h) λv i d=>?_;obtain⟨x,H1,g,e,q1⟩:=d;obtain⟨c,rfl,q1⟩:=q1;cases e;exact not_of<|mF ⟨.bl<|!c,H1,g,J,q1⟩
def tIf(t:TT)(n u:TE):TE:=λa H Q=>t a H λc H1=>if c=O then n a H1 Q else u a H1 Q
def uO{c:de}(j:PT X c tA)(l:PE X a n)(k:PE X b u):PE X (.IfExp c a b pos)<|tIf tA n u:=by
 intro ae s e H Q I h;refine wpAny_IfExp<|bV (j ae s e H _ I h) λd f i=>?_;obtain⟨H1,g,q1⟩:=i;cases d with
 |true=>exact l ae f e H1 Q g q1
 |false=>exact k ae f e H1 Q g q1
end
def c9(K:bG)(H:Hp)(a:cw)(xs:List V):Prop:=
 Rd H a (.lst xs) \/
  ∃(o:Obj)(b:Array ar)(n:Nat),K.lookup a=U o/\o.cls=.type "list" /\ o.dict=Y/\o.data=.seq b n/\b.size<=dv/\Vals xs b.toList
def kM(K:bG)(H:Hp)(a:cw)(xs:List V):Prop:=
 Rd H a (.tup xs) \/
  ∃(o:Obj)(b:Array ar)(n:Nat),K.lookup a=U o/\o.cls=.type "tuple" /\ o.data=.seq b n/\b.size<=dv/\Vals xs b.toList
def XU:ar->Option V
 |.none=>U .non
 |.bool b=>U<|.bl b
 |.int i _=>U<|.int i
 |.str x _=>U<|.str x
 |.bytes b _=>U<|.byt b
 |.float b _=>U<|.flt b
 |.ref a=>U<|.ref a
 |.type n=>U<|.ty n
 |_=>Y
def RelV.abs{x:V}{u:ar}(r:RelV x u):XU u=U x:=by
 cases x with
 |non=>cases r;rfl
 |bl _=>cases r;rfl
 |int _=>obtain⟨t,rfl⟩:=r;rfl
 |str _=>obtain⟨t,rfl⟩:=r;rfl
 |byt _=>obtain⟨t,rfl⟩:=r;rfl
 |flt _=>obtain⟨t,rfl⟩:=r;rfl
 |ref _=>cases r;rfl
 |ty _=>cases r;rfl
theorem RelV.inj{x y:V}{u:ar}(r:RelV x u)(q:RelV y u):x=y:=kL.inj<|r.abs.symm.trans q.abs
theorem Vals.inj:∀{xs ys:List V}{us:B2},Vals xs us->Vals ys us->xs=ys
 |_,_,_,.nil,.nil=>J
 |_,_,_,.cons r t,.cons b a=>by rw[r.inj b,Vals.inj t a]
section
variable{X:Cx}{u:St}{xs ys:List V}
def c9.of{K:bG}(h:H a=U (.lst xs)):c9 K H a xs:=.inl<|.inl h
def kM.of{K:bG}(h:H a=U (.tup xs)):kM K H a xs:=.inl<|.inl h
def Inv.list(I:Inv X ae u H s)(h:c9 X.K H a xs):∃its:B2,Vals xs its/\PlainL s.heap a its.toArray/\xs.length<=dv:=by
 rcases h with h|⟨o,its,n,c,d,hd,b,f,r⟩
 .obtain⟨z,its,n,r,e⟩:=h.ok I.aZ
  exact⟨its,r,⟨_,n,e,J,J,J⟩,z⟩
 .refine⟨its.toList,r,⟨o,n,I.jJ a o c,d,hd,by simpa using b⟩,?_⟩
  have e:=r.length;simp only[eo]at e
  lia
def Inv.tuple(I:Inv X ae u H s)(h:kM X.K H a xs):∃its:B2,Vals xs its/\IsTup s.heap a its.toArray/\xs.length<=dv:=by
 rcases h with h|⟨o,its,n,c,d,b,f,r⟩
 .obtain⟨z,its,r,p⟩:=h.ok I.aZ
  exact⟨its,r,p,z⟩
 .refine⟨its.toList,r,⟨o,I.jJ a o c,d,n,by simpa using b⟩,?_⟩
  have e:=r.length;simp only[eo]at e
  lia
def Inv.Dm(I:Inv X ae u H s)(h:c9 X.K H a xs)(h':c9 X.K H a ys):xs=ys:=by
 obtain⟨c,r,⟨o,n,e,_,_,d⟩,_⟩:=I.list h;obtain⟨b,i,⟨j,k,f,_,_,g⟩,_⟩:=I.list h';rw[e]at f;cases f;rw[d]at g;injection g with d1 _
 have:c=b:=by simpa using cm wH d1
 subst this;exact r.inj i
def Inv.qr(I:Inv X ae u H s)(h:kM X.K H a xs)(h':kM X.K H a ys):xs=ys:=by
 obtain⟨c,r,⟨o,e,_,n,d⟩,_⟩:=I.tuple h;obtain⟨b,i,⟨j,f,_,k,g⟩,_⟩:=I.tuple h';rw[e]at f;cases f;rw[d]at g;injection g with d1 _
 have:c=b:=by simpa using cm wH d1
 subst this;exact r.inj i
end
abbrev Cx.pN(X:Cx)(E:ar->bh->Prop):Cx:={X with xe:=E}
abbrev Cx.Mb(X:Cx):Cx:=X.pN λ_ _=>False
theorem Cx.Ok.pN{X:Cx}(ok:X.Ok)(E:ar->bh->Prop):(X.pN E).Ok:=
 ⟨ok.mod,ok.kind,ok.glob,ok.blt,ok.above,ok.inj,ok.has,ok.cab,ok.hd,ok.frames,ok.stk,ok.exf,ok.bs,ok.bsz,ok.noex,ok.exfs,ok.lX,ok.frf⟩
def Cx.Ok.iE{X:Cx}{E:ar->bh->Prop}(ok:(X.pN E).Ok):X.Ok:=
 ⟨ok.mod,ok.kind,ok.glob,ok.blt,ok.above,ok.inj,ok.has,ok.cab,ok.hd,ok.frames,ok.stk,ok.exf,ok.bs,ok.bsz,ok.noex,ok.exfs,ok.lX,ok.frf⟩
section
variable{X:Cx}{d:St}
theorem Inv.pN(I:Inv X ae d H s)(E:ar->bh->Prop):Inv (X.pN E) ae d H s:=⟨I.ok.pN E,I.os,I.bare,I.base,I.loc,I.cell,I.free,I.freeC,I.pin,I.aZ,I.len⟩
theorem Inv.iE(I:Inv (X.pN E) ae d H s):Inv X ae d H s:=⟨I.ok.iE,I.os,I.bare,I.base,I.loc,I.cell,I.free,I.freeC,I.pin,I.aZ,I.len⟩
theorem SP.iE{D:Ends}{f:Flow}{s':bh}(h:SP (X.pN E) ae D f s'):SP X ae D f s':=by
 cases f with
 |next=>obtain⟨a,H',I,q⟩:=h;exact⟨a,H',I.iE,q⟩
 |brk=>obtain⟨a,H',I,q⟩:=h;exact⟨a,H',I.iE,q⟩
 |cont=>obtain⟨a,H',I,q⟩:=h;exact⟨a,H',I.iE,q⟩
 |ret u=>obtain⟨v,a,H',I,r,q⟩:=h;exact⟨v,a,H',I.iE,r,q⟩
theorem jP.Mb{st:DD}{t:TS}(h:jP X.Mb st t):jP X st t:=λae s d H D I a=>
 f6 (h ae s d H D (I.pN _) a) (λ_ _ q=>q.iE) λ_ _ z=>gk z
end
section
variable{X:Cx}{st:mB}{rest:DD}{t u:TS}{te:TE}
def Dn:TS:=λD a H=>D.nx a H
def R3(t u:TS):TS:=λD a H=>t {D with nx:=u D} a H
def yS:jP X [] Dn:=λ_ _ a H _ I h=>n5 ⟨a,H,I,h⟩
def uP(e:PS X st t)(d:jP X rest u):jP X (st::rest)<|R3 t u:=by
 intro ae s b H D I h;refine wpAny_execs_cons<|bV (e ae s b H {D with nx:=u D} I h) λf c q=>?_
 cases f with
 |next=>
  obtain⟨a,H',g,q⟩:=q;exact d ae c a H' D g q
 |ret v=>exact q
 |brk=>exact q
 |cont=>exact q
def yT(b:PS X st t):jP X [st] t:=by
 intro ae s a H D I h;refine wpAny_execs_cons<|bV (b ae s a H D I h) λf c q=>?_;cases f with
 |next=>exact n5 q
 |ret v=>exact q
 |brk=>exact q
 |cont=>exact q
def HK:PS X (.Pass pos) Dn:=λ_ _ a H _ I h=>wpAny_Pass ⟨a,H,I,h⟩
def Inv.quiet{ae:dm}{a:St}{H:Hp}{s:bh}(I:Inv X ae a H s):interactive X.env=Zb:=by simp[interactive,I.ok.kind]
def R4(te:TE):TS:=λD a H=>te a H λ_ H1=>D.nx a H1
def rD(he:PE X e te)(b:fI e Y pos.line X.env=pure Zb:=by rfl):PS X (.Expr e pos)<|R4 te:=by
 intro ae s a H D I h;exact wpAny_Expr_any (bV (he ae s a H _ I h)<|by rintro v d ⟨x,H1,c,f,q1⟩;exact⟨a,H1,c,q1⟩) I.quiet b
def XW(te:TE):TS:=λD a H=>te a H D.rt
def NN(he:PE X e te):PS X (.Return (U e) pos)<|XW te:=by
 intro ae s a H D I h;exact wpAny_Return_some<|bV (he ae s a H _ I h)<|by rintro v d ⟨x,H1,c,b,q1⟩;exact⟨x,a,H1,c,b,q1⟩
def R5:TS:=λD _ H=>D.rt .non H
def HL:PS X (.Return Y pos) R5:=λ_ _ a H _ I h=>wpAny_Return_none ⟨.non,a,H,I,J,h⟩
def XX(c:TT)(t u:TS):TS:=λD a H=>c a H λb H1=>if b=O then t D a H1 else u D a H1
def R6{c:de}{a b:DD}{f:TT}(k:PT X c f)(m:jP X a t)(l:jP X b u):PS X (.If c a b pos)<|XX f t u:=by
 intro ae s e H D I h;refine wpAny_If<|bV (k ae s e H _ I h) λd g j=>?_;obtain⟨H1,i,q1⟩:=j;cases d with
 |true=>exact m ae g e H1 D i q1
 |false=>exact l ae g e H1 D i q1
end
abbrev TG:=V->St->Hp->(St->Hp->Prop)->Prop
abbrev Mc:=List V->St->Hp->(St->Hp->Prop)->Prop
def PG(X:Cx)(a:de)(t:TG):Prop:=
 ∀(ae:dm)(s:bh)(c:St)(H:Hp)(v:V)(u:ar)(Q:St->Hp->Prop),Inv X ae c H s->RelV v u->t v c H Q ->
  eg (da X.prog X.w) X.A (sx a X.env u) (λ_ d=>∃b H',Inv X ae b H' d/\Q b H') X.xe s
def R7(X:Cx)(ts:Bz)(t:Mc):Prop:=
 ∀(ae:dm)(s:bh)(b:St)(H:Hp)(vs:List V)(c:B2)(Q:St->Hp->Prop),Inv X ae b H s->Vals vs c->t vs b H Q ->
  eg (da X.prog X.w) X.A (assignInOrder ((ij ts X.env).map (·.2)) c) (λ_ d=>∃a H',Inv X ae a H' d/\Q a H') X.xe s
abbrev NO:=V->V->V->Hp->(Hp->Prop)->Prop
def R8(X:Cx)(t:NO):Prop:=
 ∀(ae:dm)(s:bh)(a:St)(H:Hp)(o i v:V)(ov b u:ar)(Q:Hp->Prop),Inv X ae a H s->RelV o ov->RelV i b->RelV v u->t o i v H Q ->
  eg (da X.prog X.w) X.A (setItem ov b u) (λ_ c=>∃H',Inv X ae a H' c/\Q H') X.xe s
abbrev WH:=V->V->Hp->VK->Prop
def Ĥ(X:Cx)(op:o7)(t:WH):Prop:=
 ∀(ae:dm)(s:bh)(a:St)(H:Hp)(x y:V)(v u:ar)(Q:VK),Inv X ae a H s->RelV x v->RelV y u->t x y H Q ->
  eg (da X.prog X.w) X.A (inplaceOp op v u) (EP X ae a Q) X.xe s
section
variable{X:Cx}
def yU(i:Nat):TG:=λv a H Q=>Q (a.set i<|U v) H
def rE{i:Nat}{x:Str}(c:X.N.Nodup)(hi:X.N[i]?=U x)(a:Loc X.env.scope x)(b:X.fn x=O\/X.env.scope.names.lookup x=U .local:=by first|exact .inl J|exact .inr J|assumption):PG X (.Name x pos)<|yU i:=by
 intro ae s e H v u Q I r h;exact wpAny_assign_Name<|nq I c hi a r (λf d=>⟨_,H,d,h⟩) b
def R9:Mc:=λvs a H Q=>vs=[]/\Q a H
def Me(t:TG)(u:Mc):Mc:=λvs b H Q=>∃v r,vs=v::r/\t v b H λa H'=>u r a H' Q
def HM:R7 X [] R9:=by
 intro ae s a H vs b Q I r h;obtain⟨e,h⟩:=h;subst e;cases r;exact assignInOrder_nil ⟨a,H,I,h⟩
def Dp{e:de}{es:Bz}{t:TG}{u:Mc}(j:PG X e t)(i:R7 X es u)
  (g:(ij (e::es) X.env).map (·.2)=sx e X.env::(ij es X.env).map (·.2):=by rfl):R7 X (e::es)<|Me t u:=by
 intro ae s b H vs n Q I r h;obtain⟨v,m,k,h⟩:=h;subst k;cases r with
 |cons r f=>
  rw[g];refine assignInOrder_cons<|bV (j ae s b H _ _ _ I r h) λ_ d c=>?_;obtain⟨a,H1,l,q1⟩:=c;exact i ae d a H1 _ _ Q l f q1
def NP(K:bG)(n:Nat)(t:Mc):TG:=λv c H Q=>∃a b,v=.ref a/\kM K H a b/\b.length=n/\t b c H Q
def Dq{es:Bz}{k:Nat}{t:Mc}{n:Nat}(w:X.calm=O)(h:R7 X es t)
  (p:(ij es X.env).length=n:=by rfl) (y:(ij es X.env).findIdx? (·.1)=Y:=by rfl):PG X (.Tuple es k pos)<|NP X.K n t:=by
 intro ae s d H v u Q I r c;obtain⟨a,g,x,m,q,c⟩:=c;subst x;cases r;obtain⟨i,f,l,A⟩:=I.tuple m;refine assign_Tuple_tuple (I.ok.hd w) l (by simp[p,<- q,f.length]) y λh' j=>?_
 have z:Inv X ae d H {s with heap:=h'}:=I.kept (t':=s.toks) λb o e=>j b o (dP<|dk e) e
 exact h ae _ d H g _ Q z (by simpa using f) c
def XZ(b c:TE)(t:NO):TG:=λv a H Q=>b a H λo H1=>c a H1 λi e=>t o i v e λd=>Q a d
def NQ{o i:de}{d e:TE}{t:NO}(n:PE X o d)(hi:PE X i e)(m:R8 X t)
  (p:∀v,sx (.Subscript o i pos) X.env v=(do
   let ov <- rS [v] (e6 o X.env)
   let b <- rS [v,ov] (e6 i X.env)
   rO pos
   rS [v,ov,b] (setItem ov b v)
   release [v,ov,b] []):=by intro _;rfl):PG X (.Subscript o i pos)<|XZ d e t:=by
 intro ae s c H v u Q I r h;rw[p];refine ab<|nO<|bV (n ae s c H _ I h) λov g a=>?_;obtain⟨x,H1,z,k,q1⟩:=a;refine ab<|nO<|bV (hi ae g c H1 _ z q1) λb f a=>?_;obtain⟨y,B,w,j,q2⟩:=a;refine ab<|si<|ab<|nO<|bV (m ae f c B x y v ov b u _ w k j r q2) λ_ C a=>?_;obtain⟨A,q,l⟩:=a;exact wpAny_release ⟨c,A,q,l⟩
def R_(te:TE)(g:TG):TS:=λD a H=>te a H λx H1=>g x a H1 D.nx
def Dr{tg e:de}{te:TE}{g:TG}(he:PE X e te)(j:PG X tg g)(i:swapsWithSole [tg] e pos.line X.env=pure Zb:=by rfl)(f:sk [tg] e X.env=pure Y:=by rfl)
  (k:(ij [tg] X.env).map (·.2)=[sx tg X.env]:=by rfl):PS X (.Assign [tg] e pos)<|R_ te g:=by
 intro ae s a H D I h;refine wpAny_Assign_stores (bV (he ae s a H _ I h) λv c b=>?_) i f;obtain⟨x,H1,l,d,q1⟩:=b;rw[k];exact bV (j ae c a H1 x v _ l d q1) λ_ m q=>q
def wU{i:Nat}{x:Str}{e:de}{te:TE}{a:Pos}(k:X.N.Nodup)(hi:X.N[i]?=U x)(f:Loc X.env.scope x)(he:PE X e te)(g:fI e (U<|.Name x a) pos.line X.env=pure Zb:=by rfl)(j:X.fn x=O\/X.env.scope.names.lookup x=U .local:=by first|exact .inl J|exact .inr J|assumption) :
  PS X (.Assign [.Name x a] e pos)<|R_ te<|yU i:=by
 intro ae s b H D I h;refine wpAny_Assign_Name (bV (he ae s b H _ I h) λv o c=>?_) g;obtain⟨y,H1,m,d,q1⟩:=c;exact nq m k hi f d (λn l=>⟨_,H1,l,q1⟩) j
def X0(i:Nat)(te:TE)(b:WH):TS:=λD a H=>∃x,a[i]?=U (U x)/\te a H λy H1=>b x y H1 λz c=>D.nx (a.set i<|U z) c
def NR{i:Nat}{x:Str}{e:de}{te:TE}{op:o7}{p:WH}{Q:Pos}(M:X.N.Nodup)(hi:X.N[i]?=U x)(n:Loc X.env.scope x)(he:PE X e te)(C:Ĥ X op p)(K:X.fn x=O\/X.env.scope.names.lookup x=U .local:=by first|exact .inl J|exact .inr J|assumption) :
  PS X (.AugAssign (.Name x Q) op e pos)<|X0 i te p:=by
 intro ae s o H D I h;obtain⟨v,P,h⟩:=h;obtain⟨m,E,G⟩:=I.loc;have j:uM X.env.scope x:=by rcases n with k|k;exact .inl k;exact .inr<|.inl k
 obtain⟨u,r,l⟩:=G i x v hi P j;refine wpAny_AugAssign_Name ?_;have go:eg (da X.prog X.w) X.A (e6 e X.env) (λw f=>eg (da X.prog X.w) X.A (inplaceOp op u w) (λr d=>eg (da X.prog X.w) X.A (storeName X.env x r) (λ_=>SP X ae D .next) X.xe d) X.xe f) X.xe s:=by
  refine bV (he ae s o H _ I h) λw q g=>?_;obtain⟨y,H1,T,B,q1⟩:=g;refine bV (C ae q o H1 v y u w _ T r B q1) λz s2 g=>?_;obtain⟨W,V,S,t,q2⟩:=g;exact nq S M hi n t (λZ R=>⟨_,V,R,q2⟩) K
 rcases l with⟨a,F⟩|⟨a,c,L,b⟩
 .exact wpAny_loadName_local I.ok.kind a E F go
 .rcases a with a|a
  .exact wpAny_loadName_cell I.ok.kind a L b go
  .rcases n with k|k
   .have:X.env.scope.names.lookup x=U .free:=a
    rw[k]at this;cases this
   .have:X.env.scope.names.lookup x=U .free:=a
    rw[k]at this;cases this
def ipI(f:Int->Int->Int):WH:=λx y H Q=>∃i j,x=.int i/\y=.int j/\Q (.int<|f i j) H
def NS:Ĥ X .Add<|ipI λi j=>i+j:=by
 intro ae s e H x y v u Q I b a h;obtain⟨i,j,d,c,q⟩:=h;subst d;subst c;obtain⟨t,rfl⟩:=b;obtain⟨f,rfl⟩:=a;exact iadd_int ⟨.int _,H,I.tok _,⟨_,J⟩,q⟩
end
section
variable{X:Cx}
def NT(c:TT)(f:TS):TS:=λD a H=>∃W:Nat->St->Hp->Prop,(∃m,W m a H)/\∀m a H,W m a H ->
 c a H λb H1=>if b=O then ∃N:St->Hp->Prop,(∀d H',N d H'->∃e,e<m/\W e d H')/\f {D with nx:=N,ct:=N,bk:=D.nx} a H1 else D.nx a H1
def Dt{c:de}{e:DD}{q:TT}{r:TS}(t:vi (da X.prog X.w) X.A X.env X.xe)(G:PT X c q)(K:jP X e r):PS X (.While c e [] pos)<|NT q r:=by
 intro ae s z H D I h;obtain⟨W,⟨m0,w0⟩,i⟩:=h;refine wpAny_While<|codeAny_whileLoop (λn F=>∃g H',Inv X ae g H' F/\W n g H') ?_ m0 ⟨z,H,I,w0⟩
 rintro n E ⟨d,H1,L,w1⟩
 refine ip t<|bV (G ae E d H1 _ L<|i n d H1 w1) λb C B=>?_;obtain⟨y,x,q2⟩:=B;cases b with
 |true=>
  obtain⟨N,u,q2⟩:=q2;rw[bt J];refine ip t<|bV (K ae C d y _ x q2) λf M k=>?_;cases f with
  |next=>
   obtain⟨a,j,p,l⟩:=k;obtain⟨m,o,w3⟩:=u a j l;exact⟨m,o,a,j,p,w3⟩
  |cont=>
   obtain⟨a,j,p,l⟩:=k;obtain⟨m,o,w3⟩:=u a j l;exact⟨m,o,a,j,p,w3⟩
  |brk=>exact k
  |ret v=>exact k
 |false=>
  rw[ag cK];exact n5 ⟨d,y,x,q2⟩
end
structure It where
 go:Nat->Hp->Prop
 yld:Nat->Hp->V->Hp->Prop
 stop:Nat->Hp->Prop
def ny(X:Cx)(ae:dm)(H:Hp)(b:cw):Prop:=
 H b=Y/\b≠X.env.locals/\b∉X.fs/\(b∈X.ex\/X.s₀.heap.objs.size<=b)/\(∀x c,X.env.cells.lookup x=U c->c≠b)/\∀p∈X.pn++ae,p.1≠b
def Inv.pO{X:Cx}{ae:dm}{d:St}{H H':Hp}{s:bh}{b:cw}(I:Inv X ae d H s)(a:s.heap.objs.size<=b)(g:H' b=Y):ny X ae H' b:=by
 refine⟨g,A_<|ez I.lt a,I.XO a,.inr<|dq I.sz a,λx c e z=>?_,λp f z=>?_⟩
 .obtain⟨v,q⟩:=I.cell x c e
  exact eD (ez q.lt<|by rw[z];exact a)<|ua _
 .exact eD (ez (dk (I.pin p f).1)<|by rw[z];exact a)<|ua _
structure Turn(P:ef)(w:dA)(K:bG)(tg:de)(Zg:It)(fp:BM)(it:cw)(tn:Nat->fA->Prop):Prop where
 mem:it∈fp
 obj:∀i h,tn i h->∀b∈fp,∃o,h.get? b=U o/\∀v,o.data≠.cell v
 keep:∀i h h',tn i h->(∀b∈fp,∀o,h.get? b=U o->h'.get? b=U o)->tn i h'
 item:∀(X:Cx),X.prog=P->X.w=w->X.K=K->X.calm=O->∀(i:Nat)(ae:dm)(s:bh)(σ:St)(H:Hp)(E:ar->bh->Prop),Inv X ae σ H s->(∀b∈fp,ny X ae H b)->tn i s.heap->Zg.go i H ->
  eg (da P w) X.A (xt<|.ref it) (λr s1=>∃u,r=U u /\
   eg (da P w) X.A (ro tg (.ref it) u) (λ_ s2=>∃x H',Inv X ae σ H' s2/\RelV x u/\Zg.yld i H x H'/\tn (i+1) s2.heap/\∀b∈fp,H' b=Y) E s1) E s
 done:∀(X:Cx),X.prog=P->X.w=w->X.K=K->X.calm=O->∀(i:Nat)(ae:dm)(s:bh)(σ:St)(H:Hp)(E:ar->bh->Prop),Inv X ae σ H s->(∀b∈fp,ny X ae H b)->tn i s.heap->Zg.stop i H ->
  eg (da P w) X.A (xt<|.ref it) (λr s1=>r=Y/\Inv X ae σ H s1) E s
 self:∀(A:eL)(i:Nat)(s:bh)(Q:ar->bh->Prop)(E:ar->bh->Prop),tn i s.heap->Q (.ref it) s->eg (da P w) A (pyIter<|.ref it) Q E s
abbrev TI:=St->Hp->(It->Hp->Prop)->Prop
def ĥ(X:Cx)(ae:dm)(d:St)(tg:de)(R:It->Hp->Prop)(e:ar)(s2:bh):Prop:=
 ∃(it:cw)(c:BM)(a:Nat->fA->Prop)(f:It)(H':Hp),e=.ref it/\Inv X ae d H' s2/\Turn X.prog X.w X.K tg f c it a/\a 0 s2.heap/\(∀b∈c,ny X ae H' b)/\R f H'
def PI(X:Cx)(tg a:de)(c:TI):Prop:=
 ∀(ae:dm)(s:bh)(b:St)(H:Hp)(R:It->Hp->Prop),Inv X ae b H s->c b H R ->
  eg (da X.prog X.w) X.A (e6 a X.env) (λv d=>eg (da X.prog X.w) X.A (pyIter v) (ĥ X ae b tg R) X.xe d) X.xe s
def uQ{M:Model}{A:eL}{E:ar->bh->Prop}{s:bh}{tg:de}{it:cw}{u:ar}{o:Obj}{n:String}{vs:Array ar}{Q:Unit->bh->Prop}(b:s.heap.get? it=U o)(d:o.cls=.type n)(hd:o.data=.fields vs)
  (c:["enumerate","zip","dict_itemiterator","dict_reverseitemiterator","odict_iterator","itertools.zip_longest","itertools.pairwise"].contains n=Zb) (a:Q () s):eg M A (ro tg (.ref it) u) Q E s:=by
 unfold ro;cases tg<;>first
  |exact c7 a
  | (cases u<;>first
    |exact c7 a
    | (refine ab<|wpAny_load b ?_
       rw[d,hd];show eg M A (if(["enumerate","zip","dict_itemiterator","dict_reverseitemiterator","odict_iterator","itertools.zip_longest","itertools.pairwise"].contains n&&vs[0]? == U (xr _))=O then _ else _) Q E s
       rw[ag (by intro h;rw[c,Df]at h;cases h)]
       exact c7 a))
def WK(K:bG)(a:cw):It:=
 ⟨λi H=>∃b x,c9 K H a b/\b[i]?=U x,λi H x H'=>H'=H/\∀b,c9 K H a b->b[i]?=U x,λi H=>∃b,c9 K H a b/\b.length<=i⟩
def X4(K:bG)(a:cw):It:=
 ⟨λi H=>∃b x,kM K H a b/\b[i]?=U x,λi H x H'=>H'=H/\∀b,kM K H a b->b[i]?=U x,λi H=>∃b,kM K H a b/\b.length<=i⟩
def Sa(lo:Int)(n:Nat):It:=⟨λi _=>i<n,λi H x H'=>H'=H/\x=.int (lo+i),λi _=>n<=i⟩
def Bj{P:ef}{w:dA}{K:bG}{tg:de}(a it:cw):Turn P w K tg (WK K a) [it] it λi h=>h.IsListIter it a i where
 mem:=by simp
 obj:=λi h st b f=>by
  have e:b=it:=by simpa using f
  subst e;obtain⟨o,e,c,d⟩:=st;exact⟨o,e,λv z=>by rw[d]at z;cases z⟩
 keep:=λi h h' st k=>st.at λo e=>k it (by simp) o e
 item:=by
  intro X t q y L i ae s G H E I j st r;subst t q y;obtain⟨N,x,g,n⟩:=r;obtain⟨m,l,p,R⟩:=I.list g;obtain⟨u,T,Q⟩:=l.get n;obtain⟨F,D,V,C,B,A⟩:=j it (by simp)
  refine wpAny_pyNext_list_item st p.isList (x:=u) (by simpa using T) λh' M sb=>?_
  have Z:Inv X ae G H {s with heap:=h'}:=I.turned (t':=s.toks) (λb o f e=>(sb.2 b f).trans e) F D C B A
  obtain⟨o,e,c,d⟩:=id M;exact⟨u,J,uQ (s:={s with heap:=h'}) e c d (by decide) ⟨x,H,Z,Q,⟨J,λys S=>by rw[I.Dm S g];exact n⟩,M,λb f=>(j b f).1⟩⟩
 done:=by
  intro X t q y L i ae s G H E I j st r;subst t q y;obtain⟨N,g,n⟩:=r;obtain⟨m,l,p,R⟩:=I.list g;obtain⟨F,D,V,C,B,A⟩:=j it (by simp)
  have hl:=l.length;exact wpAny_pyNext_list_end (I.ok.hd L) st p.isList (by simp;lia) λh' W=>⟨J,I.turned (t':=s.toks) (λb o f e=>W b o f e) F D C B A⟩
 self:=λ_ _ _ _ _ st h=>wpAny_pyIter_listiter st h
def wV{P:ef}{w:dA}{K:bG}{tg:de}(a it:cw):Turn P w K tg (X4 K a) [it] it λi h=>h.IsTupleIter it a i where
 mem:=by simp
 obj:=λi h st b g=>by
  have e:b=it:=by simpa using g
  subst e;obtain⟨o,e,c,d⟩:=st;exact⟨o,e,λv z=>by rw[d]at z;cases z⟩
 keep:=λi h h' st k=>st.at λo e=>k it (by simp) o e
 item:=by
  intro X t q y L i ae s G H E I l st r;subst t q y;obtain⟨N,x,j,n⟩:=r;obtain⟨f,m,p,R⟩:=I.tuple j;obtain⟨u,T,Q⟩:=m.get n;obtain⟨F,D,V,C,B,A⟩:=l it (by simp)
  refine wpAny_pyNext_tuple_item st (show s.heap.IsTuple a f.toArray from p) (x:=u) (by simpa using T) λh' M sb=>?_
  have Z:Inv X ae G H {s with heap:=h'}:=I.turned (t':=s.toks) (λb o g e=>(sb.2 b g).trans e) F D C B A
  obtain⟨o,e,c,d⟩:=id M;exact⟨u,J,uQ (s:={s with heap:=h'}) e c d (by decide) ⟨x,H,Z,Q,⟨J,λys S=>by rw[I.qr S j];exact n⟩,M,λb g=>(l b g).1⟩⟩
 done:=by
  intro X t q y L i ae s G H E I l st r;subst t q y;obtain⟨N,j,n⟩:=r;obtain⟨f,m,p,R⟩:=I.tuple j;obtain⟨F,D,V,C,B,A⟩:=l it (by simp)
  have hl:=m.length;exact wpAny_pyNext_tuple_end (I.ok.hd L) st (show s.heap.IsTuple a f.toArray from p) (by simp;lia) λh' W=>⟨J,I.turned (t':=s.toks) (λb o g e=>W b o g e) F D C B A⟩
 self:=λ_ _ _ _ _ st h=>wpAny_pyIter_tupleiter st h
def wW{P:ef}{w:dA}{K:bG}{tg:de}(it:cw)(lo:Int)(n:Nat):Turn P w K tg (Sa lo n) [it] it λi h=>vu h it (lo+(i:Nat)*1) ((n:Int)-(i:Nat)) 1 where
 mem:=by simp
 obj:=λi h st b a=>by
  have e:b=it:=by simpa using a
  subst e;exact⟨_,st,λv z=>by
   have A:Data.fields _=Data.cell v:=z;cases A⟩
 keep:=λi h h' st k=>k it (by simp) _ st
 item:=by
  intro X j d l g i ae s x H E I c st f;subst j d l;obtain⟨u,r,D,q,p,m⟩:=c it (by simp)
  have W:=Walks.range (prog:=X.prog) (w:=X.w) (I.ok.hd g) it lo 1 n;refine W.item i s _ _ f st λv h' tk C y B=>?_;obtain⟨t,rfl⟩:=C;have G:Inv X ae x H {s with heap:=h',toks:=tk}:=I.turned (λb o a e=>B b o (by simpa using a) e) u r q p m
  refine⟨_,J,uQ (s:={s with heap:=h',toks:=tk}) (n := "range_iterator") y J J (by decide) ⟨.int<|lo+i,H,G,⟨t,?_⟩,⟨J,J⟩,y,λb a=>(c b a).1⟩⟩
  rw[Int.mul_one]
 done:=by
  intro X j d l g i ae s x H E I c st f;subst j d l;obtain⟨u,r,D,q,p,m⟩:=c it (by simp)
  exact D3 (I.ok.hd g) st (by have:n<=i:=f;lia) λh' F=>⟨J,I.turned (t':=s.toks) (λb o a e=>F b o a e) u r q p m⟩
 self:=λ_ _ _ _ _ st h=>FD st h
section
variable{X:Cx}{tg:de}
def Sb(K:bG)(tl:TE):TI:=λb H R=>tl b H λx H1=>∃a,x=.ref a/\(∃c,c9 K H1 a c)/\R (WK K a) H1
def X5(K:bG)(tl:TE):TI:=λb H R=>tl b H λx H1=>∃a,x=.ref a/\(∃c,kM K H1 a c)/\R (X4 K a) H1
def HN{l:de}{tl:TE}(k:PE X l tl):PI X tg l<|Sb X.K tl:=by
 intro ae s d H R I h;refine bV (k ae s d H _ I h) λv c f=>?_;obtain⟨x,H1,I1,g,q1⟩:=f;obtain⟨a,e,⟨n,j⟩,q⟩:=q1;subst e;cases g;obtain⟨i,r,p,t⟩:=I1.list j;refine i3 p.isList ?_;refine⟨c.heap.objs.size,[c.heap.objs.size],_,_,H1,J,I1.kept (t':=c.toks) λb o e=>bp _ e,Bj a _,⟨_,c8 _ J,J,J⟩,λb m=>?_,q⟩;have e:b=c.heap.objs.size:=by simpa using m
 subst e;exact I1.pO (bW _)<|I1.aZ.fresh<|bW _
def NU{l:de}{tl:TE}(k:PE X l tl):PI X tg l<|X5 X.K tl:=by
 intro ae s f H R I h;refine bV (k ae s f H _ I h) λv c g=>?_;obtain⟨x,H1,I1,i,q1⟩:=g;obtain⟨a,e,⟨n,j⟩,q⟩:=q1;subst e;cases i;obtain⟨d,r,p,t⟩:=I1.tuple j;refine wpAny_pyIter_tuple (show c.heap.IsTuple a d.toArray from p) ?_;refine⟨c.heap.objs.size,[c.heap.objs.size],_,_,H1,J,I1.kept (t':=c.toks) λb o e=>bp _ e,wV a _,⟨_,c8 _ J,J,J⟩,λb m=>?_,q⟩;have e:b=c.heap.objs.size:=by simpa using m
 subst e;exact I1.pO (bW _)<|I1.aZ.fresh<|bW _
def uR{ae:dm}{a:St}{H:Hp}{s:bh}{R:It->Hp->Prop}{E:ar->bh->Prop}{lo hi:Int}{t u v:Tok}{tk:Nat}(I:Inv X ae a H s)(h:-(2^62)<=lo)(g:lo<2^62)(f:-(2^62)<=hi)(d:hi<2^62)
  (q:R (Sa lo (hi-lo).toNat) H):eg (da X.prog X.w) X.A (pyIter<|.ref s.heap.objs.size) (ĥ X ae a tg R) E {s with heap:=s.heap.push {cls:=.type "range",data:=.fields #[.int lo t,.int hi u,.int 1 v]},toks:=tk}:=by
 refine wpAny_pyIter_range (IsRange.new ..) (small_one h g f d) ?_;have I1:Inv X ae a H {s with heap:=s.heap.push {cls:=.type "range",data:=.fields #[.int lo t,.int hi u,.int 1 v]},toks:=tk}:=I.kept λb o e=>bp _ e
 refine⟨(s.heap.push {cls:=.type "range",data:=.fields #[.int lo t,.int hi u,.int 1 v]}).objs.size,[(s.heap.push {cls:=.type "range",data:=.fields #[.int lo t,.int hi u,.int 1 v]}).objs.size],_,_,H,J,
  I1.kept (t':=tk) λb o e=>bp _ e,wW _ lo (hi-lo).toNat,?_,λb c=>?_,q⟩
 .have j:lo+((0:Nat):Int)*1=lo:=by simp
  have i:(((hi-lo).toNat:Nat):Int)-((0:Nat):Int)=iv lo hi 1:=by rw[rangeSize_one];split<;>lia
  show vu _ _ (lo+((0:Nat):Int)*1) ((((hi-lo).toNat:Nat):Int)-((0:Nat):Int)) 1;rw[j,i];exact c8 _ J
 .have e:b=(s.heap.push {cls:=.type "range",data:=.fields #[.int lo t,.int hi u,.int 1 v]}).objs.size:=by simpa using c
  subst e;exact I1.pO (bW _)<|I1.aZ.fresh<|bW _
def Sd(b:TA):TI:=λa H R=>b a H λvs H1=>∃j:Int,vs=[.int j]/\-(2^62)<=j/\j<2^62/\R (Sa 0 j.toNat) H1
def Se(b:TA):TI:=λa H R=>b a H λvs H1=>∃i j:Int,vs=[.int i,.int j]/\(-(2^62)<=i/\i<2^62/\-(2^62)<=j/\j<2^62)/\R (Sa i (j-i).toNat) H1
def Bk{a:de}{b:TA}{p pos:Pos}(l:Gl X "range")(k:X.mg "range" = Y)(m:PA X [a] b)(i:dy [a] X.env=[(Zb,e6 a X.env)]:=by rfl):PI X tg (.Call (.Name "range" p) [a] [] pos)<|Sd b:=by
 intro ae s c H R I h;refine Call_<|gQ I l k boot_range<|Be (bV (m pos ae s c H _ I h) λo u d=>?_) i J;obtain⟨vs,H1,n,g,q1⟩:=d;obtain⟨j,e,q1,q2,q⟩:=q1;subst e;cases g with
 |cons r f=>
  cases f;obtain⟨t,rfl⟩:=r;exact call_range_1<|uR n (by lia) (by lia) q1 q2<|by simpa using q
def Bl{a b:de}{d:TA}{p pos:Pos}(v:Gl X "range")(u:X.mg "range" = Y)(w:PA X [a,b] d)(o:dy [a,b] X.env=[(Zb,e6 a X.env),(Zb,e6 b X.env)]:=by rfl)(f:dy [b] X.env=[(Zb,e6 b X.env)]:=by rfl) :
  PI X tg (.Call (.Name "range" p) [a,b] [] pos)<|Se d:=by
 intro ae s g H R I h;refine Call_<|gQ I v u boot_range<|Be (bV (w pos ae s g H _ I h) λy A k=>?_) (by rw[o,f])<|by rw[f];rfl
 obtain⟨vs,H1,x,l,q1⟩:=k;obtain⟨i,j,e,⟨q1,q2,n,q4⟩,q⟩:=q1;subst e;cases l with
 |cons r c=>
  cases c with
  |cons m c=>
   cases c;obtain⟨t,rfl⟩:=r;obtain⟨z,rfl⟩:=m;exact call_range_2<|uR x q1 q2 n q4 q
def X6(e:TI)(g:TG)(f:TS):TS:=λD a H=>e a H λj H1=>∃W:Nat->Nat->St->Hp->Prop,(∃m,W 0 m a H1)/\∀i m a H,W i m a H ->
 (j.stop i H/\D.nx a H)\/(j.go i H/\∃N:St->Hp->Prop,(∀b H',N b H'->∃d,d<m/\W (i+1) d b H')/\∀x H',j.yld i H x H'->g x a H' λc h=>f {D with nx:=N,ct:=N,bk:=D.nx} c h)
def nA(a:BM)(h:fA):dm:=a.filterMap λb=>(h.get? b).map λo=>(b,o)
def gR{a:BM}{h:fA}{b:cw}{o:Obj}(c:b∈a)(e:h.get? b=U o):(b,o)∈nA a h:=CT.mpr ⟨b,c,by rw[e];rfl⟩
def Bm{a:BM}{h:fA}{p:cw×Obj}(c:p∈nA a h):p.1∈a/\h.get? p.1=U p.2:=by
 obtain⟨b,d,e⟩:=CT.mp c;cases q:h.get? b with
 |none=>rw[q]at e;cases e
 |some o=>
  rw[q]at e;have f:(b,o)=p:=kL.inj e;subst f;exact⟨d,q⟩
def Inv.pinned{ae:dm}{c:St}{H:Hp}{s:bh}{a:BM}(I:Inv X ae c H s)(j:∀b∈a,ny X ae H b)(i:∀b∈a,∃o,s.heap.get? b=U o/\∀v,o.data≠.cell v):Inv X (ae++nA a s.heap) c H s:=
 I.yQ λp h=>(ir.mp h).elim (λz=>I.pin p<|jj _ z) λz=>by
  obtain⟨f,e⟩:=Bm z;obtain⟨m,l,k,_⟩:=j p.1 f;obtain⟨o,g,d⟩:=i p.1 f;rw[e]at g;cases g;exact⟨e,m,l,k,d⟩
def Inv.jR{ae pl:dm}{a:St}{H:Hp}{s:bh}(I:Inv X (ae++pl) a H s):Inv X ae a H s:=I.yQ λp b=>I.pin p<|jj _<|Ba _ b
def NV{k:de}{t:DD}{S:TI}{g:TG}{Z:TS}{pos:Pos}(C:vi (da X.prog X.w) X.A X.env X.xe)(hc:X.calm=O)(hi:PI X tg k S)(hg:PG X tg g)(l:jP X t Z)
  (hs:∀x,fE k X.env x=pure x:=by intro _;rfl):PS X (.For tg k t [] pos)<|X6 S g Z:=by
 intro ae s R H D I h;refine wpAny_For (bV (hi ae s R H _ I h) λv s1 h1=>bV h1 λX3 s2 h2=>?_) hs;obtain⟨it,F,V,q0,H2,e,I2,T,lZ,f2,W,⟨m0,w0⟩,z⟩:=h2;subst e;have L:∀{H':Hp},(∀b∈F,H' b=Y)->∀b∈F,ny X ae H' b:=λhn b l=>⟨hn b l,(f2 b l).2⟩;refine codeAny_forLoop_any (λn s'=>∃i j H',Inv X ae j H' s'/\V i s'.heap/\(∀b∈F,H' b=Y)/\W i n j H') ?_ m0 ⟨0,R,H2,I2,lZ,λb l=>(f2 b l).1,w0⟩
 rintro n s3 ⟨i,c,G,I3,jm,E,w3⟩
 rcases z i n c G w3 with⟨stop,qn⟩|⟨go,N,hN,step⟩
 .refine ip C<|bV (T.done X J J J hc i ae s3 c G X.xe I3 (L E) jm stop) λr s4 y=>?_
  obtain⟨hr,I4⟩:=y;subst hr;exact n5 ⟨c,G,I4,qn⟩
 .refine ip C<|bV (T.item X J J J hc i ae s3 c G X.xe I3 (L E) jm go) λr s4 y=>?_
  obtain⟨u,hr,h4⟩:=y;subst hr;refine ip C<|bV h4 λ_ s5 y=>?_;obtain⟨x,H5,I5,r5,y5,M,WL⟩:=y;have Q:=I5.pinned (L WL)<|T.obj _ _ M;refine ip C<|bV (hg _ s5 c H5 x u _ Q r5<|step x H5 y5) λ_ s6 y=>?_;obtain⟨K,H6,I6,q6⟩:=y;refine ip C<|bV (l _ s6 K H6 _ I6 q6) λf P q7=>?_;have again:∀{a:St}{q:Hp},Inv X (ae++nA F s5.heap) a q P->N a q->∃m,m<n/\∃i j H',Inv X ae j H' P/\V i P.heap/\(∀b∈F,H' b=Y)/\W i m j H':=λ{a q} p B=>by
   obtain⟨m',hm,w7⟩:=hN a q B;refine⟨m',hm,i+1,a,q,p.jR,T.keep _ _ _ M λb l o e=>(p.pin (b,o)<|jj _<|jj _<|gR l e).1,λb l=>?_,w7⟩;obtain⟨o,e,d⟩:=T.obj _ _ M b l;exact(p.pin (b,o)<|jj _<|jj _<|gR l e).2.1
  cases f with
  |next=>obtain⟨a,q,p,B⟩:=q7;exact again p B
  |cont=>obtain⟨a,q,p,B⟩:=q7;exact again p B
  |brk=>obtain⟨a,q,p,q7⟩:=q7;exact⟨a,q,p.jR,q7⟩
  |ret v=>obtain⟨x7,a,q,p,r7,q7⟩:=q7;exact⟨x7,a,q,p.jR,r7,q7⟩
end
abbrev R2:=V->V->Hp->VK->Prop
def fW(X:Cx)(f:ar->ar->Sem ar)(r:R2):Prop:=
 ∀(ae:dm)(s:bh)(a:St)(H:Hp)(x y:V)(v u:ar)(Q:VK),Inv X ae a H s->RelV x v->RelV y u->r x y H Q ->
  eg (da X.prog X.w) X.A (f v u) (EP X ae a Q) X.xe s
def WM(X:Cx)(f:ar->Sem ar)(r:V->Hp->VK->Prop):Prop:=
 ∀(ae:dm)(s:bh)(a:St)(H:Hp)(x:V)(v:ar)(Q:VK),Inv X ae a H s->RelV x v->r x H Q ->
  eg (da X.prog X.w) X.A (f v) (EP X ae a Q) X.xe s
def dW(X:Cx)(f:ar)(r:List V->Hp->VK->Prop):Prop:=
 ∀(ae:dm)(s:bh)(a:St)(H:Hp)(b:List V)(c:B2)(Q:VK),Inv X ae a H s->Vals b c->r b H Q ->
  eg (da X.prog X.w) X.A (call f c) (EP X ae a Q) X.xe s
def X7(X:Cx)(r:V->Hp->(Bool->Hp->Prop)->Prop):Prop:=
 ∀(ae:dm)(s:bh)(a:St)(H:Hp)(x:V)(v:ar)(Q:Bool->Hp->Prop),Inv X ae a H s->RelV x v->r x H Q ->
  eg (da X.prog X.w) X.A (truthy v) (TP X ae a Q) X.xe s
def NW(r:R2)(c b:TE):TE:=λa H Q=>c a H λx H1=>b a H1 λy d=>r x y d Q
def Ħ(r:V->Hp->VK->Prop)(b:TE):TE:=λa H Q=>b a H λx H1=>r x H1 Q
def rI(C:Int->Int->Prop)(g:Int->Int->V):R2:=λx y H Q=>∃i j,x=.int i/\y=.int j/\C i j/\Q (g i j) H
def Cm(g:Int->Int->V):R2:=λx y H Q=>∃i j,x=.int i/\y=.int j/\Q (g i j) H
def rU(g:Int->V):V->Hp->VK->Prop:=λx H Q=>∃i,x=.int i/\Q (g i) H
section
variable{X:Cx}{a c:de}{z B d:TE}
def NX(o:PE X a z)(n:PE X b B){ae:dm}{s:bh}{c:St}{H:Hp}{R:V->V->Hp->Prop}(I:Inv X ae c H s)
  (h:z c H λx H1=>B c H1 λy d=>R x y d) {Q:ar->bh->Prop} {f:ar->ar->Sem ar}
  (m:∀v u s2 x y d,Inv X ae c d s2->RelV x v->RelV y u->R x y d->eg (da X.prog X.w) X.A (f v u) Q X.xe s2) :
  eg (da X.prog X.w) X.A (e6 a X.env) (λv g=>eg (da X.prog X.w) X.A (e6 b X.env) (λu e=>eg (da X.prog X.w) X.A (f v u) Q X.xe e) X.xe g) X.xe s:=by
 refine bV (o ae s c H _ I h) λv j i=>?_;obtain⟨x,H1,q,l,q1⟩:=i;refine bV (n ae j c H1 _ q q1) λu s2 i=>?_;obtain⟨y,d,p,k,q2⟩:=i;exact m v u s2 x y d p l k q2
def nB{op:o7}{r:R2}(g:fW X (kn op) r)(j:PE X a z)(i:PE X b B):PE X (.BinOp a op b pos)<|NW r z B:=by
 intro ae s c H Q I h;exact wpAny_BinOp<|NX j i I h λv u d x y l k f e q=>g ae d c l x y v u Q k f e q
def Sf{op:UnaryOp}{r:V->Hp->VK->Prop}(e:WM X (unaryOp op) r)(f:PE X a z):PE X (.UnaryOp op a pos)<|Ħ r z:=by
 intro ae s b H Q I h;exact UnaryOp_<|bV (f ae s b H _ I h)<|by rintro v c ⟨x,H1,g,d,q1⟩;exact e ae c b H1 x v Q g d q1
def WN{f:ar->ar->Sem ar}{C:Int->Int->Prop}{g:Int->Int->Int}
  (rule:∀(i j:Int)(t u:Tok)(s:bh)(Q:ar->bh->Prop)(E:ar->bh->Prop),C i j->Q (.int (g i j) s.toks) {s with toks:=s.toks+1}->eg (da X.prog X.w) X.A (f (.int i t)<|.int j u) Q E s) :
  fW X f<|rI C λi j=>.int<|g i j:=by
 intro ae s e H x y v u Q I c b h;obtain⟨i,j,rfl,rfl,d,q⟩:=h;obtain⟨t,rfl⟩:=c;obtain⟨a,rfl⟩:=b;exact rule i j t a s _ _ d ⟨.int<|g i j,H,I.tok _,⟨_,J⟩,q⟩
def Sg{f:ar->ar->Sem ar}{g:Int->Int->Int}
  (rule:∀(i j:Int)(t u:Tok)(s:bh)(Q:ar->bh->Prop)(E:ar->bh->Prop),Q (.int (g i j) s.toks) {s with toks:=s.toks+1}->eg (da X.prog X.w) X.A (f (.int i t)<|.int j u) Q E s) :
  fW X f<|Cm λi j=>.int<|g i j:=by
 intro ae s d H x y v u Q I c b h;obtain⟨i,j,rfl,rfl,q⟩:=h;obtain⟨t,rfl⟩:=c;obtain⟨a,rfl⟩:=b;exact rule i j t a s _ _ ⟨.int<|g i j,H,I.tok _,⟨_,J⟩,q⟩
def HP{f:ar->ar->Sem ar}{g:Int->Int->Bool}
  (rule:∀(i j:Int)(t u:Tok)(s:bh)(Q:ar->bh->Prop)(E:ar->bh->Prop),Q (.bool<|g i j) s->eg (da X.prog X.w) X.A (f (.int i t)<|.int j u) Q E s) :
  fW X f<|Cm λi j=>.bl<|g i j:=by
 intro ae s d H x y v u Q I c b h;obtain⟨i,j,rfl,rfl,q⟩:=h;obtain⟨t,rfl⟩:=c;obtain⟨a,rfl⟩:=b;exact rule i j t a s _ _ ⟨.bl<|g i j,H,I,J,q⟩
def Sh(i j:Int):Prop:=0<j/\j<1073741824
def Si(i j:Int):Prop:=0<=j/\j<=1000000/\i.natAbs<2^64
def NY(i j:Int):Prop:=(-(2^64)<i/\i<2^64)\/(-(2^64)<j/\j<2^64)
def NY.ok{i j:Int}(h:NY i j):IntMulOk i j:=by
 rcases h with⟨b,a⟩|⟨b,a⟩
 .exact .of_left<|intBits_le_64 b a
 .exact .of_right<|intBits_le_64 b a
def NZ:fW X (kn .Add)<|Cm λi j=>.int<|i+j:=Sg λ_ _ _ _ _ _ _ q=>add_int q
def N1:fW X (kn .Sub)<|Cm λi j=>.int<|i-j:=Sg λ_ _ _ _ _ _ _ q=>sub_int q
def HQ:fW X (kn .FloorDiv)<|rI Sh λi j=>.int<|i/j:=WN λi j _ _ _ _ _ a q=>by
 have c:(0:Int)<j:=a.1;have b:j<1073741824:=a.2;exact floordiv_int (by lia) (by rw[Int.fdiv_eq_ediv_of_nonneg i<|by lia];exact q)<|.inl<|vb<|by lia
def N2:fW X (kn .Mod)<|rI (λ_ j=>0<j) λi j=>.int<|i % j:=WN λi j _ _ _ _ _ a q=>by
 have b:(0:Int)<j:=a;exact mod_int' (by lia) (by rw[Int.fmod_eq_emod_of_nonneg i<|by lia];exact q)
def N3:fW X (kn .Pow)<|rI Si λi j=>.int<|i^j.toNat:=WN λ_ _ _ _ _ _ _ a q=>pow_int_small a.1 a.2.1 a.2.2 q
def ħ{f:ar->Sem ar}{g:Int->Int}
  (rule:∀(i:Int)(t:Tok)(s:bh)(Q:ar->bh->Prop)(E:ar->bh->Prop),Q (.int (g i) s.toks) {s with toks:=s.toks+1}->eg (da X.prog X.w) X.A (f<|.int i t) Q E s) :
  WM X f<|rU λi=>.int<|g i:=by
 intro ae s b H x v Q I a h;obtain⟨i,rfl,q⟩:=h;obtain⟨t,rfl⟩:=a;exact rule i t s _ _ ⟨.int<|g i,H,I.tok _,⟨_,J⟩,q⟩
def N4:WM X (unaryOp .USub)<|rU λi=>.int<|-i:=ħ λ_ _ _ _ _ q=>neg_int q
def X8:WM X (unaryOp .Invert)<|rU λi=>.int<|Builtin.bitNot i:=ħ λ_ _ _ _ _ q=>invert_int q
end
section
variable{X:Cx}{a c:de}{F G d:TE}
def iF{ae:dm}{a:St}{H:Hp}{s:bh}{Q:VK}{k b:Bool}(I:Inv X ae a H s)(q:Q (.bl k) H)(e:k=b):EP X ae a Q (.bool b) s:=by
 subst e;exact⟨.bl k,H,I,J,q⟩
def Sj:fW X (eJ .Lt)<|Cm λi j=>.bl<|decide<|i<j:=HP λ_ _ _ _ _ _ _ q=>lt_int q
def Sk:fW X (eJ .LtE)<|Cm λi j=>.bl<|decide<|i<=j:=HP λ_ _ _ _ _ _ _ q=>le_int q
def Sl:fW X (eJ .Gt)<|Cm λi j=>.bl<|decide<|j<i:=HP λ_ _ _ _ _ _ _ q=>gt_int q
def Sm:fW X (eJ .GtE)<|Cm λi j=>.bl<|decide<|j<=i:=HP λ_ _ _ _ _ _ _ q=>ge_int q
def Bo:fW X (eJ .In) λx y H Q=>∃i j,x=.str i/\y=.str j/\Q (.bl<|!(eH j i 0 j.length 1).isEmpty) H:=by
 intro ae s c H x y v u Q I b a h;obtain⟨i,j,rfl,rfl,q⟩:=h;obtain⟨t,rfl⟩:=b;obtain⟨d,rfl⟩:=a;exact in_str<|iF I q J
def N5:fW X (eJ .Is) λx y H Q=>y=.non/\Q (.bl<|decide<|x=.non) H:=by
 intro ae s c H x y v u Q I a b h;obtain⟨rfl,q⟩:=h;cases b;refine is_none_gen<|iF I q ?_;cases x<;>first
  |(cases a;rfl)
  |(obtain⟨t,rfl⟩:=a;rfl)
def HR:fW X (eJ .IsNot) λx y H Q=>y=.non/\Q (.bl<|!decide (x=.non)) H:=by
 intro ae s c H x y v u Q I a b h;obtain⟨rfl,q⟩:=h;cases b;refine isnot_none_gen<|iF I q ?_;cases x<;>first
  |(cases a;rfl)
  |(obtain⟨t,rfl⟩:=a;rfl)
def rF:fW X (eJ .NotIn) λx y H Q=>∃i j,x=.str i/\y=.str j/\Q (.bl<|!(!(eH j i 0 j.length 1).isEmpty)) H:=by
 intro ae s c H x y v u Q I b a h;obtain⟨i,j,rfl,rfl,q⟩:=h;obtain⟨t,rfl⟩:=b;obtain⟨d,rfl⟩:=a;exact notIn_str<|iF I q J
def fW.or{f:ar->ar->Sem ar}{r d:R2}(h:fW X f r)(h':fW X f d):fW X f λx y H Q=>r x y H Q\/d x y H Q:=by
 intro ae s a H x y v u Q I c b q;rcases q with q|q
 .exact h ae s a H x y v u Q I c b q
 .exact h' ae s a H x y v u Q I c b q
def mP{op:oa}{r:R2}(g:fW X (eJ op) r)(k:PE X a F)(j:PE X b G)(i:ff op b=Zb):PE X (.Compare a [op] [b] pos)<|NW r F G:=by
 intro ae s c H Q I h;exact wpAny_Compare1 (NX k j I h λv u d x y m l f e q=>g ae d c m x y v u Q l f e q) i
def Sn(t:TE):TT:=λa H Q=>t a H λx H'=>∃k,x=.bl k/\Q k H'
def mQ{op:oa}{r:R2}(n:fW X (eJ op) r)(q:PE X a F)(p:PE X b G)(o:ff op b=Zb):PT X (.Compare a [op] [b] pos)<|Sn<|NW r F G:=by
 intro ae s d H Q I h;refine wpAny_isTrue_Compare1 (bV (q ae s d H _ I h) λv g ⟨x,H1,A,l,q1⟩=>bV (p ae g d H1 _ A q1) λu f ⟨y,C,w,j,q2⟩=>
  bV (n ae f d C x y v u _ w l j q2) λc D ⟨z,B,t,i,k,e,m⟩=>?_) o
 subst e;cases i;exact mF ⟨B,t,m⟩
def N6(K:bG)(x:V)(H:Hp)(k:Bool):Prop:=
 match x with
 |.non=>k=Zb
 |.bl b=>k=b
 |.int i=>k=(i != 0)
 |.str y=>y.length<=dv/\k=((y.length:Int) != 0)
 |.byt y=>y.size<=dv/\k=((y.size:Int) != 0)
 |.ref p=>(∃a,c9 K H p a/\k=!a.isEmpty)\/(∃a,kM K H p a/\k=!a.isEmpty)\/∃c,H p=U (.dK c)/\k=!c.isEmpty
 |_=>False
def wY{κ:Type}{kvs:List<|κ×V}{vs:List<|κ×ar}(r:KV kvs vs):(!vs.isEmpty)=!kvs.isEmpty:=by
 cases r<;>rfl
def nC{xs:List V}{its:B2}(r:Vals xs its):(!its.toArray.isEmpty)=!xs.isEmpty:=by
 cases r<;>simp
def kN:(dv:Nat)<2^63:=by rw[ew];decide
def N7:X7 X λx H Q=>∃k,N6 X.K x H k/\Q k H:=by
 intro ae s z H x v Q I f h;obtain⟨k,e,q⟩:=h;have B:=kN;have A:dv=16777216:=ew;cases x with
 |non=>
  cases f;have a:k=Zb:=e;subst a;exact truthy_none ⟨H,I,q⟩
 |bl b=>
  cases f;have a:k=b:=e;subst a;exact mF ⟨H,I,q⟩
 |int i=>
  obtain⟨t,rfl⟩:=f;have a:k=(i != 0):=e;subst a;exact PySem.P.truthy_int ⟨H,I,q⟩
 |str y=>
  obtain⟨t,rfl⟩:=f;obtain⟨o,a⟩:y.length<=dv/\k=((y.length:Int) != 0):=e;subst a;exact PySem.P.truthy_str (by lia) ⟨H,I.tok _,q⟩
 |byt y=>
  obtain⟨t,rfl⟩:=f;obtain⟨o,a⟩:y.size<=dv/\k=((y.size:Int) != 0):=e;subst a;exact PySem.W.truthy_bytes (by lia) ⟨H,I.tok _,q⟩
 |ref p=>
  cases f;have a:(∃d,c9 X.K H p d/\k=!d.isEmpty)\/(∃d,kM X.K H p d/\k=!d.isEmpty)\/∃c,H p=U (.dK c)/\k=!c.isEmpty:=e;rcases a with⟨d,g,a⟩|⟨d,g,a⟩|⟨c,g,a⟩
  .subst a
   obtain⟨j,r,pl,l⟩:=I.list g;have n:=r.length;exact wpAny_truthy_list pl.isList (by simp only[bT];lia) ⟨H,I.tok _,by rw[nC r];exact q⟩
  .subst a
   obtain⟨j,r,pl,l⟩:=I.tuple g;have n:=r.length;exact truthy_tuple pl (by simp only[bT];lia) ⟨H,I.tok _,by rw[nC r];exact q⟩
  .subst a
   obtain⟨l,u,vs,r,m⟩:c.length<=dv/\(p == hA)=Zb/\∃vs,KV c vs/\s.heap.DictOf (bj X.prog X.w) p vs:=I.aZ p _ g;have n:c.length=vs.length:=Paired.length r;exact wpAny_truthy_dict u m (by lia) ⟨H,I.tok _,by rw[wY r];exact q⟩
 |_=>exact(show False from e).elim
def Du(f:PE X a F)(he:∀c,Gf a X.env c=(do let v <- c;rO a.pos;rS [v] (truthy v))) :
  PT X a λb H Q=>F b H λx H'=>∃k,N6 X.K x H' k/\Q k H':=by
 intro ae s b H Q I h;exact isTrue_plain (bV (f ae s b H _ I h)<|by rintro v d ⟨x,H1,g,e,q1⟩;exact N7 ae d b H1 x v Q g e q1)<|he _
def wZ:fW X (kn .Add) λx y H Q=>∃i j,x=.str i/\y=.str j/\i.length+j.length<=dv/\Q (.str<|i++j) H:=by
 intro ae s e H x y v u Q I c b h;obtain⟨i,j,rfl,rfl,d,q⟩:=h;obtain⟨t,rfl⟩:=c;obtain⟨a,rfl⟩:=b;exact add_str (λa tk=>⟨.str<|i++j,H,I.tok _,⟨_,J⟩,q⟩) d
def vals1{x:V}{us:B2}(r:Vals [x] us):∃u,us=[u]/\RelV x u:=by
 cases r with
 |cons b a=>cases a;exact⟨_,J,b⟩
def vals2{x y:V}{us:B2}(r:Vals [x,y] us):∃u a,us=[u,a]/\RelV x u/\RelV y a:=by
 cases r with
 |cons e d=>
  cases d with
  |cons c b=>cases b;exact⟨_,_,J,e,c⟩
def Bp(a:X.calm=O):dW X (.builtin "max") λxs H Q=>∃i j,xs=[.int i,.int j]/\Q (.int<|if j > i then j else i) H:=by
 intro ae s b H xs d Q I r h;obtain⟨i,j,rfl,q⟩:=h;obtain⟨u,c,rfl,⟨t,rfl⟩,⟨e,rfl⟩⟩:=vals2 r;refine max_two_ints (I.ok.hd a) λh' tk k=>⟨_,H,I.kept k,?_,q⟩;by_cases hj:j > i
 .rw[bt hj,bt hj];exact⟨_,J⟩
 .rw[ag hj,ag hj];exact⟨_,J⟩
def rG:dW X (.type "str") λxs H Q=>∃i,xs=[.int i]/\i.natAbs.log2<1920/\Q (.str<|toString i) H:=by
 intro ae s b H xs c Q I r h;obtain⟨i,rfl,a,q⟩:=h;obtain⟨u,rfl,t,rfl⟩:=vals1 r;exact PySem.P.str_of_int a ⟨.str _,H,I.tok _,⟨_,J⟩,q⟩
def So(K:bG)(x:V)(H:Hp)(n:Nat):Prop:=
 match x with
 |.str y=>y.length<=dv/\n=y.length
 |.byt y=>y.size<=dv/\n=y.size
 |.ref p=>(∃a,c9 K H p a/\n=a.length)\/∃a,kM K H p a/\n=a.length
 |_=>False
def nE:dW X (.builtin "len") λxs H Q=>∃x n,xs=[x]/\So X.K x H n/\Q (.int n) H:=by
 intro ae s k H xs l Q I r h;obtain⟨x,n,rfl,e,q⟩:=h;obtain⟨u,rfl,b⟩:=vals1 r;have o:=kN;have m:dv=16777216:=ew;cases x with
 |str y=>
  obtain⟨t,rfl⟩:=b;obtain⟨j,a⟩:y.length<=dv/\n=y.length:=e;subst a;exact len_str (by lia) ⟨.int _,H,I.tok _,⟨_,J⟩,q⟩
 |byt y=>
  obtain⟨t,rfl⟩:=b;obtain⟨j,a⟩:y.size<=dv/\n=y.size:=e;subst a;exact PySem.W.len_bytes (by lia) ⟨.int _,H,I.tok _,⟨_,J⟩,q⟩
 |ref p=>
  cases b;have a:(∃xs,c9 X.K H p xs/\n=xs.length)\/∃xs,kM X.K H p xs/\n=xs.length:=e;rcases a with⟨xs,f,a⟩|⟨xs,f,a⟩
  .subst a
   obtain⟨d,c,pl,i⟩:=I.list f;have g:=c.length;exact Calls.call_len_list pl.isList (by simp only[bT];lia) ⟨.int xs.length,H,I.tok _,⟨_,by simp only[bT];rw[g]⟩,q⟩
  .subst a
   obtain⟨d,c,pl,i⟩:=I.tuple f;have g:=c.length;exact len_tuple pl (by simp only[bT];lia) ⟨.int xs.length,H,I.tok _,⟨_,by simp only[bT];rw[g]⟩,q⟩
 |_=>exact(show False from e).elim
end
structure w_(h:fA)(x dx C:cw)(mA:Str->D1):Prop where
 obj:h.get? x=U (tX C dx)
 ns:h.Ns1 dx mA
 ne:dx≠x
def Bq{h:fA}{dx:cw}{b:Str->D1}(n:h.Ns1 dx b):∃od,h.get? dx=U od/\∀name,yk name od=U (b name):=by
 obtain⟨o,es,k,d,hd,g,_,f⟩:=n;refine⟨o,d,λname=>?_⟩;have e:=f name;unfold nsFind findBy at e;rw[<- Array.find?_toList]at e;unfold yk;rw[hd];dsimp only;split
 .rename_i y q
  rw[q]at e;exact cm U e
 .rename_i q
  rw[q]at e;have a:es.toList.any (·.refKey)=Zb:=by
   rw[List.any_eq_false];intro y c;obtain⟨z,t,j⟩:=g y<|Array.mem_toList_iff.mp c;simp[DictEntry.refKey,j]
  have i:¬ es.toList.any (·.refKey)=O:=by rw[a];exact cK
  rw[ag i];exact cm U e
def w_.look{h:fA}{x dx C:cw}{a:Str->D1}(I:w_ h x dx C a):∃od,PySem.W.InstAt h x (tX C dx) C (U od)/\∀name,yk name od=U (a name):=
 let⟨od,ho,hl⟩:=Bq I.ns
 ⟨od,⟨I.obj,J,J,ho⟩,hl⟩
section
variable{prog:ef}{K:bG}{B:Str->D1}{name:Str}{v:ar}
def get_map{a:Bool}{Q:ar->bh->Prop}(X:K.In s.heap)(I:w_ s.heap x dx C B)(f:tY K C name=O)(e:yl K C=O)
  (g:gp K (.ref C) name=U Y) (c:B name=U v) (b:K9 v=O) (h:Q v {s with toks:=s.toks+1}) :
  eg (da prog w) A (getAttr (.ref x) name a) Q E s:=by
 obtain⟨od,i,d⟩:=I.look;exact PySem.W.get_value X i (CA f).1 (PySem.W.findObj_own e g J<|by rw[d,c]) b h
def Dv{pl:Sem Bool}{Q:ar×B2->bh->Prop}(X:K.In s.heap)(I:w_ s.heap x dx C B)(a:tY K C name=O)
  (e:gp K (.ref C) name=U (U<|.ref f)) (c:tZ K (.ref f)=O) (b:B name=Y) (h:Q (.ref f,[.ref x]) s) :
  eg (da prog w) A (ui (.ref x) name pl) Q E s:=by
 obtain⟨od,g,d⟩:=I.look;exact PySem.W.method_fn X g (CA a).1 (CA a).2 e (beq_iff_eq.mp c) (by show(yk name od).map (·.isSome)=U Zb;rw[d,b];rfl) h
def HS{ns:Bi}{Q:Unit->bh->Prop}(X:K.In s.heap)(I:w_ s.heap x dx C B)
  (l:gp K (.ref C) "__setattr__" = U (U<|.builtin "object.__setattr__")) (m:CB K C=O) (k:CD K C name=U Y) (n:yl K C=O)
  (j:wk B ns) (hsz:ns.length<=dv)
  (h:∀h',w_ h' x dx C (λy=>if y=name then U v else B y)->ph dx s.heap h'->Q () {s with heap:=h',toks:=s.toks+2}) :
  eg (da prog w) A (setAttr (.ref x) name v) Q E s:=by
 obtain⟨od,D,u⟩:=I.look;refine PySem.W.set_plain X D l<|PySem.W.osa_open (s:={s with toks:=s.toks+1}) (r:=Y) X D m k λb=>?_
 obtain⟨z,o,t⟩:=PySem.W.any_some n;have i:s.heap.get? x=U ⟨.ref C,U dx,.plain,#[]⟩:=I.obj;refine ab<|c7<|ab<|ab<|wpAny_loadPart i<|ab<|PySem.W.Looks.here (s:={s with toks:=s.toks+1}) (PySem.W.looks_clsIn X o) ?_
 rw[t];refine c7 (a:=U dx)<|ab<|c7<|ab ?_;refine wpAny_nsSet1 (s:={s with toks:=s.toks+1}) I.ns λh' g f=>?_
 obtain⟨oD,p,q,c,d,e⟩:=g.count<|PySem.Within.cons name v j;refine ab<|wpAny_lookBehind c (by rw[d];exact pastItsLine_dict<|dq e<|by rw[bI];lia) ?_
 exact c7<|h _ ⟨(f.2 _<|Ne.symm I.ne).trans I.obj,g,I.ne⟩ f
def Dw{R:Result->bh->Prop}{vs:B2}{a:List<|Str×ar}(X:K.In s.heap)(b:t_ K C=O)
  (hi:gp K (.ref C) "__init__" = U (U<|.ref f)) (c:PySem.W.typeIn K (.ref f)=U (.type "function"))
  (h:r0 (da prog w) (A.under<|.builtin "type.__call__" ⟨.ref C::vs,a⟩) (.call (.ref f) ⟨.ref (s.heap.objs.size+1)::vs,a⟩) (PySem.W.InitBack (s.heap.objs.size+1) R)
   {s with heap:=(s.heap.push rj).push (tX C s.heap.objs.size)}) :
  r0 (da prog w) A (.call (.ref C) ⟨vs,a⟩) R s:=by
 obtain⟨e,g,d,t,os⟩:=s;exact PySem.W.make_core (PySem.W.makes_of X b) (PySem.W.looks_findIn X hi) (λself=>PySem.W.bind_fn X self c) (.inl J) h
end
def dJ(f:Str)(v:V):List (Str×V)->List (Str×V)
 |[]=>[(f,v)]
 |(g,x)::r=>if g=f then(g,v)::r else(g,x)::dJ f v r
theorem lC(f g:Str)(v:V):∀fs:List<|Str×V,(dJ f v fs).lookup g=if g=f then U v else fs.lookup g
 |[]=>by
  show lR g [(f,v)]=_;by_cases h:g=f
  .have a:(g == f)=O:=beq_iff_eq.mpr h
   simp only[lR,a,bt h]
  .have a:(g == f)=Zb:=beq_eq_false_iff_ne.mpr h
   simp only[lR,a,ag h]
 |(k,x)::r=>by
  have b:=lC f g v r;rw[show dJ f v ((k,x)::r)=(if k=f then(k,v)::r else(k,x)::dJ f v r)from J]
  by_cases hk:k=f
  .rw[bt hk]
   by_cases h:g=k
   .have a:(g == k)=O:=beq_iff_eq.mpr h
    simp only[lR,a,bt<|h.trans hk]
   .have a:(g == k)=Zb:=beq_eq_false_iff_ne.mpr h
    simp only[lR,a,ag λe:g=f=>h<|e.trans hk.symm]
  .rw[ag hk]
   by_cases h:g=k
   .have a:(g == k)=O:=beq_iff_eq.mpr h
    simp only[lR,a,ag λe:g=f=>hk<|h.symm.trans e]
   .have a:(g == k)=Zb:=beq_eq_false_iff_ne.mpr h
    simp only[lR,a];exact b
theorem kO(f:Str)(v:V):∀fs:List<|Str×V,f∈(dJ f v fs).map (·.1)/\∀g,g∈fs.map (·.1)->g∈(dJ f v fs).map (·.1)
 |[]=>⟨by simp[dJ],λg h=>by simp at h⟩
 |(k,x)::r=>by
  obtain⟨b,a⟩:=kO f v r;rw[show dJ f v ((k,x)::r)=(if k=f then(k,v)::r else(k,x)::dJ f v r)from J]
  by_cases hk:k=f
  .rw[bt hk]
   subst hk;exact⟨by simp,λg h=>by simpa using h⟩
  .rw[ag hk]
   refine⟨?_,λg h=>?_⟩
   .rw[dG]
    exact eE _ b
   .rw[dG]at h ⊢
    rcases bK.mp h with e|e
    .exact bK.mpr<|.inl e
    .exact eE _<|a g e
theorem lD(f:Str)(v:V):∀fs:List<|Str×V,(dJ f v fs).length<=fs.length+1
 |[]=>by simp[dJ]
 |(k,x)::r=>by
  have a:=lD f v r;rw[show dJ f v ((k,x)::r)=(if k=f then(k,v)::r else(k,x)::dJ f v r)from J]
  by_cases hk:k=f
  .rw[bt hk,bI,bI];lia
  .rw[ag hk,bI,bI];lia
def iy.some_of{v:V}{o:D1}(r:iy (U v) o):∃u,o=U u/\RelV v u:=by
 cases o with
 |none=>exact(show False from r).elim
 |some u=>exact⟨u,J,r⟩
def iy.none_of{o:D1}(r:iy Y o):o=Y:=by
 cases o with
 |none=>rfl
 |some u=>exact(show False from r).elim
def Br{v:V}{u:ar}(r:RelV v u):K9 u=O:=by
 cases v with
 |non=>cases(show u=kS from r);rfl
 |bl b=>cases(show u=pb b from r);rfl
 |int i=>obtain⟨t,e⟩:=(show ∃t,u=Value.int i t from r);cases e;rfl
 |str x=>obtain⟨t,e⟩:=(show ∃t,u=Value.str x t from r);cases e;rfl
 |byt b=>obtain⟨t,e⟩:=(show ∃t,u=Value.bytes b t from r);cases e;rfl
 |flt b=>obtain⟨t,e⟩:=(show ∃t,u=xB b t from r);cases e;rfl
 |ref a=>cases(show u=Value.ref a from r);rfl
 |ty n=>cases(show u=pa n from r);rfl
section
variable{fs d:List<|Str×V}
def jS(aZ:jI P w H h)(e:H a=U (.ins C dx fs)):∃b,w_ h a dx C b/\(∀f,iy (fs.lookup f)<|b f)/\wk b (fs.map (·.1))/\fs.length<=1000/\H dx=U (.own a):=by
 obtain⟨d,z,ne,ob,b,n,r,q⟩:=(show bP P w H h a (.ins C dx fs)from aZ a _ e);exact⟨b,⟨ob,n,ne⟩,r,q,z,d⟩
end
structure pP(K:bG)(C:cw):Prop where
 pg:tY K C xc=O
 hd:yl K C=O
 po:CB K C=O
 sa:gp K (.ref C) "__setattr__" = U (U<|.builtin "object.__setattr__")
def pP.get{K:bG}{C:cw}(c:pP K C)(f:Str):tY K C f=O:=c.pg
def eG(K:bG)(C:cw)(f:Str):Prop:=gp K (.ref C) f=U Y
def eG.Sq{K:bG}{C:cw}{f:Str}(n:eG K C f):CD K C f=U Y:=by
 unfold CD;rw[show gp K (.ref C) f=U Y from n];rfl
structure Meth(K:bG)(C:cw)(m:Str)(f:cw):Prop where
 at_:gp K (.ref C) m=U (U<|.ref f)
 fn:tZ K (.ref f)=O
 kp:pG K (.ref f)=O
section
variable{X:Cx}{B:St}{fs:List<|Str×V}{f:Str}{v:V}
def nF{b:Bool}{Q:ar->bh->Prop}(I:Inv X ae B H s)(e:H a=U (.ins C dx fs))(c:pP X.K C)(n:eG X.K C f)(l:fs.lookup f=U v)
  (h:∀u s',Inv X ae B H s'->RelV v u->Q u s'):eg (da X.prog X.w) A (getAttr (.ref a) f b) Q E s:=by
 obtain⟨g,j,r,_,_,_⟩:=jS I.aZ e;obtain⟨u,i,d⟩:=iy.some_of (v:=v) (o:=g f) (by rw[<- l];exact r f)
 exact get_map I.jJ j (c.get f) c.hd n i (Br d)<|h u _ (I.tok _) d
def nG{m:Str}{g:cw}{pl:Sem Bool}{Q:ar×B2->bh->Prop}(I:Inv X ae B H s)(e:H a=U (.ins C dx fs))(c:pP X.K C)(k:Meth X.K C m g)(l:fs.lookup m=Y)
  (h:Q (.ref g,[.ref a]) s):eg (da X.prog X.w) A (ui (.ref a) m pl) Q E s:=by
 obtain⟨b,f,r,_,_,_⟩:=jS I.aZ e;have d:b m=Y:=iy.none_of (by rw[<- l];exact r m)
 exact Dv I.jJ f (c.get m) k.at_ k.fn d h
def nH{y:V}{u:ar}{Q:Unit->bh->Prop}(I:Inv X ae B H s)(e:H a=U (.ins C dx fs))(c:pP X.K C)(n:eG X.K C f)(v:fs.length<1000)(l:RelV y u)
  (h:∀s',Inv X ae B (upd H a<|.ins C dx<|dJ f y fs) s'->Q () s'):eg (da X.prog X.w) A (setAttr (.ref a) f u) Q E s:=by
 obtain⟨j,D,r,i,_,k⟩:=jS I.aZ e;have m:(fs.map (·.1)).length<=dv:=by rw[bX,ew];lia
 refine HS I.jJ D c.sa c.po n.Sq c.hd i m λh' d sb=>h _ ?_;have hd:∃o,h'.get? dx=U o:=let⟨o,_,_,e',_⟩:=d.ns;⟨o,e'⟩;refine I.write (x:=a) (e:=dx) (by rw[e];exact hJ) (.inr k) (λb q t z=>(sb.2 b t).trans z) hd ?_
 refine⟨by rw[ak D.ne];exact k,?_,D.ne,d.obj,_,d.ns,λg=>?_,λg p=>?_⟩
 .have:=lD f y fs;lia
 .show iy ((dJ f y fs).lookup g)<|if g=f then U u else j g
  rw[lC];by_cases q:g=f
  .rw[bt q,bt q];exact l
  .rw[ag q,ag q];exact r g
 .by_cases q:g=f
  .rw[q];exact(kO f y fs).1
  .refine(kO f y fs).2 g<|i g λz=>p ?_
   show(if g=f then U u else j g)=Y
   rw[ag q];exact z
def Inv.made(I:Inv X ae B H s):Inv X ae B (upd (upd H s.heap.objs.size<|.own<|s.heap.objs.size+1) (s.heap.objs.size+1)<|.ins C s.heap.objs.size [])
  {s with heap:=(s.heap.push rj).push (tX C s.heap.objs.size)}:=by
 have c:(s.heap.push rj).get? s.heap.objs.size=U rj:=c8 s.heap J;have h:((s.heap.push rj).push<|tX C s.heap.objs.size).get? (s.heap.objs.size+1)=U (tX C s.heap.objs.size):=by
  have:=c8 (s.heap.push rj) (o:=tX C s.heap.objs.size) J
  rwa [lK]at this
 have g:(s.heap.push rj).Ns s.heap.objs.size λ_=>Y:=⟨rj,#[],_,c,J,(λe f=>eD f<|by simp),λ_=>J⟩
 have i:=I.laid (a:=s.heap.objs.size) (o:=.own<|s.heap.objs.size+1) (h':=s.heap.push rj) (t':=s.toks) (λb u q=>bp _ q) (bW _) ⟨_,c⟩;refine i.laid (a:=s.heap.objs.size+1) (o:=.ins C s.heap.objs.size []) (t':=s.toks) (λb u q=>bp _ q) (wL<|lK _ _) ?_;have ne:s.heap.objs.size≠s.heap.objs.size+1:=dP<|pI _;refine⟨by rw[ak ne,ah],gq _,ne,h,λ_=>Y,(Heap.Ns1.of_empty g).at λo q=>bp _ q,λ_=>hJ,λy d=>eD J d⟩
def HU{prog:ef}{w:dA}{env:Env}{e:de}{f:Str}{pos:Pos}{s:bh}{Q:ar->bh->Prop}(b:gL e f env (e6 e env)=e6 e env)
  (h:eg (da prog w) A (e6 e env) (λo a=>eg (da prog w) A (getAttr o f O) Q E a) E s):eg (da prog w) A (e6 (.Attribute e f pos) env) Q E s:=
 Attribute_any_ h (by rw[arm_eval_Attribute,b])
end
def Yb(K:bG)(c:TE)(f:Str):TE:=λb H Q=>c b H λx H1=>∃a C dx fs v,x=.ref a/\H1 a=U (.ins C dx fs)/\pP K C/\eG K C f/\fs.lookup f=U v/\Q v H1
def Ss(K:bG)(e d:TE)(f:Str):TS:=λD b H=>d b H λy H1=>e b H1 λx c=>∃a C dx fs,x=.ref a/\c a=U (.ins C dx fs)/\pP K C/\eG K C f/\fs.length<1000 /\
 D.nx b (upd c a<|.ins C dx<|dJ f y fs)
def Su(X:Cx)(op:o7)(rd:V->V->Hp->VK->Prop):Prop:=
 ∀(ae:dm)(s:bh)(a:St)(H:Hp)(x y:V)(u v:ar)(Q:VK),Inv X ae a H s->RelV x u->RelV y v->rd x y H Q->eg (da X.prog X.w) X.A (inplaceOp op u v) (EP X ae a Q) X.xe s
def HV(K:bG)(h g:TE)(rd:V->V->Hp->VK->Prop)(f:Str):TS:=λD b H=>h b H λx H1=>∃a C dx fs v,x=.ref a/\H1 a=U (.ins C dx fs)/\pP K C/\eG K C f/\fs.lookup f=U v /\
 g b H1 λy i=>rd v y i λz e=>∃d c,e a=U (.ins C d c)/\c.length<1000/\D.nx b (upd e a<|.ins C d<|dJ f z c)
section
variable{X:Cx}{value:de}{f:Str}{B i8:Pos}{ta tv:TE}
def Dy(he:PE X e ta)(j:gL e f X.env (e6 e X.env)=e6 e X.env):PE X (.Attribute e f pos)<|Yb X.K ta f:=by
 intro ae s b H Q I h;refine HU j<|bV (he ae s b H _ I h) λu t d=>?_;obtain⟨x,H1,o,g,a,C,dx,fs,v,ex,k,c,n,l,q⟩:=d;subst ex
 obtain rfl:u=Value.ref a:=g
 exact nF o k c n l λp r m i=>⟨v,H1,m,i,q⟩
def xf(m:PE X o ta)(j:PE X value tv)(k:fI value (U<|.Attribute o f B) pos.line X.env=pure Zb):PS X (.Assign [.Attribute o f B] value pos)<|Ss X.K ta tv f:=by
 intro ae s b H D I h;refine plainObj_wpAny_Assign_Attribute (bV (j ae s b H _ I h) λu e d=>?_) k;obtain⟨y,H1,v,g,q⟩:=d;refine bV (m ae e b H1 _ v q) λov z d=>?_;obtain⟨x,A,t,i,a,C,dx,fs,ex,p,c,n,l,q2⟩:=d;subst ex
 obtain rfl:ov=Value.ref a:=i
 exact nH t p c n l g λw r=>⟨b,_,r,q2⟩
def Bs{op:o7}{rd:V->V->Hp->VK->Prop}(B:PE X o ta)(A:PE X value tv)(e:Su X op rd):PS X (.AugAssign (.Attribute o f i8) op value pos)<|HV X.K ta tv rd f:=by
 intro ae s d H D I h;refine wpAny_AugAssign_AttributeAny<|bV (B ae s d H _ I h) λov S b=>?_;obtain⟨x,H1,N,p,a,C,dx,fs,v,ex,E,c,n,l,q⟩:=b;subst ex
 obtain rfl:ov=Value.ref a:=p
 refine nF N E c n l λu j M r=>bV (A ae j d H1 _ M q) λw3 i b=>?_;obtain⟨y,P,L,m,t⟩:=b;refine bV (e ae i d P v y u w3 _ L r m t) λw4 R b=>?_;obtain⟨z,Z,G,k,W,T,g,w,q4⟩:=b;exact nH G g c n w k λQ F=>⟨d,_,F,q4⟩
def Yc:V->V->Hp->VK->Prop:=λx y H Q=>∃i j,x=.int i/\y=.int j/\Q (.int<|i+j) H
def N8:Su X .Add Yc:=by
 rintro ae s d H x y u v Q I c b ⟨i,j,rfl,rfl,q⟩
 obtain⟨t,rfl⟩:=(show ∃t,u=Value.int i t from c);obtain⟨a,rfl⟩:=(show ∃a,v=Value.int j a from b);exact PyProof.Rows.iadd_int ⟨.int<|i+j,H,I.tok _,⟨_,J⟩,q⟩
end
section
variable{X:Cx}{G:St}{Q:ar->bh->Prop}{c:ar}{b:Bool}
inductive i9(K:bG)(H:Hp):V->ar->Prop where
 |non:i9 K H .non<|.type "NoneType"
 |bl (x:Bool):i9 K H (.bl x)<|.type "bool"
 |int (i:Int):i9 K H (.int i)<|.type "int"
 |str (x:Str):i9 K H (.str x)<|.type "str"
 |flt (x:UInt64):i9 K H (.flt x)<|.type "float"
 |lst {a:cw} {xs:List V} (e:H a=U (.lst xs)):i9 K H (.ref a)<|.type "list"
 |f9 {a:cw} {o:Obj} {xs:List V} (e:H a=U (.f9 o<|.lst xs)):i9 K H (.ref a)<|.type "list"
 |tup {a:cw} {xs:List V} (e:kM K H a xs):i9 K H (.ref a)<|.type "tuple"
 |dK {a:cw} {kvs:List<|Key×V} (e:H a=U (.dK kvs)):i9 K H (.ref a)<|.type "dict"
 |dT {a:cw} {kvs:List<|List Key×V} (e:H a=U (.dT kvs)):i9 K H (.ref a)<|.type "dict"
 |ins {a C dx:cw} {fs:List<|Str×V} (e:H a=U (.ins C dx fs)) (cl:pP K C) (ha:gp K (.ref C) "__class__" = U (U<|.builtin "object.__class__"))
   (hn:ym K (.builtin "object.__class__") "__get__" = U (U<|.builtin "getset_descriptor.__get__")) (yV:yn K (.builtin "object.__class__")=U O)
   (hm:yo K C (.type "object")=U O):i9 K H (.ref a)<|.ref C
def qt{x:V}{u t:ar}(I:Inv X ae G H s)(d:RelV x u)(ty:i9 X.K H x t)(e:rm X.K t c=U b)(h:∀tk,Q (.bool b) {s with toks:=tk}) :
  eg (da X.prog X.w) A (call (.builtin "isinstance") [u,c]) Q E s:=by
 cases ty with
 |non=>cases(show u=kS from d);exact lQ PySem.W.kitx_none I.jJ hJ e (λz=>nomatch z) h
 |bl y=>cases(show u=pb y from d);exact lQ PySem.W.kitx_bool I.jJ hJ e (λz=>nomatch z) h
 |int i=>obtain⟨t,q⟩:=(show ∃t,u=Value.int i t from d);cases q;exact lQ PySem.W.kitx_int I.jJ hJ e (λz=>nomatch z) h
 |str y=>obtain⟨t,q⟩:=(show ∃t,u=Value.str y t from d);cases q;exact lQ PySem.W.kitx_str I.jJ hJ e (λz=>nomatch z) h
 |flt y=>obtain⟨t,q⟩:=(show ∃t,u=xB y t from d);cases q;exact lQ PySem.W.kitx_float I.jJ hJ e (λz=>nomatch z) h
 | @lst a k f=>
  cases(show u=Value.ref a from d);obtain⟨_,_,n,_,g⟩:=(show bP X.prog X.w H s.heap a (.lst k)from I.aZ a _ f);exact lQ K_ I.jJ ⟨_,g,J⟩ e (λz=>nomatch z) h
 | @f9 a ob k f=>
  cases(show u=Value.ref a from d);obtain⟨_,_,_,n,_,g⟩:=(show bP X.prog X.w H s.heap a (.f9 ob<|.lst k)from I.aZ a _ f);exact lQ K_ I.jJ ⟨_,g,J⟩ e (λz=>nomatch z) h
 | @tup a k f=>
  cases(show u=Value.ref a from d);obtain⟨_,_,p,_⟩:=I.tuple f;obtain⟨o,g,l,_⟩:=p;exact lQ PySem.W.kitx_tuple I.jJ ⟨o,g,l⟩ e (λz=>nomatch z) h
 | @dK a j f=>
  cases(show u=Value.ref a from d);obtain⟨_,_,vs,_,p⟩:=(show bP X.prog X.w H s.heap a (.dK j)from I.aZ a _ f);obtain⟨o,es,D,g,l,_⟩:=p;exact lQ CF I.jJ ⟨o,g,l.1⟩ e (λz=>nomatch z) h
 | @dT a j f=>
  cases(show u=Value.ref a from d);obtain⟨_,_,k,_,o,es,D,g,l,_⟩:=(show bP X.prog X.w H s.heap a (.dT j)from I.aZ a _ f);exact lQ CF I.jJ ⟨o,g,l.1⟩ e (λz=>nomatch z) h
 | @ins a C dx fs f cl B r m v=>
  cases(show u=Value.ref a from d);obtain⟨F,L,_⟩:=jS I.aZ f;obtain⟨od,M,_⟩:=L.look;exact lQ (La (cl.get _) cl.hd B r m v) I.jJ M e (λz=>nomatch z) h
end
structure bL(k:Nat)(A:eL):Prop where
 hd:A.handled=Y
 dp:A.depth+3*k+5<recursionLimit
 un:A.units+16*k+200<kd
def bL.mono{j k:Nat}{A:eL}(r:bL k A)(h:j<=k):bL j A:=⟨r.hd,by have:=r.dp;lia,by have:=r.un;lia⟩
theorem bL.deeper{k:Nat}{A:eL}(r:bL (k+1) A)(env:Env):bL k<|A.deeper env:=
 ⟨r.hd,by have:=r.dp;show A.depth+1+3*k+5<_;lia,by have:=r.un;show A.units+3+16*k+200<_;lia⟩
def xh{A:eL}{C:cw}{us:B2}{a:List<|Str×ar}:(A.under<|.builtin "type.__call__" ⟨.ref C::us,a⟩).depth=A.depth+1:=by
 first|rfl|simp[vx,Code.weight,Code.isCreation,Code.isGuard,Code.isCaller,Code.frames,xl,guardIds]
def xj{A:eL}{C:cw}{us:B2}{a:List<|Str×ar}:(A.under<|.builtin "type.__call__" ⟨.ref C::us,a⟩).units=A.units+1:=by
 first|rfl|simp[vx,Code.cUnits,Code.frames,xl]
def bL.make{k:Nat}{A:eL}(r:bL (k+1) A)(C:cw)(us:B2)(a:List<|Str×ar):bL k<|A.under<|.builtin "type.__call__" ⟨.ref C::us,a⟩:=
 ⟨r.hd,by have:=r.dp;rw[xh];lia,by have:=r.un;rw[xj];lia⟩
theorem bL.depth{k:Nat}{A:eL}(r:bL k A):A.depth<recursionLimit:=by have:=r.dp;lia
theorem bL.units{k:Nat}{A:eL}(r:bL k A):A.units+64<kd:=by have:=r.un;lia
def HW:TA:=λ_ H Q=>Q [] H
def Sv(c:TE)(tr:TA):TA:=λa H Q=>c a H λx H1=>tr a H1 λb d=>Q (x::b) d
section
variable{X:Cx}{te:TE}{t:TA}
def bU:PA X [] HW:=λ_ _ _ _ H Q I h=>DR ⟨[],H,I,.nil,h⟩
def aR(j:PE X e te)(hr:PA X es t)(i:dy (e::es) X.env=(Zb,e6 e X.env)::dy es X.env:=by rfl):PA X (e::es)<|Sv te t:=by
 intro pos ae s a H Q I h;rw[i];show eg _ _ (spliced<|(Zb,e6 e X.env)::hW pos (dy es X.env)) _ _ s;refine rp<|bV (j ae s a H _ I h) λu d b=>?_;obtain⟨x,H1,l,g,q1⟩:=b;exact bV (hr pos ae d a H1 _ l q1) (by rintro n o ⟨c,m,k,f,q2⟩;exact⟨x::c,m,k,.cons g f,q2⟩)
def Yd(t:TA):TE:=λb H Q=>t b H λa H1=>a.length<=dv/\∀p,H1 p=Y->Q (.ref p) (upd H1 p<|.tup a)
def Ye(t:TA):TE:=λb H Q=>t b H λa H1=>a.length<=dv/\∀p,H1 p=Y->Q (.ref p) (upd H1 p<|.lst a)
def Dz{i}(h:PA X es t):PE X (.Tuple es i pos)<|Yd t:=by
 intro ae s d H Q I k;refine wpAny_Tuple_spliced<|bV (h pos ae s d H _ I k) λj a f=>?_;obtain⟨g,H1,c,r,z,q⟩:=f;refine⟨by rw[<- r.length];exact z,?_⟩
 have l:H1 a.heap.objs.size=Y:=c.aZ.fresh<|bW _;refine⟨.ref a.heap.objs.size,upd H1 a.heap.objs.size<|.tup g,c.laid (t':=a.toks) (λb u e=>bp _ e) (bW _) ?_,J,q _ l⟩;exact⟨z,j,r,⟨_,c8 _ J,J,_,J⟩⟩
def DA(h:PA X es t):PE X (.List es pos)<|Ye t:=by
 intro ae s d H Q I j;refine wpAny_List_spliced<|bV (h pos ae s d H _ I j) λi a f=>?_;obtain⟨g,H1,c,r,z,q⟩:=f;refine⟨by rw[<- r.length];exact z,?_⟩
 have k:H1 a.heap.objs.size=Y:=c.aZ.fresh<|bW _;refine⟨.ref a.heap.objs.size,upd H1 a.heap.objs.size<|.lst g,c.laid (t':=a.toks) (λb u e=>bp _ e) (bW _) ?_,J,q _ k⟩;exact⟨z,i,0,r,c8 _ J⟩
end
abbrev Sp:=List V->Hp->VK->XK->Prop
abbrev DB:=List Env->Hp->bh->XK->ar->bh->Prop
structure xm(P:ef)(w:dA)(K:bG)(mg:Str->D1)(base:fA)(A:eL)(outer:List Env)(s:bh)(H:Hp):Prop where
 frames:A.frames=U outer
 mod:Mod K mg base
 bs:∀b o,base.get? b=U o->s.heap.get? b=U o/\H b=Y
 bsz:base.objs.size<=s.heap.objs.size
 lX:s.heap.FunFrames base outer
 frf:∀b∈Dk outer,H b=Y
 aZ:jI P w H s.heap
 bare:r1 s.gens
def CE(outer:List Env)(P:ef)(w:dA)(H:Hp)(s:bh)(Q:VK)(u:ar)(s':bh):Prop:=
 ∃v H',s'.os=s.os/\r1 s'.gens/\Un (Dk outer) [] H H' s.heap s'.heap/\jI P w H' s'.heap/\RelV v u/\Q v H'
def CR(CX:DB)(outer:List Env)(P:ef)(w:dA)(H:Hp)(s:bh)(Q:VK)(E:XK)(r:Result)(s':bh):Prop:=
 match r with
 |.ok<|.ret u=>CE outer P w H s Q u s'
 |.ok _=>False
 |.error e=>CX outer H s E e s'
structure dR(P:ef)(w:dA)(K:bG)(mg:Str->D1)(base:fA)(CX:DB)(k:Nat)(f:cw)(fd:eX)(ps:Bi)(sp:Sp):Prop where
 len:∀vs H Q E,sp vs H Q E->vs.length=ps.length
 run:∀(A:eL)(outer:List Env)(s:bh)(H:Hp)(args:Args)(us:B2)(vs:List V)(Q:VK)(E:XK),bL k A->xm P w K mg base A outer s H->BindsTo s fd args (ps.zip us)->Vals vs us->sp vs H Q E ->
  r0 (da P w) A (.call (.ref f) args) (CR CX outer P w H s Q E) s
def dR.imp{P:ef}{w:dA}{K:bG}{mg:Str->D1}{base:fA}{CX:DB}{k:Nat}{f:cw}{fd:eX}{ps:Bi}{sp Ĩ:Sp}(F:dR P w K mg base CX k f fd ps sp)
  (h:∀vs H Q E,Ĩ vs H Q E->sp vs H Q E):dR P w K mg base CX k f fd ps Ĩ:=
 ⟨λvs H Q E q=>F.len vs H Q E<|h _ _ _ _ q,λA outer s H a b vs Q E hr e g c d=>F.run A outer s H a b vs Q E hr e g c<|h _ _ _ _ d⟩
def xm.make{P:ef}{w:dA}{K:bG}{mg:Str->D1}{base:fA}{A:eL}{outer:List Env}{s:bh}{H:Hp}(e:xm P w K mg base A outer s H)(C:cw)(us:B2)(a:List<|Str×ar) :
  xm P w K mg base (A.under<|.builtin "type.__call__" ⟨.ref C::us,a⟩) outer s H:=⟨by first|exact e.frames|(simpa[vx,Code.envs,xl,pushEnvs]using e.frames),e.mod,e.bs,e.bsz,e.lX,e.frf,e.aZ,e.bare⟩
section
variable{X:Cx}{j:St}{s':bh}
def Inv.Sw(I:Inv X ae j H s):xm X.prog X.w X.K X.mg X.base X.A X.stack s H:=
 ⟨I.ok.frames,I.ok.mod,I.bs,dq I.ok.bsz I.sz,I.stack,I.yP,I.aZ,I.bare⟩
def Inv.after{Q:VK}{u:ar}(I:Inv X ae j H s)(h:CE X.stack X.prog X.w H s Q u s'):EP X ae j Q u s':=by
 obtain⟨v,H',os,bare,un,aZ,r,q⟩:=h;obtain⟨c,g,d,t,a⟩:=s'
 obtain rfl:a=s.os:=os
 exact⟨v,H',I.call (h':=c) (g':=g) (d':=d) (t':=t) (ch:=[]) un aZ bare λb z=>eD z<|by simp,r,q⟩
end
def Mf(sp:Sp)(b:List V)(E:XK)(t:TA):TE:=λa H Q=>t a H λvs H1=>sp (vs++b) H1 Q E
def yW(C:cw)(m:Str)(sp:Sp)(d:List V)(E:XK)(c:TE)(t:TA):TE:=λb H Q=>c b H λx H1=>∃a dx fs,x=.ref a/\H1 a=U (.ins C dx fs)/\fs.lookup m=Y /\
 t b H1 λvs e=>sp (x::(vs++d)) e Q E
def Sx(C:cw)(sp:Sp)(b:List V)(E:XK)(t:TA):TE:=λa H Q=>t a H λvs H1=>∀x dx,H1 x=Y->H1 dx=Y->dx≠x ->
 sp (.ref x::(vs++b)) (upd (upd H1 dx<|.own x) x<|.ins C dx []) (λv c=>v=.non/\Q (.ref x) c) E
def Binds(K:bG)(fd:eX)(ps:Bi)(ds:B2):Prop:=
 ∀(s:bh)(a:B2),K.In s.heap->(a++ds).length=ps.length->BindsTo s fd ⟨a,[]⟩ (ps.zip<|a++ds)
def Binds.all{K:bG}{fd:eX}{ps:Bi}(h:∀us:B2,us.length=ps.length->bindArgs fd ⟨us,[]⟩=pure (ps.zip us)):Binds K fd ps []:=λs us _ a=>by
 rw[dw]at a ⊢;exact .of_eq<|h us a
def Passes(CX:DB)(X:Cx)(E:XK):Prop:=∀(ae:dm)(b:St)(H:Hp)(s:bh)(e:ar)(a:bh),Inv X ae b H s->CX X.stack H s E e a->X.xe e a
section
variable{X:Cx}{CX:DB}{k:Nat}{fd:eX}{ps:Bi}{sp:Sp}{N:List V}{ds:B2}{E:XK}{x m:Str}{R:Pos}{S:TE}{t:TA}
def rH{ae:dm}{b:St}{H:Hp}{s:bh}{Q:VK}{us:B2}{vs:List V}(F:dR X.prog X.w X.K X.mg X.base CX k f fd ps sp)(hr:bL k X.A)(j:Binds X.K fd ps ds)(hd:Vals N ds)(g:Passes CX X E)
  (I:Inv X ae b H s) (r:Vals vs us) (h:sp (vs++N) H Q E):eg (da X.prog X.w) X.A (call (.ref f) us) (EP X ae b Q) X.xe s:=by
 have c:Vals (vs++N)<|us++ds:=r.append hd;have i:(us++ds).length=ps.length:=by rw[<- c.length];exact F.len _ _ _ _ h
 refine xp<|ox (F.run X.A X.stack s H ⟨us,[]⟩ (us++ds) (vs++N) Q E hr I.Sw (j s us I.jJ i) c h) λr d a=>?_;cases r with
 |error e=>exact g ae b H s e d I a
 |ok l=>
  cases l with
  |ret u=>exact I.after a
  |next=>exact gk a
  |brk=>exact gk a
  |cont=>exact gk a
def HX(F:dR X.prog X.w X.K X.mg X.base CX k f fd ps sp)(hr:bL k X.A)(l:Gl X x)(i:X.mg x=U (.ref f))(j:pG X.K (.ref f)=O)(m:Binds X.K fd ps ds)(hd:Vals N ds)(g:Passes CX X E)
  (n:PA X (e::es) t) (d:cy x:=by decide) (he:dy (e::es) X.env=(Zb,e6 e X.env)::dy es X.env:=by rfl) (hpl:(hW pos<|dy es X.env).any (·.1)=Zb:=by rfl) :
  PE X (.Call (.Name x p) (e::es) [] pos)<|Mf sp N E t:=by
 intro ae s b H Q I h;refine gV<|jQ I l i ?_ d;refine CG (h₀:=X.base) I.ok.mod.kin j (bV (n pos ae s b H _ I h) λo u c=>?_) he hpl;obtain⟨vs,H1,a,r,q⟩:=c;refine⟨a.jJ,?_⟩;exact rH F hr m hd g a r q
def DC(F:dR X.prog X.w X.K X.mg X.base CX k f fd ps sp)(hr:bL k X.A)(e:Gl X x)(c:X.mg x=U (.ref f))(d:pG X.K (.ref f)=O)(g:Binds X.K fd ps ds)(hd:Vals N ds)(b:Passes CX X E)
  (a:cy x:=by decide):PE X (.Call (.Name x p) [] [] pos)<|Mf sp N E HW:=by
 intro ae s i H Q I h;refine gV<|jQ I e c ?_ a;exact CH I.jJ d<|rH (us:=[]) F hr g hd b I .nil h
def HZ{pl:Sem Bool}(he:PE X o S)(c:pP X.K C)(g:Meth X.K C m f)(F:dR X.prog X.w X.K X.mg X.base CX k f fd ps sp)(hr:bL k X.A)(z:Binds X.K fd ps ds)(hd:Vals N ds)(v:Passes CX X E)(B:PA X (e::es) t)
  (G:dy (e::es) X.env=(Zb,e6 e X.env)::dy es X.env:=by rfl) (hpl:(hW pos<|dy es X.env).any (·.1)=Zb:=by rfl)
  (y:e6 (.Call (.Attribute o m R) (e::es) [] pos) X.env=(do
   let ov <- e6 o X.env
   rO R.atName
   let(f,first) <- rS [ov] (ui ov m pl)
   callWith pos f first (hW pos<|dy (e::es) X.env) (pB pos<|my [] X.env)):=by rfl) :
  PE X (.Call (.Attribute o m R) (e::es) [] pos)<|yW C m sp N E S t:=by
 intro ae s d H Q I h;refine Lb (pl:=pl) (bV (he ae s d H _ I h) λu n b=>?_) y;obtain⟨x,H1,j,p,a,dx,fs,ex,D,l,q⟩:=b;subst ex
 obtain rfl:u=Value.ref a:=p
 refine nG j D c g l ?_;refine CG (first:=[.ref a]) (h₀:=X.base) I.ok.mod.kin g.kp (bV (B pos ae n d H1 _ j q) λus L b=>?_) G hpl
 obtain⟨vs,M,i,r,q2⟩:=b;refine⟨i.jJ,?_⟩;exact rH (us:=.ref a::us) (vs:=.ref a::vs) F hr z hd v i (.cons J r) q2
def DE{pl:Sem Bool}(he:PE X o S)(c:pP X.K C)(d:Meth X.K C m f)(F:dR X.prog X.w X.K X.mg X.base CX k f fd ps sp)(hr:bL k X.A)(p:Binds X.K fd ps ds)(hd:Vals N ds)(j:Passes CX X E)
  (n:e6 (.Call (.Attribute o m R) [] [] pos) X.env=(do
   let ov <- e6 o X.env
   rO R.atName
   let(f,first) <- rS [ov] (ui ov m pl)
   callWith pos f first (hW pos<|dy [] X.env) (pB pos<|my [] X.env)):=by rfl) :
  PE X (.Call (.Attribute o m R) [] [] pos)<|yW C m sp N E S HW:=by
 intro ae s e H Q I h;refine Lb (pl:=pl) (bV (he ae s e H _ I h) λu t g=>?_) n;obtain⟨x,H1,b,i,a,dx,fs,ex,r,l,q⟩:=g;subst ex
 obtain rfl:u=Value.ref a:=i
 refine nG b r c d l ?_;exact CH (first:=[.ref a]) b.jJ d.kp<|rH (us:=[.ref a]) (vs:=[.ref a]) F hr p hd j b (.cons J .nil) q
structure Mk(K:bG)(C f:cw):Prop where
 makes:t_ K C=O
 init:gp K (.ref C) "__init__" = U (U<|.ref f)
 fn:tZ K (.ref f)=O
 kp:pG K (.ref C)=O
def DF{ae:dm}{c:St}{H:Hp}{s:bh}{Q:VK}{us:B2}{vs:List V}(M:Mk X.K C f)(F:dR X.prog X.w X.K X.mg X.base CX k f fd ps sp)(hr:bL (k+1) X.A)(o:Binds X.K fd ps ds)(hd:Vals N ds)
  (m:Passes CX X E) (I:Inv X ae c H s) (r:Vals vs us)
  (h:∀x dx,H x=Y->H dx=Y->dx≠x->sp (.ref x::(vs++N)) (upd (upd H dx<|.own x) x<|.ins C dx []) (λv t=>v=.non/\Q (.ref x) t) E) :
  eg (da X.prog X.w) X.A (call (.ref C) us) (EP X ae c Q) X.xe s:=by
 have g:=h (s.heap.objs.size+1) s.heap.objs.size (I.aZ.fresh<|yq _) (I.aZ.fresh<|bW _)<|dP<|pI _;have b:=Inv.made (C:=C) I;have d:Vals (V.ref (s.heap.objs.size+1)::(vs++N))<|Value.ref (s.heap.objs.size+1)::(us++ds):=.cons J<|r.append hd;have n:(Value.ref (s.heap.objs.size+1)::us++ds).length=ps.length:=by
  have e:=d.length;rw[F.len _ _ _ _ g]at e;exact e.symm
 refine xp<|Dw (f:=f) I.jJ M.makes M.init (beq_iff_eq.mp M.fn)<|ox (F.run _ X.stack _ _ ⟨Value.ref (s.heap.objs.size+1)::us,[]⟩ (Value.ref (s.heap.objs.size+1)::(us++ds)) _ _ E (hr.make C us [])
  (b.Sw.make C us []) (o _ (Value.ref (s.heap.objs.size+1)::us) b.jJ n) d g) λr i a=>?_
 cases r with
 |error e=>exact m ae c _ _ e i b a
 |ok p=>
  cases p with
  |ret u=>
   obtain⟨v,H',q,j,ev,l⟩:=b.after a;subst ev;exact⟨j,⟨V.ref<|s.heap.objs.size+1,H',q,J,l⟩⟩
  |next=>exact gk a
  |brk=>exact gk a
  |cont=>exact gk a
def rJ(M:Mk X.K C f)(F:dR X.prog X.w X.K X.mg X.base CX k f fd ps sp)(hr:bL (k+1) X.A)(j:Gl X x)(i:X.mg x=U (.ref C))(l:Binds X.K fd ps ds)(hd:Vals N ds)(g:Passes CX X E)
  (m:PA X (e::es) t) (d:cy x:=by decide) (he:dy (e::es) X.env=(Zb,e6 e X.env)::dy es X.env:=by rfl) (hpl:(hW pos<|dy es X.env).any (·.1)=Zb:=by rfl) :
  PE X (.Call (.Name x p) (e::es) [] pos)<|Sx C sp N E t:=by
 intro ae s b H Q I h;refine gV<|jQ I j i ?_ d;refine CG (h₀:=X.base) I.ok.mod.kin M.kp (bV (m pos ae s b H _ I h) λn o c=>?_) he hpl;obtain⟨vs,H1,a,r,q⟩:=c;refine⟨a.jJ,?_⟩;exact DF M F hr l hd g a r q
end
section
variable{X:Cx}{CX:DB}{k:Nat}{fd:eX}{ps ks:Bi}{sp:Sp}{E:XK}{x m:Str}{n d:Pos}{j:List rb}{te u:TE}{t tk:TA}{v:Option Str}
variable{g:B2->B2->B2}{z:List V->List V->List V}
end
structure gS(N P:Bi)(sc:hB):Prop where
 kind:sc.kind=.function
 co:sc.isCoroutine=Zb
 gen:sc.isGenerator=Zb
 nd:N.Nodup
 pre:N.take P.length=P
 par:∀x∈P,sc.names.lookup x=U .local\/sc.names.lookup x=U .cell
 nofree:∀y∈sc.names,y.2≠.free
theorem qu{kindOf:Str->Option pF}{x:Str}:∀{a:List<|Str×ar}{m:Str->D1},(∀v,(x,v)∉a)->Cp kindOf a m x=m x
 |[],_,_=>J
 |(n,v)::r,m,h=>by
  unfold Cp;rw[qu λw b=>h w<|eE _ b];split
  .have:x≠n:=by rintro rfl;exact h v bC
   simp[this]
  .rfl
theorem qv{kindOf:Str->Option pF}{x:Str}:∀{a:List<|Str×ar}{m:Str->D1},(∀v,(x,v)∉a)->CC kindOf a m x=m x
 |[],_,_=>J
 |(n,v)::r,m,h=>by
  unfold CC;rw[qv λw b=>h w<|eE _ b];split
  .rfl
  .have:x≠n:=by rintro rfl;exact h v bC
   simp[this]
theorem qw{kindOf:Str->Option pF}{x:Str}{v:ar}:∀{P:Bi}{vs:B2}{i:Nat}{m:Str->D1},P.Nodup->P[i]?=U x->vs[i]?=U v->kindOf x=U .local ->
  Cp kindOf (P.zip vs) m x=U v
 |[],_,_,_,_,h,_,_=>by simp at h
 |_::_,[],_,_,_,_,h,_=>by simp at h
 |p::P,w::vs,0,m,nd,b,a,c=>by
  simp at b a;subst b;subst a;show Cp kindOf ((p,w)::P.zip vs) m p=_;unfold Cp;rw[qu λv d=>(lS.mp nd).1 (yt d).1,bt c];simp
 |p::P,w::vs,i+1,m,nd,b,a,c=>by
  show Cp kindOf ((p,w)::P.zip vs) m x=_;unfold Cp;exact qw (i:=i) (lS.mp nd).2 (by simpa using b) (by simpa using a) c
theorem qy{kindOf:Str->Option pF}{x:Str}{v:ar}:∀{P:Bi}{vs:B2}{i:Nat}{m:Str->D1},P.Nodup->P[i]?=U x->vs[i]?=U v->kindOf x≠U .local ->
  CC kindOf (P.zip vs) m x=U v
 |[],_,_,_,_,h,_,_=>by simp at h
 |_::_,[],_,_,_,_,h,_=>by simp at h
 |p::P,w::vs,0,m,nd,b,a,c=>by
  simp at b a;subst b;subst a;show CC kindOf ((p,w)::P.zip vs) m p=_;unfold CC;rw[qv λv d=>(lS.mp nd).1 (yt d).1,ag c];simp
 |p::P,w::vs,i+1,m,nd,b,a,c=>by
  show CC kindOf ((p,w)::P.zip vs) m x=_;unfold CC;exact qy (i:=i) (lS.mp nd).2 (by simpa using b) (by simpa using a) c
def start(N:Bi)(vs:List V):St:=vs.map U++dN (N.length-vs.length) Y
def pQ(CX:DB)(P:ef)(w:dA)(K:bG)(mg:Str->D1)(base:fA)(N:Bi)(qual:Str)(scope:hB)(f:cw)(a:ar)(A:eL)(outer:List Env)(s:bh)(H:Hp)(E:XK):Cx where
 prog:=P
 w:=w
 K:=K
 mg:=mg
 base:=base
 A:=A.deeper (uj qual scope s.heap.objs.size f a)
 N:=N
 s₀:=s
 H₀:=H
 env:=uj qual scope s.heap.objs.size f a
 outer:=outer
 stack:=uj qual scope s.heap.objs.size f a::outer
 ex:=[]
 calm:=O
 fn:=λ_=>O
 pn:=[]
 xe:=λe c=>eg (da P w) (A.deeper<|uj qual scope s.heap.objs.size f a) (leaving (uj qual scope s.heap.objs.size f a) e) (λ_ b=>CX outer H s E e b) (λd b=>CX outer H s E d b) c
def uT{sc:hB}{n:Nat}{x:Str}(h:sc.names.lookup x=U .cell):∃c,(cellsFrom n sc.names []).lookup x=U c:=by
 have q:=Ld sc.names n []<|.inl h;exact Dg.mp q
def Bt{CX:DB}{P:ef}{w:dA}{K:bG}{mg:Str->D1}{base:fA}{N ps:Bi}{qual:Str}{scope:hB}{f:cw}{o:ar}{A:eL}{outer:List Env}{s s1:bh}{H:Hp}{E:XK}{us:B2}{vs:List V}
  (S:gS N ps scope) (hd:A.handled=Y) (g:xm P w K mg base A outer s H) (G:vs.length=ps.length) (r:Vals vs us)
  (x:InCallC s s.heap.objs.size (Cp (uj qual scope s.heap.objs.size f o).kindOf (ps.zip us) λ_=>Y) (cellsFrom (s.heap.objs.size+1) scope.names []) (CC (uj qual scope s.heap.objs.size f o).kindOf (ps.zip us) λ_=>Y) s1) :
  Inv (pQ CX P w K mg base N qual scope f o A outer s H E) [] (start N vs) H s1:=by
 have D:ps.length<=N.length:=by have:=cm Bb S.pre;rw[eT]at this;lia
 obtain⟨m,tk,rfl,B⟩:=x.done;have Sz:∀b:cw,b∉(pQ CX P w K mg base N qual scope f o A outer s H E).ex:=λb z=>eD (show b∈([]:BM)from z) (by simp)
 refine⟨⟨g.mod,S.kind,J,J,bW _,λy z c m d=>?_,λy j=>?_,λy c _ h=>?_,λ_=>hd,Around.frames_deeper g.frames,.inr ⟨J,J⟩,λb z=>eD z<|Sz b,g.bs,g.bsz,λb _ _=>Sz b,λb z=>eD z<|Sz b,g.lX,g.frf⟩,
  J,g.bare,Un.kept B,⟨_,x.toInCall.ns,λi y v m d I=>?_⟩,λy c h=>⟨_,x.cell y c h⟩,g.aZ.fresh<|bW _,λy c h=>?_,λp l=>eD (show p∈([]:dm)from l)<|by simp,g.aZ.kept B,?_⟩
 .exact name_of_addr x.apart (hI m)<|hI d
 .have j:scope.names.lookup y=U .cell\/scope.names.lookup y=U .free:=j
  rcases j with j|j
  .exact uT j
  .exact eD J<|S.nofree _<|hI j
 .exact yp<|x.above y c<|hI h
 .have hi:i<vs.length:=by
   unfold start at d;by_cases hi:i<vs.length
   .exact hi
   .rw[eF<|by simpa using hi]at d
    rw[wM]at d;split at d<;>cases d
  have F:vs[i]?=U v:=by
   unfold start at d;rw[e_<|by simpa using hi,dH]at d
   cases e:vs[i]? with
   |none=>rw[e]at d;cases d
   |some a=>rw[e]at d;cases d;rfl
  obtain⟨u,t,C⟩:=r.get F;have l:ps[i]?=U y:=by
   rw[<- S.pre,List.getElem?_take_of_lt<|by lia];exact m
  have ĩ:ps.Nodup:=by rw[<- S.pre];exact S.nd.sublist<|CU _ _
  refine⟨u,C,?_⟩;rcases S.par y (dh l)with k|k
  .exact .inl ⟨k,qw ĩ l t k⟩
  .obtain⟨c,e⟩:=uT (n:=s.heap.objs.size+1) k
   refine .inr ⟨.inl k,c,e,?_⟩;have q:=x.cell y c e;rw[qy ĩ l t<|by show scope.names.lookup y≠_;rw[k];decide]at q
   exact q
 .exact g.aZ.fresh<|yp<|x.above y c<|hI h
 .unfold start
  show _=N.length;rw[dg,bX,kI]
  lia
def SA{CX:DB}{P:ef}{w:dA}{K:bG}{mg:Str->D1}{base:fA}{k:Nat}{f:cw}{name qual:Str}{a:Arguments}{c:DD}{scope:hB}{C kV j B g ct M:ar}{an od:Option cw}
  {DG:Array D1} {N ps:Bi} {sp:Sp} (R:K.lookup f=U ⟨M,od,.func<|A9 name qual a c scope C kV j B an g ct,DG⟩) (T:CI K g qual=O) (S:gS N ps scope)
  (len:∀vs H Q E,sp vs H Q E->vs.length=ps.length)
  (DH:∀(A:eL)(outer:List Env)(s:bh)(H:Hp)(vs:List V)(Q:VK)(E:XK),bL k (A.deeper<|uj qual scope s.heap.objs.size f g)->sp vs H Q E ->
   ∃t,jP (pQ CX P w K mg base N qual scope f g A outer s H E) c t/\t {nx:=λ_ H'=>Q .non H',rt:=Q} (start N vs) H) :
  dR P w K mg base CX (k+1) f (A9 name qual a c scope C kV j B an g ct) ps sp:=by
 refine⟨len,λA outer s H D L vs Q E hr i hb r F=>?_⟩;have hl:=len _ _ _ _ F;have G:K.In s.heap:=i.mod.kin.keeps λb o e=>(i.bs b o e).1;have p:s.heap.NoLimit:=i.mod.nolimit.keeps λb o e=>(i.bs b o e).1;have SD:∀y∈ps.zip L,scope.names.lookup y.1=U .local\/(scope.names.lookup y.1=U .cell/\((cellsFrom (s.heap.objs.size+1) scope.names []).lookup y.1).isSome=O):=λ⟨n,v⟩ X=>by
  rcases S.par n (yt X).1 with q|q
  .exact .inl q
  .exact .inr ⟨q,Ld _ _ _<|.inl q⟩
 refine codeAny_call_function hr.depth (G _ _ R) J S.co S.gen J (PySem.W.codeRec_of G T)<|hb _ _ _ _ ?_;refine wpAny_newFunctionEnv_cells S.kind SD λenv he z x=>?_;subst he;refine⟨p.keeps x.toInCall.keep,codeAny_func ?_⟩;obtain⟨t,Z,hq⟩:=DH A outer s H vs Q E (hr.deeper _) F;have I:Inv (pQ CX P w K mg base N qual scope f g A outer s H E) [] (start N vs) H z:=Bt S hr.hd i hl r x;refine f6 (Z [] z (start N vs) H _ I hq) (λfl l h=>?_) λe l h=>h;have fin:∀{d:St}{H':Hp}{v:V}{u:ar},Inv (pQ CX P w K mg base N qual scope f g A outer s H E) [] d H' l->RelV v u->Q v H'->CE outer P w H s Q u l:=
  λ{d H' v u} q0 m q=>⟨v,H',q0.os,q0.bare,q0.base,q0.aZ,m,q⟩
 cases fl with
 |ret u=>
  obtain⟨v,d,H',q0,m,q⟩:=h;exact fin q0 m q
 |next=>
  obtain⟨d,H',q0,q⟩:=h;exact fin (v:=V.non) (u:=kS) q0 J q
 |brk=>
  obtain⟨_,_,_,q⟩:=h;exact gk q
 |cont=>
  obtain⟨_,_,_,q⟩:=h;exact gk q
section
variable{X:Cx}{x:Str}{t:TA}{id T:String}{r:List V->Hp->VK->Prop}
def Yg(r:List V->Hp->VK->Prop)(t:TA):TE:=λa H Q=>t a H λvs H1=>r vs H1 Q
def dX(l:dW X (.builtin id) r)(k:Gl X x)(j:X.mg x=Y)(g:ih x=U (.builtin id))(m:PA X (e::es) t)(i:x ≠ "__name__" := by decide)(f:cy x:=by decide)
  (he:dy (e::es) X.env=(Zb,e6 e X.env)::dy es X.env:=by rfl) (hpl:(hW pos<|dy es X.env).any (·.1)=Zb:=by rfl):PE X (.Call (.Name x p) (e::es) [] pos)<|Yg r t:=by
 intro ae s a H Q I h;refine gV<|gQ I k j g ?_ i f;exact PyProof.Rows.callWith_builtin1 (bV (m pos ae s a H _ I h)<|by rintro b c ⟨vs,H1,n,d,q1⟩;exact l ae c a H1 vs b Q n d q1) he hpl
def gB(l:dW X (.type T) r)(k:Gl X x)(j:X.mg x=Y)(g:ih x=U (.type T))(m:PA X (e::es) t)(i:x ≠ "__name__" := by decide)(f:cy x:=by decide)
  (he:dy (e::es) X.env=(Zb,e6 e X.env)::dy es X.env:=by rfl) (hpl:(hW pos<|dy es X.env).any (·.1)=Zb:=by rfl):PE X (.Call (.Name x p) (e::es) [] pos)<|Yg r t:=by
 intro ae s a H Q I h;refine gV<|gQ I k j g ?_ i f;exact Be (bV (m pos ae s a H _ I h)<|by rintro b c ⟨vs,H1,n,d,q1⟩;exact l ae c a H1 vs b Q n d q1) he hpl
end
end L2
namespace HT
open PySem PyProof.Rows
section
open PySem.SeqAt
open PySem.AutoSeq1 (wpAny_loadPart')
open PySem.MeetsSeq PySem.MeetsSeq2 PySem.MeetsSeq3
end
section
variable{prog:ef}{w:dA}{A:eL}{E:ar->bh->Prop}{s:bh}
def gO(n d:Nat):D2->Nat
 |none=>d
 |some v=>if v<0 then(v+(n:Int)).toNat else min v.toNat n
end
end HT
namespace L2
open PySem PySem.Spec PyProof.Rows
abbrev TO:=St->Hp->(D2->Hp->Prop)->Prop
def PO(X:Cx)(e:Option de)(t:TO):Prop:=
 ∀(b:dm)(s:bh)(a:St)(H:Hp)(Q:D2->Hp->Prop),Inv X b a H s->t a H Q ->
  eg (da X.prog X.w) X.A (evalPart e X.env) (λu d=>∃o c,Inv X b a c d/\IsPart u o/\Q o c) X.xe s
def H0:TO:=λ_ H Q=>Q Y H
def SE(t:TE):TO:=λa H Q=>t a H λx H1=>∃i,x=.int i/\Q (U i) H1
variable{X:Cx}
section
variable{e:de}{te:TE}{lo hi:Option de}{tl L:TO}{pos M:Pos}
def H_:PO X Y H0:=by
 intro b s a H Q I h;rw[evalPart_none];exact c7 ⟨Y,H,I,.none,h⟩
def Ia(h:PE X e te):PO X (U e)<|SE te:=by
 intro f s a H Q I d;rw[evalPart_some];refine bV (h f s a H _ I d) λu j b=>?_;obtain⟨x,H1,g,c,q1⟩:=b;obtain⟨i,rfl,q⟩:=q1;obtain⟨t,rfl⟩:=c;exact⟨U i,H1,g,.int i t,q⟩
def Mh(X:Cx)(r:V->D2->D2->Hp->VK->Prop):Prop:=
 ∀(d:dm)(s:bh)(a:St)(H:Hp)(x:V)(v c b:ar)(lo hi:D2)(sl:cw)(Q:VK),Inv X d a H s->RelV x v->s.heap.IsSliceOf sl c b .none->IsPart c lo->IsPart b hi->r x lo hi H Q ->
  ∃T id,typeLookup (.type T) "__getitem__" = pure (U<|.builtin id)/\s.TypeIs v T/\eg (da X.prog X.w) X.A (wI v<|.ref sl) (EP X d a Q) X.xe s
def Mh.or{r e:V->D2->D2->Hp->VK->Prop}(h:Mh X r)(h':Mh X e):Mh X λx lo hi H Q=>r x lo hi H Q\/e x lo hi H Q:=by
 intro i s a H x v c b lo hi sl Q I d g pl f q;rcases q with q|q
 .exact h i s a H x v c b lo hi sl Q I d g pl f q
 .exact h' i s a H x v c b lo hi sl Q I d g pl f q
def tSl(r:V->D2->D2->Hp->VK->Prop)(te:TE)(tl L:TO):TE:=λa H Q=>te a H λx H1=>tl a H1 λl c=>L a c λu b=>r x l u b Q
def uU{r:V->D2->D2->Hp->VK->Prop}(hr:Mh X r)(he:PE X e te)(z:PO X lo tl)(t:PO X hi L):PE X (.Subscript e (.Slice lo hi Y M) pos)<|tSl r te tl L:=by
 intro d s c H Q I h;refine Subscript_<|bV (he d s c H _ I h) λv m f=>?_;obtain⟨x,H1,G,n,q1⟩:=f;refine wpAny_Slice<|bV (z d m c H1 _ G q1) λi k f=>?_;obtain⟨l,K,F,pl,q2⟩:=f;refine bV (t d k c K _ F q2) λg a f=>?_;obtain⟨u,j,E,p,o⟩:=f;rw[evalPart_none];refine c7 ?_;have D:Inv X d c j {a with heap:=a.heap.push {cls:=.type "slice",data:=.fields #[i,g,.none]}}:=E.kept (t':=a.toks) λb ob q=>bp _ q
 obtain⟨T,id,C,y,B⟩:=hr d {a with heap:=a.heap.push {cls:=.type "slice",data:=.fields #[i,g,.none]}} c j x v i g l u a.heap.objs.size Q D n (Heap.IsSliceOf.new ..) pl p o
 show eg (da X.prog X.w) X.A (y_ e (.Slice lo hi Y M) v<|.ref a.heap.objs.size) (EP X d c Q) X.xe {a with heap:=a.heap.push {cls:=.type "slice",data:=.fields #[i,g,.none]}}
 exact tail_any (ops:=[.ref a.heap.objs.size,v]) y C B (by with_unfolding_all rfl)
def Bu(xs:List V)(lo hi:D2):List V:=(xs.drop<|HT.gO xs.length 0 lo).take<|HT.gO xs.length xs.length hi-HT.gO xs.length 0 lo
def uV(xs:List V)(lo hi:D2):(Bu xs lo hi).length<=xs.length:=by
 unfold Bu;rw[eT,jL]
 lia
end
def Ib(n:Nat)(i:Int):Option Nat:=if 0<=i then(if i<n then U i.toNat else Y)else if -(n:Int)<=i then U (i+n).toNat else Y
def DI{α:Type}(xs:List α)(i:Int):Option α:=(Ib xs.length i).bind λj=>xs[j]?
def yX{n:Nat}{i:Int}{j:Nat}(h:Ib n i=U j):z4 i n=U j/\j<n/\-(n:Int)<=i/\i<n:=by
 unfold Ib at h;by_cases h0:0<=i
 .rw[bt h0]at h
  by_cases h1:i<n
  .rw[bt h1]at h
   have e:i.toNat=j:=kL.inj h;exact⟨by rw[seqIndex_of h0 h1,e],by lia,by lia,h1⟩
  .rw[ag h1]at h;cases h
 .rw[ag h0]at h
  by_cases h1:-(n:Int)<=i
  .rw[bt h1]at h
   have e:(i+n).toNat=j:=kL.inj h;exact⟨by rw[FX (by lia) h1,e],by lia,h1,by lia⟩
  .rw[ag h1]at h;cases h
def rK{α:Type}{xs:List α}{i:Int}{v:α}(h:DI xs i=U v):∃j,z4 i xs.length=U j/\xs[j]?=U v/\j<xs.length/\-(xs.length:Int)<=i/\i<xs.length:=by
 unfold DI at h;cases e:Ib xs.length i with
 |none=>rw[e]at h;cases h
 |some j=>
  rw[e]at h;obtain⟨d,c,b,a⟩:=yX e;exact⟨j,d,h,c,b,a⟩
def iU(b:de):Prop:=∀o i,ry b Zb o i=operate [o,i] (wI o i)
def Ic(X:Cx)(r:R2):Prop:=
 ∀(b a:de)(d:dm)(s:bh)(c:St)(H:Hp)(x y:V)(v u:ar)(Q:VK),Inv X d c H s->RelV x v->RelV y u->r x y H Q ->
  ry a Zb v u=operate [v,u] (wI v u)->eg (da X.prog X.w) X.A (y_ b a v u) (EP X d c Q) X.xe s
def yY(X:Cx)(id:String)(r:V->List V->Hp->VK->Prop):Prop:=
 ∀(d:dm)(s:bh)(a:St)(H:Hp)(x:V)(b:List V)(v:ar)(c:B2)(Q:VK),Inv X d a H s->RelV x v->Vals b c->r x b H Q ->
  eg (da X.prog X.w) X.A (call (.builtin id)<|v::c) (EP X d a Q) X.xe s
section
variable{a b:de}{n z:TE}{pos:Pos}
def Ic.or{r f:R2}(h:Ic X r)(h':Ic X f):Ic X λx y H Q=>r x y H Q\/f x y H Q:=by
 intro a b i s c H x y v u Q I e d q g;rcases q with q|q
 .exact h a b i s c H x y v u Q I e d q g
 .exact h' a b i s c H x y v u Q I e d q g
def Mi{r:R2}(hr:Ic X r)(j:PE X a n)(i:PE X b z)(g:iU b):PE X (.Subscript a b pos)<|NW r n z:=by
 intro k s c H Q I h;exact Subscript_<|NX j i I h λv u d x y m l f e q=>hr a b k d c m x y v u Q l f e q<|g _ _
def SH(K:bG):R2:=λx y H Q=>∃p a i v,x=.ref p/\y=.int i/\c9 K H p a/\DI a i=U v/\Q v H
def SI(K:bG):R2:=λx y H Q=>∃p a i v,x=.ref p/\y=.int i/\kM K H p a/\DI a i=U v/\Q v H
def SJ:R2:=λx y H Q=>∃z i c,x=.str z/\y=.int i/\z.length<=dv/\DI z.cps.toList i=U c/\Q (.str ⟨#[c]⟩) H
def yZ:Ic X<|SH X.K:=by
 intro b c k s e H x y v u Q I o n h f;obtain⟨p,G,i,z,rfl,rfl,A,C,q⟩:=h;cases o;obtain⟨t,rfl⟩:=n;obtain⟨d,r,pl,L⟩:=I.list A;obtain⟨j,a,F,N,E,D⟩:=rK C;obtain⟨w,g,l⟩:=r.get F;have B:=r.length;have M:=kN;have fin:EP X k e Q w s:=⟨z,H,I,l,q⟩;by_cases h0:0<=i
 .have hj:i.toNat=j:=by
   rw[seqIndex_of h0 D]at a;exact kL.inj a
  exact item_listR pl.isList h0 (by lia) (by rw[hj];simpa using g) fin f
 .have hj:(i+(d.toArray.size:Int)).toNat=j:=by
   rw[FX (by lia) E]at a
   rw[bT,<- B];exact kL.inj a
  exact FV (x:=w) pl.isList.typeIs slot_list_getitem.lookup
   (wpAny_getItem_list_neg (Q:=λr m=>r=w/\EP X k e Q r m) pl.isList (by lia) (by rw[bT]<;>lia) (by lia) (by rw[hj];simpa using g) ⟨J,fin⟩) f
def N_:Ic X<|SI X.K:=by
 intro a b d s c H x y v u Q I k g h m;obtain⟨p,E,i,z,rfl,rfl,n,A,q⟩:=h;cases k;obtain⟨t,rfl⟩:=g;obtain⟨l,r,pl,F⟩:=I.tuple n;obtain⟨j,C,B,N,M,L⟩:=rK A;obtain⟨w,D,e⟩:=r.get B;have o:=r.length;have G:=kN;have fin:EP X d c Q w s:=⟨z,H,I,e,q⟩;exact FV (x:=w) pl.typeIs slot_tuple_getitem.lookup
  (getItem_tuple (j:=j) (Q:=λr f=>r=w/\EP X d c Q r f) pl (by lia) (by lia) (by rw[bT,<- o];exact C) (by simpa using D) ⟨J,fin⟩) m
def Oa:Ic X SJ:=by
 intro a b E s w H x y v u Q I f e h g;obtain⟨z,i,c,rfl,rfl,B,l,q⟩:=h;obtain⟨t,rfl⟩:=f;obtain⟨A,rfl⟩:=e;obtain⟨j,d,o,D,n,m⟩:=rK l;have k:z.cps.toList.length=z.length:=by simp[Str.length]
 rw[k]at d n m;have C:=kN;exact tail_any (qx s z t) slot_str_getitem.lookup (getItem_str (c:=c) (by
  have r:decide (i < -(2^63:Int))=Zb:=dd (by lia)
  have p:decide (i ≥ 2^63)=Zb:=dd (by lia)
  rw[r,p,Bool.or_false]) (by rw[d];simpa using o) ⟨.str ⟨#[c]⟩,H,I.tok _,⟨_,J⟩,q⟩) g
def Ī(K:bG):R2:=λx y H Q=>SH K x y H Q\/SI K x y H Q\/SJ x y H Q
def Oc:Ic X<|Ī X.K:=yZ.or<|N_.or Oa
def xn(its:B2)(n j:Nat)(u:ar):ll (·.setIfInBounds j u) {cls:=.type "list",data:=.seq its.toArray n}={cls:=.type "list",data:=.seq (its.set j u).toArray n}:=by
 simp[ll]
theorem Inv.lst{b:dm}{a:St}{H:Hp}{s:bh}{p:cw}{xs:List V}(I:Inv X b a H s)(h:H p=U (.lst xs)) :
  ∃(its:B2)(n:Nat),Vals xs its/\s.heap.get? p=U {cls:=.type "list",data:=.seq its.toArray n}/\xs.length<=dv:=by
 obtain⟨z,its,n,r,e⟩:=I.aZ p _ h;exact⟨its,n,r,e,z⟩
def Inv.Od{g:dm}{c:St}{H:Hp}{s:bh}{p:cw}{xs ys:List V}{its its':B2}{n a:Nat}{f:Obj->Obj}(I:Inv X g c H s)(h:H p=U (.lst xs))
  (j:s.heap.get? p=U {cls:=.type "list",data:=.seq its.toArray n}) (d:f {cls:=.type "list",data:=.seq its.toArray n}={cls:=.type "list",data:=.seq its'.toArray a}) (r:Vals ys its') (i:ys.length<=dv) (t:Nat) :
  Inv X g c (upd H p<|.lst ys) {s with heap:=s.heap.update p f,toks:=t}:=by
 have e:(s.heap.update p f).get? p=U {cls:=.type "list",data:=.seq its'.toArray a}:=by
  rw[Heap.get?_update_self f j<|by rw[d]<;>rfl,d]
 refine I.write (x:=p) (e:=p) (by rw[h];trivial) (.inl J) (λb u k q=>(xk _ _<|Ne.symm k).trans q) ⟨_,e⟩ ?_
 exact⟨i,its',a,r,e⟩
def SK:V->V->V->Hp->(Hp->Prop)->Prop:=λo i v H Q=>∃p a k j,o=.ref p/\i=.int k/\H p=U (.lst a)/\Ib a.length k=U j/\Q (upd H p<|.lst<|a.set j v)
def set_list:R8 X SK:=by
 intro C s w H o i v ov D u Q I z A y h;obtain⟨p,x,k,j,rfl,rfl,f,hj,q⟩:=h;cases z;obtain⟨t,rfl⟩:=A;obtain⟨a,n,r,c,B⟩:=I.lst f;obtain⟨b,F,l,g⟩:=yX hj;have d:=r.length;have E:=kN;have m:Inv X C w (upd H p<|.lst<|x.set j v) {s with heap:=s.heap.update p (ll (·.setIfInBounds j u))}:=
  I.Od f c (xn a n j u) (r.set y j) (by rw[eU];exact B) s.toks
 by_cases h0:0<=k
 .have e:k.toNat=j:=by
   rw[seqIndex_of h0 g]at b;exact kL.inj b
  exact PySem.W.ki_setAt c h0 (by lia) (by rw[bT,<- d];exact g) (by rw[e];exact⟨_,m,q⟩)
 .have e:(k+(a.toArray.size:Int)).toNat=j:=by
   rw[FX (by lia) l]at b
   rw[bT,<- d];exact kL.inj b
  exact PySem.W.ki_setBack c (by lia) (by rw[bT,<- d];exact l) (by lia) (by rw[e];exact⟨_,m,q⟩)
def rL(lo hi:D2)(n:Nat):(n2 lo hi Y n).1=((HT.gO n 0 lo:Nat):Int)/\(n2 lo hi Y n).2.1=((HT.gO n n hi:Nat):Int)/\(n2 lo hi Y n).2.2=1:=by
 refine⟨?_,?_,J⟩
 .cases lo with
  |none=>simp[n2,HT.gO]
  |some i=>
   simp only[n2,HT.gO,LX,show(1:Int) > 0 by decide,o_]
   by_cases h:i<0
   .simp only[h,o_]<;>lia
   .simp only[h,v3]<;>lia
 .cases hi with
  |none=>simp[n2,HT.gO]
  |some i=>
   simp only[n2,HT.gO,LX,show(1:Int) > 0 by decide,o_]
   by_cases h:i<0
   .simp only[h,o_]<;>lia
   .simp only[h,v3]<;>lia
def pR(its:B2)(lo hi:D2):slicePick its.toArray lo hi Y=((its.drop<|HT.gO its.length 0 lo).take<|HT.gO its.length its.length hi-HT.gO its.length 0 lo).toArray:=by
 obtain⟨c,b,a⟩:=rL lo hi its.toArray.size;unfold slicePick;rw[c,b,a];simp only[sliceRange_one,pick_run,bT]<;>rfl
def SM(K:bG):V->D2->D2->Hp->VK->Prop:=λx lo hi H Q=>∃a b,x=.ref a/\c9 K H a b/\∀p,H p=Y->Q (.ref p) (upd H p<|.lst<|Bu b lo hi)
def Ie:Mh X<|SM X.K:=by
 intro t s m H x v p n lo hi sl Q I e k pl f h;obtain⟨a,c,rfl,j,q⟩:=h;cases e;obtain⟨g,r,d,i⟩:=I.list j;have l:=r.length;refine⟨"list",_,slot_list_getitem.lookup,d.isList.typeIs,?_⟩;refine wpAny_getItem_list_slice d.isList k pl f .none (by simp) ?_ (by rw[bT]<;>lia)
 rw[pR,<- l];refine⟨.ref s.heap.objs.size,_,I.laid (t':=s.toks) (o:=.lst<|Bu c lo hi) (λb ob q=>bp _ q) (bW _) ?_,J,q _<|I.aZ.fresh<|bW _⟩;exact⟨dq (uV c lo hi) i,_,0,(r.drop<|HT.gO c.length 0 lo).take<|HT.gO c.length c.length hi-HT.gO c.length 0 lo,c8 _ J⟩
def eA:V->Bool
 |.non=>O
 |.bl _=>O
 |.int _=>O
 |.str _=>O
 |_=>Zb
def DJ:V->V->Bool
 |.non,.non=>O
 |.bl a,.bl b=>a == b
 |.bl a,.int b=>(if a then 1 else 0) == b
 |.int a,.bl b=>a == (if b then 1 else 0)
 |.int a,.int b=>a == b
 |.str a,.str b=>a == b
 |_,_=>Zb
def xo{A:eL}{s:bh}{y x:V}{u v:ar}(e:RelV y u)(c:RelV x v)(fy:eA y=O)(fx:eA x=O):n4 A s u v<|DJ y x:=by
 cases y with
 |non=>
  cases e;cases x with
  |non=>cases c;exact SeqAt.EqAt.same _
  |bl b=>cases c;exact SeqAt.EqAt.none_bool b
  |int b=>obtain⟨t,rfl⟩:=c;exact SeqAt.EqAt.none_int b t
  |str b=>obtain⟨t,rfl⟩:=c;exact SeqAt.EqAt.none_str b t
  |_=>exact eD (show Zb=O from fx) cK
 |bl a=>
  cases e;cases x with
  |non=>cases c;exact SeqAt.EqAt.bool_none a
  |bl b=>cases c;exact SeqAt.EqAt.bool_bool a b
  |int b=>obtain⟨t,rfl⟩:=c;exact SeqAt.EqAt.bool_int a b t
  |str b=>obtain⟨t,rfl⟩:=c;exact SeqAt.EqAt.bool_str a b t
  |_=>exact eD (show Zb=O from fx) cK
 |int a=>
  obtain⟨d,rfl⟩:=e;cases x with
  |non=>cases c;exact SeqAt.EqAt.int_none a d
  |bl b=>cases c;exact SeqAt.EqAt.int_bool a d b
  |int b=>obtain⟨t,rfl⟩:=c;exact SeqAt.EqAt.int_int a d b t
  |str b=>obtain⟨t,rfl⟩:=c;exact vr a d b t
  |_=>exact eD (show Zb=O from fx) cK
 |str a=>
  obtain⟨d,rfl⟩:=e;cases x with
  |non=>cases c;exact SeqAt.EqAt.str_none a d
  |bl b=>cases c;exact SeqAt.EqAt.str_bool a d b
  |int b=>obtain⟨t,rfl⟩:=c;exact vl a d b t
  |str b=>obtain⟨t,rfl⟩:=c;exact SeqAt.EqAt.str_str a d b t
  |_=>exact eD (show Zb=O from fx) cK
 |_=>exact eD (show Zb=O from fy) cK
def xq(x:V)(u:ar):Bool:=match u with
 |.none=>DJ .non x
 |.bool b=>DJ (.bl b) x
 |.int i _=>DJ (.int i) x
 |.str z _=>DJ (.str z) x
 |_=>Zb
def DK{x y:V}{u:ar}(r:RelV y u)(f:eA y=O):xq x u=DJ y x:=by
 cases y with
 |non=>cases r;rfl
 |bl b=>cases r;rfl
 |int i=>obtain⟨t,rfl⟩:=r;rfl
 |str z=>obtain⟨t,rfl⟩:=r;rfl
 |_=>exact eD (show Zb=O from f) cK
theorem jT{x:V}:∀{xs:List V}{us:B2},Vals xs us->xs.all eA=O->us.any (xq x)=xs.any λy=>DJ y x
 |_,_,.nil,_=>J
 |y::xs,u::us,.cons r t,f=>by
  rw[fG,dj]at f;rw[rn,rn,DK r f.1,jT t f.2]
theorem iG{A:eL}{s:bh}{x:V}{v:ar}(b:RelV x v)(fx:eA x=O):∀{xs:List V}{us:B2},Vals xs us->xs.all eA=O->∀u∈us,n4 A s u v (xq x u)
 |_,_,.nil,_=>λu a=>by cases a
 |y::xs,u::us,.cons r t,f=>λc a=>by
  rw[fG,dj]at f;rcases bK.mp a with rfl|a
  .rw[DK r f.1];exact xo r b f.1 fx
  .exact iG b fx t f.2 c a
def Yh(x:V)(xs:List V):Bool:=xs.any λy=>DJ y x
def WZ(K:bG)(neg:Bool):R2:=λx y H Q=>∃p a,y=.ref p/\(c9 K H p a\/kM K H p a)/\eA x=O/\a.all eA=O/\Q (.bl<|if neg then !Yh x a else Yh x a) H
def Bv:fW X (eJ .In)<|WZ X.K Zb:=by
 intro j s g H x y v u Q I d e h;obtain⟨p,i,rfl,b,fx,fs,q⟩:=h;cases e;rcases b with b|b
 .obtain⟨a,r,pl,f⟩:=I.list b
  refine SeqAt.in_listAt (xq x) pl.isList (λw c=>iG d fx r fs w<|by simpa using c) ⟨.bl _,H,I,J,?_⟩
  rw[show a.toArray.any (xq x)=a.any (xq x) by simp,jT r fs]
  exact q
 .obtain⟨a,r,pl,f⟩:=I.tuple b
  refine SeqAt.in_tupleAt (xq x) pl (λw c=>iG d fx r fs w<|by simpa using c) ⟨.bl _,H,I,J,?_⟩
  rw[show a.toArray.any (xq x)=a.any (xq x) by simp,jT r fs]
  exact q
def rM:fW X (eJ .NotIn)<|WZ X.K O:=by
 intro j s g H x y v u Q I d e h;obtain⟨p,i,rfl,b,fx,fs,q⟩:=h;cases e;rcases b with b|b
 .obtain⟨a,r,pl,f⟩:=I.list b
  refine SeqAt.notIn_listAt (xq x) pl.isList (λw c=>iG d fx r fs w<|by simpa using c) ⟨.bl _,H,I,J,?_⟩
  rw[show a.toArray.any (xq x)=a.any (xq x) by simp,jT r fs]
  exact q
 .obtain⟨a,r,pl,f⟩:=I.tuple b
  refine SeqAt.notIn_tupleAt (xq x) pl (λw c=>iG d fx r fs w<|by simpa using c) ⟨.bl _,H,I,J,?_⟩
  rw[show a.toArray.any (xq x)=a.any (xq x) by simp,jT r fs]
  exact q
def gT:dW X (.type "list") λxs H Q=>∃p ys,xs=[.ref p]/\(c9 X.K H p ys\/kM X.K H p ys)/\∀l,H l=Y->Q (.ref l) (upd H l<|.lst ys):=by
 intro y s t H xs z Q I r h;obtain⟨p,ys,rfl,i,q⟩:=h;obtain⟨u,rfl,v⟩:=vals1 r;cases v;have fin:∀(a:B2),Vals ys a->ys.length<=dv->∀(c:fA)(f:Nat),(∀b m,s.heap.get? b=U m->c.get? b=U m) ->
   c.get? s.heap.objs.size=U {cls:=.type "list",dict:=Y,data:=.seq a.toArray f,slots:=#[]}->EP X y t Q (.ref s.heap.objs.size) {s with heap:=c}:=λa d g c f kp e=>
  ⟨.ref s.heap.objs.size,_,I.laid (t':=s.toks) kp (bW _)<|show bP X.prog X.w _ c _ (.lst ys)from⟨g,a,f,d,e⟩,J,q _<|I.aZ.fresh<|bW _⟩
 rcases i with i|i
 .obtain⟨a,d,pl,g⟩:=I.list i
  have x:=d.length;obtain⟨o,j,k,n,hd⟩:=pl.isList;exact call_list_seq p (.inl J) j k hd (λc f kp e=>fin a d g c f kp e) (by simp only[bT]<;>lia)
 .obtain⟨a,d,pl,g⟩:=I.tuple i
  have x:=d.length;obtain⟨o,j,k,n,hd⟩:=pl;exact call_list_seq p (.inr J) j k hd (λc f kp e=>fin a d g c f kp e) (by simp only[bT]<;>lia)
def ī(K:bG)(T:String)(x:V)(H:Hp):Prop:=match x with
 |.str _=>T = "str"
 |.int _=>T = "int"
 |.ref p=>(T = "list" /\ ∃b,c9 K H p b)\/(T = "tuple" /\ ∃o,K.lookup p=U o/\o.cls=.type "tuple" /\ o.dict=Y) \/
   (T = "dict" /\ ((∃a,H p=U (.dK a))\/∃a,H p=U (.dT a)))\/(T = "set" /\ ∃S n,H p=U (.set S n))
 |_=>False
def Oe{l:dm}{g:St}{H:Hp}{s:bh}{T:String}{x:V}{v:ar}(I:Inv X l g H s)(r:RelV x v)(ty:ī X.K T x H) :
  s.TypeIs v T/\∀a,v=.ref a->∃ob,s.heap.get? a=U ob/\ob.dict=Y:=by
 cases x with
 |str z=>
  obtain⟨t,rfl⟩:=r;cases(show T = "str"from ty);exact⟨qx s z t,λ_ e=>nomatch e⟩
 |int i=>
  obtain⟨t,rfl⟩:=r;cases(show T = "int"from ty);exact⟨typeIs_int s i t,λ_ e=>nomatch e⟩
 |ref p=>
  cases r;rcases ty with⟨rfl,m,j⟩|⟨rfl,o,b,k,hd⟩|⟨rfl,b⟩|⟨rfl,S,n,b⟩
  .obtain⟨h,_,pl,_⟩:=I.list j
   refine⟨pl.isList.typeIs,λa e=>?_⟩;cases e;obtain⟨o,n,e,c,hd,_⟩:=pl;exact⟨o,e,hd⟩
  .refine⟨⟨o,I.jJ p o b,k⟩,λa e=>?_⟩
   cases e;exact⟨o,I.jJ _ o b,hd⟩
  .have z:∃o,s.heap.get? p=U o/\o.ExactDict:=by
    rcases b with⟨d,b⟩|⟨d,b⟩
    .obtain⟨_,_,_,_,o,_,_,e,ex,_⟩:=I.aZ p _ b
     exact⟨o,e,ex⟩
    .obtain⟨_,_,_,_,o,_,_,e,ex,_⟩:=I.aZ p _ b
     exact⟨o,e,ex⟩
   obtain⟨o,e,ex⟩:=z;refine⟨⟨o,e,ex.1⟩,λa f=>?_⟩;cases f;exact⟨o,e,ex.2.1⟩
  .obtain⟨o,_,_,_,e,ex,_⟩:=I.aZ p _ b
   refine⟨⟨o,e,ex.1⟩,λa f=>?_⟩;cases f;exact⟨o,e,ex.2.1⟩
 |_=>exact gk ty
def Ĭ(K:bG)(T:String)(r:V->List V->Hp->VK->Prop)(c:TE)(t:TA):TE:=λa H Q=>c a H λx H1=>ī K T x H1/\t a H1 λb d=>r x b d Q
variable{o e:de}{G:Bz}{M:TE}{t:TA}{name:Str}{N L:Pos}{T id:String}{r:V->List V->Hp->VK->Prop}
def y9(m:PlainAttrs T)(slot:Slot T name id)(C:typeOf (.builtin id)=pure (.type "method_descriptor"))(u:yY X id r)(q:PE X o M)(w:PA X (e::G) t)
  (n:gL o name X.env (e6 o X.env)=e6 o X.env:=by rfl)
  (B:((hW L<|dy (e::G) X.env).all (λx=>!x.1)&&(pB L<|my [] X.env).all (λx=>x.1.isSome)
   && decide ((e::G).length+([]:List rb).length+(if([]:List rb).isEmpty then 0 else 1)<30))=O:=by rfl)
  (A:(N.endLine == L.line)=O:=by rfl) (p:dy (e::G) X.env=(Zb,e6 e X.env)::dy G X.env:=by rfl) (D:(hW L<|dy G X.env).any (·.1)=Zb:=by rfl) :
  PE X (.Call (.Attribute o name N) (e::G) [] L)<|Ĭ X.K T r M t:=by
 intro b s a H Q I h;refine wpAny_Call_method_late n B A J<|bV (q b s a H _ I h) λv k g=>?_;obtain⟨x,H1,f,c,ty,q1⟩:=g;obtain⟨z,y⟩:=Oe f c ty;refine⟨T,id,m,slot,C,z,y,?_⟩;have d:=w L b k a H1 _ f q1;rw[p]at d ⊢;refine lr (by show(Zb ||(hW L<|dy G X.env).any (·.1))=Zb;rw[D]<;>rfl)<|x5 ?_
 exact bV d (by rintro i j ⟨vs,F,E,l,q2⟩;exact u b j a F x vs v i Q E c l q2)
end
def ĭ(X:Cx)(id:String)(r:V->List V->Hp->VK->Prop):Prop:=
 ∀(d:dm)(s:bh)(a:St)(H:Hp)(x:V)(b:List V)(v:ar)(c:B2)(Q:VK),Inv X d a H s->RelV x v->Vals b c->r x b H Q ->
  eg (da X.prog X.w) X.A (call (.builtin id)<|v::c) (EP X d a Q) X.xe s
def Vals.one:∀{x:V}{us:B2},Vals [x] us->∃u,us=[u]/\RelV x u:=by
 intro x us h;cases h with
 |cons r t=>cases t;exact⟨_,J,r⟩
def Vals.two:∀{x y:V}{us:B2},Vals [x,y] us->∃u v,us=[u,v]/\RelV x u/\RelV y v:=by
 intro x y us h;cases h with
 |cons r t=>
  obtain⟨v,rfl,q⟩:=Vals.one t;exact⟨_,_,J,r,q⟩
theorem Vals.eraseIdx:∀{xs:List V}{us:B2}(i:Nat),Vals xs us->Vals (xs.eraseIdx i) (us.eraseIdx i)
 |_,_,_,.nil=>.nil
 |_,_,0,.cons _ t=>t
 |_,_,i+1,.cons r t=>.cons r<|Vals.eraseIdx i t
theorem Vals.rep{xs:List V}{us:B2}(h:Vals xs us):∀k:Nat,Vals (dN k xs).flatten (dN k us).flatten
 |0=>.nil
 |k+1=>by
  rw[m_,m_,kJ,kJ];exact Vals.append h<|Vals.rep h k
theorem qz{α:Type}:∀(l:List α)(i:Nat),(l.eraseIdx i).length<=l.length
 |[],_=>bW _
 |_::_,0=>yq _
 |_::r,i+1=>Nat.succ_le_succ<|qz r i
theorem foldl_rep(its:B2):∀(k:Nat)(a:B2),
  CV (λc b=>c++b) a.toArray (dN k its.toArray)=(a++(dN k its).flatten).toArray
 |0,a=>by simp
 |k+1,a=>by
  have e:a.toArray++its.toArray=(a++its).toArray:=by simp
  have d:(a++its)++(dN k its).flatten=a++(dN (k+1) its).flatten:=by
   rw[m_,kJ,b_]
  rw[<- d,<- foldl_rep its k<|a++its,<- e,m_,uf]
section
variable{j:dm}{v:St}{H:Hp}{s:bh}{l b:cw}{xs ys zs:List V}
def Inv.SN{its its':B2}{n:Nat}{f:Array ar->Array ar}{t':Nat}(I:Inv X j v H s)(h:H l=U (.lst xs))
  (e:s.heap.get? l=U {cls:=.type "list",data:=.seq its.toArray n}) (d:f its.toArray=its'.toArray) (b:Vals ys its') (a:ys.length<=dv) :
  Inv X j v (upd H l<|.lst ys) {s with heap:=s.heap.update l (ll f),toks:=t'}:=by
 have q:=PySem.IsL.update e f;rw[d]at q;refine I.write (x:=l) (e:=l) (by rw[h];exact trivial) (.inl J) (λi u g c=>(xk s.heap (ll f)<|Ne.symm g).trans c) ⟨_,q⟩ ?_
 exact⟨a,its',_,b,q⟩
def Inv.Bw{its:B2}{t':Nat}(I:Inv X j v H s)(b:Vals ys its)(a:ys.length<=dv) :
  Inv X j v (upd H s.heap.objs.size<|.lst ys) {s with heap:=s.heap.push {cls:=.type "list",data:=.seq its.toArray},toks:=t'}:=
 I.laid (λ_ _ q=>bp _ q) (bW _) ⟨a,its,0,b,c8 _ J⟩
theorem Inv.fresh(I:Inv X j v H s):H s.heap.objs.size=Y:=I.aZ.fresh<|bW _
def Inv.DL(I:Inv X j v H s)(a:H l=U (.lst xs)):xs.length<=dv/\∃(its:B2)(n:Nat),Vals xs its/\xs.length=its.length/\s.heap.get? l=U {cls:=.type "list",data:=.seq its.toArray n}:=by
 obtain⟨z,its,n,r,e⟩:=I.aZ l _ a;exact⟨z,its,n,r,r.length,e⟩
def DM{n:Nat}(h:n<=dv):nz n=Zb:=by
 unfold nz;exact dd (by lia)
end
section
def Ig:V->List V->Hp->VK->Prop:=λx vs H Q=>∃l a y,x=.ref l/\vs=[y]/\H l=U (.lst a)/\a.length<dv/\Q .non (upd H l<|.lst<|a++[y])
def kP:ĭ X "list.append" Ig:=by
 intro o s g H x vs v j Q I c d h;obtain⟨l,i,y,rfl,rfl,b,k,q⟩:=h;cases c;obtain⟨u,rfl,f⟩:=d.one;obtain⟨z,a,n,r,m,e⟩:=I.DL b;refine oT F.slot_list_append ⟨_,e,J⟩ F.entry_list_append (F.args_list_append_2 _ _) (PySem.list_append l a.toArray n u<|by rw[bT];lia) ⟨e,?_⟩
 refine⟨.non,_,I.SN (its':=a++[u]) b e (by simp) (r.append<|.cons f .nil) ?_,J,q⟩
 rw[dg,ng]
 lia
def Og:V->List V->Hp->VK->Prop:=λx vs H Q=>∃l a i k y,x=.ref l/\vs=[.int i]/\H l=U (.lst a)/\-(2^63)<=i/\i<2^63/\z4 i a.length=U k/\a[k]?=U y/\Q y (upd H l<|.lst<|a.eraseIdx k)
def DN:ĭ X "list.pop" Og:=by
 intro G s D H x vs v E Q I f g h;obtain⟨l,c,i,k,y,rfl,rfl,b,C,B,A,m,q⟩:=h;cases f;obtain⟨u,rfl,j⟩:=g.one;obtain⟨t,rfl⟩:=j;obtain⟨z,a,n,r,p,e⟩:=I.DL b;obtain⟨w,o,d⟩:=r.get m;refine oT F.slot_list_pop ⟨_,e,J⟩ F.entry_list_pop (F.args_list_pop_2 _ _)
  (MeetsSeq.list_pop_at l a.toArray n i t k w (fitsIndex_both C B) (by rw[bT,<- p];exact A) (by rw[<- ey];exact o)<|by rw[bT];lia) ⟨e,?_⟩
 refine⟨y,_,I.SN (its':=a.eraseIdx k) b e ?_ (r.eraseIdx k) ?_,d,q⟩
 .show a.toArray.eraseIdxIfInBounds k=(a.eraseIdx k).toArray
  rw[List.eraseIdxIfInBounds_toArray]
 .have:=qz c k
  lia
def SO:R2:=λx y H Q=>∃l b a zs,x=.ref l/\y=.ref b/\H l=U (.lst a)/\H b=U (.lst zs)/\a.length+zs.length<=dv/\∀p,H p=Y->Q (.ref p) (upd H p<|.lst<|a++zs)
def Oh:fW X (kn .Add) SO:=by
 intro C s o H x y v u Q I f d h;obtain⟨l,b,t,zs,rfl,rfl,i,j,A,q⟩:=h;cases f;cases d;obtain⟨z,a,n,r,B,e⟩:=I.DL i;obtain⟨p,c,w,g,D,m⟩:=I.DL j;refine PySem.P.add_list e m ?_ (by rw[bT,bT];lia)
 have k:a.toArray++c.toArray=(a++c).toArray:=by simp
 rw[k];exact⟨.ref _,_,I.Bw (t':=s.toks) (r.append g)<|by rw[dg];lia,J,q _ I.fresh⟩
def SW:R2:=λx y H Q=>∃l k a,x=.ref l/\y=.int k/\H l=U (.lst a)/\-(2^63)<=k/\k<2^63/\a.length*k.toNat<=dv /\
 ∀p,H p=Y->Q (.ref p) (upd H p<|.lst (dN k.toNat a).flatten)
def len_rep{α:Type}(xs:List α)(k:Nat):(dN k xs).flatten.length=k*xs.length:=by
 induction k with
 |zero=>simp
 |succ k a=>rw[m_,kJ,dg,a,CK,Nat.add_comm]
def DO:fW X (kn .Mult) SW:=by
 intro P s L H x y v u Q I j i h;obtain⟨l,k,M,rfl,rfl,p,A,w,f,q⟩:=h;cases j;obtain⟨t,rfl⟩:=i;obtain⟨z,b,n,r,o,e⟩:=I.DL p;have C:b.toArray.size*k.toNat<=dv:=by rw[bT,<- o];exact f
 have G:¬ b.toArray.size*k.toNat > (2^63-1)/8:=by
  have:(dv:Nat)<=(2^63-1)/8:=by decide
  lia
 have E:¬ (!Builtin.List.listFitsIndex k)=O:=by
  rw[fitsIndex_both A w];exact cK
 have K:¬ nz (b.toArray.size*k.toNat)=O:=by
  rw[DM C];exact cK
 have D:CV (λd c=>d++c) #[] (dN (if b.toArray.isEmpty=O then 0 else k.toNat) b.toArray)=(dN k.toNat b).flatten.toArray:=by
  have B:∀m:Nat,CV (λd c=>d++c) #[] (dN m b.toArray)=(dN m b).flatten.toArray:=λm=>by
   have:=foldl_rep b m []
   rw[lT]at this;exact this
  rw[B];cases b with
  |nil=>simp
  |cons a N=>rw[ag<|by simp]
 refine wpAny_binaryOp_repeat_ref (T := "list") (U := "int") (by decide) ⟨_,e,J⟩ (λg=>typeIs_int g k t) noFill_list_mul F.fills_int_mul F.slot_int_rmul repeat_list F.slot_int_index.lookup
 <|oT F.slot_int_rmul (typeIs_int s k t) F.entry_int_rmul (F.args_int_rmul_2 _ _) (int___rmul___int_list k t l b.toArray n)
   ⟨e,J,⟨_,e,J⟩,oT F.slot_list_mul ⟨_,e,J⟩ F.entry_list_mul (F.args_list_mul_2 _ _) (AutoListH.list___mul___list_int_3 l b.toArray n k t E G K) ⟨e,?_⟩⟩
 rw[D];exact⟨.ref _,_,I.Bw (t':=s.toks) (r.rep k.toNat)<|by rw[len_rep,Lf];exact f,J,q _ I.fresh⟩
end
section
variable{prog:ef}{w:dA}{A:eL}{E:ar->bh->Prop}{s:bh}
end
end L2
namespace Att
open PySem PySem.W PySem.Calls PyProof.Rows
def l_{P:nJ}{h:fA}:∀(ns:Dx)(vs:B2),WellAll P h vs (ns.map WData.int)->IntsAre vs ns:=by
 intro ns
 induction ns with
 |nil=>
  intro vs w;rw[CW]at w;cases w;exact .nil
 |cons n ns c=>
  intro vs w;rw[dG]at w;cases w with
  |cons a b=>
   cases a;exact .cons _ _<|c _ b
def Bx{l:OpenLaw}{n:Nat}(o:l.most=U n){P:nJ}{h:fA}{args:List WData}{b:B2}
  (j:l.row.toRowW.claim.pre args=O) (v:WellAll P h b args) :
  ∃a vs ns,b=[Value.ref a]/\args=[WData.list<|ns.map WData.int]/\h.get? a=U {cls:=.type "list",data:=.seq vs.toArray}/\IntsAre vs ns/\ns.length<=n:=by
 have g:WShape.hasAll [] args [.list .int]=O:=(pre_splitW j).1;have i:l.pre.holds [] {args:=args}=O:=(pre_splitW j).2;obtain⟨d,r,rfl,t,s⟩:=hasAllW_cons g
 obtain rfl:=hasAllW_nil s
 obtain⟨w,rfl,p⟩:=hasW_list t;obtain⟨ns,rfl⟩:=items_int p;have u:ns.length<=n:=by
  unfold OpenLaw.pre at i;have f:(WTm.not<|.lt (.lit<|.int (n:Int))<|.len<|.arg 0).holds [] {args:=[.list<|ns.map .int]}=O:=by
   have f:=(holds_andW i).1;rw[o]at f;exact f
  have e:=condW_of f<|w_not<|w_lt w_lit<|w_len_list<|w_arg J;rw[bX]at e;refine ud λq=>?_;have k:(n:Int)<((ns.length:Nat):Int):=by lia
  first
   |(rw[dr k]at e;exact eD e<|by decide)
   |(simp at e;lia)
 cases v with
 |cons w1 w2=>
  cases w2;cases w1 with
  |list m c=>exact⟨_,_,ns,J,J,m,l_ ns _ c,u⟩
def By(l:OpenLaw)(args:List WData):l.row.toRowW.claim.post args (.bool O) args=O:=
 postW_of (r:=l.row.toRowW) (X:=(O == O))
  (show WShape.has [] (.bool O) .bool=O by first|rfl|decide|simp[WShape.has,WShape.arms,WShape.armsAll])
  (show(WTm.eq .res<|.lit<|.bool O).value [] {args:=args,res:=U (.bool O),after:=args}=U (.bool<|O == O)from w_eq_bool (w_res J) w_lit) J
section
variable{prog:ef}{w:dA}{A:eL}{E:ar->bh->Prop}{s:bh}{K:Frag}
end
end Att
namespace L2
open PySem PySem.Spec PyProof.Rows
theorem qA:∀{vs:B2}{ns:Dx},IntsAre vs ns->Vals (ns.map V.int) vs
 |_,_,.nil=>.nil
 |_,_,.cons n t h=>.cons ⟨t,J⟩<|qA h
def Oi(H:Hp):Prop:=∀b,H b=Y\/∃o a,H b=U (.f9 o<|.lst a)
def DP{P:ef}{w:dA}{K:bG}{mg y:Str->D1}{CX:DB}{k:Nat}{D a:cw}{fd:eX}{x:Str}{sp:Sp}{c:bh}{vs:B2}{ns:Dx}
  (S:K.In c.heap) (I:c.heap.Ns eR mg) (f:c.heap.Ns sr y) (B:∀x:Str,x ≠ "__name__" -> y x=ih x) (Yo:c.heap.NoLimit) (Z:c.gens=#[])
  (t:c.heap.get? a=U {cls:=.type "list",data:=.seq vs.toArray}) (hi:IntsAre vs ns) (M:ns.length<=dv) (hr:bL k s9)
  (F:∀base:fA,K.In base->base.Ns eR mg->dR P w K mg base CX k D fd [x] sp) (SY:∀(s:bh)(u:ar),BindsTo s fd ⟨[u],[]⟩ [(x,u)])
  (Rm:∀H:Hp,Oi H->c9 K H a (ns.map V.int)->sp [.ref a] H (λv _=>v=.bl O) λ_ _ _=>False)
  (C:∀H e g,CX [] H c (λ_ _ _=>False) e g->False) :
  r0 (da P w) s9 (.call (.ref D) ⟨[.ref a],[]⟩) (λr g=>r=.ok (.ret<|.bool O)/\OldK c.heap g.heap/\g.os=c.os/\r1 g.gens) c:=by
 have L:=qA hi;have Yp:=hi.length;have i:∀H:Hp,Oi H->c9 K H a (ns.map V.int)->jI P w H c.heap->(∀b,H b≠Y->b=a)->(H a≠Y->K.lookup a=Y) ->
   r0 (da P w) s9 (.call (.ref D) ⟨[.ref a],[]⟩) (λr g=>r=.ok (.ret<|.bool O)/\OldK c.heap g.heap/\g.os=c.os/\r1 g.gens) c:=by
  intro H N hS aZ Q hK;have G:∀{b:cw}{o:Obj},c.heap.get? b=U o->H b=Y->(rA c.heap H).get? b=U o:=λe n=>Dj e n;have Sz:∀{b:cw}{o:Obj}{l:Array iq}{p:Nat},c.heap.get? b=U o->o.data=.dict l p->H b=Y:=λ{b o l p} e d=>by
   cases q:H b with
   |none=>rfl
   |some u=>
    have E:b=a:=Q b (by rw[q];simp)
    subst E;rw[t]at e;cases e;have d':Data.seq vs.toArray _=Data.dict l p:=d;cases d'
  have W2:∀{b:cw}{m:Str->D1},c.heap.Ns b m->(rA c.heap H).Ns b m:=λ{b m} ⟨o,l,p,e,d,r⟩=>⟨o,l,p,G e<|Sz e d,d,r⟩;have Į:K.In<|rA c.heap H:=λb o e=>G (S b o e) (by
   cases q:H b with
   |none=>rfl
   |some u=>
    have E:b=a:=Q b (by rw[q];simp)
    subst E;rw[hK<|by rw[q];simp]at e;cases e)
  have hM:Mod K mg<|rA c.heap H:=⟨Į,W2 I,⟨y,W2 f,B⟩,let⟨mc,h1,h2⟩:=Yo;⟨mc,W2 h1,h2⟩⟩;have e0:xm P w K mg (rA c.heap H) s9 [] c H:=⟨J,hM,λb o e=>HD e,wL<|Bh _ _,trivial,λb f=>eD (show b∈([]:BM)from f)<|by simp,aZ,.of_eq Z⟩
  refine ox ((F _ Į<|W2 I).run s9 [] c H ⟨[.ref a],[]⟩ [.ref a] [.ref a] _ _ hr e0 (SY c<|.ref a) (.cons J .nil)<|Rm H N hS) λr g h=>?_;cases r with
  |error e=>exact(C H e g h).elim
  |ok fl=>
   cases fl with
   |next=>exact gk h
   |brk=>exact gk h
   |cont=>exact gk h
   |ret u=>
    obtain⟨v,H',os,bare,un,Yq,W,q⟩:=h;have X:v=.bl O:=q;subst X
    obtain rfl:u=pb O:=W
    refine⟨J,OldK.of_keep λb o e=>?_,os,bare⟩;cases q:H b with
    |none=>exact un.keep b o e q (by intro z;exact eD (show b∈([]:BM)from z)<|by simp) (by simp)
    |some u=>
     rcases N b with z|⟨ob,xs,z⟩
     .rw[q]at z;cases z
     .have T:=un.rq b ob _ z
      obtain⟨R,_⟩:=aZ b _ z;obtain⟨e2,_⟩:=Yq b _ T;rw[e]at R;cases R;exact e2
 cases A:K.lookup a with
 |some o=>
  have e:=S a o A;rw[t]at e;cases e;refine i (λ_=>Y) (λ_=>.inl J) (.inr ⟨_,vs.toArray,_,A,J,J,J,by rw[bT,Yp];exact M,by simpa using L⟩) (λb u z=>by have j:(Y:Option HO)=U u:=z;cases j) (λb z=>eD J z) λz=>eD J z
 |none=>
  refine i (λb=>if b=a then U (.f9 {cls:=.type "list",data:=.seq vs.toArray}<|.lst<|ns.map V.int)else Y) (λb=>?_) (.inl<|.inr ⟨{cls:=.type "list",data:=.seq vs.toArray},bt J⟩) (λb u z=>?_) (λb z=>?_) λ_=>A
  .by_cases f:b=a
   .exact .inr ⟨_,_,bt f⟩
   .exact .inl<|ag f
  .by_cases f:b=a
   .have j:=(bt f).symm.trans z
    cases j;subst f;exact⟨t,by rw[bX];exact M,vs,_,L,t⟩
   .have j:=(ag f).symm.trans z
    cases j
  .by_cases f:b=a
   .exact f
   .exact eD (ag f) z
def inClass(s:mB)(j:Nat):mB:=match s with
 |.ClassDef _ _ _ a _ _ _ _ _ _ _=>a.getD j<|.Pass ⟨0,0,0,0⟩
 |_=>.Pass ⟨0,0,0,0⟩
def jU(s:mB):Arguments:=match s with
 |.FunctionDef _ a _ _ _ _ _ _ _ _=>a
 |_=>{posonlyargs:=[],args:=[],vararg:=Y,kwonlyargs:=[],kw_defaults:=[],kwarg:=Y,defaults:=[]}
def cW(s:mB):DD:=match s with
 |.FunctionDef _ _ b _ _ _ _ _ _ _=>b
 |_=>[]
def aE(s:mB):hB:=match s with
 |.FunctionDef _ _ _ _ _ _ sc _ _ _=>sc
 |_=>{kind:=.function,names:=[],isGenerator:=Zb,isCoroutine:=Zb}
abbrev mf:DB:=λ_ _ _ _ _ _=>False
abbrev E0:XK:=λ_ _ _=>False
def nK{X:Cx}:Passes mf X E0:=λ_ _ _ _ _ _ _ h=>h.elim
section
variable{P:ef}{w:dA}{K:bG}{mg:Str->D1}{base:fA}
end
section
variable{X:Cx}
end
def uX{A B:Prop}(h:B):if Zb=O then A else B:=by
 rw[ag cK];exact h
def uY{A B:Prop}(h:A):if O=O then A else B:=by
 rw[bt J];exact h
def aK(H H':Hp):Prop:=∀b o,H b=U o->H' b=U o
def aK.refl(H:Hp):aK H H:=λ_ _ h=>h
def aK.trans{H H1 d:Hp}(a:aK H H1)(b:aK H1 d):aK H d:=λc o h=>b c o<|a c o h
def aK.free{H H':Hp}(e:aK H H'){l:cw}(h:H' l=LY):H l=LY:=by
 cases q:H l with
 |none=>rfl
 |some o=>
  rw[e l o q]at h;cases h
def aK.seq{K:bG}{H H':Hp}{a:cw}{xs:List V}(e:aK H H')(h:c9 K H a xs):c9 K H' a xs:=by
 rcases h with(h|⟨o,h⟩)|h
 .exact .inl<|.inl<|e _ _ h
 .exact .inl<|.inr ⟨o,e _ _ h⟩
 .exact .inr h
end L2
set_option maxHeartbeats 400000
namespace L2
open PySem PySem.Spec PyProof.Rows
def BA{prog:ef}{w:dA}{A:eL}{R:Result->bh->Prop}{s:bh}{elt a j:de}{o:Bz}{scope:hB}{pos:Pos}{it z:ar}{env:Env}(I:Nat->bh->Prop)
  (p:∀n s,I n s->eg (da prog w) A (xt it) (λr d=>match r with
   |none=>R (.ok .next) d
   |some v=>eg (da prog w) A (ro a it v) (λ_ s₀=>eg (da prog w) A (sx a env v) (λ_ i=>
     eg (da prog w) A (forIn o O λc r=>if r=O then do let ok <- Gf c env (e6 c env);pure (gC ok)else pure (gC r)) (λok b=>
      if ok=O then eg (da prog w) A (e6 elt env) (λx g=>
       eg (da prog w) A (call (.builtin "list.append") [z,x]) (λ_ f=>∃m,m<n/\I m f) (λ_ _=>False) g) (λ_ _=>False) b
      else ∃m,m<n/\I m b) (λ_ _=>False) i) (λ_ _=>False) s₀) (λ_ _=>False) d) (λ_ _=>False) s)
  (n:Nat) (h:I n s):r0 (da prog w) A (.compLoop (.ListComp elt [⟨a,j,o,0⟩] scope pos) 0 it z env) R s:=by
 refine codeAny_loop J I (λn s B=>?_) n h;show eg _ A ((compTurn (.ListComp elt [⟨a,j,o,0⟩] scope pos) 0 it z env).onRaise λx=>do noteFrame x env;theTreesLotGoes x) _ _ s
 refine wpAny_noted ?_;rw[compTurn_list];refine ab<|si<|ab<|f6 (p n s B) (λr d l=>?_) λ_ _ e=>e.elim;cases r with
 |none=>exact c7 l
 |some v=>
  refine ab<|f6 l (λ_ s₀ y=>ab<|f6 y (λ_ i u=>ab<|f6 u (λok b k=>?_) λ_ _ e=>e.elim) λ_ _ e=>e.elim) λ_ _ e=>e.elim;cases ok with
  |false=>exact c7 ⟨J,k⟩
  |true=>
   exact ab<|ab<|f6 k (λx g t=>ab<|f6 t (λ_ f q=>c7<|c7 ⟨J,q⟩) λ_ _ e=>e.elim) λ_ _ e=>e.elim
theorem gy(env:Env):∀(names:List<|Str×pF)(b:List<|Str×cw),(∀p∈names,p.2=.free->∃c,env.cells.lookup p.1=U c)->(∀x c,b.lookup x=U c->env.cells.lookup x=U c) ->
  ∃cl,(forIn names b λ(p:Str×pF) (cs:List<|Str×cw)=>if p.2 == .free then do let c <- cellOf env p.1;pure (gC<|(p.1,c)::cs)else pure (gC cs):Sem<|List<|Str×cw)=pure cl /\
   (∀x c,cl.lookup x=U c->env.cells.lookup x=U c)/\(∀x c,b.lookup x=U c->∃c',cl.lookup x=U c')/\(∀p∈names,p.2=.free->∃c,cl.lookup p.1=U c)
 |[],b,_,i=>⟨b,J,i,λx c e=>⟨c,e⟩,λ_ h=>nomatch h⟩
 |(n,k)::r,b,l,i=>by
  by_cases hk:k=.free
  .subst hk
   obtain⟨c,q⟩:=l (n,.free) bC J;have u:∀x d,((n,c)::b).lookup x=U d->env.cells.lookup x=U d:=λx d e=>by
    rw[jk]at e;cases f:x == n with
    |true=>rw[f]at e;have f:=eq_of_beq f;subst f;cases e;exact q
    |false=>rw[f]at e;exact i x d e
   obtain⟨cl,e,o,j,m⟩:=gy env r ((n,c)::b) (λp a=>l p<|eE _ a) u;have self:∃c',cl.lookup n=U c':=j n c (by rw[jk];simp)
   refine⟨cl,?_,o,λx d f=>?_,λp a g=>?_⟩
   .rw[Lo]
    show((do let c <- cellOf env n;pure (gC<|(n,c)::b)) >>= _)=_
    unfold cellOf;rw[q];exact e
   .cases s:x == n with
    |true=>have:=eq_of_beq s;subst this;exact self
    |false=>exact j x d (by rw[jk,s];exact f)
   .rcases bK.mp a with rfl|a
    .exact self
    .exact m p a g
  .obtain⟨cl,e,o,j,m⟩:=gy env r b (λp a=>l p<|eE _ a) i
   refine⟨cl,?_,o,j,λp a g=>?_⟩
   .rw[Lo]
    have t:(k == NameKind.free)=Zb:=by simpa using hk
    show((if(k == NameKind.free)=O then _ else pure (gC b)) >>= _)=_
    rw[t];exact e
   .rcases bK.mp a with rfl|a
    .exact eD g hk
    .exact m p a g
def pS{scope:hB}{env:Env}(h:∀p∈scope.names,p.2=.free->∃c,env.cells.lookup p.1=U c) :
  ∃cl,closureFor scope env=pure cl/\(∀x c,cl.lookup x=U c->env.cells.lookup x=U c)/\∀p∈scope.names,p.2=.free->∃c,cl.lookup p.1=U c:=by
 obtain⟨cl,e,b,_,a⟩:=gy env scope.names [] h (λ_ _ e=>nomatch e);refine⟨cl,?_,b,a⟩;unfold closureFor;exact(cm (λz:Sem<|List<|Str×cw=>z >>= λcs=>pure cs) e)
abbrev Cx.block(X:Cx)(N:Bi)(scope:hB)(cl:List<|Str×cw)(C:cw)(a:BM)(s:bh)(H:Hp):Cx where
 prog:=X.prog
 w:=X.w
 K:=X.K
 mg:=X.mg
 base:=X.base
 A:=X.A
 N:=N
 s₀:=s
 H₀:=H
 env:=compEnvC scope cl C X.env
 outer:=X.stack
 stack:=X.stack
 ex:=a
 fn:=λ_=>Zb
 calm:=X.calm
 pn:=[]
 xe:=λ_ _=>False
inductive fQ(X:Cx)(scope:hB):B1->Bi->Prop where
 |nil:fQ X scope [] []
 |cons {j:Nat} {x:Str} {js:B1} {xs:Bi}:X.N[j]?=U x->scope.names.lookup x=U .free->X.env.kindOf x=U .cell->fQ X scope js xs->fQ X scope (j::js) (x::xs)
theorem fQ.get{X:Cx}{scope:hB}:∀{js:B1}{xs:Bi},fQ X scope js xs->∀{i:Nat}{x:Str},xs[i]?=U x->∃j,js[i]?=U j/\X.N[j]?=U x/\scope.names.lookup x=U .free/\X.env.kindOf x=U .cell
 |_,_,.nil,_,_,e=>by simp at e
 |_,_,.cons f d c _,0,_,e=>by simp at e;subst e;exact⟨_,J,f,d,c⟩
 |_,_,.cons _ _ _ t,i+1,_,e=>by
  obtain⟨j,a,b⟩:=t.get (i:=i) (by simpa using e)
  exact⟨j,by simpa using a,b⟩
theorem fQ.length{X:Cx}{scope:hB}:∀{js:B1}{xs:Bi},fQ X scope js xs->js.length=xs.length
 |_,_,.nil=>J
 |_,_,.cons _ _ _ t=>by simp[t.length]
def cR(k:Nat)(js:B1)(a:St):St:=dN k Y++js.map λj=>(a[j]?).join
theorem fB{env:Env}(d:env.scope.kind=.function):∀{names:List<|Str×pF}{x:Str},names.lookup x=U .free->env.kindOf x=U .cell ->
  (names.map λ(n,k)=>if(k == NameKind.free&&env.scope.kind == .function&&env.kindOf n == U .cell)then(n,NameKind.cell)else(n,k)).lookup x=U .cell
 |[],_,h,_=>by simp at h
 |(n,k)::r,x,h,b=>by
  have c:=@fB env d r x;show lR x ((if(k == NameKind.free&&env.scope.kind == .function&&env.kindOf n == U .cell)=O then(n,NameKind.cell)else(n,k))::_)=_
  cases a:x == n with
  |true=>
   have e:=eq_of_beq a;subst e;simp only[jk,a]at h;cases h;rw[bt<|by rw[d,b];rfl]
   simp[jk]
  |false=>
   simp only[jk,a]at h;by_cases hq:(k == NameKind.free&&env.scope.kind == .function&&env.kindOf n == U .cell)=O
   .rw[bt hq];simp only[jk,a];exact c h b
   .rw[ag hq];simp only[jk,a];exact c h b
theorem fR{env:Env}:∀{names:List<|Str×pF}{x:Str},(∀p∈names,p.2≠.cell) ->
  ((names.map λ(n,k)=>if(k == NameKind.free&&env.scope.kind == .function&&env.kindOf n == U .cell)then(n,NameKind.cell)else(n,k)).lookup x=U .cell \/
   (names.map λ(n,k)=>if(k == NameKind.free&&env.scope.kind == .function&&env.kindOf n == U .cell)then(n,NameKind.cell)else(n,k)).lookup x=U .free)->∃p∈names,p.1=x/\p.2=.free
 |[],_,_,h=>by simp at h
 |(n,k)::r,x,c,h=>by
  have d:=@fR env r x λp b=>c p<|eE _ b;have h:lR x ((if(k == NameKind.free&&env.scope.kind == .function&&env.kindOf n == U .cell)=O then(n,NameKind.cell)else(n,k))::(r.map λ(n,k)=>if(k == NameKind.free&&env.scope.kind == .function&&env.kindOf n == U .cell)then(n,NameKind.cell)else(n,k)))=U .cell \/
   lR x ((if(k == NameKind.free&&env.scope.kind == .function&&env.kindOf n == U .cell)=O then(n,NameKind.cell)else(n,k))::(r.map λ(n,k)=>if(k == NameKind.free&&env.scope.kind == .function&&env.kindOf n == U .cell)then(n,NameKind.cell)else(n,k)))=U .free:=h
  cases a:x == n with
  |true=>
   have e:=eq_of_beq a;subst e;refine⟨(x,k),bC,J,?_⟩;by_cases hq:(k == NameKind.free&&env.scope.kind == .function&&env.kindOf x == U .cell)=O
   .cases k<;>first|rfl|(simp at hq)
   .rw[ag hq]at h
    simp only[jk,n6]at h;rcases h with h|h
    .cases h;exact eD J<|c (x,.cell) bC
    .cases h;rfl
  |false=>
   have f:lR x (r.map λ(n,k)=>if(k == NameKind.free&&env.scope.kind == .function&&env.kindOf n == U .cell)then(n,NameKind.cell)else(n,k))=U .cell \/
    lR x (r.map λ(n,k)=>if(k == NameKind.free&&env.scope.kind == .function&&env.kindOf n == U .cell)then(n,NameKind.cell)else(n,k))=U .free:=by
    by_cases hq:(k == NameKind.free&&env.scope.kind == .function&&env.kindOf n == U .cell)=O
    .rw[bt hq]at h;simp only[jk,a]at h;exact h
    .rw[ag hq]at h;simp only[jk,a]at h;exact h
   obtain⟨p,b,i,g⟩:=d f;exact⟨p,eE _ b,i,g⟩
structure f_(X:Cx)(scope:hB):Prop where
 kind:scope.kind=.function
 nocell:∀p∈scope.names,p.2≠.cell
 names:∀p∈scope.names,p.2=.local->scope.names.lookup p.1=U .local
 frees:∀p∈scope.names,p.2=.free->X.env.kindOf p.1=U .cell
variable{X:Cx}{tg:de}
section
variable{ae:dm}{σ:St}{H:Hp}{s:bh}
def Inv.enter{ls fs:Bi}{js:B1}{scope:hB}{cl:List<|Str×cw}{D:BM}{h₁:fA}{tk:Nat}(I:Inv X ae σ H s)(S:f_ X scope)(F:fQ X scope js fs)
  (Ij:∀x c,cl.lookup x=U c->X.env.cells.lookup x=U c) (į:∀p∈scope.names,p.2=.free->∃c,cl.lookup p.1=U c)
  (k:∀b∈D,ny X ae H b) (C:∀b∈D,b<s.heap.objs.size) (N:h₁.Ns s.heap.objs.size λ_=>Y) (h:∀b o,s.heap.get? b=U o->h₁.get? b=U o) :
  Inv (X.block (ls++fs) scope cl s.heap.objs.size D s H) [] (cR ls.length js σ) H {s with heap:=h₁,toks:=tk}:=by
 have W:∀x c,cl.lookup x=U c->c<s.heap.objs.size:=λx c e=>by
  obtain⟨v,q⟩:=I.cell x c<|Ij x c e;exact q.lt
 refine⟨⟨I.ok.mod,?_,I.ok.glob,I.ok.blt,bW _,λx y c T R=>I.ok.inj x y c (Ij x c T)<|Ij y c R,λx w=>?_,(λx c w=>by cases w),I.ok.hd,I.ok.frames,.inl J,λb f=>⟨dP<|C b f,λx c e=>(k b f).2.2.2.2.1 x c<|Ij x c e⟩,
  I.bs,dq I.ok.bsz I.sz,λb o e f=>?_,λb f z=>?_,I.stack,I.yP⟩,J,I.bare,Un.kept h,⟨_,N,λi x v G d Z=>?_⟩,λx c e=>?_,I.aZ.fresh<|bW _,λx c e=>I.freeC x c<|Ij x c e,λp A=>eD A<|by simp,I.aZ.kept h,?_⟩
 .show(F7 scope X.env).kind=.function
  exact S.kind
 .obtain⟨p,A,G,d⟩:=fR (env:=X.env) S.nocell w
  obtain⟨c,e⟩:=į p A d;exact⟨c,by rw[<- G];exact e⟩
 .rcases(k b f).2.2.2.1 with z|z
  .exact I.ok.noex b o e z
  .exact eD (ez (dk (I.ok.bs b o e).1) z)<|ua _
 .rcases bK.mp (I.rB b z)with e|e
  .exact(k b f).2.1 e
  .exact(k b f).2.2.1 e
 .-- a name of the block that has a value: one from around
  have hi:ls.length<=i:=by
   by_cases hi:i<ls.length
   .unfold cR at d
    rw[e_<|by simpa using hi,wM]at d
    split at d<;>cases d
   .lia
  have E:fs[i-ls.length]?=U x:=by
   have q:(ls++fs)[i]?=U x:=G;rw[eF hi]at q;exact q
  obtain⟨j,hj,Q,İ,L⟩:=F.get E;have g:(σ[j]?).join=U v:=by
   unfold cR at d;rw[eF<|by simpa using hi,dH]at d
   simp only[kI]at d;rw[hj]at d;simpa using d
  have t:σ[j]?=U (U v):=by
   cases q:σ[j]? with
   |none=>rw[q]at g;cases g
   |some z=>rw[q]at g;have g:z=U v:=g;rw[g]
  obtain⟨m,_,P⟩:=I.loc;obtain⟨u,r,l⟩:=P j x v Q t<|.inr<|.inl L;refine⟨u,r,.inr ⟨.inl<|fB I.ok.kind İ L,?_⟩⟩;rcases l with⟨z,_⟩|⟨_,c,e,q⟩
  .have M:X.env.kindOf x=U .local:=z
   rw[L]at M;cases M
  .obtain⟨V,K⟩:=į (x,.free) (hI İ) J
   have n:=Ij x V K;rw[e]at n;have n:=kL.inj n;rw[<- n]at K;obtain⟨o,B,hd⟩:=q;exact⟨c,K,o,h _ _ B,hd⟩
 .obtain⟨v,o,B,hd⟩:=I.cell x c<|Ij x c e
  exact⟨v,o,h _ _ B,hd⟩
 .unfold cR
  show _=(ls++fs).length;rw[dg,kI,bX,dg,F.length]
end
section
def Hs(X:Cx)(b:Bz)(t:TT):Prop:=
 ∀(d:dm)(s:bh)(a:St)(H:Hp)(Q:Bool->Hp->Prop),Inv X d a H s->t a H Q ->
  eg (da X.prog X.w) X.A (forIn b O λc r=>if r=O then do let ok <- Gf c X.env (e6 c X.env);pure (gC ok)else pure (gC r)) (TP X d a Q) X.xe s
def Ys:TT:=λ_ H Q=>Q O H
def Ik:Hs X [] Ys:=λ_ _ _ H _ I h=>wpAny_tests_nil ⟨H,I,h⟩
def Il{c:de}{t:TT}(h:PT X c t):Hs X [c] t:=λd s a H Q I b=>wpAny_tests_one<|h d s a H Q I b
def cX:St->St->Prop
 |[],[]=>True
 |Y::a,_::b=>cX a b
 |U v::a,U w::b=>v=w/\cX a b
 |_,_=>False
theorem cX.len:∀{a b:St},cX a b->a.length=b.length
 |[],[],_=>J
 |[],_::_,h=>h.elim
 |Y::a,[],h=>h.elim
 |U _::a,[],h=>h.elim
 |Y::a,x::b,h=>by simp[cX.len (a:=a) (b:=b) h]
 |U _::a,Y::b,h=>h.elim
 |U _::a,U _::b,h=>by simp[cX.len (a:=a) (b:=b) h.2]
theorem cX.get:∀{a b:St},cX a b->∀(i:Nat)(v:V),a[i]?=U (U v)->b[i]?=U (U v)
 |[],[],_,_,_,e=>e
 |[],_::_,h,_,_,_=>h.elim
 |Y::a,[],h,_,_,_=>h.elim
 |U _::a,[],h,_,_,_=>h.elim
 |Y::a,x::b,h,0,v,e=>by simp at e
 |Y::a,x::b,h,i+1,v,e=>by
  have:=cX.get (a:=a) (b:=b) h i v (by simpa using e)
  simpa using this
 |U _::a,Y::b,h,_,_,_=>h.elim
 |U y::a,U z::b,h,0,v,e=>by have c:=h.1;subst c;simpa using e
 |U y::a,U z::b,h,i+1,v,e=>by
  have:=cX.get (a:=a) (b:=b) h.2 i v (by simpa using e)
  simpa using this
@[irreducible] def tComp(l:TI)(k:Nat)(js:B1)(g:TG)(tt:TT)(te:TE):TE:=λe H Q=>l e H λo H1=>∀D,H1 D=Y->∃W:Nat->Nat->List V->Hp->Prop,(∃m,W 0 m []<|upd H1 D<|.lst []) /\
 ∀i m c H,W i m c H->(o.stop i H/\Q (.ref D) H)\/(o.go i H/\∀x j,o.yld i H x j->g x (cR k js e) j λa n=>cX (cR k js e) a/\tt a n λb h=>
  if b=O then te a h λy f=>f D=U (.lst c)/\c.length<dv/\∃d,d<m/\W (i+1) d (c++[y]) (upd f D<|.lst<|c++[y])
  else ∃d,d<m/\W (i+1) d c h)
def qC{scope:hB}{ls fs:Bi}{js:B1}{tg t elt:de}{P:Bz}{pos cz:Pos}{wi:TI}{g:TG}{tt:TT}{te:TE}{use:Option<|ar->Sem Unit}{Qo:ar->bh->Prop}
  (hc:X.calm=O) (S:f_ X scope) (F:fQ X scope js fs) (hi:PI X tg t wi)
  (hg:∀cl C f s H,PG (X.block (ls++fs) scope cl C f s H) tg g) (ht:∀cl C f s H,Hs (X.block (ls++fs) scope cl C f s H) P tt) (he:∀cl C f s H,PE (X.block (ls++fs) scope cl C f s H) elt te)
  {M:dm} {s:bh} {K:St} {H:Hp} {Q:VK} (I:Inv X M K H s) (h:tComp wi ls.length js g tt te K H Q)
  (fin:∀D C s' H' m,Inv X M K H' s'->ny X M H' C->s'.heap.Ns C m->Q (.ref D) H'->compPost (da X.prog X.w) X.A X.xe use Qo (.ref D) C (.ok .next) s')
  (hs:∀x,fE t X.env x=pure x) :
  eg (da X.prog X.w) X.A (comprehension (.ListComp elt [⟨tg,t,P,0⟩] scope pos) scope X.env cz (newList []) Zb (e6 t X.env) use) Qo X.xe s:=by
 unfold tComp at h;obtain⟨cl,ecl,h1,h2⟩:=pS (scope:=scope) (env:=X.env) λp hp hf=>I.ok.has p.1<|.inl<|S.frees p hp hf;refine wpAny_comprehension_free J hs ecl S.kind S.names<|bV (hi M s K H _ I h) λv s1 q1=>bV q1 λX3 l q2=>?_;obtain⟨it,f,tn,q0,H2,e,I2,T,lZ,f2,q⟩:=q2;subst e;refine mI<|wpAny_newFunctionEnv S.nocell (by intro y hy;simp at hy) (λh₁ k j=>?_) S.kind
 have I3:Inv X M K (upd H2 l.heap.objs.size<|.lst []) {l with heap:=l.heap.push {cls:=.type "list",dict:=Y,data:=.seq ([]:B2).toArray}}:=I2.Bw (t':=l.toks) .nil<|gq _
 obtain⟨W,⟨m0,w0⟩,step⟩:=q l.heap.objs.size I2.fresh;dsimp only at k j ⊢
 generalize Ro:({l with heap:=l.heap.push {cls:=.type "list",dict:=Y,data:=.seq ([]:B2).toArray}}:bh)=s3 at I3
 have ı:s3.heap=l.heap.push {cls:=.type "list",dict:=Y,data:=.seq ([]:B2).toArray}:=by rw[<- Ro]
 rw[<- ı]at k j ⊢;have old:∀b o,s3.heap.get? b=U o->h₁.get? b=U o:=λb o e=>j.extBut b o (dP<|dk e)<|bp _ e;have up:∀b o,l.heap.get? b=U o->s3.heap.get? b=U o:=λb o e=>by rw[ı];exact bp _ e
 have fz2:∀b∈f,b<l.heap.objs.size:=λb a=>by
  obtain⟨o,e,_⟩:=T.obj 0 _ lZ b a;exact dk e
 have E:∀b∈f,ny X M (upd H2 l.heap.objs.size<|.lst []) b:=λb a=>⟨by rw[ak<|dP<|fz2 b a];exact(f2 b a).1,(f2 b a).2⟩
 have Ĳ:∀b∈f,b<s3.heap.objs.size:=λb a=>by
  obtain⟨o,e,_⟩:=T.obj 0 _ lZ b a;exact dk<|up b o e
 have I4:=I3.enter (ls:=ls) (h₁:=h₁) (tk:=l.toks+([]:List<|Str×ar).length) S F h1 h2 E Ĳ (by simpa using k) old
 have pC:tn 0 h₁:=T.keep 0 _ _ lZ λb _ o e=>old b o<|up b o e
 generalize hC:s3.heap.objs.size=C at I4 k j ⊢
 generalize hH3:upd H2 l.heap.objs.size (.lst [])=H3 at I3 I4 E w0
 have wX:∀{H':Hp},(∀b∈f,H' b=Y)->∀b∈f,ny (X.block (ls++fs) scope cl C f s3 H3) [] H' b:=λhn b a=>
  ⟨hn b a,by rw[<- hC];exact dP<|Ĳ b a,λz=>(bK.mp<|I3.rB b z).elim (E b a).2.1 (E b a).2.2.1,.inl a,λx c e=>(E b a).2.2.2.2.1 x c<|h1 x c e,λp hp=>eD hp<|by simp⟩
 have Cj:∀b∈f,(b∈X.ex\/X.s₀.heap.objs.size<=b)/\b≠X.env.locals/\(∀x c,X.env.cells.lookup x=U c->c≠b)/\∀p∈X.pn++M,p.1≠b:=λb a=>⟨(E b a).2.2.2.1,(E b a).2.1,(E b a).2.2.2.2.1,(E b a).2.2.2.2.2⟩;have L:∀s4:bh,s4={s3 with heap:=h₁,toks:=l.toks+([]:List<|Str×ar).length} ->
   r0 (da X.prog X.w) X.A (.compLoop (.ListComp elt [⟨tg,t,P,0⟩] scope pos) 0 (.ref it) (.ref l.heap.objs.size)<|compEnvC scope cl C X.env) (compPost (da X.prog X.w) X.A X.xe use Qo (.ref l.heap.objs.size) C) s4:=by
  rintro s4 rfl
  refine BA (λn s'=>∃i N H',Inv (X.block (ls++fs) scope cl C f s3 H3) [] (cR ls.length js K) H' s'/\tn i s'.heap/\(∀b∈f,H' b=Y)/\W i n N H') ?_ m0 ⟨0,[],H3,I4,pC,λb a=>(E b a).1,w0⟩
  rintro n s5 ⟨i,N,H5,I5,uS,WL,w5⟩
  rcases step i n N H5 w5 with⟨stop,qf⟩|⟨go,nxt⟩
  .refine bV (T.done (X.block (ls++fs) scope cl C f s3 H3) J J J hc i [] s5 _ H5 (λ_ _=>False) I5 (wX WL) uS stop) λr s6 B=>?_
   obtain⟨hr,I6⟩:=B;subst hr;obtain⟨m,hm,_⟩:=id I6.loc;have J6:Inv X M K H5 s6:=I3.RU (ch:=f) I6.os I6.base I6.aZ I6.bare Cj;exact fin _ C s6 H5 m J6 (I3.pO (wL hC) I6.free) hm qf
  .refine bV (T.item (X.block (ls++fs) scope cl C f s3 H3) J J J hc i [] s5 _ H5 (λ_ _=>False) I5 (wX WL) uS go) λr s6 B=>?_
   obtain⟨u,hr,h6⟩:=B;subst hr;refine bV h6 λ_ s7 B=>?_;obtain⟨x,H7,I7,r7,y7,Yt,fr7⟩:=B;have I7':=I7.pinned (wX fr7)<|T.obj _ _ Yt;refine bV (hg cl C f s3 H3 _ s7 _ H7 x u _ I7' r7<|nxt x H7 y7) λ_ s8 B=>?_;obtain⟨G,H8,I8,kp,q8⟩:=B;have again:∀{V:bh}{R:Hp},Inv (X.block (ls++fs) scope cl C f s3 H3) ([]++nA f s7.heap) G R V ->
     Inv (X.block (ls++fs) scope cl C f s3 H3) [] (cR ls.length js K) R V/\tn (i+1) V.heap/\∀b∈f,R b=Y:=λ{V R} Z=>by
    refine⟨Z.jR.weak kp.len kp.get,T.keep _ _ _ Yt λb a o e=>(Z.pin (b,o)<|jj _<|jj _<|gR a e).1,λb a=>?_⟩;obtain⟨o,e,d⟩:=T.obj _ _ Yt b a;exact(Z.pin (b,o)<|jj _<|jj _<|gR a e).2.1
   refine bV (ht cl C f s3 H3 _ s8 G H8 _ I8 q8) λb V B=>?_;obtain⟨R,Z,q9⟩:=B;cases b with
   |false=>
    obtain⟨m',hm,w9⟩:=q9;obtain⟨a1,a2,a3⟩:=again Z;exact⟨m',hm,i+1,N,R,a1,a2,a3,w9⟩
   |true=>
    refine bV (he cl C f s3 H3 _ V G R _ Z q9) λxv s10 B=>?_;obtain⟨y,ĳ,I10,r10,hD,hz,m',hm,Yu⟩:=B;refine bV (kP (X:=X.block (ls++fs) scope cl C f s3 H3) _ s10 G ĳ (.ref l.heap.objs.size) [y] (.ref l.heap.objs.size) [xv] (λ_ Ĵ=>Ĵ=upd ĳ l.heap.objs.size (.lst<|N++[y])) I10 J (.cons r10 .nil)
     ⟨_,N,y,J,J,hD,hz,J⟩) λ_ s11 ⟨z,Ĵ,I11,_,e11⟩=>?_
    subst e11;obtain⟨a1,a2,a3⟩:=again I11;exact⟨m',hm,i+1,N++[y],_,a1,a2,a3,Yu⟩
 have aac:({newEnv scope C X.env.globals cl X.env.qual Y .none (U X.env) sr with scope:=F7 scope X.env}:Env)=compEnvC scope cl C X.env:=J
 exact codeAny_compStart_list (L _<|by rw[<- Ro])<|T.self X.A 0 _ _ _ pC<|L _<|by rw[<- Ro]
variable{scope:hB}{ls fs:Bi}{js:B1}{iter elt:de}{ifs:Bz}{pos:Pos}{wi:TI}{g:TG}{tt:TT}{te:TE}
def Im(ls:Bi)(n:X.calm=O)(S:f_ X scope)(F:fQ X scope js fs)(hi:PI X tg iter wi)
  (l:∀cl C a s H,PG (X.block (ls++fs) scope cl C a s H) tg g) (i:∀cl C a s H,Hs (X.block (ls++fs) scope cl C a s H) ifs tt) (he:∀cl C a s H,PE (X.block (ls++fs) scope cl C a s H) elt te)
  (j:∀x,fE iter X.env x=pure x:=by intro _;rfl):PE X (.ListComp elt [⟨tg,iter,ifs,0⟩] scope pos)<|tComp wi ls.length js g tt te:=by
 intro v s t H Q I h;rw[eval_ListComp];refine qC (use:=Y) n S F hi l i he I h ?_ j;intro D C f r m w c k q;exact⟨m,k,λu d=>⟨.ref D,r,w.turned (t':=f.toks) (it:=C) (λb o p e=>(d.2 b p).trans e) c.1 c.2.1 c.2.2.2.1 c.2.2.2.2.1 c.2.2.2.2.2,J,q⟩⟩
def za{i:Nat}{x:Str}{d n:Pos}(ls:Bi)(G:X.calm=O)(M:X.N.Nodup)(R:X.N[i]?=U x)(t:Loc X.env.scope x)(S:f_ X scope)(F:fQ X scope js fs)(hi:PI X tg iter wi)
  (B:∀cl C f s H,PG (X.block (ls++fs) scope cl C f s H) tg g) (u:∀cl C f s H,Hs (X.block (ls++fs) scope cl C f s H) ifs tt) (he:∀cl C f s H,PE (X.block (ls++fs) scope cl C f s H) elt te)
  (w:∀x,fE iter X.env x=pure x:=by intro _;rfl) (E:X.fn x=O\/X.env.scope.names.lookup x=U .local:=by first|exact .inl J|exact .inr J|assumption)
  (T:fI (.ListComp elt [⟨tg,iter,ifs,0⟩] scope pos) (U<|.Name x d) n.line X.env=pure O:=by rfl) :
  PS X (.Assign [.Name x d] (.ListComp elt [⟨tg,iter,ifs,0⟩] scope pos) n) λD j H=>tComp wi ls.length js g tt te j H λv H1=>D.nx (j.set i<|U v) H1:=by
 intro P s j H D I h;rw[exec_Assign_Name_used _ _ _ _ T];refine ab<|si<|ab ?_;show eg _ X.A (do let _ <- comprehension (.ListComp elt [⟨tg,iter,ifs,0⟩] scope pos) scope X.env _ (newList []) Zb (e6 iter X.env) (U<|sx (.Name x d) X.env)) _ _ s
 refine ab<|f6 (qC (use:=U<|sx (.Name x d) X.env) (Qo:=λ_ k=>SP X P D .next k) G S F hi B u he I h ?_ w) (λ_ k y=>c7<|c7 y) λ_ _ e=>e
 intro l C k Z m q0 c z q;show eg _ X.A (sx (.Name x d) X.env<|.ref l) _ _ _;refine wpAny_assign_Name<|qp q0 M R t (show RelV (.ref l) (.ref l)from J) (λV W p=>?_) E;obtain⟨a,Q,L⟩:=p;have ne:C≠a:=by
  rcases L with e|e
  .rw[e];exact c.2.1
  .exact Ne.symm<|c.2.2.2.2.1 x a e
 refine⟨m,z.sameBut Q ne,λh' r=>?_⟩;exact⟨_,Z,W.turned (t':=V.toks) (it:=C) (λb o K e=>(r.2 b K).trans e) c.1 c.2.1 c.2.2.2.1 c.2.2.2.2.1 c.2.2.2.2.2,q⟩
end
section
def DQ{P:ef}{w:dA}{K:bG}{x:Str}{L:Pos}{it:cw}{n:Nat}{D:Nat->ar->Prop}{St:Nat->fA->Prop}(val:Nat->V->Prop)
  (W:∀A:eL,A.handled=Y->Walks P w A it [it] [it] n D St) (M:∀i v,D i v->∃y,RelV y v/\val i y)
  (N:∀i h,St i h->∃o,h.get? it=U o/\∀v,o.data≠.cell v) (R:∀i(h h':fA),St i h->(∀o,h.get? it=U o->h'.get? it=U o)->St i h')
  (Z:∀(A:eL)(i:Nat)(s:bh)(Q:ar->bh->Prop)(E:ar->bh->Prop),St i s.heap->Q (.ref it) s->eg (da P w) A (pyIter<|.ref it) Q E s) :
  Turn P w K (.Name x L) ⟨λi _=>i<n,λi H y H'=>H'=H/\val i y,λi _=>i=n⟩ [it] it St where
 mem:=by simp
 obj:=λi h st b a=>by
  have e:b=it:=by simpa using a
  subst e;exact N i h st
 keep:=λi h h' st k=>R i h h' st<|k it<|by simp
 item:=by
  intro X m g p j i C s B H E I d st c;subst m g p;obtain⟨z,u,S,t,r,q⟩:=d it (by simp)
  refine(W X.A<|I.ok.hd j).item i s _ _ c st λv h' tk l T f=>?_;obtain⟨y,G,F⟩:=M i v l;have I1:Inv X C B H {s with heap:=h',toks:=tk}:=I.turned (λb o a e=>f b o (by simpa using a) e) z u t r q
  exact⟨v,J,c7 ⟨y,H,I1,G,⟨J,F⟩,T,λb a=>(d b a).1⟩⟩
 done:=by
  intro X m g p j i C s B H E I d st c;subst m g p;obtain⟨z,u,S,t,r,q⟩:=d it (by simp)
  have c:i=n:=c;rw[c]at st;exact(W X.A<|I.ok.hd j).done s _ _ st λh' tk f=>⟨J,I.turned (λb o a e=>f b o (by simpa using a) e) z u t r q⟩
 self:=Z
def ĵ(z:Str):It:=⟨λi _=>i<z.cps.size,λi H y a=>a=H/\∃c,z.cps[i]?=U c/\y=.str ⟨#[c]⟩,λi _=>i=z.cps.size⟩
def Yx(tl:TE):TI:=λa H R=>tl a H λv H1=>∃z,v=.str z/\R (ĵ z) H1
def Oj{l:de}{tl:TE}{x:Str}{D:Pos}(E:PE X l tl):PI X (.Name x D) l<|Yx tl:=by
 intro n s w H R I h;refine bV (E n s w H _ I h) λv a B=>?_;obtain⟨y,H1,I1,C,q1⟩:=B;obtain⟨z,rfl,q⟩:=q1;obtain⟨t,rfl⟩:=C;have Ķ:∀b∈[a.heap.objs.size],ny X n H1 b:=λb F=>by
  have e:b=a.heap.objs.size:=by simpa using F
  subst e;exact I1.pO (bW _)<|I1.aZ.fresh<|bW _
 have j:∀i v,SignAt z i v->∃y,RelV y v/\∃c,z.cps[i]?=U c/\y=.str ⟨#[c]⟩:=by rintro i v ⟨c,u,e,ev⟩;exact⟨.str ⟨#[c]⟩,⟨u,ev⟩,c,e,J⟩
 have p:∀(ty:String)(i:Nat)(h:fA),h.IsStrIter a.heap.objs.size ty z t i->∃o,h.get? a.heap.objs.size=U o/\∀v,o.data≠.cell v:=λty i h ⟨o,e,_,d⟩=>⟨o,e,λv q=>by rw[d]at q;cases q⟩
 have kp:∀(ty:String)(i:Nat)(h g:fA),h.IsStrIter a.heap.objs.size ty z t i->(∀o,h.get? a.heap.objs.size=U o->g.get? a.heap.objs.size=U o)->g.IsStrIter a.heap.objs.size ty z t i:=by rintro ty i h g ⟨o,e,r⟩ k;exact⟨o,k o e,r⟩
 cases m:z.cps.all (· < 128)
 .refine wpAny_pyIter_wide m ?_
  exact⟨a.heap.objs.size,[a.heap.objs.size],_,_,H1,J,I1.kept (t':=a.toks) λb o e=>bp _ e,
   DQ (λi y=>∃c,z.cps[i]?=U c/\y=.str ⟨#[c]⟩) (λA f=>Walks.strWide f _ z t) j (p _) (kp _) λ_ _ _ _ _ st h=>wpAny_pyIter_striter_wide st h,⟨_,c8 _ J,J,J⟩,Ķ,q⟩
 .refine wpAny_pyIter_ascii m ?_
  exact⟨a.heap.objs.size,[a.heap.objs.size],_,_,H1,J,I1.kept (t':=a.toks) λb o e=>bp _ e,
   DQ (λi y=>∃c,z.cps[i]?=U c/\y=.str ⟨#[c]⟩) (λA f=>Walks.strAscii f _ z t) j (p _) (kp _) λ_ _ _ _ _ st h=>wpAny_pyIter_striter_ascii st h,⟨_,c8 _ J,J,J⟩,Ķ,q⟩
def Yy(hi:Int)(n:Nat):It:=⟨λi _=>i<n,λi H x a=>a=H/\x=.int (hi-i),λi _=>n<=i⟩
def BB{P:ef}{w:dA}{K:bG}(it:cw)(hi:Int)(n:Nat):Turn P w K tg (Yy hi n) [it] it λi h=>vu h it (hi+(i:Nat)*(-1)) ((n:Int)-(i:Nat))<|-1 where
 mem:=by simp
 obj:=λi h st b a=>by
  have e:b=it:=by simpa using a
  subst e;exact⟨_,st,λv z=>by
   have C:Data.fields _=Data.cell v:=z;cases C⟩
 keep:=λi h d st k=>k it (by simp) _ st
 item:=by
  intro X l f m j i A s y H E I c st g;subst l f m;obtain⟨x,u,G,r,q,p⟩:=c it (by simp)
  have W:=Walks.range (prog:=X.prog) (w:=X.w) (I.ok.hd j) it hi (-1) n;refine W.item i s _ _ g st λv d tk F B D=>?_;obtain⟨t,rfl⟩:=F;have M:Inv X A y H {s with heap:=d,toks:=tk}:=I.turned (λb o a e=>D b o (by simpa using a) e) x u r q p
  refine⟨_,J,uQ (s:={s with heap:=d,toks:=tk}) (n := "range_iterator") B J J (by decide) ⟨.int<|hi-i,H,M,⟨t,?_⟩,⟨J,J⟩,B,λb a=>(c b a).1⟩⟩
  have e:hi+(i:Int)*(-1)=hi-i:=by lia
  rw[e]
 done:=by
  intro X l f m j i A s y H E I c st g;subst l f m;obtain⟨x,u,G,r,q,p⟩:=c it (by simp)
  exact D3 (I.ok.hd j) st (by have:n<=i:=g;lia) λd L=>⟨J,I.turned (t':=s.toks) (λb o a e=>L b o a e) x u r q p⟩
 self:=λ_ _ _ _ _ st h=>FD st h
def S9(b:TA):TI:=λa H R=>b a H λvs H1=>∃i:Int,vs=[.int i,.int<|-1,.int<|-1]/\-1<=i/\i<2^30/\R (Yy i (i+1).toNat) H1
def Io{a b c:de}{l:TA}{p pos:Pos}(z:Gl X "range")(y:X.mg "range" = Y)(B:PA X [a,b,c] l)(x:dy [a,b,c] X.env=[(Zb,e6 a X.env),(Zb,e6 b X.env),(Zb,e6 c X.env)]:=by rfl)
  (m:dy [b,c] X.env=[(Zb,e6 b X.env),(Zb,e6 c X.env)]:=by rfl):PI X tg (.Call (.Name "range" p) [a,b,c] [] pos)<|S9 l:=by
 intro n s k H R I h;refine Call_<|gQ I z y boot_range<|Be (bV (B pos n s k H _ I h) λF f u=>?_) (by rw[x,m])<|by rw[m];rfl
 obtain⟨vs,H1,E,v,q1⟩:=u;obtain⟨i,e,q1,q2,q⟩:=q1;subst e;cases v with
 |cons r d=>
  cases d with
  |cons w d=>
   cases d with
   |cons g d=>
    cases d;obtain⟨t,rfl⟩:=r;obtain⟨t',rfl⟩:=w;obtain⟨ķ,rfl⟩:=g;refine call_range_3 (by decide) ?_<|.inl<|vb<|by decide
    have Ĺ:iv i (-1) (-1)=i+1:=by
     unfold iv;rw[ag<|by decide]
     split
     .have e:-(-1:Int)=1:=J
      rw[e,Int.ediv_one];lia
     .lia
    have j:sT i (-1) (-1)=O:=by
     unfold sT;rw[Ĺ];simp[Builtin.Range.rangeFitsLong]
     lia
    refine wpAny_pyIter_range (IsRange.new ..) j ?_
    generalize hh:f.heap.push {cls:=.type "range",data:=.fields #[.int i t,.int (-1) t',.int (-1) ķ]}=h2
    have I2:Inv X n k H1 {f with heap:=h2}:=E.kept (t':=f.toks) λb o e=>by rw[<- hh];exact bp _ e
    refine⟨h2.objs.size,[h2.objs.size],_,_,H1,J,I2.kept (t':=f.toks) λb o e=>bp _ e,BB _ i (i+1).toNat,?_,λb A=>?_,q⟩
    .have D:i+((0:Nat):Int)*(-1)=i:=by lia
     have C:(((i+1).toNat:Nat):Int)-((0:Nat):Int)=iv i (-1) (-1):=by
      rw[Ĺ]
      lia
     show vu _ _ (i+((0:Nat):Int)*(-1)) ((((i+1).toNat:Nat):Int)-((0:Nat):Int))<|-1;rw[D,C];exact c8 _ J
    .have e:b=h2.objs.size:=by simpa using A
     subst e;exact I2.pO (bW _)<|I2.aZ.fresh<|bW _
end
structure W6(Zg:It)(src:List V)(I:Hp->Prop):Prop where
 go:∀i H,I H->i<src.length->Zg.go i H
 yld:∀i H x H',I H->i<src.length->Zg.yld i H x H'->H'=H/\src[i]?=U x
 stop:∀i H,I H->i=src.length->Zg.stop i H
def Ip(z:Str):W6 (ĵ z) (z.cps.toList.map λc=>V.str ⟨#[c]⟩) λ_=>True:=
 ⟨λi H _ h=>by have h:i<(z.cps.toList.map λc=>V.str ⟨#[c]⟩).length:=h;rw[bX,eo]at h;exact h,
  λi H x b _ _ y=>by
  obtain⟨e,c,a,ex⟩:=y;refine⟨e,?_⟩;rw[dH,ey,a,ex];rfl,
  λi H _ h=>by rw[bX,eo]at h;exact h⟩
def qD(lo:Int)(n:Nat):W6 (Sa lo n) ((bZ n).map λk=>V.int<|lo+(k:Nat)) λ_=>True:=
 ⟨λi H _ h=>by have h:i<((bZ n).map λk=>V.int<|lo+(k:Nat)).length:=h;rw[bX,nh]at h;exact h,
  λi H x a _ hi y=>by
  obtain⟨e,ex⟩:=y;refine⟨e,?_⟩;have hi:i<n:=by rw[bX,nh]at hi;exact hi
  rw[dH,yu hi,ex];rfl,
  λi H _ h=>by rw[bX,nh]at h;exact wL h.symm⟩
section
def ĺ(K:bG)(a:cw)(xs:List V):It:=⟨λi H=>i<xs.length/\c9 K H a xs,λi H y b=>b=H/\xs[xs.length-1-i]?=U y,λi _=>i=xs.length⟩
def DS{P:ef}{w:dA}{K:bG}(a it:cw)(xs:List V):Turn P w K tg (ĺ K a xs) [it] it λi h=>h.IsRevIter it a<|(xs.length:Int)-1-(i:Int) where
 mem:=by simp
 obj:=λi h st b f=>by
  have e:b=it:=by simpa using f
  subst e;obtain⟨o,e,c,d⟩:=st;exact⟨o,e,λv z=>by rw[d]at z;cases z⟩
 keep:=λi h l st k=>st.at λo e=>k it (by simp) o e
 item:=by
  intro X n m q G i L s D H E I j st g;subst n m q;obtain⟨hi,S⟩:=g;obtain⟨Q,M,p,hz⟩:=I.list S;have F:xs[xs.length-1-i]?=U (xs[xs.length-1-i]'(by lia)):=cD (by lia)
  obtain⟨u,R,N⟩:=M.get F;obtain⟨B,A,T,y,t,r⟩:=j it (by simp)
  have e:(xs.length:Int)-1-(i:Int)=((xs.length-1-i:Nat):Int):=by lia
  rw[e]at st;refine wpAny_pyNext_rev_item st p.isList (x:=u) (by simpa using R) λl C sb=>?_
  have I1:Inv X L D H {s with heap:=l}:=I.turned (t':=s.toks) (λb o f e=>(sb.2 b f).trans e) B A y t r
  have e2:((xs.length-1-i:Nat):Int)-1=(xs.length:Int)-1-((i+1:Nat):Int):=by lia
  rw[e2]at C;obtain⟨o,W,c,d⟩:=id C;exact⟨u,J,uQ (s:={s with heap:=l}) W c d (by decide) ⟨_,H,I1,N,⟨J,F⟩,C,λb f=>(j b f).1⟩⟩
 done:=by
  intro X n m q G i L s D H E I j st g;subst n m q;obtain⟨B,A,T,y,t,r⟩:=j it (by simp)
  have g:i=xs.length:=g;have e:(xs.length:Int)-1-(i:Int)=-1:=by lia
  rw[e]at st;exact wpAny_pyNext_rev_end (I.ok.hd G) st λl Z=>⟨J,I.turned (t':=s.toks) (λb o f e=>Z b o f e) B A y t r⟩
 self:=λ_ _ _ _ _ st h=>wpAny_pyIter_revIter st h
def Yz(K:bG)(d:TA):TI:=λc H R=>d c H λvs H1=>∃a b,vs=[.ref a]/\c9 K H1 a b/\R (ĺ K a b) H1
def Ol{a:de}{g:TA}{p pos:Pos}(w:Gl X "reversed")(v:X.mg "reversed" = Y)(y:PA X [a] g)(t:dy [a] X.env=[(Zb,e6 a X.env)]:=by rfl):PI X tg (.Call (.Name "reversed" p) [a] [] pos)<|Yz X.K g:=by
 intro A s i H R I h;refine Call_<|gQ I w v PyProof.Rows.boot_reversed<|Be (bV (y pos A s i H _ I h) λB c j=>?_) t J;obtain⟨vs,H1,I1,n,q1⟩:=j;obtain⟨l,f,e,u,q⟩:=q1;subst e;cases n with
 |cons r m=>
  cases m;cases r;obtain⟨d,k,pl,C⟩:=I1.list u;have z:=k.length;refine call_reversed_list pl.isList<|wpAny_pyIter_revIter ⟨_,c8 _ J,J,J⟩ ?_;refine⟨c.heap.objs.size,[c.heap.objs.size],_,_,H1,J,I1.kept (t':=c.toks) λb o e=>bp _ e,DS l _ f,?_,λb x=>?_,q⟩
  .refine⟨_,c8 _ J,J,?_⟩
   have e:((d.toArray.size:Nat):Int)-1=(f.length:Int)-1-((0:Nat):Int):=by rw[bT,<- z];lia
   rw[<- e];rfl
  .have e:b=c.heap.objs.size:=by simpa using x
   subst e;exact I1.pO (bW _)<|I1.aZ.fresh<|bW _
end
section
def pT:yY X "str.startswith" λx vs H Q=>∃a b,x=.str a/\vs=[.str b]/\Q (.bl<|qB a b) H:=by
 intro i s e H x vs v f Q I c d h;obtain⟨a,b,rfl,rfl,q⟩:=h;obtain⟨t,rfl⟩:=c;obtain⟨u,rfl,⟨g,rfl⟩⟩:=d.one;exact SC.startswith ⟨.bl _,H,I,J,q⟩
def uZ:yY X "str.endswith" λx vs H Q=>∃a b,x=.str a/\vs=[.str b]/\Q (.bl<|r3 a b) H:=by
 intro i s e H x vs v f Q I c d h;obtain⟨a,b,rfl,rfl,q⟩:=h;obtain⟨t,rfl⟩:=c;obtain⟨u,rfl,⟨g,rfl⟩⟩:=d.one;exact SC.endswith ⟨.bl _,H,I,J,q⟩
def DT:yY X "str.find" λx vs H Q=>∃a b i,x=.str a/\vs=[.str b,.int i]/\Q (.int<|Txt.find3 a b i) H:=by
 intro k s e H x vs v f Q I c d h;obtain⟨a,b,i,rfl,rfl,q⟩:=h;obtain⟨t,rfl⟩:=c;obtain⟨u,g,rfl,⟨j,rfl⟩,⟨ķ,rfl⟩⟩:=d.two;exact SC.find3 ⟨.int _,H,I.tok _,⟨_,J⟩,q⟩
theorem nM:∀{ys:Bi}{us:B2},Vals (ys.map V.str) us->xa us ys
 |[],_,.nil=>.nil
 |y::ys,_,.cons ⟨t,e⟩ r=>by
  subst e;exact .cons y t<|nM (ys:=ys) r
def Iq:yY X "str.join" λx vs H Q=>∃sep l ys,x=.str sep/\vs=[.ref l]/\c9 X.K H l (ys.map V.str)/\(ys.map (·.length)).sum+ys.length*sep.length<=16777216/\Q (.str<|uW sep ys) H:=by
 intro n s i H x vs v j Q I a b h;obtain⟨sep,l,ys,rfl,rfl,g,f,q⟩:=h;obtain⟨t,rfl⟩:=a;obtain⟨u,rfl,c⟩:=b.one;cases c;obtain⟨d,r,p,_⟩:=I.list g;refine join_list p.isList (ys:=ys) (by simpa using nM r) f λm k=>?_
 have e:Txt.join sep ys=uW sep ys:=StrLaws.glued_eq_join sep ys;rw[e];exact⟨.str _,H,I.tok _,⟨_,J⟩,q⟩
def Om:Mh X λx lo hi H Q=>∃z,x=.str z/\z.length<=dv/\Q (.str<|wK z lo hi) H:=by
 intro y s p H x v w r lo hi sl Q I m n pl g h;obtain⟨z,rfl,a,q⟩:=h;obtain⟨t,rfl⟩:=m;refine⟨"str",_,F.slot_str_getitem.lookup,qx _ _ _,?_⟩;obtain⟨o,b,c,hd⟩:=n;cases pl with
 |none=>
  cases g with
  |none=>exact mx (l:=Y) (u:=Y) (st:=Y) ⟨o,b,c,hd⟩ J<|ri ⟨dq (r2 z _ _) a,λe k=>⟨.str _,H,I.tok _,⟨_,J⟩,q⟩⟩
  |int j d=>exact mx (l:=Y) (u:=U (j,d)) (st:=Y) ⟨o,b,c,hd⟩ J<|ri ⟨dq (r2 z _ _) a,λe k=>⟨.str _,H,I.tok _,⟨_,J⟩,q⟩⟩
 |int i f=>
  cases g with
  |none=>exact mx (l:=U (i,f)) (u:=Y) (st:=Y) ⟨o,b,c,hd⟩ J<|ri ⟨dq (r2 z _ _) a,λe k=>⟨.str _,H,I.tok _,⟨_,J⟩,q⟩⟩
  |int j d=>exact mx (l:=U (i,f)) (u:=U (j,d)) (st:=Y) ⟨o,b,c,hd⟩ J<|ri ⟨dq (r2 z _ _) a,λe k=>⟨.str _,H,I.tok _,⟨_,J⟩,q⟩⟩
def u1:fW X (eJ .IsNot) λx y H Q=>∃a b,x=.bl a/\y=.bl b/\Q (.bl<|a != b) H:=by
 intro f s e H x y v u Q I d c h;obtain⟨a,b,rfl,rfl,q⟩:=h;cases d;cases c;exact isnot_bool<|iF I q J
def u2:dW X (.builtin "isinstance") λxs H Q=>∃x T t b,xs=[x,.ty T]/\i9 X.K H x t/\rm X.K t (.type T)=U b/\Q (.bl b) H:=by
 intro i s d H xs f Q I r h;obtain⟨x,T,t,b,rfl,ty,e,q⟩:=h;obtain⟨u,g,rfl,a,c⟩:=vals2 r;cases c;exact qt I a ty e λtk=>⟨.bl b,H,I.tok _,J,q⟩
def nN{ks:Ee}{its:B2}(r:Vals (ks.map V.bl) its)(A:eL):TruthOf X.prog X.w A (λi v=>its.toArray[i]?=U v) λi=>ks.getD i O:=by
 intro i v s Q E a b;have a:its[i]?=U v:=by simpa using a
 have hi:i<ks.length:=by
  have f:=(du.mp a).1;have d:=r.length;rw[bX]at d
  lia
 obtain⟨u,e,c⟩:=r.get (i:=i) (x:=.bl ks[i]) (by rw[dH,cD hi];rfl)
 rw[a]at e;cases e;cases c;have g:ks.getD i O=ks[i]:=by rw[gP,cD hi];rfl
 have b:Q (ks.getD i O) s:=b;rw[g]at b;exact mF b
def range_all(ks:Ee):(bZ ks.length).all (λi=>ks.getD i O)=ks.all id:=by
 induction ks with
 |nil=>rfl
 |cons k ks a=>
  rw[bI,CY,fG,CZ,fG,<- a];rfl
def range_any(ks:Ee):(bZ ks.length).any (λi=>ks.getD i O)=ks.any id:=by
 induction ks with
 |nil=>rfl
 |cons k ks a=>
  rw[bI,CY,rn,Lp,rn,<- a];rfl
def DU(l:X.calm=O):dW X (.builtin "all") λxs H Q=>∃(p:cw)(ks:Ee),xs=[.ref p]/\c9 X.K H p (ks.map V.bl)/\Q (.bl<|ks.all id) H:=by
 intro x s n H xs t Q I r h;obtain⟨p,ks,rfl,k,q⟩:=h;obtain⟨u,rfl,f⟩:=vals1 r;cases f;obtain⟨a,c,pl,v⟩:=I.list k;have d:=c.length;rw[bX]at d;refine call_all_walk<|i3 pl.isList ?_;have g:p≠s.heap.objs.size:=let⟨_,e,_⟩:=pl.isList;dP<|dk e;refine⟨s.heap.objs.size,_,[s.heap.objs.size],a.toArray.size,_,_,λi=>ks.getD i O,J,Walks.list (show X.A.in1.handled=Y from I.ok.hd l) s.heap.objs.size p g a.toArray,⟨⟨_,c8 _ J,J,J⟩,wq pl.isList _⟩,nN c _,λw tk j=>?_⟩;rw[bT,<- d,range_all];refine⟨.bl _,H,?_,J,q⟩;refine I.kept λb o e=>j b o (λz=>?_)<|bp _ e;have m:b=s.heap.objs.size:=by simpa using z
 rw[m]at e;exact ua _<|dk e
def DV(l:X.calm=O):dW X (.builtin "any") λxs H Q=>∃(p:cw)(ks:Ee),xs=[.ref p]/\c9 X.K H p (ks.map V.bl)/\Q (.bl<|ks.any id) H:=by
 intro x s n H xs t Q I r h;obtain⟨p,ks,rfl,k,q⟩:=h;obtain⟨u,rfl,f⟩:=vals1 r;cases f;obtain⟨a,c,pl,v⟩:=I.list k;have d:=c.length;rw[bX]at d;refine call_any_walk<|i3 pl.isList ?_;have g:p≠s.heap.objs.size:=let⟨_,e,_⟩:=pl.isList;dP<|dk e;refine⟨s.heap.objs.size,_,[s.heap.objs.size],a.toArray.size,_,_,λi=>ks.getD i O,J,Walks.list (show X.A.in1.handled=Y from I.ok.hd l) s.heap.objs.size p g a.toArray,⟨⟨_,c8 _ J,J,J⟩,wq pl.isList _⟩,nN c _,λw tk j=>?_⟩;rw[bT,<- d,range_any];refine⟨.bl _,H,?_,J,q⟩;refine I.kept λb o e=>j b o (λz=>?_)<|bp _ e;have m:b=s.heap.objs.size:=by simpa using z
 rw[m]at e;exact ua _<|dk e
theorem lE:∀{xs:List V}{us:B2},xs.length=us.length->(∀(i:Nat)x u,xs[i]?=U x->us[i]?=U u->RelV x u)->Vals xs us
 |[],[],_,_=>.nil
 |[],_::_,h,_=>by simp at h
 |_::_,[],h,_=>by simp at h
 |x::xs,u::us,h,k=>.cons (k 0 x u J J)<|lE (by simpa using h) λi y w b a=>k (i+1) y w (by simpa using b)<|by simpa using a
def BC:dW X (.type "range") λxs H Q=>∃j,xs=[.int j]/\∀p,H p=Y->Q (.ref p) (upd H p<|.lW 0 j):=by
 intro d s a H xs c Q I r h;obtain⟨j,rfl,q⟩:=h;obtain⟨u,rfl,⟨t,rfl⟩⟩:=vals1 r;refine call_range_1 ⟨.ref s.heap.objs.size,_,I.laid (o:=.lW 0 j) (λb o e=>bp _ e) (bW _) ⟨_,_,_,c8 _ J⟩,J,q _ I.fresh⟩
def pU(A:X.calm=O):dW X (.type "list") λxs H Q=>∃p hi,xs=[.ref p]/\H p=U (.lW 0 hi)/\0<=hi/\hi<=2^20/\∀l,H l=Y->Q (.ref l) (upd H l<|.lst<|(bZ hi.toNat).map λk=>V.int (k:Nat)):=by
 intro M s E H xs F Q I r h;obtain⟨p,hi,rfl,w,K,G,q⟩:=h;obtain⟨u,rfl,j⟩:=vals1 r;cases j;obtain⟨t,u,v,e⟩:=I.aZ p _ w;refine call_list_range (I.ok.hd A) (a:=0) (b:=hi) (c:=1) (n:=hi.toNat) e (small_one (by lia) (by lia) (by lia)<|by lia) (by rw[rangeSize_one];split<;>lia) (by lia) λL tk B C z y d=>?_
 obtain⟨g,d⟩:=d;refine⟨.ref s.heap.objs.size,_,I.laid (o:=.lst<|(bZ hi.toNat).map λk=>V.int (k:Nat)) (λb o e=>z b o e) (bW _) ⟨?_,B.toList,C,?_,by simpa using y⟩,J,q _ I.fresh⟩
 .rw[bX,nh,ew];lia
 .refine lE (by rw[bX,nh,eo,g]) λi x u f m=>?_
  have D:i<hi.toNat:=by
   have:=(du.mp f).1
   rw[bX,nh]at this;exact this
  rw[dH,yu D]at f;cases f;obtain⟨t,rfl⟩:=d i u (by simpa using m)
  exact⟨t,by congr 1;lia⟩
end
end L2
namespace K37
open PySem L2
abbrev top(i:Nat):mB:=PySem.Challenge.pw_rowblade_k37_boxes_and_faults.main.body.getD i<|.Pass ⟨0,0,0,0⟩
end K37
noncomputable section
namespace KH
open PySem PySem.W PySem.Calls PyProof.Rows L2 K37
abbrev pw:ef:=PySem.Challenge.pw_rowblade_k37_boxes_and_faults
abbrev r(a:Nat):ar:=.ref a
abbrev Zc(c:ar)(d:Option cw)(x:Data)(s:List D1):Obj:=⟨c,d,x,⟨s⟩⟩
abbrev W:=nJ->Obj
abbrev Z:=Str×Nat×ar
abbrev D(P:nJ)(e:Z):iq:=⟨PyData.keyHash P e.1,.str e.1 e.2.1,e.2.2⟩
abbrev fN(n q:Str)(s:mB)(g:cw)(cl:List<|Str×cw)(e d a c:ar)(an:Option cw)(f ct:ar)(b:cw):eX:=⟨n,q,jU s,.stmts<|cW s,aE s,g,cl,e,d,a,c,an,f,ct,b⟩
abbrev C(n q:Str)(t u L a b c g:Nat)(x:cw)(B:Bool)(y:cw)(k l m o:ar):W:=λ_=>Zc (.type "code") Y (.fields ⟨[.str n t,.str q<|t+1,.str "/claim/cut.py"<|t+2,.int (lV L) 0,.int (lV a) 0,.int (lV b) 0,.int (lV c) 0,.int (lV g) 0,r x,.bool B,.int (lV 181) 0,r y,k,l,m,o,.int (lV u) 0,.int (lV L) 0,.str "/claim/cut.py"<|u+1]⟩) []
abbrev cf(n q:Str)(t u L a x:Nat):W:=C n q t u L a 0 0 3 x O (x+1) .none (r<|x+2) (r<|x+3)<|r<|x+4
abbrev cg(n:Str)(t u L a x:Nat):W:=cf n n t u L a x
abbrev cc(n:Str)(t L x:Nat):W:=C n n t (t+3) L 0 0 0 0 x Zb (x+1) .none .none .none .none
abbrev lt(b:Nat)(l:List<|Nat×Nat):W:=λ_=>Zc .none Y (.fields ⟨(l.map λp=>[.int (lV p.1) 0,.int (lV b) 0,r p.2]).flatten⟩) []
abbrev fO(n q:Str)(s:mB)(m:ar)(c:Nat):W:=λ_=>Zc (.type "function") Y (.func<|fN n q s 3 [] .none .none .none m Y (r c) .none 0) []
abbrev fn(n q:Str)(s:mB):W:=λ_=>Zc .none Y (.func<|fN n q s 0 [] .none .none .none .none Y .none .none 0) []
def sS:Nat->Bi->B2
 |_,[]=>[]
 |k,x::l=>.str x k::sS (k+1) l
abbrev tS(k:Nat)(l:Bi):W:=λ_=>Zc (.type "tuple") Y (.seq ⟨sS k l⟩ 0) []
abbrev tV(l:B2):W:=λ_=>Zc (.type "tuple") Y (.seq ⟨l⟩ 0) []
abbrev di(n:Nat)(l:List Z):W:=λP=>Zc (.type "dict") Y (.dict ⟨l.map<|D P⟩ n) []
abbrev c1(m:ar)(b:Nat)(q:Str)(L:Nat)(xs:List Z)(st a n:Nat):W:=di n<|("__module__",b,m)::("__qualname__",b+2,.str q<|b+1)::("__firstlineno__",b+4,.int (lV L)<|b+3)::(xs.append [("__static_attributes__",st,r a)])
abbrev c2(m:ar)(b L:Nat)(xs:List Z)(st a:Nat)(ys:List Z)(c n:Nat):W:=di n<|("__module__",b,m)::("__firstlineno__",b+4,.int (lV L)<|b+3)::(xs.append<|("__static_attributes__",st,r a)::(ys.append [("__doc__",c,.none)]))
abbrev cG(n:Str)(bs a:B2)(d:Nat)(su:B2)(h:D1)(t:Nat)(nw:String):W:=λ_=>Zc (.type "type") Y (.cls ⟨n,bs,a,d,n,O,[],su,Zb,Y,Zb⟩) [h,Y,U<|.str n t,U<|.str n<|t+8,U<|.builtin nw,U<|.bool O]
abbrev ob:ar:=.type "object"
abbrev cB(n:Str)(d b:Nat)(su:B2)(h t:Nat):W:=cG n [r b] [r<|d+1,r b,ob] d su (U<|r h) t "object.__new__"
abbrev c0(n:Str)(d:Nat)(su:B2)(t:Nat):W:=cG n [ob] [r<|d+1,ob] d su Y t "object.__new__"
abbrev fr(c l:Nat)(m:ar):W:=λ_=>Zc (.type "frame") Y .plain [U<|r c,U<|r 3,U<|r l,Y,U m,Y,U<|r 0]
abbrev is(c:Nat):W:=λ_=>Zc (.type "builtin_function_or_method") Y (.fields ⟨[.builtin "object.__init_subclass__",r c]⟩) []
abbrev su(c:Nat):W:=λ_=>Zc (.type "super") Y (.fields ⟨[r c,r c,r c]⟩) []
abbrev gd(t c:Nat):W:=λ_=>Zc (.type "getset_descriptor") Y (.fields ⟨[.str "__dict__" t,r c,.builtin "function.__dict__",.builtin "function.__dict__#set"]⟩) []
abbrev gw(t c:Nat):W:=λ_=>Zc (.type "getset_descriptor") Y (.fields ⟨[.str "__weakref__" t,r c,.builtin "ExceptionGroup.__weakref__",.none]⟩) []
abbrev N(o:nJ->Obj)(l r:nJ->BT):nJ->BT:=λP=>.node (o P) (l P)<|r P
abbrev E:nJ->BT:=λ_=>.nil
abbrev L(o:nJ->Obj):nJ->BT:=N o E E
abbrev m0:ar:=.str "__main__" 164
abbrev m1:ar:=.str "rowblade.rows" 194
abbrev m2:ar:=.str "rowblade.lines" 204
abbrev m3:ar:=.str "rowblade.errors" 755
abbrev m4:ar:=.str "rowblade.signs" 893
abbrev m5:ar:=.str "rowblade.patterns" 916
abbrev m6:ar:=.str "rowblade.stretches" 1044
abbrev m7:ar:=.str "rowblade.truths" 1102
abbrev m8:ar:=.str "rowblade.pieces" 1223
abbrev m9:ar:=.str "rowblade.walker" 1273
abbrev m10:ar:=.str "rowblade.walk" 1497
abbrev mR:ar:=.str "rowblade.linereading" 1511
abbrev W8:ar:=.str "rowblade.reading" 1729
abbrev Ht:ar:=.str "law_rowblade_k37_boxes_and_faults" 1772
abbrev d0:List Z:=[("__doc__",166,.none),("__package__",167,.none),("__loader__",168,.builtin "__main__.__loader__#opaque"),("__spec__",169,.none),("__annotations__",170,r 6),("__builtins__",171,r 4),("__file__",173,.str "/claim/cut.py" 172),("__cached__",174,.none),("_wall",193,r 21),("cut",203,r 28),("Program",234,r 45),("Line",265,r 66),("Cond",285,r 80),("Always",301,r 94),("RowIs",326,r 113)]
abbrev l0:List<|Nat×Nat:=[(1,20),(5,27),(11,34),(15,55),(20,76),(22,90),(24,102)]
abbrev d1:=d0.append [("Last",342,r 125),("Like",367,r 144),("Soon",394,r 163),("FromTo",421,r 182),("Not",446,r 201)]
abbrev l1:=l0++[(28,121),(30,133),(34,152),(39,171),(44,190)]
abbrev d2:=d1.append [("End",462,r 213),("Deed",482,r 225),("Mark",507,r 246),("Drop",523,r 258),("Print",539,r 270)]
abbrev l2:=l1++[(48,209),(50,221),(52,235),(56,254),(58,266)]
abbrev d3:=d2.append [("Done",555,r 282),("Say",580,r 301),("Swap",609,r 320),("Join",634,r 339),("Pile",661,r 358)]
abbrev l3:=l2++[(60,278),(62,290),(66,309),(72,328),(76,347)]
abbrev d4:=d3.append [("Bring",686,r 377),("Go",711,r 396),("Add",738,r 415),("Tell",754,r 427),("BladeError",774,r 439)]
abbrev l4:=l3++[(81,366),(85,385),(89,404),(94,423),(97,435)]
abbrev d5:=d4.append [("NoPattern",790,r 452),("NoLine",815,r 471),("TwoMarks",840,r 490),("NoMark",865,r 509),("Endless",892,r 528)]
abbrev l5:=l4++[(99,448),(101,460),(105,479),(109,498),(113,517)]
abbrev d6:=(d5.append [("SIGNS",896,(.str "abcdefghijklmnopqrstuvwxyzABCDEFGHIJKLMNOPQRSTUVWXYZ0123456789 !\"#$&'()*+,-./:;<=>?\x40[\\]^_`{|}~" 895)),("SMALL_LETTERS",898,.str "abcdefghijklmnopqrstuvwxyz" 897),("FIGURES",900,.str "0123456789" 899),("made_of",906,r 535),("beginning_of",915,r 542),("MOST_ITEMS",919,.int 8 918),("MOST_SIGNS",921,.int 12 920),("NEVER_PLAIN",923,.str "^$.[]*+?/" 922),("NEVER_IN_A_SET",925,.str "]^/" 924),("ONCE",927,.str "1" 926),("HOW_MANY",929,.str "*+?" 928),("may_stand_plain",936,r 549),("pattern",947,r 556),("items_of",958,r 563),("place_behind_core",967,r 570),("many_at",975,r 577),("item_of",983,r 584),("set_item",989,r 589),("is_written_plain",997,r 596),("written",1008,r 603),("written_core",1016,r 610),("may_be_empty",1023,r 617),("least_length",1029,r 622),("may_be_left_out",1036,r 629),("may_come_again",1043,r 636)]).append [("NOWHERE",1048,(.int (-1) 1047)),("stretch",1060,r 644),("found",1068,r 651),("greatest_ends",1078,r 658),("ends_behind_items",1086,r 665),("ends_with_item",1101,r 672),("TextRow",1144,r 696),("text_rows",1150,r 705)]
abbrev l6:=l5++[(122,534),(124,541),(136,548),(138,555),(150,562),(159,569),(166,576),(170,583),(178,588),(190,595),(192,602),(199,609),(207,616),(209,621),(211,628),(213,635),(217,643),(223,650),(225,657),(230,664),(234,671),(248,678),(260,704)]
abbrev d7:=d6.append [("Truths",1206,r 739),("holds",1214,r 750),("is_row_up_to",1222,r 757),("MOST_FIGURES_pieces",1226,.int 60 1225),("first_swapped",1236,r 764),("every_swapped",1249,r 771),("words_of",1255,r 776),("word_of",1264,r 783),("number_of",1272,r 790)]
abbrev l7:=l6++[(262,711),(293,749),(299,756),(303,763),(308,770),(321,775),(323,782),(328,789)]
abbrev d8:=d7.append [("Walker",1480,r 947),("given_in",1486,r 956),("numbers_of_marks",1496,r 963),("walk",1510,r 970),("COND_BEGINNINGS",1520,r 971),("MOST_ROW",1522,.int 999 1521),("MOST_FIGURES_linereading",1524,.int 3 1523),("MOST_SOON",1526,.int 3 1525),("LEAST_JOIN",1528,.int 2 1527),("MOST_SMALL",1530,.int 9 1529),("MOST_LETTERS",1532,.int 8 1531),("MOST_TEXT",1534,.int 40 1533)]
abbrev l8:=l7++[(334,796),(483,955),(485,962),(492,969)]
abbrev d9:=(d8.append [("Scan",1607,r 1023),("line_of",1617,r 1034),("line_next",1623,r 1039),("cond_next",1630,r 1046),("plain_cond_next",1639,r 1053),("row_or_pattern_next",1646,r 1060),("deed_next",1653,r 1067),("swap_next",1662,r 1074),("pile_next",1670,r 1081),("add_next",1678,r 1088),("number_next",1689,r 1095),("name_next",1697,r 1102),("words_next",1705,r 1109),("pattern_next",1713,r 1116),("may_stand",1721,r 1123),("may_swap",1728,r 1130),("MOST_LINES",1732,.int 24 1731),("read",1741,r 1137),("lines_of",1751,r 1144),("marks_of",1761,r 1151),("refuse_go_without_mark",1771,r 1158),("_law_cell_at",1781,r 1165),("_law_whole",1788,r 1172),("_law_name",1794,r 1177),("_law_word",1803,r 1184)]).append [("_law_row",1813,r 1191),("_law_number",1819,r 1196),("_law_add",1825,r 1201)]
abbrev l9:=l8++[(508,977),(540,1033),(546,1038),(554,1045),(560,1052),(572,1059),(576,1066),(601,1073),(605,1080),(610,1087),(614,1094),(622,1101),(627,1108),(632,1115),(638,1122),(644,1129),(650,1136),(655,1143),(662,1150),(670,1157),(675,1164),(679,1171),(681,1176),(684,1183),(696,1190),(705,1195),(710,1200)]
abbrev d10:=d9.append [("_law_lines",1837,r 1208),("_law_text",1845,r 1215),("law",1851,r 1220)]
abbrev l10:=l9++[(719,1207),(726,1214),(731,1219)]
abbrev eO:=tV []
abbrev lF:W:=λP=>Zc .none Y (.fields ⟨[]⟩) []
abbrev BD:W:=λP=>Zc (.type "builtin_function_or_method") Y (.fields ⟨[(.builtin "type.__prepare__"),.type "type"]⟩) []
abbrev Mj:=tV [r 80]
abbrev mh:=tV [r 225]
abbrev S_:=tV [r 439]
abbrev YA:W:=λP=>Zc (.type "function") Y (.func<|fN "stretch" "stretch" (top 64) 3 [] (r 637) .none .none (.str "rowblade.stretches" 1044) Y (r 643) .none 0) []
def od:List W->List W
 |[]=>[]
 |x::r=>x::(match r with
  |[]=>[]
  |_::r=>od r)
def br:Nat->List W->nJ->BT
 |0,_,_=>.nil
 |n+1,l,P=>(match l with
  |[]=>.nil
  |x::r=>.node (x P) (br n (od r) P)<|br n (od r.tail) P)
def ov:List W->Nat->Nat->List (Nat×W)->List W
 |[],_,_,_=>[]
 |x::l,i,n,q=>(match n.beq i with
  |true=>[]
  |false=>(match q with
   |[]=>x::ov l (i+1) n []
   |y::r=>(match y.1.beq i with
    |true=>y.2::ov l (i+1) n r
    |false=>x::ov l (i+1) n q)))
abbrev Ļ:List Z:=[("__init__",1124,r 686),("has",1133,r 693)]
abbrev ļ:List Z:=[("__init__",1168,r 717),("told_of",1180,r 724),("truth",1186,r 729),("truth_of_stretch",1196,r 736)]
abbrev Ľ:List Z:=[("__init__",1294,r 804),("want",1301,r 811),("take",1310,r 818),("take_with",1319,r 825),("go_on",1326,r 832),("meet",1336,r 839),("hand_over",1343,r 846),("finish",1351,r 853),("find_none",1358,r 860),("give",1366,r 867),("end_turn",1373,r 874),("give_hand_and_end",1380,r 881),("do",1389,r 888),("do_giving",1397,r 895),("do_swap",1405,r 902),("do_join",1413,r 909),("do_pile",1422,r 916),("do_bring",1431,r 923),("rows_on_shelves",1438,r 930),("do_add",1450,r 937),("do_tell",1458,r 944)]
abbrev ľ:List Z:=[("__init__",1555,r 985),("refuse",1562,r 992),("passes",1570,r 999),("must_pass",1578,r 1006),("while_made_of",1587,r 1013),("between",1597,r 1020)]
abbrev fk(s1:Str)(e c d b a:Nat)(l0:Bi)(m2:ar):List W:=[eO,lF,tS (a+3) l0,eO,fn s1 s1<|top c,cg s1 a (a+l0.length+3) d e b,fO s1 s1 (top c) m2<|b+5]
abbrev Oq(s1:Str)(c d a b:Nat)(w0:W):List W:=[w0,BD,c1 m2 (b+7) s1 c [] (b+12) (a+7) 4,eO,lF,cc s1 (b+2) c<|a+3,fr (a+5) (a+2) m2,eO,c2 m2 (b+7) c [] (b+12) (a+7) [] (b+13) 2,cB s1 (a+8) d [] a b,su<|a+9,is<|a+9]
abbrev BE(s1 d:Str)(g e c f a b:Nat)(l2 l4:Bi)(w0:W):List W:=[w0,BD,c1 m2 (b+7) s1 c [("__init__",(b+l2.length+17),(r<|a+13))] (b+l2.length+l2.length+17) (a+14) 5,eO,lt 4 [((c+2),(a+12))],cc s1 (b+2) c<|a+3,fr (a+5) (a+2) m2,eO,lF,tS (b+15) l2,eO,fn "__init__" d<|inClass (top e) 0,cf "__init__" d (b+12) (b+l2.length+15) (c+2) g<|a+7,fO "__init__" d (inClass (top e) 0) m2<|a+12,tS (b+l2.length+18) l4,c2 m2 (b+7) c [("__init__",(b+l2.length+17),(r<|a+13))] (b+l2.length+l2.length+17) (a+14) [] (b+l2.length+l2.length+18) 2,cB s1 (a+15) f [] a b,su<|a+16,is<|a+16]
abbrev W9(d s2:Str)(f e c a b:Nat)(l1 l3:Bi):List W:=[S_,BD,c1 m3 (b+7) d c [("__init__",(b+l1.length+17),(r<|a+13))] (b+l1.length+l1.length+17) (a+14) 5,eO,lt 4 [((c+2),(a+12))],cc d (b+2) c<|a+3,fr (a+5) (a+2) m3,eO,lF,tS (b+15) l1,eO,fn "__init__" s2<|inClass (top e) 0,cf "__init__" s2 (b+12) (b+l1.length+15) (c+2) f<|a+7,fO "__init__" s2 (inClass (top e) 0) m3<|a+12,tS (b+l1.length+18) l3,c2 m3 (b+7) c [("__init__",(b+l1.length+17),(r<|a+13))] (b+l1.length+l1.length+17) (a+14) [] (b+l1.length+l1.length+18) 2,cG d [r 439] [(r<|a+16),r 439,.type "ValueError",.type "Exception",.type "BaseException",.type "object"] (a+15) [] (U<|r a) b "ValueError.__new__",su<|a+16,is<|a+16]
abbrev jn(s1 s2:Str)(f d c e b a:Nat)(l0:Bi)(m3:ar):List W:=[eO,lF,tS (a+3) l0,eO,fn s1 s2<|inClass (top c) d,cf s1 s2 a (a+l0.length+3) e f b,fO s1 s2 (inClass (top c) d) m3<|b+5]
abbrev a0:List W:=ni [[boot_o_0,boot_o_1,boot_o_2,di 126<|("__name__",165,.str "law_rowblade_k37_boxes_and_faults" 1772)::d10,boot_o_4,boot_o_5,boot_o_6,boot_o_7,boot_o_8,boot_o_9,boot_o_10,eO,lt 0 l10,cc "<module>" 182 1 11,fr 13 3 m0],fk "_wall" 1 0 1 15 187 ["k"] m0,fk "cut" 1 2 5 22 196 ["text","rows"] m1,[eO,BD,c1 m2 213 "Program" 11 [("__init__",225,r 42)] 227 43 5,eO,lt 4 [(13,41)],cc "Program" 208 11 32,fr 34 31 m2,eO,lF,tS 221 ["self","lines"],eO,fn "__init__" "Program.__init__"<|inClass (top 4) 0,cf "__init__" "Program.__init__" 218 223 13 2 36,fO "__init__" "Program.__init__" (inClass (top 4) 0) m2 41,tS 226 ["lines"],c2 m2 213 11 [("__init__",225,r 42)] 227 43 [("__dict__",229,r 46),("__weakref__",231,r 47)] 232 4,c0 "Program" 44 [] 206,gd 228 45,gw 230 45,su 45,is 45,eO,BD,c1 m2 242 "Line" 15 [("__init__",255,r 63)] 258 64 5,eO,lt 4 [(17,62)],cc "Line" 237 15 53,fr 55 52 m2,eO,lF,tS 250 ["self","cond","deed"],eO,fn "__init__" "Line.__init__"<|inClass (top 5) 0,cf "__init__" "Line.__init__" 247 253 17 3 57,fO "__init__" "Line.__init__" (inClass (top 5) 0) m2 62,tS 256 ["cond","deed"],c2 m2 242 15 [("__init__",255,r 63)] 258 64 [("__dict__",260,r 67),("__weakref__",262,r 68)] 263 4,c0 "Line" 65 [] 235,gd 259 66,gw 261 66,su 66,is 66,eO,BD,c1 m2 273 "Cond" 20 [] 278 78 4,eO,lF,cc "Cond" 268 20 74,fr 76 73 m2,eO,c2 m2 273 20 [] 278 78 [("__dict__",280,r 81),("__weakref__",282,r 82)] 283 4,c0 "Cond" 79 [r 94,r 113,r 125,r 144,r 163,r 182,r 201,r 213] 266,gd 279 80,gw 281 80,su 80,is 80],Oq "Always" 22 80 85 286 Mj,BE "RowIs" "RowIs.__init__" 2 8 24 80 97 302 ["self","number"] ["number"] Mj]
abbrev a1:List W:=ni [Oq "Last" 28 80 116 327 Mj,BE "Like" "Like.__init__" 2 10 30 80 128 343 ["self","pattern"] ["pattern"] Mj,BE "Soon" "Soon.__init__" 3 11 34 80 147 368 ["self","many","pattern"] ["many","pattern"] Mj,BE "FromTo" "FromTo.__init__" 3 12 39 80 166 395 ["self","first","second"] ["first","second"] Mj,BE "Not" "Not.__init__" 2 13 44 80 185 422 ["self","inner"] ["inner"] Mj,Oq "End" 48 80 204 447 Mj,[eO,BD,c1 m2 470 "Deed" 50 [] 475 223 4,eO,lF,cc "Deed" 465 50 219,fr 221 218 m2,eO,c2 m2 470 50 [] 475 223 [("__dict__",477,r 226),("__weakref__",479,r 227)] 480 4,c0 "Deed" 224 [r 246,r 258,r 270,r 282,r 301,r 320,r 339,r 358,r 377,r 396,r 415,r 427] 463,gd 476 225,gw 478 225,su 225,is 225]]
abbrev a2:List W:=ni [BE "Mark" "Mark.__init__" 2 16 52 225 230 483 ["self","name"] ["name"] mh,Oq "Drop" 56 225 249 508 mh,Oq "Print" 58 225 261 524 mh,Oq "Done" 60 225 273 540 mh,BE "Say" "Say.__init__" 2 20 62 225 285 556 ["self","words"] ["words"] mh,BE "Swap" "Swap.__init__" 4 21 66 225 304 581 ["self","pattern","words","every"] ["every","pattern","words"] mh,BE "Join" "Join.__init__" 2 22 72 225 323 610 ["self","most"] ["most"] mh]
abbrev a3:List W:=ni [BE "Pile" "Pile.__init__" 3 23 76 225 342 635 ["self","shelf","most"] ["most","shelf"] mh,BE "Bring" "Bring.__init__" 2 24 81 225 361 662 ["self","shelf"] ["shelf"] mh,BE "Go" "Go.__init__" 2 25 85 225 380 687 ["self","name"] ["name"] mh,BE "Add" "Add.__init__" 3 26 89 225 399 712 ["self","first","second"] ["first","second"] mh,Oq "Tell" 94 225 418 739 mh,[tV [.type "ValueError"],BD,c1 m3 764 "BladeError" 97 [] 769 437 4,eO,lF,cc "BladeError" 759 97 433,fr 435 432 m3,eO,c2 m3 764 97 [] 769 437 [("__weakref__",771,r 440)] 772 3,cG "BladeError" [.type "ValueError"] [r 439,.type "ValueError",.type "Exception",.type "BaseException",.type "object"] 438 [r 452,r 471,r 490,r 509,r 528] (U<|r 430) 757 "ValueError.__new__",gw 770 439,su 439,is 439,S_,BD,c1 m3 782 "NoPattern" 99 [] 787 450 4,eO,lF,cc "NoPattern" 777 99 446,fr 448 445 m3,eO,c2 m3 782 99 [] 787 450 [] 788 2,cG "NoPattern" [r 439] [r 452,r 439,.type "ValueError",.type "Exception",.type "BaseException",.type "object"] 451 [] (U<|r 443) 775 "ValueError.__new__",su 452,is 452]]
abbrev a4:List W:=ni [W9 "NoLine" "NoLine.__init__" 2 31 101 455 791 ["self","row"] ["row"],W9 "TwoMarks" "TwoMarks.__init__" 2 32 105 474 816 ["self","row"] ["row"],W9 "NoMark" "NoMark.__init__" 2 33 109 493 841 ["self","row"] ["row"],W9 "Endless" "Endless.__init__" 3 34 113 512 866 ["self","row","line"] ["line","row"],[eO,lF,fn "made_of" "made_of"<|top 39,C "made_of" "made_of" 901 904 122 2 0 0 3 531 O 532 .none .none .none<|r 533,fO "made_of" "made_of" (top 39) m4 534],fk "beginning_of" 2 40 124 536 907 ["text","signs","many"] m4,fk "may_stand_plain" 1 48 136 543 930 ["sign"] m5,fk "pattern" 1 49 138 550 937 ["text","front","body","back","items"] m5,fk "items_of" 1 50 150 557 948 ["body","items","place","behind","many"] m5,fk "place_behind_core" 2 51 159 564 959 ["body","place","bracket"] m5]
abbrev a5:List W:=ni [fk "many_at" 2 52 166 571 968 ["body","place"] m5,fk "item_of" 2 53 170 578 976 ["core","many"] m5,[eO,lF,fn "set_item" "set_item"<|top 54,C "set_item" "set_item" 984 987 178 2 0 0 3 585 O 586 .none .none .none<|r 587,fO "set_item" "set_item" (top 54) m5 588],fk "is_written_plain" 2 55 190 590 990 ["signs","others"] m5,fk "written" 1 56 192 597 998 ["one","parts","signs","others","many"] m5,fk "written_core" 2 57 199 604 1009 ["signs","others"] m5,fk "may_be_empty" 1 58 207 611 1017 ["one"] m5,[eO,lF,fn "least_length" "least_length"<|top 59,C "least_length" "least_length" 1024 1027 209 1 0 0 3 618 O 619 .none .none .none<|r 620,fO "least_length" "least_length" (top 59) m5 621],fk "may_be_left_out" 1 60 211 623 1030 ["item"] m5,fk "may_come_again" 1 61 213 630 1037 ["item"] m5,[tV [(.int (0) 1049)],eO,lF,tS 1053 ["one","row","start","ends","begin"],eO,fn "stretch" "stretch"<|top 64,cg "stretch" 1050 1058 217 3 638,YA],fk "found" 2 65 223 645 1061 ["one","row"] m6,fk "greatest_ends" 2 66 225 652 1069 ["one","row","ends","item"] m6,fk "ends_behind_items" 2 67 230 659 1079 ["row","back"] m6,fk "ends_with_item" 3 68 234 666 1087 ["item","row","behind","signs","others","again","ends","place","end"] m6,[eO,BD,c1 m7 1111 "TextRow" 248 Ļ 1137 694 6,eO,lt 4 [(250,685),(255,692)],cc "TextRow" 1106 248 676,fr 678 675 m7],jn "__init__" "TextRow.__init__" 3 0 70 250 680 1116 ["self","text","number"] m7]
abbrev a6:List W:=ni [jn "has" "TextRow.has" 2 1 70 255 687 1125 ["self","one","name"] m7,[tS 1134 ["known","number","text"],c2 m7 1111 248 Ļ 1137 694 [("__dict__",1139,r 697),("__weakref__",1141,r 698)] 1142 4,c0 "TextRow" 695 [] 1104,gd 1138 696,gw 1140 696,su 696,is 696,eO,lF,fn "text_rows" "text_rows"<|top 71,C "text_rows" "text_rows" 1145 1148 260 1 0 0 3 701 O 702 .none .none .none<|r 703,fO "text_rows" "text_rows" (top 71) m7 704,eO,BD,c1 m7 1158 "Truths" 262 ļ 1199 737 8,eO,lt 4 [(264,716),(268,723),(274,728),(285,735)],cc "Truths" 1153 262 709,fr 711 708 m7,eO,lF,fn "__init__" "Truths.__init__"<|inClass (top 72) 0,C "__init__" "Truths.__init__" 1163 1166 264 2 0 0 3 713 O 714 .none .none .none<|r 715,fO "__init__" "Truths.__init__" (inClass (top 72) 0) m7 716],jn "told_of" "Truths.told_of" 3 1 72 268 718 1169 ["self","row","behind","truths","place","cond"] m7,[eO,lF,fn "truth" "Truths.truth"<|inClass (top 72) 2,C "truth" "Truths.truth" 1181 1184 274 5 0 0 3 725 O 726 .none .none .none<|r 727,fO "truth" "Truths.truth" (inClass (top 72) 2) m7 728],jn "truth_of_stretch" "Truths.truth_of_stretch" 4 3 72 285 730 1187 ["self","place","cond","row"] m7,[tS 1197 ["conds","up"],c2 m7 1158 262 ļ 1199 737 [("__dict__",1201,r 740),("__weakref__",1203,r 741)] 1204 4,c0 "Truths" 738 [] 1151,gd 1200 739,gw 1202 739,su 739,is 739],fk "holds" 2 73 293 744 1207 ["cond","row"] m7,fk "is_row_up_to" 2 74 299 751 1215 ["cond","number"] m7,fk "first_swapped" 3 77 303 758 1227 ["hand","one","words","place"] m8,fk "every_swapped" 3 78 308 765 1237 ["hand","one","words","ends","parts","kept_to","place"] m8,[eO,lF,fn "words_of" "words_of"<|top 79,C "words_of" "words_of" 1250 1253 321 1 0 0 3 772 O 773 .none .none .none<|r 774,fO "words_of" "words_of" (top 79) m8 775],fk "word_of" 2 80 323 777 1256 ["hand","number","words"] m8,fk "number_of" 1 81 328 784 1265 ["word","figures"] m8,[eO,BD,c1 m9 1282 "Walker" 334 Ľ 1473 945 25,eO,lt 4 [(336,803),(353,810),(357,817),(360,824),(371,831),(378,838),(389,845),(392,852),(402,859),(405,866),(408,873),(415,880),(419,887),(439,894),(447,901),(453,908),(459,915),(463,922),(468,929),(471,936),(480,943)],cc "Walker" 1277 334 794]]
abbrev a7:List W:=ni [[fr 796 793 m9],jn "__init__" "Walker.__init__" 2 0 83 336 798 1287 ["self","program"] m9,jn "want" "Walker.want" 1 1 83 353 805 1295 ["self"] m9,jn "take" "Walker.take" 3 2 83 357 812 1302 ["self","row","behind"] m9,jn "take_with" "Walker.take_with" 3 3 83 360 819 1311 ["self","text","truths"] m9,jn "go_on" "Walker.go_on" 1 4 83 371 826 1320 ["self"] m9,jn "meet" "Walker.meet" 3 5 83 378 833 1327 ["self","line","number","truth"] m9,jn "hand_over" "Walker.hand_over" 1 6 83 389 840 1337 ["self"] m9,jn "finish" "Walker.finish" 1 7 83 392 847 1344 ["self","line"] m9,jn "find_none" "Walker.find_none" 1 8 83 402 854 1352 ["self"] m9,jn "give" "Walker.give" 2 9 83 405 861 1359 ["self","row"] m9,jn "end_turn" "Walker.end_turn" 1 10 83 408 868 1367 ["self"] m9,jn "give_hand_and_end" "Walker.give_hand_and_end" 1 11 83 415 875 1374 ["self"] m9,jn "do" "Walker.do" 3 12 83 419 882 1381 ["self","deed","number"] m9,jn "do_giving" "Walker.do_giving" 2 13 83 439 889 1390 ["self","deed"] m9,jn "do_swap" "Walker.do_swap" 2 14 83 447 896 1398 ["self","deed"] m9,jn "do_join" "Walker.do_join" 2 15 83 453 903 1406 ["self","deed"] m9]
abbrev a8:List W:=ni [jn "do_pile" "Walker.do_pile" 2 16 83 459 910 1414 ["self","deed","things"] m9,jn "do_bring" "Walker.do_bring" 2 17 83 463 917 1423 ["self","deed","thing"] m9,jn "rows_on_shelves" "Walker.rows_on_shelves" 1 18 83 468 924 1432 ["self"] m9,jn "do_add" "Walker.do_add" 3 19 83 471 931 1439 ["self","deed","number","name","word","amount"] m9,jn "do_tell" "Walker.do_tell" 1 20 83 480 938 1451 ["self","name"] m9,[tS 1459 ["behind_marks","hand","hand_rows","lines","log","met","noted","passed","shelves","sums","taken","teller","truths","wanting"],c2 m9 1282 334 Ľ 1473 945 [("__dict__",1475,r 948),("__weakref__",1477,r 949)] 1478 4,c0 "Walker" 946 [] 1275,gd 1474 947,gw 1476 947,su 947,is 947,eO,lF,fn "given_in" "given_in"<|top 84,C "given_in" "given_in" 1481 1484 483 1 0 0 3 952 O 953 .none .none .none<|r 954,fO "given_in" "given_in" (top 84) m9 955],fk "numbers_of_marks" 1 85 485 957 1487 ["lines","numbers","number","line"] m9,fk "walk" 2 87 492 964 1499 ["program","text","rows","walker","number","row"] m10,[tS 1513 ["row ","last","/","soon ","from ","not ","end"],eO,BD,c1 mR 1542 "Scan" 508 ľ 1600 1021 10,eO,lt 4 [(510,984),(514,991),(517,998),(523,1005),(527,1012),(532,1019)],cc "Scan" 1537 508 975,fr 977 974 mR],jn "__init__" "Scan.__init__" 3 0 97 510 979 1547 ["self","row","number"] mR,jn "refuse" "Scan.refuse" 1 1 97 514 986 1556 ["self"] mR,jn "passes" "Scan.passes" 2 2 97 517 993 1563 ["self","words"] mR,jn "must_pass" "Scan.must_pass" 2 3 97 523 1000 1571 ["self","words"] mR,jn "while_made_of" "Scan.while_made_of" 2 4 97 527 1007 1579 ["self","signs","taken"] mR,jn "between" "Scan.between" 2 5 97 532 1014 1588 ["self","sign","place","inside"] mR]
abbrev a9:List W:=ni [[tS 1598 ["number","rest"],c2 mR 1542 508 ľ 1600 1021 [("__dict__",1602,r 1024),("__weakref__",1604,r 1025)] 1605 4,c0 "Scan" 1022 [] 1535,gd 1601 1023,gw 1603 1023,su 1023,is 1023],fk "line_of" 2 98 540 1028 1608 ["row","number","scan","line"] mR,[eO,lF,fn "line_next" "line_next"<|top 99,C "line_next" "line_next" 1618 1621 546 1 0 0 3 1035 O 1036 .none .none .none<|r 1037,fO "line_next" "line_next" (top 99) mR 1038],fk "cond_next" 1 100 554 1040 1624 ["scan"] mR,fk "plain_cond_next" 1 101 560 1047 1631 ["scan","many","first"] mR,fk "row_or_pattern_next" 1 102 572 1054 1640 ["scan"] mR,fk "deed_next" 1 103 576 1061 1647 ["scan"] mR,fk "swap_next" 2 104 601 1068 1654 ["scan","every","one"] mR,fk "pile_next" 1 105 605 1075 1663 ["scan","shelf"] mR,fk "add_next" 1 106 610 1082 1671 ["scan","first"] mR,fk "number_next" 3 107 614 1089 1679 ["scan","least","most","figures","number"] mR,fk "name_next" 1 108 622 1096 1690 ["scan","name"] mR,fk "words_next" 1 109 627 1103 1698 ["scan","words"] mR,fk "pattern_next" 1 110 632 1110 1706 ["scan","text"] mR,fk "may_stand" 2 111 638 1117 1714 ["cond","deed"] mR,fk "may_swap" 1 112 644 1124 1722 ["deed"] mR]
abbrev a10:List W:=ni [fk "read" 1 115 650 1131 1733 ["text","lines","marks"] W8,fk "lines_of" 1 116 655 1138 1742 ["rows","lines","number","row"] W8,fk "marks_of" 1 117 662 1145 1752 ["lines","marks","number","line"] W8,fk "refuse_go_without_mark" 2 118 670 1152 1762 ["lines","marks","number","line"] W8,fk "_law_cell_at" 2 120 675 1159 1774 ["_law_script","_law_k"] Ht,fk "_law_whole" 1 121 679 1166 1782 ["_law_told"] Ht,[eO,lF,fn "_law_name" "_law_name"<|top 122,C "_law_name" "_law_name" 1789 1792 681 1 0 0 3 1173 O 1174 .none .none .none<|r 1175,fO "_law_name" "_law_name" (top 122) Ht 1176],fk "_law_word" 1 123 684 1178 1795 ["_law_cell","_law_way","_law_rest"] Ht,fk "_law_row" 1 124 696 1185 1804 ["_law_cell","_law_row_here","_law_number_here","_law_k"] Ht,[eO,lF,fn "_law_number" "_law_number"<|top 125,C "_law_number" "_law_number" 1814 1817 705 1 0 0 3 1192 O 1193 .none .none .none<|r 1194,fO "_law_number" "_law_number" (top 125) Ht 1195,eO,lF,fn "_law_add" "_law_add"<|top 126,C "_law_add" "_law_add" 1820 1823 710 5 0 0 3 1197 O 1198 .none .none .none<|r 1199,fO "_law_add" "_law_add" (top 126) Ht 1200],fk "_law_lines" 2 127 719 1202 1826 ["_law_script","_law_number_here","_law_lines_here","_law_cell","_law_most","_law_sign"] Ht,fk "_law_text" 1 128 726 1209 1838 ["_law_line","_law_text_here"] Ht,[eO,lF,fn "law" "law"<|top 129,C "law" "law" 1846 1849 731 1 0 0 3 1216 O 1217 .none .none .none<|r 1218,fO "law" "law" (top 129) Ht 1219]]
abbrev os:List W:=a0++(a1++(a2++(a3++(a4++(a5++(a6++(a7++(a8++(a9++(a10))))))))))
abbrev tr(n:Nat)(q:List<|Nat×W):nJ->BT:=br 12<|ov os 0 n q
abbrev lf:Life:=⟨[],[],[],0,[],[],Zb,#[],[],0,Zb,Zb,Zb,0,[2000,10,10],Zb,0,O,[],[],0,Zb⟩
abbrev TA(w:dA)(os:ke):n0:=⟨tr 15 [(3,boot_o_3),(12,lF)] w.params,15,lf,⟨[]⟩,⟨0,0,0,0⟩,187,os⟩
abbrev T0(w:dA)(os:ke):n0:=⟨tr 116 [(3,di 16<|("__name__",165,.str "rowblade.lines" 204)::d0),(12,lt 0 l0),(80,c0 "Cond" 79 [r 94,r 113] 266)] w.params,116,lf,⟨[]⟩,⟨0,0,0,0⟩,327,os⟩
abbrev T1(w:dA)(os:ke):n0:=⟨tr 204 [(3,di 21<|("__name__",165,.str "rowblade.lines" 204)::d1),(12,lt 0 l1),(80,c0 "Cond" 79 [r 94,r 113,r 125,r 144,r 163,r 182,r 201] 266)] w.params,204,lf,⟨[]⟩,⟨0,0,0,0⟩,447,os⟩
abbrev T2(w:dA)(os:ke):n0:=⟨tr 273 [(3,di 26<|("__name__",165,.str "rowblade.lines" 204)::d2),(12,lt 0 l2),(225,c0 "Deed" 224 [r 246,r 258,r 270] 463)] w.params,273,lf,⟨[]⟩,⟨0,0,0,0⟩,540,os⟩
abbrev T3(w:dA)(os:ke):n0:=⟨tr 361 [(3,di 31<|("__name__",165,.str "rowblade.lines" 204)::d3),(12,lt 0 l3),(225,c0 "Deed" 224 [r 246,r 258,r 270,r 282,r 301,r 320,r 339,r 358] 463)] w.params,361,lf,⟨[]⟩,⟨0,0,0,0⟩,662,os⟩
abbrev T4(w:dA)(os:ke):n0:=⟨tr 443 [(3,di 36<|("__name__",165,.str "rowblade.errors" 755)::d4),(12,lt 0 l4),(439,cG "BladeError" [.type "ValueError"] [r 439,.type "ValueError",.type "Exception",.type "BaseException",.type "object"] 438 [] (U<|r 430) 757 "ValueError.__new__")] w.params,443,lf,⟨[]⟩,⟨0,0,0,0⟩,775,os⟩
abbrev T5(w:dA)(os:ke):n0:=⟨tr 531 [(3,di 41<|("__name__",165,.str "rowblade.errors" 755)::d5),(12,lt 0 l5)] w.params,531,lf,⟨[]⟩,⟨0,0,0,0⟩,893,os⟩
abbrev T6(w:dA)(os:ke):n0:=⟨tr 706 [(3,di 74<|("__name__",165,.str "rowblade.truths" 1102)::d6),(12,lt 0 l6)] w.params,706,lf,⟨[]⟩,⟨0,0,0,0⟩,1151,os⟩
abbrev T7(w:dA)(os:ke):n0:=⟨tr 791 [(3,di 83<|("__name__",165,.str "rowblade.walker" 1273)::d7),(12,lt 0 l7)] w.params,791,lf,⟨[]⟩,⟨0,0,0,0⟩,1275,os⟩
abbrev T8(w:dA)(os:ke):n0:=⟨tr 972 [(3,di 95<|("__name__",165,.str "rowblade.linereading" 1511)::d8),(12,lt 0 l8)] w.params,972,lf,⟨[]⟩,⟨0,0,0,0⟩,1535,os⟩
abbrev T9(w:dA)(os:ke):n0:=⟨tr 1202 [(3,di 123<|("__name__",165,.str "law_rowblade_k37_boxes_and_faults" 1772)::d9),(12,lt 0 l9)] w.params,1202,lf,⟨[]⟩,⟨0,0,0,0⟩,1826,os⟩
abbrev Tc(w:dA)(os:ke):n0:=⟨tr 1221 [] w.params,1221,lf,⟨[]⟩,⟨0,0,0,0⟩,1852,os⟩
abbrev bE:DD:=behindTheImports pw
abbrev nv:Env:={scope:=pw.main.scope,locals:=mainNs,globals:=mainNs,cells:=[],code:=(r 13),frame:=U 14}
abbrev cE:Code:=.body bE nv
abbrev BF:List Frame:=[topFrame ⟨0,0,0,0⟩]
abbrev an:D1:=(U<|r 6)
abbrev Td:DD:=(bE.drop 0).take 9
abbrev Te:DD:=(bE.drop 9).take 5
abbrev Tf:DD:=(bE.drop 14).take 5
abbrev Tg:DD:=(bE.drop 19).take 5
abbrev Th:DD:=(bE.drop 24).take 6
abbrev Ti:DD:=(bE.drop 30).take 5
abbrev Tj:DD:=(bE.drop 35).take 37
abbrev Tn:DD:=(bE.drop 72).take 11
abbrev To:DD:=(bE.drop 83).take 14
abbrev Tp:DD:=(bE.drop 97).take 30
abbrev Ml:DD:=(bE.drop 127).take 3
abbrev S0(w:dA)(os:ke):bh:=⟨pz w.params,Array.mk [],boot_drawn,boot_toks,os⟩
abbrev th0:n7:=mL Td nv cE ⟨0,0,0,0⟩ BF
abbrev th1:n7:=mL Te nv cE ⟨24,0,27,28⟩ BF
abbrev th2:n7:=mL Tf nv cE ⟨44,0,47,26⟩ BF
abbrev th3:n7:=mL Tg nv cE ⟨58,0,59,8⟩ BF
abbrev th4:n7:=mL Th nv cE ⟨76,0,80,24⟩ BF
abbrev th5:n7:=mL Ti nv cE ⟨97,0,98,8⟩ BF
abbrev th6:n7:=mL Tj nv cE ⟨113,0,117,24⟩ BF
abbrev th7:n7:=mL Tn nv cE ⟨260,0,261,77⟩ BF
abbrev th8:n7:=mL To nv cE ⟨333,0,333,8⟩ BF
abbrev th9:n7:=mL Tp nv cE ⟨507,0,507,9⟩ BF
abbrev YB:n7:=mL Ml nv cE ⟨710,0,718,110⟩ BF
abbrev thA:n7:=⟨denote fY cE,cE,⟨0,0,0,0⟩,BF⟩
abbrev thB:n7:=blockOf bE nv cE ⟨0,0,0,0⟩ BF
abbrev thF:n7:=⟨doneF .next,cE,⟨731,0,753,100⟩,BF⟩
def Ŀ:Nat->Nat->Nat->B1
 |0,a,_=>[a]
 |k+1,a,n=>a::Ŀ k (a+n % 16) (n/16)
abbrev as:BM:=Ŀ 697 2 0x131121211212113113112121121211311212112121121211212112121121211212112121121211212112121121211212112121121211212112121121211212113112123111111212112121121211212112121121281121211212113311111121211212112121121211212112121121211212112121121211212112121121211212112121121211212112121121211212112128121211212113112121121211212112123111111212113112121138133111111212112128121211212112121121211212111212112121131121211212112121121211311212112121121211212112121121211212113311112127311112127311112127311112127311731117311731111212731111212731111212731111212731111212731111212731111212731173117311731111212731111a1173111121273111121273111121273111121273117311112127311731111a111111212a1111112128121211212c1
def sl:List W->Nat->B1->List W
 |[],_,_=>[]
 |x::l,i,q=>(match q with
  |[]=>[]
  |y::r=>(match y.beq i with
   |true=>x::sl l (i+1) r
   |false=>sl l (i+1) q))
abbrev K(P:nJ):Frag:=as.zip<|(sl os 0 as).map λo=>o P
abbrev vw:ef:={pw with main:={pw.main with body:=([0,2,4,5,6,7,8,9,10,11,12,13,14,15,16,17,18,19,20,21,22,23,24,25,26,27,29,30,31,32,33,34,36,37,38,39,40,42,43,44,45,46,47,48,49,50,51,52,53,54,55,56,57,58,59,60,61,63,65,66,67,68,70,71,72,73,74,76,77,78,79,80,81,83,84,85,87,89,90,91,92,93,94,95,96,97,98,99,100,101,102,103,104,105,106,107,108,109,110,111,112,114,115,116,117,118,120,121,122,123,124,125,126,127,128,129]:B1).map top}}
abbrev lz:Bi:=["stretch"]
def pre:∀w:dA,(λos=>topGo fY pw w 11 an 12 (S0 w os)<|topStub pw)=λos=>U ((TA w os).abs,thA):=by
 exact λw=>by kernel_rfl
def W_:∀w:dA,(λos=>segRun fY pw w 11 an 1 1 (TA w os).abs thB)=λos=>U (hZ,(TA w os).abs,cE,(⟨0,0,0,0⟩:Pos)):=by
 exact λw=>by kernel_rfl
def g0:∀w:dA,(λos=>og fY pw w 11 an 1 1172 (TA w os) th0)=λos=>U (hZ,T0 w os,cE,(⟨24,0,27,28⟩:Pos)):=by
 rewrite [dz]
 exact λw=>by kernel_rfl
def g1:∀w:dA,(λos=>og fY pw w 11 an 1 1198 (T0 w os) th1)=λos=>U (hZ,T1 w os,cE,(⟨44,0,47,26⟩:Pos)):=by
 rewrite [dz]
 exact λw=>by kernel_rfl
def g2:∀w:dA,(λos=>og fY pw w 11 an 1 1075 (T1 w os) th2)=λos=>U (hZ,T2 w os,cE,(⟨58,0,59,8⟩:Pos)):=by
 rewrite [dz]
 exact λw=>by kernel_rfl
def g3:∀w:dA,(λos=>og fY pw w 11 an 1 1200 (T2 w os) th3)=λos=>U (hZ,T3 w os,cE,(⟨76,0,80,24⟩:Pos)):=by
 rewrite [dz]
 exact λw=>by kernel_rfl
def g4:∀w:dA,(λos=>og fY pw w 11 an 1 1146 (T3 w os) th4)=λos=>U (hZ,T4 w os,cE,(⟨97,0,98,8⟩:Pos)):=by
 rewrite [dz]
 exact λw=>by kernel_rfl
def g5:∀w:dA,(λos=>og fY pw w 11 an 1 1196 (T4 w os) th5)=λos=>U (hZ,T5 w os,cE,(⟨113,0,117,24⟩:Pos)):=by
 rewrite [dz]
 exact λw=>by kernel_rfl
def g6:∀w:dA,(λos=>og fY pw w 11 an 1 1055 (T5 w os) th6)=λos=>U (hZ,T6 w os,cE,(⟨260,0,261,77⟩:Pos)):=by
 rewrite [dz]
 exact λw=>by kernel_rfl
def g7:∀w:dA,(λos=>og fY pw w 11 an 1 559 (T6 w os) th7)=λos=>U (hZ,T7 w os,cE,(⟨333,0,333,8⟩:Pos)):=by
 rewrite [dz]
 exact λw=>by kernel_rfl
def g8:∀w:dA,(λos=>og fY pw w 11 an 1 1070 (T7 w os) th8)=λos=>U (hZ,T8 w os,cE,(⟨507,0,507,9⟩:Pos)):=by
 rewrite [dz]
 exact λw=>by kernel_rfl
def g9:∀w:dA,(λos=>og fY pw w 11 an 1 1190 (T8 w os) th9)=λos=>U (hZ,T9 w os,cE,(⟨710,0,718,110⟩:Pos)):=by
 rewrite [dz]
 exact λw=>by kernel_rfl
def g10:∀w:dA,(λos=>og fY pw w 11 an 1 91 (T9 w os) YB)=λos=>U (hZ,Tc w os,cE,(⟨731,0,753,100⟩:Pos)):=by
 rewrite [dz]
 exact λw=>by kernel_rfl
def fin:∀w:dA,(λos=>topRun fY pw w 11 an 2 (Tc w os).abs thF)=λos=>U (Tc w os).abs:=by
 exact λw=>by kernel_rfl
def chn(w:dA)(os:ke):∀l,l=(Td++(Te++(Tf++(Tg++(Th++(Ti++(Tj++(Tn++(To++(Tp++(Ml++[])))))))))))->topRun fY pw w 11 an (1172+(1198+(1075+(1200+(1146+(1196+(1055+(559+(1070+(1190+(91+2))))))))))) (TA w os).abs (restOf l nv cE ⟨0,0,0,0⟩ BF)=U (Tc w os).abs:=λl e=>by
 rw[e];exact kF (kA<|eI (g0 w) os)<|kF (kA<|eI (g1 w) os)<|kF (kA<|eI (g2 w) os)<|kF (kA<|eI (g3 w) os)<|kF (kA<|eI (g4 w) os)<|kF (kA<|eI (g5 w) os)<|kF (kA<|eI (g6 w) os)<|kF (kA<|eI (g7 w) os)<|kF (kA<|eI (g8 w) os)<|kF (kA<|eI (g9 w) os)<|kF (kA<|eI (g10 w) os)<|eI (fin w) os
def run(w:dA)(os:ke):topRun fY pw w 11 an (12+(1+(1172+(1198+(1075+(1200+(1146+(1196+(1055+(559+(1070+(1190+(91+2))))))))))))) (S0 w os) (topStub pw)=U (Tc w os).abs:=go_top (eI (pre w) os)<|piece_block (eI (W_ w) os)<|chn w os bE<|by kernel_rfl
def Rp:∀P,as=(K P).map (·.1):=λ_=>by kernel_rfl
abbrev H:Hook:=kHook K as Rp
abbrev H1(P:nJ):fA:=absHeap ((tr 1221 []) P) 1221 lf
abbrev SF(w:dA)(os:ke):bh:=⟨H1 w.params,Array.mk [],⟨0,0,0,0⟩,1852,os⟩
abbrev Xt(s:bh):Bool:=xlAt vw [] s&&recOk (RowW.records<|OpenRow.toRowW<|OpenLaw.row PySem.Challenge.rw_rowblade_k37_boxes_and_faults) s
def opn:∀w:dA,(fencedOpening fY pw w 22008).map (λs=>(s.heap,s.gens,s.drawn,s.toks))=U (pz w.params,Array.mk [],boot_drawn,boot_toks):=boot_open (by kernel_rfl) (by decide) λs=>by kernel_rfl
def siz:∀w:dA,((pz w.params).isNs eR&&(Array.mk []:Array xK).size == 0,(pz w.params).objs.size,(pz w.params).nsMap eR "__annotations__")=(O,11,an):=λw=>by kernel_rfl
def lk1:∀w:dA,(λos=>(staticsOk (vT pw.main.body) (pz w.params) (H1 w.params)&&namesBound pw (H1 w.params)&&gensDone (SF w os)&&laidKept (pz w.params) (H1 w.params)))=λ_=>O:=λw=>by kernel_rfl
def q1:∀w:dA,(λos=>PyProof.Rows.seen (uu (λx=>x.name)<|L3 vw) (PyProof.Rows.ownsOf vw) [] {heap:=(SF w os).heap,drawn:=(SF w os).drawn,toks:=(SF w os).toks,os:=(SF w os).os})=λ_=>PyProof.Rows.expectedOf vw:=λw=>by kernel_rfl
def q2:∀w:dA,(λos=>(SF w os).heap.bltView)=λ_=>bltViewBooted:=λw=>by kernel_rfl
def b1:∀w:dA,(λos=>(SF w os).heap.keysOk (looseW vw lz) (uu (λx=>x.name)<|L3 vw) (uu (λx=>x.fst)<|PyProof.Rows.litsOf vw)<|uu (λx=>x.name)<|PyProof.Rows.clssOf vw<|looseW vw lz)=λ_=>O:=λw=>by kernel_rfl
def b2:∀w:dA,(λos=>(SF w os).heap.accountedOkI<|vT pw.main.body)=λ_=>O:=λw=>by kernel_rfl
def b3:∀w:dA,(λos=>(SF w os).heap.isNs eR)=λ_=>O:=λw=>by kernel_rfl
def b4:∀w:dA,(λos=>(SF w os).heap.isNs sr)=λ_=>O:=λw=>by kernel_rfl
def b5:∀w:dA,(λos=>PyProof.Rows.tablesOk vw (SF w os).heap)=λ_=>O:=λw=>by kernel_rfl
def b6:∀w:dA,(λos=>Xt<|SF w os)=λ_=>O:=λw=>by kernel_rfl
def q4:∀w:dA,(λos=>PyProof.Rows.tabsOk vw<|SF w os)=λ_=>O:=λw=>by kernel_rfl
def q5:∀w:dA,(λos=>pinSeenD vw (L4 vw)<|SF w os)=λ_=>pinGoodD<|L4 vw:=λw=>by kernel_rfl
def q6:∀w:dA,(λos=>PyProof.Rows.plainSeenE vw (looseW vw lz)<|SF w os)=λ_=>PyProof.Rows.plainGoodE vw<|looseW vw lz:=λw=>by kernel_rfl
def q7:∀w:dA,(λos=>PyProof.Rows.plainSeenD vw lz<|SF w os)=λ_=>PyProof.Rows.plainGoodD vw lz:=λw=>by kernel_rfl
def q8:∀w:dA,(λos=>wideSeen vw<|SF w os)=λ_=>wideGood vw:=λw=>by kernel_rfl
def q9:∀w:dA,(λos=>clsSeenW vw lz<|SF w os)=λ_=>clsGoodW vw lz:=λw=>by kernel_rfl
def lk2:∀w:dA,(λos=>openSeen vw lz (vT pw.main.body) Xt O<|SF w os)=λ_=>openGood vw lz:=λw=>He λos=>kf (eI (q1 w) os)<|kf (eI (q2 w) os)<|kf (by
 show(_&&_&&_&&_&&_&&_&&_)=O;rw[eI (b1 w) os,eI (b2 w) os,eI (b3 w) os,eI (b4 w) os,eI (b5 w) os,eI (b6 w) os];rfl)<|kf (eI (q4 w) os)<|kf (eI (q5 w) os)<|kf (eI (q6 w) os)<|kf (eI (q7 w) os)<|kf (eI (q8 w) os)<|eI (q9 w) os
def sp{α b γ:Type}{f:α->γ}{g:b->γ}(n:Nat){a:List α}{k:List b}(d:(a.take n).map f=(k.take n).map g)(c:(a.drop n).map f=(k.drop n).map g):a.map f=k.map g:=by
 rw[<- jM n a,<- jM n k,i6,i6,d,c]
def l3a:∀w:dA,(λos=>(as.take 233).map (SF w os).heap.get?)=λ_=>((K w.params).take 233).map λp=>U p.2:=λw=>by kernel_rfl
def l3b:∀w:dA,(λos=>((as.drop 233).take 233).map (SF w os).heap.get?)=λ_=>(((K w.params).drop 233).take 233).map λp=>U p.2:=λw=>by kernel_rfl
def l3c:∀w:dA,(λos=>((as.drop 233).drop 233).map (SF w os).heap.get?)=λ_=>(((K w.params).drop 233).drop 233).map λp=>U p.2:=λw=>by kernel_rfl
def lk3:∀w:dA,(λos=>Hook.obs H<|SF w os)=λ_=>Hook.val H w:=λw=>He λos=>sp 233 (eI (l3a w) os)<|sp 233 (eI (l3b w) os)<|eI (l3c w) os
def left:LeftO pw vw lz Xt (Hook.obs H) (Hook.val H) 22008:=LeftO.of_pieces (H₁:=H1) (gs₁:=Array.mk []) (d₁:=⟨0,0,0,0⟩) (k₁:=1852) opn siz run (by decide) λw=>He λos=>kf (eI (lk1 w) os)<|kf (eI (lk2 w) os)<|eI (lk3 w) os
end KH
end
namespace L2
open PySem PySem.Spec PyProof.Rows
section
variable{κ:Type}[DecidableEq κ]
def i_(kvs:List<|κ×V)(k:κ):Option V:=(kvs.find? λa=>decide<|a.1=k).map (·.2)
def putK(kvs:List<|κ×V)(k:κ)(v:V):List<|κ×V:=
 if(kvs.any λa=>decide<|a.1=k)=O then kvs.map (λa=>if a.1=k then(a.1,v)else a)else kvs++[(k,v)]
def gD{p:κ×V}{r:List<|κ×V}{k:κ}(e:p.1=k):i_ (p::r) k=U p.2:=by simp[i_,Bc,e]
def gE{p:κ×V}{r:List<|κ×V}{k:κ}(e:¬ p.1=k):i_ (p::r) k=i_ r k:=by simp[i_,Bc,e]
theorem nP(k:κ):∀kvs:List<|κ×V,(kvs.any λa=>decide<|a.1=k)=(i_ kvs k).isSome
 |[]=>J
 |p::r=>by
  rw[rn];by_cases e:p.1=k
  .simp only[gD e,dr e,Bool.true_or,Option.isSome_some]
  .rw[gE e,dd e,Bool.false_or];exact nP k r
def lG(kvs:List<|κ×V)(k:κ)(v:V):(putK kvs k v).length<=kvs.length+1:=by
 unfold putK;split
 .rw[bX];lia
 .rw[dg,bI,uv];lia
def iy.gF{o:Option V}{u:D1}(r:iy o u):o.isSome=u.isSome:=by
 cases o with
 |none=>cases u with
  |none=>rfl
  |some _=>exact(show False from r).elim
 |some _=>cases u with
  |none=>exact(show False from r).elim
  |some _=>rfl
theorem iy.getD{o:Option V}{u:D1}{d:V}{d':ar}(r:iy o u)(rd:RelV d d'):RelV (o.getD d)<|u.getD d':=by
 cases o with
 |none=>cases u with
  |none=>exact rd
  |some _=>exact(show False from r).elim
 |some _=>cases u with
  |none=>exact(show False from r).elim
  |some _=>exact r
def KV.val{kvs:List<|κ×V}{vs:List<|κ×ar}(r:KV kvs vs)(k:κ):iy (i_ kvs k)<|qd vs k:=by
 unfold KV at r
 induction r with
 |nil=>exact hJ
 | @cons p q ps a h t f=>
  obtain⟨d,g⟩:=h;by_cases e:p.1=k
  .have c:q.1=k:=d.symm.trans e
   have b:qd (q::a) k=U q.2:=by simp[qd,Bc,c]
   rw[gD e,b];exact g
  .have c:¬ q.1=k:=λz=>e<|d.trans z
   have b:qd (q::a) k=qd a k:=by simp[qd,Bc,c]
   rw[gE e,b];exact f
theorem KV.any{kvs:List<|κ×V}{vs:List<|κ×ar}(r:KV kvs vs)(k:κ):(kvs.any λa=>decide<|a.1=k)=vs.any λa=>decide<|a.1=k:=by
 unfold KV at r
 induction r with
 |nil=>rfl
 |cons h t b=>rw[rn,rn,b,h.1]
def KV.Ot{kvs:List<|κ×V}{vs:List<|κ×ar}(r:KV kvs vs)(k:κ){y:V}{u:ar}(c:RelV y u) :
  KV (kvs.map λa=>if a.1=k then(a.1,y)else a)<|vs.map λa=>if a.1=k then(a.1,u)else a:=by
 unfold KV at r ⊢
 induction r with
 |nil=>exact .nil
 | @cons p q ps g h t d=>
  rw[dG,dG];refine .cons ?_ d;obtain⟨b,f⟩:=h;by_cases e:p.1=k
  .rw[bt e,bt<|b.symm.trans e];exact⟨b,c⟩
  .rw[ag e,ag λz=>e<|b.trans z];exact⟨b,f⟩
def KV.put{kvs:List<|κ×V}{vs:List<|κ×ar}(r:KV kvs vs)(k:κ){y:V}{u:ar}(a:RelV y u):KV (putK kvs k y)<|stored vs k u:=by
 unfold putK stored;rw[r.any k];by_cases e:(vs.any λb=>decide<|b.1=k)=O
 .rw[bt e,bt e];exact r.Ot k a
 .rw[ag e,ag e];exact Paired.snoc r ⟨J,a⟩
def KV.keys{kvs:List<|κ×V}{vs:List<|κ×ar}(r:KV kvs vs):kvs.map (·.1)=vs.map (·.1):=by
 unfold KV at r
 induction r with
 |nil=>rfl
 |cons h t a=>rw[dG,dG,a,h.1]
theorem KV.length{kvs:List<|κ×V}{vs:List<|κ×ar}(r:KV kvs vs):kvs.length=vs.length:=Paired.length r
end
def qE{P:ef}{w:dA}{k:Key}{u:ar}(r:RelV (kV k) u):(bj P w).is k u=O:=by
 cases k with
 |inl i=>obtain⟨t,e⟩:=(show ∃t,u=Value.int i t from r);subst e;exact uI P w i t
 |inr x=>obtain⟨t,e⟩:=(show ∃t,u=Value.str x t from r);subst e;exact uJ P w x t
theorem qF{P:ef}{w:dA}:∀{ks:List Key}{us:B2},Vals (ks.map kV) us->ItemsAre (bj P w) ks us
 |[],_,r=>by rw[CW]at r;cases r;exact .nil
 |k::ks,_,r=>by
  rw[dG]at r;cases r with
  |cons h t=>exact .cons (qE h)<|qF t
abbrev KT(H:Hp):List (List Key×V)->List (List Key×cw×ar)->Prop:=xI λp q=>p.1=q.1/\H q.2.1=U (.tup<|p.1.map kV)/\RelV p.2 q.2.2
def KT.val{H:Hp}{kvs:List<|List Key×V}{xs:List<|List Key×cw×ar}(r:KT H kvs xs)(k:List Key):iy (i_ kvs k)<|(xu xs k).map (·.2):=by
 induction r with
 |nil=>exact hJ
 | @cons p q ps a h t f=>
  obtain⟨d,_,g⟩:=h;by_cases e:p.1=k
  .have c:q.1=k:=d.symm.trans e
   have b:xu (q::a) k=U q.2:=by simp[xu,Bc,c]
   rw[gD e,b];exact g
  .have c:¬ q.1=k:=λz=>e<|d.trans z
   have b:xu (q::a) k=xu a k:=by simp[xu,Bc,c]
   rw[gE e,b];exact f
def KT.Ot{H:Hp}{kvs:List<|List Key×V}{xs:List<|List Key×cw×ar}(r:KT H kvs xs)(k:List Key){y:V}{u:ar}(d:RelV y u) :
  KT H (kvs.map λb=>if b.1=k then(b.1,y)else b)<|xs.map<|putAt k u:=by
 induction r with
 |nil=>exact .nil
 | @cons p q ps i h t f=>
  rw[dG,dG];refine .cons ?_ f;obtain⟨a,c,g⟩:=h;unfold putAt;by_cases e:p.1=k
  .rw[bt e,bt<|a.symm.trans e];exact⟨a,c,d⟩
  .rw[ag e,ag λz=>e<|a.trans z];exact⟨a,c,g⟩
def KT.put{H:Hp}{kvs:List<|List Key×V}{xs:List<|List Key×cw×ar}(r:KT H kvs xs)(k:List Key){b:cw}{y:V}{u:ar}(d:H b=U (.tup<|k.map kV))(a:RelV y u) :
  KT H (putK kvs k y)<|storedH xs k b u:=by
 have e:(kvs.any λc=>decide<|c.1=k)=(xu xs k).isSome:=by
  rw[nP,(r.val k).gF,Dh]
 unfold putK storedH;rw[e];by_cases q:(xu xs k).isSome=O
 .rw[bt q,bt q];exact r.Ot k a
 .rw[ag q,ag q];exact Paired.snoc r ⟨J,d,a⟩
def KT.keeps{H H':Hp}{kvs:List<|List Key×V}{xs:List<|List Key×cw×ar}(r:KT H kvs xs)(a:∀b ys,H b=U (.tup ys)->H' b=U (.tup ys)):KT H' kvs xs:=
 Paired.Nz r λ_ _ z=>⟨z.1,a _ _ z.2.1,z.2.2⟩
variable{a:cw}{A:eL}{X:Cx}{H:Hp}{ae:dm}{s:bh}{Z:St}{y:V}{u:ar}{E:ar->bh->Prop}
section
variable{P:ef}{w:dA}{h:fA}
def Mm{u:HO}(ok:jI P w H h)(e:Rd H a u):bP P w H h a u:=e.ok ok
def gG{kvs:List<|Key×V}(ok:jI P w H h)(e:Rd H a<|.dK kvs):kvs.length<=dv/\(a == hA)=Zb/\∃vs,KV kvs vs/\h.DictOf (bj P w) a vs:=
 show bP P w H h a (.dK kvs)from Mm ok e
def Tq{kvs:List<|Key×V}(ok:jI P w H h)(e:H a=U (.dK kvs)):kvs.length<=dv/\(a == hA)=Zb/\∃vs,KV kvs vs/\h.DictOf (bj P w) a vs:=gG ok<|.inl e
def kQ{ks:List Key}(ok:jI P w H h)(e:H a=U (.tup<|ks.map kV)):(rN<|bj P w).is h ks a:=by
 obtain⟨_,b,r,o,f,d,n,c⟩:=(show bP P w H h a (.tup<|ks.map kV)from ok a _ e);exact⟨o,b.toArray,n,f,d,c,by simpa using qF r⟩
def nQ{kvs:List<|List Key×V}(ok:jI P w H h)(e:Rd H a<|.dT kvs):kvs.length<=dv/\(a == hA)=Zb /\
  ∃xs,KT H kvs xs/\h.DictOfH (rN<|bj P w) a xs:=by
 obtain⟨z,y,xs,r,o,n,s,k,j,i,g,f⟩:=(show bP P w H h a (.dT kvs)from Mm ok e);refine⟨z,y,xs,r,o,n,s,k,j,i,g,λx b=>?_,f⟩;have all:∀{l:List<|List Key×V}{m:List<|List Key×cw×ar},KT H l m->∀x∈m,(rN<|bj P w).is h x.1 x.2.1:=by
  intro l m q
  induction q with
  |nil=>intro x b;exact nomatch b
  | @cons p q ps u c t d=>
   intro x b;rcases bK.mp b with e|b
   .subst e
    exact kQ ok (by rw[<- c.1];exact c.2.1)
   .exact d x b
 exact all r x b
def Tr{kvs:List<|List Key×V}(ok:jI P w H h)(e:H a=U (.dT kvs)):kvs.length<=dv/\(a == hA)=Zb /\
  ∃xs,KT H kvs xs/\h.DictOfH (rN<|bj P w) a xs:=nQ ok<|.inl e
end
def pV(H:Hp)(a:cw)(y:V)(r:Option V):Prop:=
 (∃c k,Rd H a (.dK c)/\y=kV k/\r=i_ c k)\/∃c k b,Rd H a (.dT c)/\y=.ref b/\H b=U (.tup<|k.map kV)/\r=i_ c k
def Ir(H:Hp)(a:cw)(y v:V)(H':Hp):Prop:=
 (∃c k,H a=U (.dK c)/\y=kV k/\c.length<dv/\H'=upd H a (.dK<|putK c k v)) \/
 ∃c k b,H a=U (.dT c)/\y=.ref b/\H b=U (.tup<|k.map kV)/\c.length<dv/\H'=upd H a (.dT<|putK c k v)
theorem pV.k{H:Hp}{a:cw}{kvs:List<|Key×V}{k:Key}(e:H a=U (.dK kvs)):pV H a (kV k)<|i_ kvs k:=.inl ⟨kvs,k,.inl e,J,J⟩
theorem Ir.k{H:Hp}{a:cw}{kvs:List<|Key×V}{k:Key}{v:V}(e:H a=U (.dK kvs))(b:kvs.length<dv):Ir H a (kV k) v<|upd H a<|.dK<|putK kvs k v:=.inl ⟨kvs,k,e,J,b,J⟩
section
variable{v:V}{r:ar}{o:Option V}
def Inv.big(I:Inv X ae Z H s):hA<s.heap.objs.size:=by
 have h:eR<s.heap.objs.size:=(I.mod.glob.keeps I.bk).lt;exact Lg (by decide) h
def BH{Q:ar->bh->Prop}(x:A.units+1<kd)(I:Inv X ae Z H s)(g:pV H a y<|U v)(r:RelV y u)(h:∀d s',Inv X ae Z H s'->RelV v d->Q d s') :
  eg (da X.prog X.w) A (wI (.ref a) u) Q E s:=by
 rcases g with⟨i,k,e,n,l⟩|⟨i,k,b,e,n,C,l⟩
 .subst n
  obtain⟨z,hd,vs,c,q⟩:=gG I.aZ e;obtain⟨d,j,f⟩:=iy.some_of (v:=v) (o:=qd vs k) (by rw[l];exact c.val k)
  exact wpAny_getItem_of (qE r) q.mapOf j<|h d _ (I.tok _) f
 .subst n
  cases(show u=Value.ref b from r);obtain⟨z,hd,t,c,q⟩:=nQ I.aZ e;obtain⟨d,j,f⟩:=iy.some_of (v:=v) (o:=(xu t k).map (·.2)) (by rw[l];exact c.val k)
  obtain⟨p,B,m⟩:=bD.mp j;refine wpAny_getItem_heap (ma x) (kQ I.aZ C) q B ?_;rw[m];exact h d _ (I.tok _) f
def YC{Q:ar->bh->Prop}(m:A.units+1<kd)(I:Inv X ae Z H s)(g:pV H a y o)(j:RelV y u)(h:∀s',Inv X ae Z H s'->Q (.bool o.isSome) s') :
  eg (da X.prog X.w) A (eJ .In u<|.ref a) Q E s:=by
 rcases g with⟨d,k,e,f,l⟩|⟨d,k,b,e,f,n,l⟩
 .subst f
  obtain⟨z,hd,vs,c,i⟩:=gG I.aZ e;refine wpAny_in_of (qE j) hd i.mapOf ?_;rw[<- (c.val k).gF,<- l];exact h _<|I.tok _
 .subst f
  cases(show u=Value.ref b from j);obtain⟨z,hd,p,c,i⟩:=nQ I.aZ e;refine wpAny_in_heap (ma m) (kQ I.aZ n) hd i ?_;have q:=(c.val k).gF;rw[Dh]at q;rw[<- q,<- l];exact h _<|I.tok _
def Iu{Q:ar->bh->Prop}(m:A.units+1<kd)(I:Inv X ae Z H s)(g:pV H a y o)(j:RelV y u)(h:∀s',Inv X ae Z H s'->Q (.bool<|!o.isSome) s') :
  eg (da X.prog X.w) A (eJ .NotIn u<|.ref a) Q E s:=by
 rcases g with⟨d,k,e,f,l⟩|⟨d,k,b,e,f,n,l⟩
 .subst f
  obtain⟨z,hd,vs,c,i⟩:=gG I.aZ e;refine wpAny_notIn_of (qE j) hd i.mapOf ?_;rw[<- (c.val k).gF,<- l];exact h _<|I.tok _
 .subst f
  cases(show u=Value.ref b from j);obtain⟨z,hd,p,c,i⟩:=nQ I.aZ e;refine wpAny_notIn_heap (ma m) (kQ I.aZ n) hd i ?_;have q:=(c.val k).gF;rw[Dh]at q;rw[<- q,<- l];exact h _<|I.tok _
def zb{h':fA}{t':Nat}{ob:HO}(I:Inv X ae Z H s)(mu:RO<|H a)(c:ph a s.heap h')(he:∃q,h'.get? a=U q)(new:bP X.prog X.w (upd H a ob) h' a ob) :
  Inv X ae Z (upd H a ob) {s with heap:=h',toks:=t'}:=
 I.write (x:=a) (e:=a) mu (.inl J) (λb q d z=>(c.2 b d).trans z) he new
def Ou{P:ef}{w:dA}{H':Hp}{h':fA}{kvs:List<|Key×V}{vs:List<|Key×ar}(z:kvs.length<=dv)(hd:(a == hA)=Zb)(b:KV kvs vs)(c:h'.DictOf (bj P w) a vs) :
  bP P w H' h' a<|.dK kvs:=⟨z,hd,vs,b,c⟩
def BI{H':Hp}{Q:Unit->bh->Prop}(L:A.units+1<kd)(I:Inv X ae Z H s)(g:Ir H a y v H')(B:RelV y u)(C:RelV v r)(h:∀s',Inv X ae Z H' s'->Q () s') :
  eg (da X.prog X.w) A (setItem (.ref a) u r) Q E s:=by
 rcases g with⟨f,k,e,p,l,t⟩|⟨f,k,b,e,p,G,l,t⟩
 .subst p t
  obtain⟨z,hd,vs,d,x⟩:=Tq I.aZ e;have m:vs.length<=dv:=by rw[<- d.length];exact z
  have o:(putK f k v).length<=dv:=by have:=lG f k v;lia
  refine wpAny_setItem_pairs (hsz:=m) (qE B) x λD j n=>h _ ?_;have M:∃q,D.get? a=U q:=let⟨q,_,_,i,_⟩:=j;⟨q,i⟩;exact zb I (by rw[e];exact hJ) n M<|Ou o hd (d.put k C) j
 .subst p t
  cases(show u=Value.ref b from B);obtain⟨z,hd,K,d,x⟩:=Tr I.aZ e;have m:K.length<=dv:=by rw[<- Paired.length d];exact z
  have o:(putK f k v).length<=dv:=by have:=lG f k v;lia
  refine wpAny_setItem_heap (hsz:=m) (ma L) (kQ I.aZ G) x λD j n=>h _ ?_;obtain⟨q,T,V,i,S,R,P,_,N⟩:=j;refine zb I (by rw[e];exact hJ) n ⟨q,i⟩ ⟨o,hd,_,(d.put k G C).keeps λc W F=>?_,q,T,V,i,S,R,P,N⟩
  rw[ak (RN F e (λz=>nomatch z))];exact F
end
section
variable{kvs:List<|Key×V}{k:Key}
end
def Ov(i:de):Prop:=∀ov a,ry i Zb ov a=operate [ov,a] (wI ov a)
def Iw{prog:ef}{w:dA}{A:eL}{E:ar->bh->Prop}{s:bh}{env:Env}{b a:de}{pos:Pos}{T id:String}{Q:ar->bh->Prop}
  (m:typeLookup (.type T) "__getitem__" = pure (U<|.builtin id)) (l:Ov a)
  (h:eg (da prog w) A (e6 b env) (λo f=>eg (da prog w) A (e6 a env) (λi c=>c.TypeIs o T/\eg (da prog w) A (wI o i) Q E c) E f) E s) :
  eg (da prog w) A (e6 (.Subscript b a pos) env) Q E s:=by
 refine Subscript_<|f6 h (λo f j=>f6 j (λi c d=>?_) λ_ _ x=>x) λ_ _ x=>x;obtain⟨k,d⟩:=d;unfold y_;refine ab ?_;rw[getitemInPython_of_ne k.not_modules];refine ab<|wpAny_specialOf k m ?_;have fin:eg (da prog w) A (ry a Zb o i) (λr e=>eg (da prog w) A (letTemporaryGo b o r >>= λ_=>pure r) Q E e) E c:=by
  rw[l o i];exact wpAny_operating<|f6 d (λr e g=>ab<|wpAny_letTemporaryGo<|c7 g) λ_ _ x=>x
 first
  |exact c7<|ab fin
  |exact ab<|c7<|ab fin
  |exact ab fin
def u3{X:Cx}{ae:dm}{Z:St}{H:Hp}{s:bh}{a:cw}{y:V}{o:Option V}(I:Inv X ae Z H s)(g:pV H a y o):s.TypeIs (.ref a) "dict" := by
 rcases g with⟨c,k,e,_,_⟩|⟨c,k,b,e,_,_,_⟩
 .obtain⟨_,_,vs,_,d⟩:=gG I.aZ e
  exact d.typeIs
 .obtain⟨_,_,f,_,d⟩:=nQ I.aZ e
  exact d.typeIs
def Tt(c ty:TE):TE:=λZ H Q=>c Z H λx H1=>ty Z H1 λy b=>∃a v,x=.ref a/\pV b a y (U v)/\Q v b
def Tu(d ty c:TE):TS:=λD Z H=>c Z H λv H1=>d Z H1 λx f=>ty Z f λy e=>∃a b,x=.ref a/\Ir e a y v b/\D.nx Z b
section
variable{o i e Q:de}{pos M d:Pos}{L ty N:TE}
def zc(k:X.A.units+1<kd)(m:PE X o L)(hi:PE X i ty)(l:Ov i):PE X (.Subscript o i pos)<|Tt L ty:=by
 intro ae s Z H Q I h;refine Iw PySem.F.slot_dict_getitem.lookup l<|bV (m ae s Z H _ I h) λu e b=>?_;obtain⟨x,H1,p,j,q1⟩:=b;refine bV (hi ae e Z H1 _ p q1) λz w b=>?_;obtain⟨y,q,c,f,a,v,ex,g,q2⟩:=b;subst ex
 obtain rfl:u=Value.ref a:=j
 exact⟨u3 c g,BH k c g f λr t n d=>⟨v,q,n,d,q2⟩⟩
def zd(m:X.A.units+1<kd)(p:PE X o L)(hi:PE X i ty)(l:PE X Q N)(n:fI Q (U<|.Subscript o i M) pos.line X.env=pure Zb) :
  PS X (.Assign [.Subscript o i M] Q pos)<|Tu L ty N:=by
 intro ae s Z H D I h;refine wpAny_Assign_Subscript (bV (l ae s Z H _ I h) λr d b=>?_) n;obtain⟨v,H1,z,j,q1⟩:=b;refine bV (p ae d Z H1 _ z q1) λu c b=>?_;obtain⟨x,C,w,f,q2⟩:=b;refine bV (hi ae c Z C _ w q2) λG F b=>?_;obtain⟨y,K,t,e,a,B,ex,g,k⟩:=b;subst ex
 obtain rfl:u=Value.ref a:=f
 exact BI m t g e j λE q=>⟨Z,B,q,k⟩
end
def DW{P:ef}{w:dA}{H:Hp}(h:fA)(a:hA<h.objs.size):bP P w H (h.push {cls:=.type "dict",data:=.dict #[]}) h.objs.size<|.dK []:=
 ⟨gq _,beq_eq_false_iff_ne.mpr<|Ne.symm<|dP a,[],.nil,Heap.DictOf.new h⟩
def Ow:TE:=λ_ H Q=>∀p,H p=Y->Q (.ref p) (upd H p<|.dK [])
section
variable{pos:Pos}
def u4:PE X (.Dict [] [] pos) Ow:=λae s Z H Q I h=>
 wpAny_Dict_empty ⟨.ref s.heap.objs.size,_,I.laid (a:=s.heap.objs.size) (o:=.dK []) (t':=s.toks) (λ_ _ q=>bp _ q) (bW _)<|DW s.heap I.big,J,h _<|I.aZ.fresh<|bW _⟩
end
structure M2(X:Cx)(o:de)(m:Str)(bo:Pos)(e f:de)(bF:Pos):Prop where
 base:gL o m X.env (e6 o X.env)=e6 o X.env
 qG:((hW bF<|dy [e,f] X.env).all (λx=>!x.1)&&(pB bF<|my [] X.env).all (λx=>x.1.isSome)
  && decide (([e,f]:Bz).length+([]:List rb).length+(if([]:List rb).isEmpty then 0 else 1)<30))=O
 line:(bo.endLine == bF.line)=O
 trees:hW bF (dy [e,f] X.env)=[(Zb,e6 e X.env),(Zb,e6 f X.env)]
def ŀ(H:Hp)(a:cw):Prop:=(∃b,Rd H a<|.dK b)\/∃b,Rd H a<|.dT b
def Ox{X:Cx}{ae:dm}{Z:St}{H:Hp}{s:bh}{a:cw}(I:Inv X ae Z H s)(d:ŀ H a) :
  s.TypeIs (.ref a) "dict" /\ (∀b,Value.ref a=.ref b->∃ob,s.heap.get? b=U ob/\ob.dict=Y)/\(a == hA)=Zb:=by
 rcases d with⟨f,e⟩|⟨f,e⟩
 .obtain⟨_,hd,vs,_,c⟩:=gG I.aZ e
  refine⟨c.typeIs,λb q=>?_,hd⟩;cases q;obtain⟨ob,_,_,h,g,_⟩:=c;exact⟨ob,h,g.2.1⟩
 .obtain⟨_,hd,i,_,c⟩:=nQ I.aZ e
  refine⟨c.typeIs,λb q=>?_,hd⟩;cases q;obtain⟨ob,_,_,h,g,_⟩:=c;exact⟨ob,h,g.2.1⟩
section
variable{d:V}{r:ar}{o:Option V}
def Oz{Q:ar->bh->Prop}(q:A.units+1<kd)(I:Inv X ae Z H s)(g:pV H a y o)(n:RelV y u)(rd:RelV d r)(h:∀m s',Inv X ae Z H s'->RelV (o.getD d) m->Q m s') :
  eg (da X.prog X.w) A (call (.builtin "dict.get") [.ref a,u,r]) Q E s:=by
 rcases g with⟨i,k,e,j,l⟩|⟨i,k,b,e,j,t,l⟩
 .subst j
  obtain⟨z,hd,vs,c,f⟩:=gG I.aZ e;refine tb pf f.typeIs va (tJ _ _ _) (meets_dict_get_default (bj X.prog X.w) a (qE n) hd r) ⟨_,f.mapOf,h _ _ (I.tok _) ?_⟩;rw[l];exact(c.val k).getD rd
 .subst j
  cases(show u=Value.ref b from n);obtain⟨z,hd,p,c,f⟩:=nQ I.aZ e;refine tb pf f.typeIs va (tJ _ _ _) (meetsH_dict_get_default (rN<|bj X.prog X.w) a b hd r) ⟨ma q,k,p,kQ I.aZ t,f,h _ _ (I.tok _) ?_⟩;rw[l];exact(c.val k).getD rd
end
def OA(d ty c:TE):TE:=λZ H Q=>d Z H λx H1=>∃a,x=.ref a/\ŀ H1 a/\ty Z H1 λy e=>c Z e λz b=>∃o,pV b a y o/\Q (o.getD z) b
section
variable{o e f:de}{P R:Pos}{S ty T:TE}
def DX(r:X.A.units+1<kd)(t:PE X o S)(he:PE X e ty)(v:PE X f T)(m:M2 X o "get" P e f R):PE X (.Call (.Attribute o "get" P) [e,f] [] R)<|OA S ty T:=by
 intro ae s Z H Q I h;refine wpAny_Call_method m.base m.qG m.line oC pf PySem.F.type_dict_get<|bV (t ae s Z H _ I h) λu k c=>?_;obtain⟨x,H1,b,p,a,ex,d,q1⟩:=c;subst ex
 obtain rfl:u=Value.ref a:=p
 obtain⟨t1,t2,_⟩:=Ox b d;refine⟨t1,t2,?_⟩;rw[m.trees];refine lr J<|x5<|rp<|bV (he ae k Z H1 _ b q1) λM j ⟨y,E,C,n,q2⟩=>
  rp<|bV (v ae j Z E _ C q2) λN L ⟨z,D,B,l,ov,g,q⟩=>DR ?_
 exact Oz r B g n l λG K w i=>⟨_,D,w,i,q⟩
end
section
variable{kvs:List<|Key×V}
end
end L2
namespace Pf
end Pf
namespace L2
open PySem PySem.Spec PyProof.Rows
section
variable{prog:ef}{w:dA}
end
section
variable{X:Cx}{a:de}{p d pos g:Pos}{j:TE}
end
end L2
namespace PySem
open Sem (wp)
open AutoSeq1 (wpAny_loadPart')
section
variable{prog:ef}{w:dA}{A:eL}{E:ar->bh->Prop}{s:bh}
set_option maxHeartbeats 4000000 in
def iH(l:cw)(items:Array ar)(n:Nat)(cC:Option cw)(sl:Array D1)(t:Tok) :
  Meets (Builtin.«enumerate.__new__» ⟨[.type "enumerate",.ref l],[(f5 "start",.int 1 t)]⟩) λ_ R s=>s.heap.get? l=U {cls:=.type "list",dict:=cC,data:=.seq items n,slots:=sl} /\
   R (.ok<|.ret<|.ref (s.heap.push {cls:=.type "list_iterator",data:=.fields #[.ref l,.int 0 0]}).objs.size)
    {s with heap:=(s.heap.push {cls:=.type "list_iterator",data:=.fields #[.ref l,.int 0 0]}).push {cls:=.type "enumerate",data:=.fields #[.none,.bool Zb,.ref s.heap.objs.size,xr 1,.none,.none]}}:=
 .of_wp λprog w A R s h=>by
  obtain⟨hp,g,d,tk,os⟩:=s;obtain⟨hl,h⟩:=h;have YD:=sub_enumerate;have hL:Heap.IsList (Shared.heap ⟨hp,g,d,tk,os⟩) l items:=⟨_,hl,J,n,J⟩
  wp_walk using rg hl
  refine wpAny_stack_any λst=>c7 ?_;split
  .rename_i c _ _ _ _ _
   cases(c == pa "enumerate")
   .wp_walk using rg hl,i3 hL
    exact⟨_,J,h⟩
   .wp_walk using rg hl,i3 hL
    exact⟨_,J,h⟩
  .wp_walk using rg hl,i3 hL
   exact⟨_,J,h⟩
def jo{T b:String}{self:ar}{rest:B2}{c:List<|Str×ar}(h:typeLookup (.type T) "__init__" = pure (U<|.builtin "object.__init__"))
  (g:Bind.madeBy (.type T)=pure (U b)) (f:(U b != U "object.__new__")=O) :
  Meets (Builtin.«object.__init__» ⟨self::rest,c⟩) λ_ R s=>s.TypeIs self T/\R (.ok<|.ret .none) s:=by
 refine Meets.of_wp λprog w A R s e=>?_;obtain⟨i,d⟩:=e;cases rest with
 |nil=>
  cases c with
  |nil=>exact c7 ⟨_,J,d⟩
  |cons a c=>
   repeat (any_goals (first|assumption|wp_step))
   exact⟨_,J,d⟩
 |cons a rest=>
  repeat (any_goals (first|assumption|wp_step))
  exact⟨_,J,d⟩
def iI(a b:ar):checkTypeCall "enumerate" ⟨[a],[(f5 "start",b)]⟩=pure ():=by kernel_rfl
def ja(a b:ar):checkBuiltinCall "enumerate.__new__" ⟨[.type "enumerate",a],[(f5 "start",b)]⟩=pure ():=by kernel_rfl
def u5(o a b:ar):argsOk "object.__init__" ⟨[o,a],[(f5 "start",b)]⟩:=by
 unfold argsOk;rw[signature?_of (id := "object.__init__") (n:=['_','_','t','i','n','i','_','_']) (o:=['t','c','e','j','b','o']) (by kernel_rfl) F.owner_object];kernel_rfl
set_option maxHeartbeats 4000000 in
def kR{l:cw}{items:Array ar}{t:Tok}{Q:ar->bh->Prop}(hL:s.heap.IsList l items)
  (h:∀h',IsEnum h' (s.heap.objs.size+1) s.heap.objs.size 1 .none->h'.IsListIter s.heap.objs.size l 0->h'.objs.size=s.heap.objs.size+2 ->
   (∀b o,s.heap.get? b=U o->h'.get? b=U o)->Q (.ref<|s.heap.objs.size+1) {s with heap:=h'}) :
  eg (da prog w) A (call (.type "enumerate") [.ref l] [(f5 "start",.int 1 t)]) Q E s:=by
 obtain⟨⟨c,cC,dt,sl⟩,hl,hc,n,hd⟩:=hL
 replace hc:c=.type "list" := hc
 replace hd:dt=.seq items n:=hd
 subst hc hd;have ft:=F.called_enumerate;obtain⟨c,tl,aad⟩:=ft.mro;have Ł:=ft.made;have YD:=ft.sub;have hct:=iI (.ref l)<|.int 1 t;have hcn:=ja (.ref l)<|.int 1 t;refine xp<|codeAny_of_tree ?_;show eg _ _ (callAny (.type "enumerate") _) _ _ _;refine c7 ⟨Code.quiet_builtin _<|by decide +kernel,codeAny_builtin F.entry_type_call ?_⟩
 rw[Around.under_plain (weight_type_call_type "enumerate" _ _)<|units_type_call_type "enumerate" _ _];have h1:=ft.notType;have h2:=ft.canCreate
 repeat (any_goals (first|assumption|wp_step))
 have hz:(s.heap.push {cls:=.type "list_iterator",data:=.fields #[.ref l,.int 0 0]}).objs.size=s.heap.objs.size+1:=lK ..;have he:IsEnum ((s.heap.push {cls:=.type "list_iterator",data:=.fields #[.ref l,.int 0 0]}).push
   {cls:=.type "enumerate",data:=.fields #[.none,.bool Zb,.ref s.heap.objs.size,xr 1,.none,.none]}) (s.heap.objs.size+1) s.heap.objs.size 1 .none:=by
  have:=c8 (s.heap.push {cls:=.type "list_iterator",data:=.fields #[.ref l,.int 0 0]})
   (o:={cls:=.type "enumerate",data:=.fields #[.none,.bool Zb,.ref s.heap.objs.size,xr 1,.none,.none]}) J
  rw[hz]at this;exact this
 have fin:=h _ he ⟨_,bp _<|c8 _ J,J,J⟩ (by rw[lK,hz]) λb o x=>bp _<|bp _ x
 refine ox (rz ft.plain F.entry_enumerate_new<|wpAny_of_eq hcn<|iH l items n cC sl t prog w A.in1 (wants (λobj s₁=>s₁.TypeIs obj "enumerate" /\ Q obj s₁) E) s ⟨hl,?_⟩) λr s₁ hr=>?_
 .show _/\_
  rw[hz];exact⟨⟨_,he,J⟩,fin⟩
 cases r with
 |error e=>exact hr
 |ok fl=>
  cases fl with
  |ret obj=>
   obtain⟨hT,hq⟩:=hr;have YE:=ft.init.lookup;have hbi:=ft.init.bind obj
   repeat (any_goals (first|assumption|wp_step))
   refine ox (rz ft.init.plain F.entry_object_init<|ft.init.check _ _ _ _ _ _ _ _ hT (u5 _ _ _)<|jo ft.init.lookup ft.made (by decide) prog w A.in1 (wants (λr s₂=>r=.none/\Q obj s₂) E) s₁ ⟨hT,J,hq⟩) λr₂ s₂ hr₂=>?_
   cases r₂ with
   |error e=>exact hr₂
   |ok fl₂=>
    cases fl₂ with
    |ret r=>
     obtain⟨rfl,hq⟩:=hr₂
     repeat (any_goals (first|assumption|wp_step))
    |_=>exact hr₂.elim
  |_=>exact hr.elim
end
end PySem
namespace L2
open PySem PySem.Spec PyProof.Rows
def DY{prog:ef}{w:dA}{A:eL}{it:cw}{b:BM}{n:Nat}{P:Nat->ar->Prop}{St:Nat->fA->Prop}(D:Draws prog w A it b n P St)(m:Nat):Draws prog w A it b (m+n) (λj x=>∃i,j=m+i/\P i x) λj h=>∃i,j=m+i/\St i h where
 live:=λ_ h ⟨i,_,st⟩=>D.live i h st
 frame:=λ_ h a ⟨i,e,st⟩ k=>⟨i,e,D.frame i h a st k⟩
 item:=λj s Q E hj ⟨i,e,st⟩ c=>D.item i s Q E (by lia) st λx a tk p f sb=>c x a tk ⟨i,e,p⟩ ⟨i+1,by lia,f⟩ sb
 done:=λs Q E ⟨i,e,st⟩ d=>by
  have:i=n:=by lia
  subst this;exact D.done s Q E st d
def Tv(K:bG)(m:Nat)(l:cw)(xs:List V):It:=
 ⟨λi H=>i<xs.length/\c9 K H l xs,λi H v a=>∃p x,H p=Y/\xs[i]?=U x/\v=.ref p/\a=upd H p (.tup [.int ((m+i:Nat):Int),x]),λi H=>i=xs.length/\c9 K H l xs⟩
def nR{P:ef}{w:dA}{K:bG}{C:Bz}{x1:Nat}{pos:Pos}{l e it:cw}{xs:List V}{m:Nat}(YF:e≠it)(hle:l≠e)(YE:l≠it) :
  Turn P w K (.Tuple C x1 pos) (Tv K m l xs) [e,it] e λi h=>(∃f,IsEnum h e it ((m+i:Nat):Int) f)/\h.IsListIter it l i where
 mem:=by simp
 obj:=λi h st b a=>by
  obtain⟨⟨f,p⟩,o1,e1,_,d1⟩:=st;simp only[bK,iC,hH]at a;rcases a with rfl|rfl
  .exact⟨_,p,λv q=>by cases q⟩
  .exact⟨o1,e1,λv q=>by rw[d1]at q;cases q⟩
 keep:=λi h N st k=>by
  obtain⟨⟨f,p⟩,B⟩:=st;exact⟨⟨f,k e (by simp) _ p⟩,B.at λo q=>k it (by simp) o q⟩
 item:=by
  intro X hP R hK t i ae s σ H E I g st hg;subst hP R hK;obtain⟨hi,T⟩:=hg;obtain⟨⟨f,p⟩,B⟩:=st;obtain⟨j,G,pl,S⟩:=I.list T;obtain⟨u,hu,ru⟩:=G.get<|cD hi;have ł:i<j.toArray.size:=by rw[bT,<- G.length];exact hi
  have D:=DY (Draws.list (prog:=X.prog) (w:=X.w) (A:=X.A.in1) (I.ok.hd t) it l YE j.toArray) m;refine wpAny_pyNext_enum_itemD (n:=m+j.toArray.size) D p ⟨i,J,B,pl.isList⟩ (by lia) YF (by simp only[bK,iC,hH,tW];exact⟨YF,Ne.symm hle⟩) λx N tk L a1 a2 a3 a4 Q=>?_
  obtain⟨y,ei,L⟩:=L
  have:y=i:=by lia
  subst this;have hx:x=u:=by
   rw[List.getElem?_toArray,hu]at L;exact(kL.inj L).symm
  subst hx;obtain⟨i2,ei2,a2,_⟩:=a2
  have:i2=y+1:=by lia
  subst this;refine⟨.ref s.heap.objs.size,J,?_⟩;refine wpAny_letOwnedTupleGo_enum (s:={s with heap:=N,toks:=tk+1}) a1 λM b1 b2=>?_
  have lt:∀{d o},s.heap.get? d=U o->s.heap.objs.size≠d:=λe=>A_<|dk e;have fpn:∀b∈[e,it],s.heap.objs.size≠b:=λb a=>by
   obtain⟨o1,e1,_⟩:=B;simp only[bK,iC,hH]at a;rcases a with rfl|rfl
   .exact lt p
   .exact lt e1
  have keep:∀b o,b∉[e,it]->s.heap.get? b=U o->M.get? b=U o:=λb o a q=>by
   simp only[bK,iC,hH,tW]at a;exact(b2.2 b a.1).trans<|Q b o a.1 a.2 q
  have z:H s.heap.objs.size=Y:=I.aZ.fresh<|bW _;have hT:M.get? s.heap.objs.size=U {cls:=.type "tuple",data:=.seq #[.int ((m+y:Nat):Int) tk,x]}:=(b2.2 _<|lt p).trans a3;have DZ:IsTup M s.heap.objs.size ([.int ((m+y:Nat):Int) tk,x]:B2).toArray:=⟨_,hT,J,0,J⟩;have F:∀b v,H b=U v->b∉[e,it]:=λb v q a=>by rw[(g b a).1]at q;cases q
  have I1:Inv X ae σ (upd H s.heap.objs.size<|.tup [.int ((m+y:Nat):Int),xs[y]]) {s with heap:=M,toks:=tk+1}:=by
   refine I.step (g':=s.gens) (d':=s.drawn) (t':=tk+1) (ch:=[e,it]) (λb a=>⟨(g b a).2.2.2.1,(g b a).2.1,(g b a).2.2.2.2.1,(g b a).2.2.2.2.2⟩) (λb o _ _ a e _=>keep b o a e) (λb o _ _ a e _=>⟨o.slots,keep b o a e⟩)
    (λb o a e n=>by rw[ak<|Ne.symm<|lt e];exact n) (λb o a e=>⟨o,keep b o a e⟩) (λb ys e=>by rw[ak<|aA e z];exact e) (λb o v e=>by rw[ak<|aA e z];exact e)
    (λb ps e=>⟨#[],by rw[ak<|aA e z,e];simp⟩) (λm Z=>?_) ?_ I.bare
   .obtain⟨o,es,ep,W,r⟩:=Z
    exact⟨o,es,ep,keep _ o (λa=>(g _ a).2.1 J) W,r⟩
   .intro b v e
    by_cases a:b=s.heap.objs.size
    .subst a
     rw[ah]at e;cases e;exact⟨by show 2<=dv;decide,_,.cons ⟨_,J⟩<|.cons ru .nil,DZ⟩
    .rw[ak a]at e
     refine(I.aZ b v e).pM (λc o t q=>keep c o ?_ q) (λc q=>by rw[ak<|aA q z];exact q) λc ys q=>by rw[ak<|aA q z];exact q
     rcases t with rfl|t
     .exact F c v e
     .exact F c _ t
  have eN:((m+y:Nat):Int)+1=((m+(y+1):Nat):Int):=by lia
  refine⟨.ref s.heap.objs.size,_,I1,J,⟨_,_,z,cD hi,J,J⟩,⟨⟨x,eN▸b1⟩,a2.at λo q=>(b2.2 it YF.symm).trans q⟩,λb a=>?_⟩;rw[ak<|Ne.symm<|fpn b a];exact(g b a).1
 done:=by
  intro X hP R hK t i ae s σ H E I g st hg;subst hP R hK;obtain⟨hi,T⟩:=hg;obtain⟨⟨f,p⟩,B⟩:=st;obtain⟨j,G,pl,S⟩:=I.list T;have hl:=G.length;have D:=DY (Draws.list (prog:=X.prog) (w:=X.w) (A:=X.A.in1) (I.ok.hd t) it l YE j.toArray) m;refine wpAny_pyNext_enum_endD (n:=m+j.toArray.size) D p ⟨i,by rw[bT];lia,B,pl.isList⟩ λN Q=>⟨J,?_⟩
  have F:∀b v,H b=U v->b∉[e,it]:=λb v q a=>by rw[(g b a).1]at q;cases q
  have keep:∀b o,b∉[e,it]->s.heap.get? b=U o->N.get? b=U o:=λb o a q=>by
   simp only[bK,iC,hH,tW]at a;exact Q b o a.2 q
  refine I.step (g':=s.gens) (d':=s.drawn) (t':=s.toks) (ch:=[e,it]) (λb a=>⟨(g b a).2.2.2.1,(g b a).2.1,(g b a).2.2.2.2.1,(g b a).2.2.2.2.2⟩) (λb o _ _ a e _=>keep b o a e) (λb o _ _ a e _=>⟨o.slots,keep b o a e⟩)
   (λb o a e n=>n) (λb o a e=>⟨o,keep b o a e⟩) (λ_ _ e=>e) (λ_ _ _ e=>e) (λb ps e=>⟨#[],by rw[e];simp⟩) (λm Z=>?_) (λb v e=>?_) I.bare
  .obtain⟨o,es,ep,W,r⟩:=Z
   exact⟨o,es,ep,keep _ o (λa=>(g _ a).2.1 J) W,r⟩
  .refine(I.aZ b v e).pM (λc o t q=>keep c o ?_ q) (λ_ q=>q) λ_ _ q=>q
   rcases t with rfl|t
   .exact F c v e
   .exact F c _ t
 self:=λ_ _ _ _ _ st h=>by obtain⟨⟨f,p⟩,_⟩:=st;exact sX p h
section
variable{X:Cx}
def OB(K:bG)(m:Nat)(c:TA):TI:=λb H R=>c b H λvs H1=>∃l a,vs=[.ref l]/\c9 K H1 l a/\R (Tv K m l a) H1
def Tw{a:de}{f:TA}{d:Bz}{n:Nat}{w p pos:Pos}(A:Gl X "enumerate")(z:X.mg "enumerate" = Y)(B:PA X [a] f)(x:dy [a] X.env=[(Zb,e6 a X.env)]) :
  PI X (.Tuple d n w) (.Call (.Name "enumerate" p) [a] [] pos)<|OB X.K 0 f:=by
 intro D s k H R I h;refine Call_<|gQ I A z L5<|Be (bV (B pos D s k H _ I h) λF c m=>?_) (by rw[x];rfl) J
 obtain⟨vs,H1,I1,r,q1⟩:=m;obtain⟨l,E,e,y,q⟩:=q1;subst e;obtain⟨u,rfl,o⟩:=vals1 r;cases o;obtain⟨v,G,pl,L⟩:=I1.list y;refine call_enumerate_list pl.isList λC a1 a2 _ t=>sX (s:={c with heap:=C}) a1 ?_
 have g:l<c.heap.objs.size:=let⟨_,e,_⟩:=pl.isList;dk e;refine⟨c.heap.objs.size+1,_,_,_,H1,J,I1.kept (t':=c.toks) t,nR (l:=l) (it:=c.heap.objs.size) (A_<|pI _) (dP<|ue g)<|dP g,⟨⟨_,a1⟩,a2⟩,λb i=>?_,q⟩;have j:c.heap.objs.size<=b:=by
  simp only[bK,iC,hH]at i;rcases i with rfl|rfl
  .exact cH _ _
  .exact bW _
 exact I1.pO j<|I1.aZ.fresh j
def OC{a:de}{g:TA}{d:Bz}{w k1:Nat}{B p pos i kp:Pos}(E:Gl X "enumerate")(D:X.mg "enumerate" = Y)(F:PA X [a] g)(k:dy [a] X.env=[(Zb,e6 a X.env)]) :
  PI X (.Tuple d w B) (.Call (.Name "enumerate" p) [a] [⟨U<|f5 "start",.Constant (.int 1) k1 i,kp⟩] pos)<|OB X.K 1 g:=by
 intro o s f H R I h;refine gV<|gQ I E D L5 ?_;refine PySem.W.callWith_of (P:=λ_=>True) (by rw[k];rfl) (λh _=>⟨.machine,.inr<|.inl J,.now⟩) ?_
 refine PyProof.Rows.evalArgs_kw2 J (bV (F pos o s f H _ I h) λN c t=>?_) k;obtain⟨vs,H1,L,y,q1⟩:=t;show eg _ _ (evalAll [(do let v <- e6 (.Constant (.int 1) k1 i) X.env;rO pos;pure v)]) _ _ c
 refine wpAny_evalAll_cons<|ab<|wpAny_Constant_int<|ab<|si<|c7<|wpAny_evalAll_nil ⟨trivial,?_⟩;obtain⟨l,M,e,C,q⟩:=q1;subst e;obtain⟨u,rfl,x⟩:=vals1 y;cases x;have I2:Inv X o f H1 {c with toks:=c.toks+1}:=L.tok _
 obtain⟨A,Q,pl,S⟩:=I2.list C;show eg _ _ (call (.type "enumerate") [.ref l] [(f5 "start",.int 1 c.toks)]) _ _ {c with toks:=c.toks+1}
 refine kR pl.isList λG a1 a2 _ z=>sX (s:={c with heap:=G,toks:=c.toks+1}) a1 ?_
 have j:l<c.heap.objs.size:=let⟨_,e,_⟩:=pl.isList;dk e;refine⟨c.heap.objs.size+1,_,_,_,H1,J,I2.kept (t':=c.toks+1) z,nR (m:=1) (l:=l) (it:=c.heap.objs.size) (A_<|pI _) (dP<|ue j)<|dP j,⟨⟨_,a1⟩,a2⟩,λb n=>?_,q⟩;have r:c.heap.objs.size<=b:=by
  simp only[bK,iC,hH]at n;rcases n with rfl|rfl
  .exact cH _ _
  .exact bW _
 exact I2.pO r<|I2.aZ.fresh r
end
end L2
namespace D
inductive Ky where
 |i (n:Int)|s (l:B1)
 deriving DecidableEq
inductive T where
 |non|bl (b:Bool)|int (i:Int)|str (l:B1)|tup (xs:List T)|lst (xs:List T)
 |scr (ns:Dx)
 |obj (c:Nat) (fs:List T)
 |own (k:Nat)
 |cC (ks:List Ky) (vs:List T)
inductive C where
 |val (t:T)|ol (ts:List T)|od (ks:List Ky) (vs:List T)
 |yg (t:T)
structure Ob where
 c:Nat
 fs:List C
structure S where
 r:List<|Option C
 m:List Ob
abbrev Fh:=List<|Option C
abbrev Fs:=Option<|List T
abbrev FC:=List T
abbrev FK:=Option T
abbrev FR:=List Ob
inductive Res(α:Type) where
 |ok (a:α)|bad
 |exc (c:Nat) (fs:FC) (s:S)
def Res.bind{α b:Type}(x:Res α)(f:α->Res b):Res b:=match x with
 |.ok a=>f a
 |.bad=>.bad
 |.exc c fs s=>.exc c fs s
def aa{α d:Type}{x:Res α}{f:α->Res d}{b:d}(h:x.bind f=.ok b):∃a,x=.ok a/\f a=.ok b:=by
 cases x with
 |ok a=>exact⟨a,J,h⟩
 |bad=>cases h
 |exc c fs s=>cases h
def aW{α:Type}:Option α->Res α
 |some a=>.ok a
 |none=>.bad
theorem aan{α c:Type}{x:Res α}{f:α→Res c}{b:c}{P:Prop}(k:∀a,x=.ok a→f a=.ok b→P)(h:x.bind f=.ok b):P:=(aa h).elim λa q=>k a q.1 q.2
theorem aao{α γ d:Type}{x:Res<|α×γ}{f:α×γ→Res d}{b:d}{P:Prop}(k:∀a c,x=.ok (a,c)→f (a,c)=.ok b→P)(h:x.bind f=.ok b):P:=(aa h).elim λa q=>k a.1 a.2 q.1 q.2
theorem aap{α γ δ e:Type}{x:Res<|α×γ×δ}{f:α×γ×δ→Res e}{b:e}{P:Prop}(k:∀a c d,x=.ok (a,c,d)→f (a,c,d)=.ok b→P)(h:x.bind f=.ok b):P:=(aa h).elim λa q=>k a.1 a.2.1 a.2.2 q.1 q.2
def ai{α:Type}{o:Option α}{a:α}(h:aW o=.ok a):o=U a:=by
 cases o with
 |none=>cases h
 |some b=>cases h;rfl
def gd{α:Type}(p:Prop)[Decidable p](x:α):Option α:=if p then U x else Y
def aX{α:Type}{p:Prop}[Decidable p]{x a:α}(h:gd p x=U a):p/\x=a:=by
 unfold gd at h;split at h
 .rename_i q;cases h;exact⟨q,J⟩
 .cases h
abbrev FE:=S->Res (T×S)
abbrev FT:=S->Res (Bool×S)
abbrev FL:=S->Res (FC×S)
inductive Out where
 |nx|rt (t:T)|bk|ct
abbrev FS:=S->Res (Out×S)
abbrev Fn:=FC->FR->Res (T×FR)
def Tz:T->T->FK
 |.int i,.int j=>U<|.int<|i+j
 |.str a,.str b=>gd (a.length+b.length<=1000000)<|.str<|a++b
 |.lst a,.lst b=>gd (a.length+b.length<=1000000)<|.lst<|a++b
 |_,_=>Y
def TH:T->T->FK
 |.int i,.int j=>U<|.int<|i-j
 |_,_=>Y
def TJ:T->T->FK
 |.int i,.int j=>gd (((-(2^64)<i/\i<2^64)\/(-(2^64)<j/\j<2^64))\/(i.natAbs.log2<2000000/\j.natAbs.log2<2000000))<|.int<|i*j
 |.lst a,.int k=>gd (k<1000000/\-1000000<k/\a.length*k.toNat<=1000000)<|.lst (dN k.toNat a).flatten
 |.str a,.int k=>gd (2<=k/\k<1000000/\a≠[]/\a.length*k.toNat<=1000000)<|.str (dN k.toNat a).flatten
 |_,_=>Y
def TL:T->T->FK
 |.int i,.int j=>gd (0<j/\j<1073741824)<|.int<|i/j
 |_,_=>Y
def TM:T->T->FK
 |.int i,.int j=>gd (0<j)<|.int<|i % j
 |_,_=>Y
def TN:T->T->FK
 |.int i,.int j=>gd (0<=j/\j<=1000000/\i.natAbs<2^64)<|.int<|i^j.toNat
 |_,_=>Y
def pW:T->FK
 |.int i=>U<|.int<|-i
 |_=>Y
def D4(f:Int->Int->Bool):T->T->FK
 |.int i,.int j=>U<|.bl<|f i j
 |_,_=>Y
mutual
def eqT:T->T->Bool
 |.non,.non=>O
 |.bl a,.bl b=>a == b
 |.int a,.int b=>decide<|a=b
 |.bl a,.int b=>decide<|(if a then 1 else 0:Int)=b
 |.int a,.bl b=>decide<|a=(if b then 1 else 0:Int)
 |.str a,.str b=>decide<|a=b
 |.tup a,.tup b=>iJ a b
 |.lst a,.lst b=>iJ a b
 |.scr a,.scr b=>decide<|a=b
 |.obj c a,.obj d b=>decide (c=d)&&iJ a b
 |.own a,.own b=>decide<|a=b
 |.cC ks a,.cC ls b=>decide (ks=ls)&&iJ a b
 |_,_=>Zb
def iJ:FC->FC->Bool
 |[],[]=>O
 |a::as,b::bs=>eqT a b&&iJ as bs
 |_,_=>Zb
end
mutual
theorem u6:∀t:T,eqT t t=O
 |.non=>J
 |.bl b=>by cases b<;>rfl
 |.int i=>dr J
 |.str l=>dr J
 |.tup xs=>gH xs
 |.lst xs=>gH xs
 |.scr ns=>dr J
 |.obj c xs=>by
  show(decide (c=c)&&iJ xs xs)=O;rw[dr J,gH xs];rfl
 |.own k=>dr J
 |.cC ks xs=>by
  show(decide (ks=ks)&&iJ xs xs)=O;rw[dr J,gH xs];rfl
theorem gH:∀ts:FC,iJ ts ts=O
 |[]=>J
 |t::ts=>by
  show(eqT t t&&iJ ts ts)=O;rw[u6 t,gH ts];rfl
end
def cO:T->Bool
 |.bl _=>O
 |.int _=>O
 |.str _=>O
 |.non=>O
 |_=>Zb
def all2(p:T->T->Bool):FC->FC->Bool
 |a::as,b::bs=>p a b&&all2 p as bs
 |_,_=>O
def shape:Nat->T->T->Bool
 |n+1,.tup as,.tup bs=>all2 (shape n) as bs
 |n+1,.lst as,.lst bs=>all2 (shape n) as bs
 |_,a,b=>cO a&&cO b
def Ń:T->T->FK:=λa b=>gd (shape 5 a b=O)<|.bl<|eqT a b
def ń:T->T->FK:=λa b=>gd (shape 5 a b=O)<|.bl<|!eqT a b
def mi:T->Bool
 |.non=>O
 |_=>Zb
def TQ(p:Bool)(x y:T):FK:=match y with
 |.non=>U<|.bl<|p == mi x
 |.bl b=>(match x with
  |.bl a=>U<|.bl<|p == (a == b)
  |_=>Y)
 |_=>Y
def tU:B1->B1->Bool
 |[c],l=>decide<|c∈l
 |x,l=>(bZ<|l.length+1).any λi=>decide (i+x.length<=l.length)&&((l.drop i).take x.length == x)
def Rq(x y:T):Option Bool:=match y with
 |.str l=>(match x with
  |.str x=>U<|tU x l
  |_=>Y)
 |.tup a=>gd (cO x=O/\a.all cO=O)<|a.any λy=>eqT y x
 |.lst a=>gd (cO x=O/\a.all cO=O)<|a.any λy=>eqT y x
 |_=>Y
def inD:T->T->FK:=λx y=>(Rq x y).map .bl
def OD:T->T->FK:=λx y=>(Rq x y).map λb=>.bl<|!b
def atT{α:Type}(xs:List α)(i:Int):Option α:=if 0<=i then(if i<xs.length then xs[i.toNat]? else Y)else if -(xs.length:Int)<=i then xs[(i+xs.length).toNat]? else Y
def fm(ks:List Ky)(vs:FC)(k:Ky):FK:=match ks,vs with
 |a::ks,v::vs=>if a=k then U v else fm ks vs k
 |_,_=>Y
def putK:List Ky->FC->Ky->T->List Ky×FC
 |a::ks,v::vs,k,t=>if a=k then(a::ks,t::vs)else let p:=putK ks vs k t;(a::p.1,v::p.2)
 |_,_,k,t=>([k],[t])
def gU:T->Option Ky
 |.int i=>U<|.i i
 |.str l=>U<|.s l
 |_=>Y
def u7:T->T->FK
 |.lst a,.int i=>atT a i
 |.tup a,.int i=>atT a i
 |.str l,.int i=>(atT l i).map λc=>.str [c]
 |.scr ns,.int i=>(atT ns i).map .int
 |.cC ks vs,x=>(gU x).bind<|fm ks vs
 |_,_=>Y
def YG:T->FK
 |.str l=>U<|.int l.length
 |.tup a=>U<|.int a.length
 |.lst a=>U<|.int a.length
 |.scr ns=>U<|.int ns.length
 |.cC ks _=>U<|.int ks.length
 |_=>Y
def gO(n d:Nat):D2->Nat
 |none=>d
 |some v=>if v<0 then(v+(n:Int)).toNat else min v.toNat n
def bM{α:Type}(xs:List α)(lo hi:D2):List α:=(xs.drop<|gO xs.length 0 lo).take<|gO xs.length xs.length hi-gO xs.length 0 lo
def Xb(lo hi:D2):T->FK
 |.str l=>U<|.str<|bM l lo hi
 |.lst l=>U<|.lst<|bM l lo hi
 |.scr ns=>U<|.lst<|(bM ns lo hi).map .int
 |_=>Y
def Iz:T->Option Bool
 |.bl b=>U b
 |.lst ts=>U<|!ts.isEmpty
 |_=>Y
def strsOf:FC->Option Ap
 |[]=>U []
 |.str l::ts=>(strsOf ts).map (l::·)
 |_=>Y
def fS(sep:B1):Ap->B1
 |[]=>[]
 |[a]=>a
 |a::b::r=>a++sep++fS sep (b::r)
def Mn:T->T->FK
 |.str sep,.lst ts=>(strsOf ts).bind λa=>gd ((a.map (·.length)).sum+a.length*sep.length<=1000000)<|.str<|fS sep a
 |_,_=>Y
def pre(s l:B1):Bool:=decide (s.length<=l.length)&&(l.take s.length == s)
def YH(s l:B1):Bool:=decide (s.length<=l.length)&&(l.drop (l.length-s.length) == s)
def boolsOf:FC->Option Ee
 |[]=>U []
 |.bl b::ts=>(boolsOf ts).map (b::·)
 |_=>Y
def TU:T->FK
 |.lst ts=>(boolsOf ts).map λbs=>.bl<|bs.all id
 |_=>Y
def TV:T->FK
 |.lst ts=>(boolsOf ts).map λbs=>.bl<|bs.any id
 |_=>Y
def Mp:T->FK
 |.lst a=>U<|.lst a
 |.tup a=>U<|.lst a
 |_=>Y
def aV:FE:=λ_=>.bad
def cF(t:T):FE:=λs=>.ok (t,s)
def kG(s:S)(i:Nat)(c:C):S:={s with r:=s.r.set i (U c)}
def vF(i:Nat):FE:=λs=>match s.r[i]? with
 |U<|U<|.val t=>.ok (t,s)
 |U<|U<|.ol ts=>.ok (.lst ts,kG s i<|.val<|.lst ts)
 |U<|U<|.od ks ts=>.ok (.cC ks ts,kG s i<|.val<|.cC ks ts)
 |_=>.bad
def dF(g:T->FK)(a:FE):FE:=λs=>(a s).bind λp=>(aW<|g p.1).bind λt=>.ok (t,p.2)
def a_(g:T->T->FK)(a b:FE):FE:=λs=>(a s).bind λp=>(b p.2).bind λq=>(aW<|g p.1 q.1).bind λt=>.ok (t,q.2)
def cj:FL:=λs=>.ok ([],s)
def bH(a:FE)(r:FL):FL:=λs=>(a s).bind λp=>(r p.2).bind λq=>.ok (p.1::q.1,q.2)
def fH:FL:=λ_=>.bad
def bA(g:FC->FK)(a:FL):FE:=λs=>(a s).bind λp=>(aW<|g p.1).bind λt=>.ok (t,p.2)
def fX(ts:FC):FK:=gd (ts.length<=1000)<|.tup ts
def jq(ts:FC):FK:=gd (ts.length<=1000)<|.lst ts
def pX:FT:=λ_=>.bad
def tB(a:FE):FT:=λs=>(a s).bind λp=>(aW<|Iz p.1).bind λb=>.ok (b,p.2)
def pY(a b:FT):FT:=λs=>(a s).bind λp=>if p.1 then b p.2 else .ok (Zb,p.2)
def kT(a b:FT):FT:=λs=>(a s).bind λp=>if p.1 then .ok (O,p.2)else b p.2
def dS(a:FT):FT:=λs=>(a s).bind λp=>.ok (!p.1,p.2)
def dM:FT:=λs=>.ok (O,s)
def Rr:T->Option Bool
 |.bl b=>U b
 |_=>Y
def pZ(a b:FE):FE:=λs=>(a s).bind λp=>(aW<|Rr p.1).bind λk=>if k then b p.2 else .ok (.bl Zb,p.2)
def BJ(a:FE):FE:=λs=>(a s).bind λp=>(aW<|Rr p.1).bind λk=>.ok (.bl<|!k,p.2)
def u_(c:FT)(a b:FE):FE:=λs=>(c s).bind λp=>if p.1 then a p.2 else b p.2
abbrev FO:=S->Res (D2×S)
def rP:FO:=λs=>.ok (Y,s)
def TY:T->D2
 |.int i=>U i
 |_=>Y
def jh(a:FE):FO:=λs=>(a s).bind λp=>(aW<|TY p.1).bind λi=>.ok (U i,p.2)
def lH(a:FE)(lo hi:FO):FE:=λs=>(a s).bind λp=>(lo p.2).bind λq=>(hi q.2).bind λz=>(aW<|Xb q.1 z.1 p.1).bind λt=>.ok (t,z.2)
def rQ:Option (Option C)->Fs
 |U<|U<|.ol ts=>U ts
 |_=>Y
def vc(i:Nat)(b:FE):FE:=λs=>(aW<|rQ s.r[i]?).bind λ_=>(b s).bind λp=>(aW<|rQ p.2.r[i]?).bind λts=>(aW<|u7 (.lst ts) p.1).bind λt=>.ok (t,p.2)
def gW(tab:Ap)(c f:Nat):Option Nat:=(tab[c]?).bind λns=>ns.idxOf? f
def aB(tab:Ap)(f:Nat)(a:FE):FE:=λs=>(a s).bind λp=>match p.1 with
 |.obj c fs=>(aW<|(gW tab c f).bind λj=>fs[j]?).bind λt=>.ok (t,p.2)
 |.own k=>(aW<|(p.2.m[k]?).bind λob=>(gW tab ob.c f).bind λj=>ob.fs[j]?).bind λc=>(match c with
  |.val t=>.ok (t,p.2)
  |_=>.bad)
 |_=>.bad
def iK(c n:Nat)(fl:FL):FE:=λs=>(fl s).bind λp=>if p.1.length=n then .ok (.obj c p.1,p.2)else .bad
def jr(c:Nat)(g:Fn)(fl:FL):FE:=λs=>(fl s).bind λp=>match g (.own p.2.m.length::p.1) (p.2.m++[⟨c,[]⟩])with
 |.ok (.non,b)=>.ok (.own p.2.m.length,{p.2 with m:=b})
 |.exc c fs a=>.exc c fs {p.2 with m:=a.m}
 |_=>.bad
def OE(c:Nat):T->FK
 |.lst ts=>U<|.obj c [.lst ts]
 |_=>Y
def aq(g:Fn)(ds:FC)(fl:FL):FE:=λs=>(fl s).bind λp=>match g (p.1++ds) p.2.m with
 |.ok q=>.ok (q.1,{p.2 with m:=q.2})
 |.bad=>.bad
 |.exc c fs a=>.exc c fs {p.2 with m:=a.m}
def aD(g:Nat->Option Fn)(o:FE)(fl:FL):FE:=λs=>(o s).bind λp=>match p.1 with
 |.own k=>(aW<|(p.2.m[k]?).bind λob=>g ob.c).bind λh=>aq h [] (λs=>(fl s).bind λq=>.ok (.own k::q.1,q.2)) p.2
 |.obj c fs=>(aW<|g c).bind λh=>aq h [] (λs=>(fl s).bind λq=>.ok (.obj c fs::q.1,q.2)) p.2
 |_=>.bad
def Xc:T->Fs
 |.lst ts=>U ts
 |.tup ts=>U ts
 |.str l=>U<|l.map λc=>.str [c]
 |.scr ns=>U<|ns.map .int
 |_=>Y
def iL(a:FE):FL:=λs=>(a s).bind λp=>(aW<|Xc p.1).bind λts=>.ok (ts,p.2)
def lW(lo:Int)(n:Nat):FC:=(bZ n).map λk=>.int<|lo+(k:Nat)
def mj:FC->Fs
 |[.int j]=>gd (j<1000000/\-1000000<j)<|lW 0 j.toNat
 |[.int i,.int j]=>gd (i<1000000/\-1000000<i/\j<1000000/\-1000000<j)<|lW i (j-i).toNat
 |[.int i,.int j,.int k]=>gd (k=-1/\i<1000000/\-1000000<i/\j<1000000/\-1000000<j)<|(bZ (i-j).toNat).map λk=>.int<|i-(k:Nat)
 |_=>Y
def ze(g:FC->Fs)(a:FL):FL:=λs=>(a s).bind λp=>(aW<|g p.1).bind λts=>.ok (ts,p.2)
def dO:Int->FC->FC
 |_,[]=>[]
 |n,t::ts=>.tup [.int n,t]::dO (n+1) ts
def TZ(n:Int):T->Fs
 |.lst ts=>U<|dO n ts
 |_=>Y
def gI(n:Int)(a:FE):FL:=λs=>(a s).bind λp=>(aW<|TZ n p.1).bind λts=>.ok (ts,p.2)
abbrev FG:=T->Fh->Option Fh
def setG(i:Nat):FG:=λt r=>U<|r.set i<|U<|.val t
def zf:B1->FC->Fh->Option Fh
 |[],[],r=>U r
 |i::is,t::ts,r=>zf is ts<|r.set i<|U<|.val t
 |_,_,_=>Y
def eV(is:B1):FG:=λt r=>match t with
 |.tup ts=>zf is ts r
 |_=>Y
def IA(r:Fh)(j:Nat):Fh:=match r[j]? with
 |U<|U<|.ol ts=>r.set j<|U<|.val<|.lst ts
 |_=>r
def kU:B1->Fh->Fh
 |[],r=>r
 |j::js,r=>kU js<|IA r j
def jt(k:Nat)(js:B1)(r:Fh):Fh:=dN k Y++js.map λj=>match r[j]? with
 |U<|U<|.val t=>U<|.val t
 |_=>Y
def bz(g:FG)(c:FT)(e:FE)(b:Fh):FC->FR->Res (FC×FR)
 |[],m=>.ok ([],m)
 |t::ts,m=>(aW<|g t b).bind λb1=>(c ⟨b1,m⟩).bind λp=>if p.1 then(e p.2).bind λq=>(bz g c e b ts q.2.m).bind λz=>.ok (q.1::z.1,z.2)else bz g c e b ts p.2.m
def bQ(src:FL)(k:Nat)(js:B1)(g:FG)(c:FT)(e:FE):FL:=λs=>(src s).bind λp=>if p.1.length<=1000000 then
  (bz g c e (jt k js<|kU js p.2.r) p.1 p.2.m).bind λq=>.ok (q.1,⟨kU js p.2.r,q.2⟩)else .bad
def dB(fl:FL):FE:=λs=>(fl s).bind λp=>.ok (.lst p.1,p.2)
def aI:FS:=λs=>.ok (.nx,s)
def cY:FS:=λ_=>.bad
def af(a b:FS):FS:=λs=>(a s).bind λp=>match p.1 with
 |.nx=>b p.2
 |o=>.ok (o,p.2)
def aN(i:Nat)(a:FE):FS:=λs=>(a s).bind λp=>.ok (.nx,kG p.2 i<|.val p.1)
def mq(i:Nat)(a:FL):FS:=λs=>(a s).bind λp=>.ok (.nx,kG p.2 i<|.ol p.1)
def T_(g:FG)(a:FE):FS:=λs=>(a s).bind λp=>(aW<|g p.1 p.2.r).bind λr=>.ok (.nx,{p.2 with r:=r})
def az(a:FE):FS:=λs=>(a s).bind λp=>.ok (.rt p.1,p.2)
def aQ(a:FE):FS:=λs=>(a s).bind λp=>.ok (.nx,p.2)
def bB(c:FT)(a b:FS):FS:=λs=>(c s).bind λp=>if p.1 then a p.2 else b p.2
def mw(i:Nat)(a:FE):FS:=λs=>(aW<|rQ s.r[i]?).bind λ_=>(a s).bind λp=>(aW<|rQ p.2.r[i]?).bind λts=>(aW<|gd (ts.length<1000000) ts).bind λts=>.ok (.nx,kG p.2 i<|.ol<|ts++[p.1])
def dJ(i:Nat)(b a:FE):FS:=λs=>(a s).bind λp=>(aW<|rQ p.2.r[i]?).bind λ_=>(b p.2).bind λq=>(aW<|rQ q.2.r[i]?).bind λts=>(aW<|TY q.1).bind λj=>(aW<|gd (0<=j/\j<ts.length)<|ts.set j.toNat p.1).bind λc=>.ok (.nx,kG q.2 i<|.ol c)
def IB(g:T->T->FK)(i:Nat)(a:FE):FS:=λs=>match s.r[i]? with
 |U<|U<|.val x=>(a s).bind λp=>(aW<|g x p.1).bind λt=>.ok (.nx,kG p.2 i<|.val t)
 |_=>.bad
def setAt(fs:List C)(j:Nat)(c:C):Option<|List C:=if j<fs.length then U (fs.set j c)else if j=fs.length then U (fs++[c])else Y
def dY(tab:Ap)(f:Nat)(c:C)(ob:Ob):Option Ob:=(gW tab ob.c f).bind λj=>(setAt ob.fs j c).map λfs=>⟨ob.c,fs⟩
def aL(tab:Ap)(f:Nat)(o a:FE):FS:=λs=>(a s).bind λp=>(o p.2).bind λq=>match q.1 with
 |.own k=>(aW<|(q.2.m[k]?).bind<|dY tab f<|.val p.1).bind λob=>.ok (.nx,{q.2 with m:=q.2.m.set k ob})
 |_=>.bad
def b7(g:FG)(b:FS):FC->FS
 |[],s=>.ok (.nx,s)
 |t::ts,s=>(aW<|g t s.r).bind λr=>(b ⟨r,s.m⟩).bind λp=>match p.1 with
  |.nx=>b7 g b ts p.2
  |.ct=>b7 g b ts p.2
  |.bk=>.ok (.nx,p.2)
  |.rt t=>.ok (.rt t,p.2)
def fq(src:FL)(g:FG)(b:FS):FS:=λs=>(src s).bind λp=>b7 g b p.1 p.2
def fJ(c:FT)(b:FS):Nat->FS
 |0,_=>.bad
 |n+1,s=>(c s).bind λp=>if p.1 then(b p.2).bind λq=>(match q.1 with
  |.nx=>fJ c b n q.2
  |.ct=>fJ c b n q.2
  |.bk=>.ok (.nx,q.2)
  |.rt t=>.ok (.rt t,q.2))else .ok (.nx,p.2)
def kW(n:Nat)(c:FT)(b:FS):FS:=fJ c b n
def nS(c:Nat)(fl:FL):FE:=λs=>(fl s).bind λp=>.ok (.own p.2.m.length,{p.2 with m:=p.2.m++[⟨c,[.ol p.1]⟩]})
def aG(a n:Nat)(b:FS):Fn:=λts m=>if ts.length=a then(b ⟨ts.map (λt=>U<|.val t)++dN (n-ts.length) Y,m⟩).bind λp=>match p.1 with
 |.rt t=>.ok (t,p.2.m)
 |.nx=>.ok (.non,p.2.m)
 |_=>.bad else .bad
mutual
def noOwn:T->Bool
 |.own _=>Zb
 |.tup xs=>aH xs
 |.lst xs=>aH xs
 |.obj _ xs=>aH xs
 |.cC _ xs=>aH xs
 |_=>O
def aH:FC->Bool
 |[]=>O
 |t::ts=>noOwn t&&aH ts
end
def aS(g:Fn):Fn:=λts m=>if aH ts=O then(match g ts []with
 |.ok q=>if noOwn q.1=O then .ok (q.1,m)else .bad
 |.bad=>.bad
 |.exc c fs s=>if aH fs=O then .exc c fs ⟨s.r,m⟩else .bad)else .bad
end D
namespace D
open PySem L2
abbrev SV(l:B1):V:=.str ⟨l.toArray⟩
structure KT where
 K:bG
 P:ef
 w:dA
 cn:Bi
 fn:List Bi
def iz(B:KT)(c:Nat)(C:cw)(ns:Bi):Prop:=∃n,B.cn[c]?=U n/\B.fn[c]?=U ns/\ns.Nodup/\pH B.K eR n=U (U<|.ref C)
def iz.eq{B:KT}{c:Nat}{C j:cw}{ns i:Bi}(h:iz B c C ns)(h':iz B c j i):C=j/\ns=i:=by
 obtain⟨n,a,b,_,d⟩:=h;obtain⟨k,g,f,_,e⟩:=h';rw[a]at g;cases g;rw[b]at f;cases f;rw[d]at e;cases e;exact⟨J,J⟩
def jb:Ky->Key
 |.i n=>.inl n
 |.s l=>.inr ⟨l.toArray⟩
inductive ju where
 |loc (i:Nat)|ob (k:Nat)|fld (k j:Nat)
 deriving DecidableEq
structure G where
 HF:Hp
 o:cw->Option ju
 al:BM
def _root_.L2.Fz(H:Hp)(a:cw)(u:HO):Prop:=∃o,H a=U (.f9 o u)
def _root_.L2.Fz.same{H H':Hp}{a:cw}{u:HO}(h:Fz H a u)(s:aK H H'):Fz H' a u:=let⟨o,q⟩:=h;⟨o,s _ _ q⟩
def _root_.L2.Fz.rd{H:Hp}{a:cw}{u:HO}(h:Fz H a u):Rd H a u:=.inr h
mutual
def Rep(B:KT)(al:BM)(H:Hp):T->V->Prop
 |.non,v=>v=.non
 |.bl b,v=>v=.bl b
 |.int i,v=>v=.int i
 |.str l,v=>v=SV l/\l.length<=1000000
 |.tup ts,v=>∃a vs,v=.ref a/\kM B.K H a vs/\au B al H ts vs
 |.lst ts,v=>∃a vs,v=.ref a/\H a=U (.lst vs)/\au B al H ts vs
 |.scr ns,v=>∃a,v=.ref a/\c9 B.K H a (ns.map V.int)
 |.obj c ts,v=>∃a C dx ns vs,v=.ref a/\iz B c C ns/\H a=U (.ins C dx<|ns.zip vs)/\vs.length<=ns.length/\H dx=U (.own a)/\au B al H ts vs
 |.own k,v=>∃a,v=.ref a/\al[k]?=U a
 |.cC ks ts,v=>∃a vs,v=.ref a/\Fz H a (.dK<|(ks.map jb).zip vs)/\ks.length=vs.length/\au B al H ts vs
def au(B:KT)(al:BM)(H:Hp):FC->List V->Prop
 |[],vs=>vs=[]
 |t::ts,vs=>∃v r,vs=v::r/\Rep B al H t v/\au B al H ts r
end
def b8{K:bG}{H H':Hp}(s:aK H H'){a:cw}{xs:List V}(q:kM K H a xs):kM K H' a xs:=by
 rcases q with(q|⟨o,q⟩)|q
 .exact .inl<|.inl<|s _ _ q
 .exact .inl<|.inr ⟨o,s _ _ q⟩
 .exact .inr q
def cZ{α:Type}{l m:List α}(p:l <+: m){k:Nat}{a:α}(h:l[k]?=U a):m[k]?=U a:=by
 obtain⟨r,rfl⟩:=p;rw[e_ (du.mp h).1];exact h
variable{B:KT}{al d:BM}{H H' HF z:Hp}
mutual
theorem Rep.mv(p:al <+: d)(s:aK H H'):∀{t:T}{v:V},Rep B al H t v->Rep B d H' t v
 |.non,_,h=>h
 |.bl _,_,h=>h
 |.int _,_,h=>h
 |.str _,_,h=>h
 |.tup ts,_,h=>by
  obtain⟨a,vs,e,q,r⟩:=h;exact⟨a,vs,e,b8 s q,au.mv p s r⟩
 |.lst ts,_,h=>by
  obtain⟨a,vs,e,q,r⟩:=h;exact⟨a,vs,e,s _ _ q,au.mv p s r⟩
 |.scr ns,_,h=>by
  obtain⟨a,e,q⟩:=h;exact⟨a,e,s.seq q⟩
 |.obj c ts,_,h=>by
  obtain⟨a,C,dx,ns,vs,e,z,q,l,q2,r⟩:=h;exact⟨a,C,dx,ns,vs,e,z,s _ _ q,l,s _ _ q2,au.mv p s r⟩
 |.own k,_,h=>by
  obtain⟨a,e,q⟩:=h;exact⟨a,e,cZ p q⟩
 |.cC ks ts,_,h=>by
  obtain⟨a,vs,e,q,l,r⟩:=h;exact⟨a,vs,e,q.same s,l,au.mv p s r⟩
theorem au.mv(p:al <+: d)(s:aK H H'):∀{ts:FC}{vs:List V},au B al H ts vs->au B d H' ts vs
 |[],_,h=>h
 |t::ts,_,h=>by
  obtain⟨v,r,e,h1,h2⟩:=h;exact⟨v,r,e,Rep.mv p s h1,au.mv p s h2⟩
end
def Rep.same(s:aK H H'){t:T}{v:V}(h:Rep B al H t v):Rep B al H' t v:=h.mv fh s
def au.same(s:aK H H'){t:FC}{v:List V}(h:au B al H t v):au B al H' t v:=h.mv fh s
theorem au.len:∀{ts:FC}{vs:List V},au B al H ts vs->ts.length=vs.length
 |[],_,h=>by cases(show _=[]from h);rfl
 |t::ts,_,h=>by
  obtain⟨v,r,rfl,_,a⟩:=h;simp[au.len a]
theorem au.get:∀{ts:FC}{vs:List V},au B al H ts vs->∀{i:Nat}{t:T},ts[i]?=U t->∃v,vs[i]?=U v/\Rep B al H t v
 |[],_,_,_,_,e=>by simp at e
 |t::ts,_,h,0,_,e=>by
  obtain⟨v,r,rfl,c,_⟩:=h;simp at e;subst e;exact⟨v,J,c⟩
 |t::ts,_,h,i+1,_,e=>by
  obtain⟨v,r,rfl,_,b⟩:=h;obtain⟨a,f,d⟩:=au.get b (i:=i) (by simpa using e)
  exact⟨a,by simpa using f,d⟩
theorem au.vd:∀{ts:FC}{vs:List V},au B al H ts vs->∀{i:Nat}{v:V},vs[i]?=U v->∃t,ts[i]?=U t/\Rep B al H t v
 |[],_,h,_,_,e=>by have h:_=[]:=h;subst h;simp at e
 |t::ts,_,h,0,_,e=>by
  obtain⟨v,r,rfl,c,_⟩:=h;simp at e;subst e;exact⟨t,J,c⟩
 |t::ts,_,h,i+1,_,e=>by
  obtain⟨v,r,rfl,_,b⟩:=h;obtain⟨a,f,d⟩:=au.vd b (i:=i) (by simpa using e)
  exact⟨a,by simpa using f,d⟩
theorem au.app:∀{ts us:FC}{vs b:List V},au B al H ts vs->au B al H us b->au B al H (ts++us) (vs++b)
 |[],_,_,_,h,a=>by have h:_=[]:=h;subst h;exact a
 |t::ts,_,_,_,h,a=>by
  obtain⟨v,r,rfl,d,c⟩:=h;exact⟨v,_,J,d,c.app a⟩
theorem au.drop:∀{ts:FC}{vs:List V}(n:Nat),au B al H ts vs->au B al H (ts.drop n) (vs.drop n)
 |ts,vs,0,h=>by simpa using h
 |[],_,n+1,h=>by have h:_=[]:=h;subst h;rfl
 |t::ts,_,n+1,h=>by
  obtain⟨v,r,rfl,_,a⟩:=h;simpa using a.drop n
theorem au.take:∀{ts:FC}{vs:List V}(n:Nat),au B al H ts vs->au B al H (ts.take n) (vs.take n)
 |ts,vs,0,h=>by simp[au]
 |[],_,n+1,h=>by have h:_=[]:=h;subst h;rfl
 |t::ts,_,n+1,h=>by
  obtain⟨v,r,rfl,b,a⟩:=h;exact⟨v,r.take n,J,b,a.take n⟩
theorem au.set{t:T}{v:V}(q:Rep B al H t v):∀{ts:FC}{vs:List V}(n:Nat),au B al H ts vs->au B al H (ts.set n t) (vs.set n v)
 |[],_,n,h=>by have h:_=[]:=h;subst h;rfl
 |_::ts,_,0,h=>by
  obtain⟨w,r,rfl,b,a⟩:=h;exact⟨v,r,J,q,a⟩
 |u::ts,_,n+1,h=>by
  obtain⟨w,r,rfl,b,a⟩:=h;exact⟨w,r.set n v,J,b,a.set q n⟩
theorem au.flat{ts:FC}{vs:List V}(h:au B al H ts vs):∀n:Nat,au B al H (dN n ts).flatten (dN n vs).flatten
 |0=>J
 |n+1=>by
  rw[m_,m_,kJ,kJ];exact h.app<|h.flat n
def au.one{t:T}{v:V}(q:Rep B al H t v):au B al H [t] [v]:=⟨v,[],J,q,J⟩
theorem au.ints:∀ns:Dx,au B al H (ns.map T.int)<|ns.map V.int
 |[]=>J
 |n::ns=>⟨_,_,J,J,au.ints ns⟩
theorem au.signs:∀l:B1,au B al H (l.map λc=>T.str [c])<|l.map λc=>V.str ⟨#[c]⟩
 |[]=>J
 |c::l=>⟨_,_,J,⟨J,by simp⟩,au.signs l⟩
mutual
theorem Rep.no:∀{t:T}{v:V},noOwn t=O->Rep B al H t v->Rep B d H t v
 |.non,_,_,h=>h
 |.bl _,_,_,h=>h
 |.int _,_,_,h=>h
 |.str _,_,_,h=>h
 |.tup ts,_,n,h=>by
  obtain⟨a,vs,e,q,r⟩:=h;exact⟨a,vs,e,q,au.no n r⟩
 |.lst ts,_,n,h=>by
  obtain⟨a,vs,e,q,r⟩:=h;exact⟨a,vs,e,q,au.no n r⟩
 |.scr ns,_,_,h=>h
 |.obj c ts,_,n,h=>by
  obtain⟨a,C,dx,ns,vs,e,z,q,l,q2,r⟩:=h;exact⟨a,C,dx,ns,vs,e,z,q,l,q2,au.no n r⟩
 |.own k,_,n,h=>by cases n
 |.cC ks ts,_,n,h=>by
  obtain⟨a,vs,e,q,l,r⟩:=h;exact⟨a,vs,e,q,l,au.no n r⟩
theorem au.no:∀{ts:FC}{vs:List V},aH ts=O->au B al H ts vs->au B d H ts vs
 |[],_,_,h=>h
 |t::ts,_,n,h=>by
  obtain⟨v,r,e,h1,h2⟩:=h;have n:(noOwn t&&aH ts)=O:=n;rw[dj]at n;exact⟨v,r,e,Rep.no n.1 h1,au.no n.2 h2⟩
end
structure Gr(HF H z H':Hp):Prop where
 fr:aK HF z
 sub:aK z H'
 rest:∀b o,H b=U o->HF b=Y->H' b=U o/\z b=Y
theorem Gr.refl{HF H:Hp}(s:aK HF H):Gr HF H HF H:=⟨aK.refl _,s,λ_ _ h n=>⟨h,n⟩⟩
theorem Gr.trans{HF H Ņ H1 ņ d:Hp}(a:Gr HF H Ņ H1)(b:Gr Ņ H1 ņ d):Gr HF H ņ d:=
 ⟨a.fr.trans b.fr,b.sub,λc o h n=>let⟨h1,n1⟩:=a.rest c o h n;b.rest c o h1 n1⟩
def Gr.same{HF H z H':Hp}(s:aK HF H)(a:Gr HF H z H'):aK H H':=λb o h=>by
 cases e:HF b with
 |none=>exact(a.rest b o h e).1
 |some u=>
  have:=s b u e
  rw[h]at this;cases this;exact a.sub _ _<|a.fr _ _ e
def aY{H:Hp}{p:cw}{o:HO}(h:H p=Y):aK H<|upd H p o:=λb u e=>by rw[ak<|aA e h];exact e
def Gr.new{HF H:Hp}(s:aK HF H){p:cw}{o:HO}(h:H p=Y):Gr HF H (upd HF p o)<|upd H p o:=by
 have c:HF p=Y:=s.free h;refine⟨aY c,λb u e=>?_,λb u e n=>?_⟩
 .by_cases a:b=p
  .subst a;rw[ah]at e ⊢;exact e
  .rw[ak a]at e ⊢;exact s _ _ e
 .have a:b≠p:=aA e h
  rw[ak a,ak a];exact⟨e,n⟩
def Gr.nT{HF H:Hp}(s:aK HF H){p:cw}{o:HO}(h:H p=Y):Gr HF H HF<|upd H p o:=
 ⟨aK.refl _,s.trans<|aY h,λb u e n=>⟨aY h _ _ e,n⟩⟩
def bu(B:KT)(g:G)(H:Hp)(p:ju):C->V->Prop
 |.val t,v=>Rep B g.al g.HF t v
 |.ol ts,v=>∃l vs,v=.ref l/\g.o l=U p/\H l=U (.lst vs)/\au B g.al g.HF ts vs
 |.od ks ts,v=>∃l vs,v=.ref l/\g.o l=U p/\H l=U (.dK<|(ks.map jb).zip vs)/\ks.length=vs.length/\au B g.al g.HF ts vs
 |.yg t,v=>∃a:Hp,(∀b u,a b=U u->g.o b=U p/\H b=U u)/\Rep B [] a t v
structure Co(B:KT)(g:G)(H:Hp)(k:Nat)(ob:Ob)(a C dx:cw)(ns:Bi)(vs:List V):Prop where
 al:g.al[k]?=U a
 o:g.o a=U (.ob k)
 cl:iz B ob.c C ns
 h:H a=U (.ins C dx<|ns.zip vs)
 le:vs.length<=ns.length
 ln:vs.length=ob.fs.length
 f:∀j c,ob.fs[j]?=U c->∃v,vs[j]?=U v/\bu B g H (.fld k j) c v
structure Xd(B:KT)(g:G)(H:Hp)(k:Nat)(ob:Ob)(a:cw):Prop where
 al:g.al[k]?=U a
 nc:B.cn[ob.c]?=Y
 nf:B.fn[ob.c]?=Y
 f:∀c,ob.fs=[c]->bu B g H (.ob k) c (.ref a)
def OF(B:KT)(g:G)(H:Hp)(k:Nat)(ob:Ob):Prop:=(∃a C b ns vs,Co B g H k ob a C b ns vs)\/∃a,Xd B g H k ob a
structure fT(B:KT)(g:G)(H:Hp)(m:FR):Prop where
 sub:aK g.HF H
 live:∀b p,g.o b=U p->g.HF b=Y/\∃u,H b=U u
 len:m.length=g.al.length
 at_:∀k ob,m[k]?=U ob->OF B g H k ob
structure nU(B:KT)(g:G)(H:Hp)(σ:St)(r:Fh):Prop where
 len:r.length=σ.length
 at_:∀i c,r[i]?=U (U c)->∃v,σ[i]?=U (U v)/\bu B g H (.loc i) c v
structure SR(B:KT)(g:G)(H:Hp)(σ:St)(s:S):Prop where
 st:fT B g H s.m
 lc:nU B g H σ s.r
structure eQ(g:G)(H:Hp)(g':G)(H':Hp):Prop where
 fr:aK g.HF g'.HF
 pre:g.al <+: g'.al
 rest:∀b u,H b=U u->g.HF b=Y->g.o b=Y->H' b=U u/\g'.HF b=Y/\g'.o b=Y
 there:∀b,H' b=Y->H b=Y
variable{g g1 g2 g':G}{j:St}{s s':S}{H1 v:Hp}
theorem eQ.refl:eQ g H g H:=⟨aK.refl _,fh,λ_ _ h n o=>⟨h,n,o⟩,λ_ h=>h⟩
theorem eQ.trans(a:eQ g H g1 H1)(b:eQ g1 H1 g2 v):eQ g H g2 v:=
 ⟨a.fr.trans b.fr,a.pre.trans b.pre,λc u h n o=>let⟨h1,n1,o1⟩:=a.rest c u h n o;b.rest c u h1 n1 o1,λc h=>a.there c<|b.there c h⟩
abbrev G.grow(g:G)(z:Hp):G:={g with HF:=z}
theorem bu.grow(a:Gr g.HF H z H')(d:∀b p,g.o b=U p->g.HF b=Y/\∃u,H b=U u){p:ju}:∀{c:C}{v:V},bu B g H p c v->bu B (g.grow z) H' p c v
 |.val t,v,h=>h.same a.fr
 |.ol ts,v,h=>by
  obtain⟨l,vs,e,o,q,r⟩:=h;exact⟨l,vs,e,o,(a.rest l _ q (d l p o).1).1,r.same a.fr⟩
 |.od ks ts,v,h=>by
  obtain⟨l,vs,e,o,q,n,r⟩:=h;exact⟨l,vs,e,o,(a.rest l _ q (d l p o).1).1,n,r.same a.fr⟩
 |.yg t,v,h=>by
  obtain⟨i,f,r⟩:=h;exact⟨i,λb u e=>let⟨h2,h3⟩:=f b u e;⟨h2,(a.rest b u h3 (d b p h2).1).1⟩,r⟩
theorem Co.grow{k:Nat}{ob:Ob}{a C dx:cw}{ns:Bi}{vs:List V}(x:Co B g H k ob a C dx ns vs)(i:Gr g.HF H z H')(d:∀b p,g.o b=U p->g.HF b=Y/\∃u,H b=U u):Co B (g.grow z) H' k ob a C dx ns vs:=
 ⟨x.al,x.o,x.cl,(i.rest _ _ x.h (d _ _ x.o).1).1,x.le,x.ln,λj c e=>let⟨v,h1,h2⟩:=x.f j c e;⟨v,h1,h2.grow i d⟩⟩
theorem OF.grow{k:Nat}{ob:Ob}(x:OF B g H k ob)(h:Gr g.HF H z H')(d:∀b p,g.o b=U p->g.HF b=Y/\∃u,H b=U u):OF B (g.grow z) H' k ob:=by
 rcases x with⟨a,C,i,ns,vs,y⟩|⟨a,y⟩
 .exact .inl ⟨a,C,i,ns,vs,y.grow h d⟩
 .exact .inr ⟨a,y.al,y.nc,y.nf,λc e=>(y.f c e).grow h d⟩
theorem fT.grow{m:FR}(x:fT B g H m)(a:Gr g.HF H z H'):fT B (g.grow z) H' m:=
 ⟨a.sub,λb p e=>by
  obtain⟨h,u,f⟩:=x.live b p e;obtain⟨d,c⟩:=a.rest b u f h;exact⟨c,u,d⟩,x.len,λk ob e=>(x.at_ k ob e).grow a x.live⟩
theorem SR.grow(x:SR B g H j s)(a:Gr g.HF H z H'):SR B (g.grow z) H' j s:=
 ⟨x.st.grow a,x.lc.len,λi c e=>let⟨v,h1,h2⟩:=x.lc.at_ i c e;⟨v,h1,h2.grow a x.st.live⟩⟩
theorem SR.sub(x:SR B g H j s):aK g.HF H:=x.st.sub
theorem Gr.free(c:Gr HF H z H')(a:aK HF H){b:cw}(h:H' b=Y):H b=Y:=(c.same a).free h
def SR.gb(x:SR B g H j s)(a:Gr g.HF H z H'):eQ g H (g.grow z) H':=
 ⟨a.fr,fh,λb u h n o=>let⟨h1,h2⟩:=a.rest b u h n;⟨h1,h2,o⟩,λb h=>a.free x.sub h⟩
end D
namespace L2
open PySem PySem.Spec PyProof.Rows
def Rl(H:Hp)(R:Hp->Prop):Prop:=R H\/∃d a,H d=U (.dK a)/\∀ob,R<|upd H d<|.f9 ob<|.dK a
theorem Rl.imp{H:Hp}{R a:Hp->Prop}(h:Rl H R)(f:∀H',R H'->a H'):Rl H a:=Or.imp (f _) (λ⟨d,k,e,q⟩=>⟨d,k,e,λo=>f _<|q o⟩) h
def Inv.rl{X:Cx}{i:dm}{g:St}{H:Hp}{s:bh}{R:Hp->Prop}(I:Inv X i g H s)(h:Rl H R):∃H',Inv X i g H' s/\R H':=by
 rcases h with h|⟨d,a,e,h⟩
 .exact⟨H,I,h⟩
 obtain⟨z,lo,vs,r,ob,t,v,l,hr⟩:=(show bP X.prog X.w H s.heap d (.dK a)from I.aZ d _ e);refine⟨_,?_,h ob⟩;have ne:∀b u,H b=U u->u≠.dK a->b≠d:=λb u q n z=>n (by rw[z,e]at q;cases q;rfl)
 have st:∀b u,H b=U u->bP X.prog X.w (upd H d<|.f9 ob<|.dK a) s.heap b u:=λb u q=>(I.aZ b u q).pM (λ_ _ _ k=>k) (λc k=>by rw[ak (ne c _ k (λz=>by cases z))];exact k) λc j k=>by rw[ak (ne c _ k (λz=>by cases z))];exact k
 refine I.step (h':=s.heap) (g':=s.gens) (d':=s.drawn) (t':=s.toks) (ch:=[]) (λb f=>by cases f) (λb o _ _ _ q _=>q) (λb o _ _ _ q _=>⟨o.slots,q⟩) (λb o _ _ n=>?_) (λb o _ q=>⟨o,q⟩)
  (λb j q=>by rw[ak (ne b _ q (λz=>by cases z))];exact q) (λb o u q=>by rw[ak (ne b _ q (λz=>by cases z))];exact q) (λb ps q=>⟨#[],by rw[ak (ne b _ q (λz=>by cases z)),q];simp⟩) (λm p=>p) (λb u q=>?_) I.bare
 .have:b≠d:=λz=>by rw[z,e]at n;cases n
  rw[ak this];exact n
 .by_cases f:b=d
  .subst f
   rw[ah]at q;cases q;exact⟨l,st b _ e⟩
  .rw[ak f]at q
   exact st b u q
section
variable{X:Cx}{e:de}{st:mB}
def Mq{t:TE}(h:PE X e t):PE X e λa H Q=>t a H λv H1=>Rl H1<|Q v:=λb s a H Q I q=>bV (h b s a H _ I q) λv d ⟨x,H1,c,r,k⟩=>let⟨H2,I2,k2⟩:=c.rl k;⟨x,H2,I2,r,k2⟩
def Ua{t:TS}(h:PS X st t):PS X st λD a H=>Rl H<|t D a:=λb s a H D I q=>let⟨H2,I2,k2⟩:=I.rl q;h b s a H2 D I2 k2
end
end L2
namespace D
open PySem L2
variable{X:Cx}{a b c e:de}{F fb d:FE}{g g':G}{H H':Hp}{B:KT}{p pos:Pos}{s s':S}{W:St}
variable{al j:BM}{HF S H1 Z:Hp}{g1 g2:G}{m:FR}
theorem bu.mv{p:ju}(fr:aK g.HF g'.HF)(pre:g.al <+: g'.al)(k:∀l,g.o l=U p->g'.o l=U p/\H' l=H l):∀{c:C}{v:V},bu B g H p c v->bu B g' H' p c v
 |.val t,v,h=>Rep.mv pre fr h
 |.ol ts,v,h=>by
  obtain⟨l,vs,e,o,q,r⟩:=h;obtain⟨a,d⟩:=k l o;exact⟨l,vs,e,a,d.trans q,r.mv pre fr⟩
 |.od ks ts,v,h=>by
  obtain⟨l,vs,e,o,q,n,r⟩:=h;obtain⟨a,d⟩:=k l o;exact⟨l,vs,e,a,d.trans q,n,r.mv pre fr⟩
 |.yg t,v,h=>by
  obtain⟨i,f,r⟩:=h;exact⟨i,λb u e=>let⟨h2,h3⟩:=f b u e;let⟨h4,h5⟩:=k b h2;⟨h4,h5.trans h3⟩,r⟩
theorem Co.mv{k:Nat}{ob:Ob}{a C dx:cw}{ns:Bi}{vs:List V}(x:Co B g H k ob a C dx ns vs)(fr:aK g.HF g'.HF)(pre:g.al <+: g'.al)(b:∀l p,g.o l=U p->(p=.ob k\/∃j,p=.fld k j)->g'.o l=U p/\H' l=H l):Co B g' H' k ob a C dx ns vs:=by
 obtain⟨d,i⟩:=b a _ x.o<|.inl J;exact⟨cZ pre x.al,d,x.cl,i.trans x.h,x.le,x.ln,λj c e=>let⟨v,h1,h2⟩:=x.f j c e;⟨v,h1,h2.mv fr pre λl z=>b l _ z<|.inr ⟨j,J⟩⟩⟩
theorem OF.mv{k:Nat}{ob:Ob}(x:OF B g H k ob)(fr:aK g.HF g'.HF)(pre:g.al <+: g'.al)(b:∀l p,g.o l=U p->(p=.ob k\/∃j,p=.fld k j)->g'.o l=U p/\H' l=H l):OF B g' H' k ob:=by
 rcases x with⟨a,C,d,ns,vs,y⟩|⟨a,y⟩
 .exact .inl ⟨a,C,d,ns,vs,y.mv fr pre b⟩
 .exact .inr ⟨a,cZ pre y.al,y.nc,y.nf,λc e=>(y.f c e).mv fr pre λl z=>b l _ z<|.inl J⟩
theorem fT.mv(x:fT B g H m)(sub:aK g'.HF H')(live:∀b p,g'.o b=U p->g'.HF b=Y/\∃u,H' b=U u)(fr:aK g.HF g'.HF)(a:g'.al=g.al)(c:∀l p,g.o l=U p->(∀i,p≠.loc i)->g'.o l=U p/\H' l=H l):fT B g' H' m:=
 ⟨sub,live,by rw[a];exact x.len,λk ob e=>(x.at_ k ob e).mv fr (by rw[a];exact fh) λl p h q=>c l p h (by
  rcases q with q|⟨j,q⟩
  .subst q;exact λi z=>by cases z
  .subst q;exact λi z=>by cases z)⟩
theorem nU.set{r:Fh}{i:Nat}{v:V}{c:C}(x:nU B g H W r)(q:bu B g' H' (.loc i) c v)(b:∀j c v,j≠i->bu B g H (.loc j) c v->bu B g' H' (.loc j) c v):nU B g' H' (W.set i<|U v)<|r.set i<|U c:=by
 refine⟨by rw[eU,eU];exact x.len,λj d h=>?_⟩
 by_cases hj:i=j
 .subst hj
  have a:i<r.length:=by have:=(du.mp h).1;rw[eU]at this;exact this
  rw[dQ a]at h;cases h;exact⟨v,dQ<|by rw[<- x.len];exact a,q⟩
 .rw[cJ hj]at h
  obtain⟨w,f,e⟩:=x.at_ j d h;exact⟨w,by rw[cJ hj];exact f,b j d w (Ne.symm hj) e⟩
theorem SR.set(x:SR B g H W s){i:Nat}{t:T}{v:V}(r:Rep B g.al g.HF t v):SR B g H (W.set i<|U v)<|kG s i<|.val t:=
 ⟨x.st,x.lc.set r λ_ _ _ _ h=>h⟩
def G.f9(g:G)(l:cw)(o:HO):G:={g with HF:=upd g.HF l o,o:=λb=>if b=l then Y else g.o b}
def nV{p q:ju}{l:cw}{o:HO}(f:g.o l=U p)(i:g.HF l=Y)(d:q≠p){c:C}{v:V}(h:bu B g H q c v):bu B (g.f9 l o) (upd H l o) q c v:=
 bu.mv (g':=g.f9 l o) (aY i) fh (λb a=>by
  have:b≠l:=λe=>d (by rw[e,f]at a;cases a;rfl)
  exact⟨by show(if b=l then Y else g.o b)=_;rw[ag this];exact a,ak this⟩) h
def rR{p:ju}{l:cw}{o:HO}(a:g.o l=U p)(c:g.HF l=Y):eQ g H (g.f9 l o)<|upd H l o:=
 ⟨aY c,fh,λb u h n z=>by
  have:b≠l:=λe=>by rw[e,a]at z;cases z
  exact⟨by rw[ak this];exact h,by show upd g.HF l o b=Y;rw[ak this];exact n,by show(if b=l then Y else g.o b)=Y;rw[ag this];exact z⟩,λb h=>by
  by_cases hb:b=l
  .subst hb;rw[ah]at h;cases h
  .rw[ak hb]at h;exact h⟩
def zh{i:Nat}{l:cw}{o:HO}(x:fT B g H m)(c:g.o l=U (.loc i)):fT B (g.f9 l o) (upd H l o) m:=by
 have f:=(x.live l _ c).1;refine x.mv (λb u e=>?_) (λb p e=>?_) (aY f) J λb p a d=>?_
 .have e:upd g.HF l o b=U u:=e
  by_cases a:b=l
  .subst a;rw[ah]at e ⊢;exact e
  .rw[ak a]at e ⊢;exact x.sub _ _ e
 .have e:(if b=l then Y else g.o b)=U p:=e
  by_cases a:b=l
  .rw[bt a]at e;cases e
  .rw[ag a]at e
   obtain⟨j,h⟩:=x.live b p e;exact⟨by show upd g.HF l o b=Y;rw[ak a];exact j,by rw[ak a];exact h⟩
 .have:b≠l:=λe=>d i (by rw[e,c]at a;cases a;rfl)
  exact⟨by show(if b=l then Y else g.o b)=_;rw[ag this];exact a,ak this⟩
def D6{l:cw}{o:HO}(h:H l=U o):upd H l o=H:=by
 funext b
 by_cases hb:b=l
 .subst hb;rw[ah,h]
 .rw[ak hb]
theorem SR.f9(x:SR B g H W s){i:Nat}{ts:FC}(h:s.r[i]?=U (U<|.ol ts)):∃g' v,eQ g H g' H/\SR B g' H W (kG s i<|.val<|.lst ts)/\W[i]?=U (U v)/\Rep B g'.al g'.HF (.lst ts) v:=by
 obtain⟨v,d,l,vs,rfl,a,n,r⟩:=x.lc.at_ i _ h;have b:=(x.st.live l _ a).1;have e:Rep B (g.f9 l<|.lst vs).al (g.f9 l<|.lst vs).HF (.lst ts)<|.ref l:=⟨l,vs,J,ah,r.mv fh<|aY b⟩;have m:=D6 n;have k:=rR (H:=H) (o:=.lst vs) a b;have f:=zh (o:=.lst vs) x.st a;rw[m]at k f;refine⟨g.f9 l<|.lst vs,.ref l,k,⟨f,?_⟩,d,e⟩
 have:=x.lc.set (i:=i) (v:=.ref l) (c:=.val<|.lst ts) e λj c v hj q=>by
  have q1:=nV (o:=.lst vs) (q:=.loc j) a b (λz=>hj<|by cases z;rfl) q
  rw[m]at q1;exact q1
 have p:W.set i (U<|.ref l)=W:=by
  apply ug;intro j;by_cases hj:i=j
  .subst hj
   rw[dQ (du.mp d).1,d]
  .rw[cJ hj]
 rw[p]at this;exact this
def SR.YI(x:SR B g H W s){i:Nat}{ks:List Ky}{ts:FC}(h:s.r[i]?=U (U<|.od ks ts)):∃v,W[i]?=U (U v)/\Rl H λH'=>∃g',eQ g H g' H'/\SR B g' H' W (kG s i<|.val<|.cC ks ts)/\Rep B g'.al g'.HF (.cC ks ts) v:=by
 obtain⟨v,d,l,vs,rfl,a,k,f,r⟩:=x.lc.at_ i _ h;have b:=(x.st.live l _ a).1;refine⟨.ref l,d,.inr ⟨l,_,k,λob=>?_⟩⟩;have e:Rep B (g.f9 l<|.f9 ob<|.dK<|(ks.map jb).zip vs).al (g.f9 l<|.f9 ob<|.dK<|(ks.map jb).zip vs).HF (.cC ks ts)<|.ref l:=⟨l,vs,J,⟨ob,ah⟩,f,r.mv fh<|aY b⟩;refine⟨g.f9 l<|.f9 ob<|.dK<|(ks.map jb).zip vs,rR a b,⟨zh x.st a,?_⟩,e⟩
 have:=x.lc.set (i:=i) (v:=.ref l) (c:=.val<|.cC ks ts) e λj c v hj q=>nV (q:=.loc j) a b (λz=>hj<|by cases z;rfl) q
 have m:W.set i (U<|.ref l)=W:=by
  apply ug;intro j;by_cases hj:i=j
  .subst hj
   rw[dQ (du.mp d).1,d]
  .rw[cJ hj]
 rw[m]at this;exact this
def G.own(g:G)(l:cw)(p:ju):G:={g with o:=λb=>if b=l then U p else g.o b}
def ve{p q:ju}{l:cw}(d:g.o l=Y){c:C}{v:V}(h:bu B g H q c v):bu B (g.own l p) H q c v:=
 bu.mv (g:=g) (g':=g.own l p) (aK.refl g.HF) fh (λb a=>by
  have:b≠l:=λe=>by rw[e,d]at a;cases a
  exact⟨by show(if b=l then U p else g.o b)=_;rw[ag this];exact a,J⟩) h
def zj{p:ju}{l:cw}{u:HO}(x:fT B g H m)(c:g.o l=Y)(f:g.HF l=Y)(d:H l=U u):fT B (g.own l p) H m:=by
 refine x.mv x.sub (λb q e=>?_) (aK.refl _) J λb q a h=>?_
 .have e:(if b=l then U p else g.o b)=U q:=e
  by_cases a:b=l
  .subst a;exact⟨f,u,d⟩
  .rw[ag a]at e;exact x.live b q e
 .have:b≠l:=λe=>by rw[e,c]at a;cases a
  exact⟨by show(if b=l then U p else g.o b)=_;rw[ag this];exact a,J⟩
theorem SR.own(x:SR B g H W s){i:Nat}{l:cw}{ts:FC}{vs:List V}(a:g.o l=Y)(d:g.HF l=Y)(b:H l=U (.lst vs))(r:au B g.al g.HF ts vs):SR B (g.own l<|.loc i) H (W.set i<|U<|.ref l)<|kG s i<|.ol ts:=
 ⟨zj x.st a d b,x.lc.set (c:=.ol ts) ⟨l,vs,J,by show(if l=l then U (ju.loc i)else g.o l)=_;rw[bt J],b,r⟩ λj c v hj q=>ve a q⟩
def SR.YJ(x:SR B g H W s){i:Nat}{l:cw}{ks:List Ky}{ts:FC}{vs:List V}(a:g.o l=Y)(e:g.HF l=Y)(b:H l=U (.dK<|(ks.map jb).zip vs))(d:ks.length=vs.length)(r:au B g.al g.HF ts vs):SR B (g.own l<|.loc i) H (W.set i<|U<|.ref l)<|kG s i<|.od ks ts:=
 ⟨zj x.st a e b,x.lc.set (c:=.od ks ts) ⟨l,vs,J,by show(if l=l then U (ju.loc i)else g.o l)=_;rw[bt J],b,d,r⟩ λj c v hj q=>ve a q⟩
def zk{l:cw}{i:Nat}{u:HO}(x:fT B g H m)(c:g.o l=U (.loc i)):fT B g (upd H l u) m:=by
 have h:=(x.live l _ c).1;refine x.mv (λb w e=>?_) (λb q e=>?_) (aK.refl _) J λb q a f=>?_
 .have:b≠l:=λz=>by rw[z,h]at e;cases e
  rw[ak this];exact x.sub _ _ e
 .obtain⟨d,w,j⟩:=x.live b q e
  by_cases a:b=l
  .exact⟨d,u,by rw[a,ah]⟩
  .exact⟨d,w,by rw[ak a];exact j⟩
 .have:b≠l:=λe=>f i (by rw[e,c]at a;cases a;rfl)
  exact⟨a,by rw[ak this]⟩
def mS{l:cw}{p:ju}{u:HO}(a:g.o l=U p):eQ g H g<|upd H l u:=
 ⟨aK.refl _,fh,λb w h n z=>by
  have:b≠l:=λe=>by rw[e,a]at z;cases z
  exact⟨by rw[ak this];exact h,n,z⟩,λb h=>by
  by_cases hb:b=l
  .subst hb;rw[ah]at h;cases h
  .rw[ak hb]at h;exact h⟩
def SR.chg(x:SR B g H W s){i:Nat}{ts k:FC}{l:cw}{d:List V}(h:s.r[i]?=U (U<|.ol ts))(a:W[i]?=U (U<|.ref l))(r:au B g.al g.HF k d):SR B g (upd H l<|.lst d) W (kG s i<|.ol k)/\eQ g H g (upd H l<|.lst d):=by
 obtain⟨v,n,t,vs,rfl,f,u,p⟩:=x.lc.at_ i _ h;rw[a]at n;cases n;refine⟨⟨zk x.st f,?_⟩,mS f⟩
 have:=x.lc.set (g':=g) (H':=upd H l<|.lst d) (i:=i) (v:=.ref l) (c:=.ol k) ⟨l,d,J,f,ah,r⟩ λj c v hj q=>q.mv (aK.refl _) fh λb m=>by
  have:b≠l:=λe=>hj (by rw[e,f]at m;cases m;rfl)
  exact⟨m,ak this⟩
 have o:W.set i (U<|.ref l)=W:=by
  apply ug;intro j;by_cases hj:i=j
  .subst hj
   rw[dQ (du.mp a).1,a]
  .rw[cJ hj]
 rw[o]at this;exact this
def SR.YK(x:SR B g H W s){i:Nat}{ks d:List Ky}{ts m:FC}{l:cw}{f:List V}(h:s.r[i]?=U (U<|.od ks ts))(a:W[i]?=U (U<|.ref l))(p:d.length=f.length)(r:au B g.al g.HF m f):SR B g (upd H l<|.dK<|(d.map jb).zip f) W (kG s i<|.od d m)/\eQ g H g (upd H l<|.dK<|(d.map jb).zip f):=by
 obtain⟨v,o,w,vs,rfl,k,y,z,u⟩:=x.lc.at_ i _ h;rw[a]at o;cases o;refine⟨⟨zk x.st k,?_⟩,mS k⟩
 have:=x.lc.set (g':=g) (H':=upd H l<|.dK<|(d.map jb).zip f) (i:=i) (v:=.ref l) (c:=.od d m) ⟨l,f,J,k,ah,p,r⟩ λj c v hj q=>q.mv (aK.refl _) fh λb n=>by
  have:b≠l:=λe=>hj (by rw[e,k]at n;cases n;rfl)
  exact⟨n,ak this⟩
 have t:W.set i (U<|.ref l)=W:=by
  apply ug;intro j;by_cases hj:i=j
  .subst hj
   rw[dQ (du.mp a).1,a]
  .rw[cJ hj]
 rw[t]at this;exact this
def Uc:Option ju->Option ju
 |U<|.loc _=>Y
 |x=>x
def G.aj(g:G):G:={g with o:=λb=>Uc<|g.o b}
def BK{q:Option ju}{p:ju}:Uc q=U p ↔ q=U p/\∀i,p≠.loc i:=by
 cases q with
 |none=>exact⟨λh=>(by cases h),λh=>(by cases h.1)⟩
 |some q=>
  cases q with
  |loc i=>exact⟨λh=>(by cases h),λh=>(by obtain⟨h,n⟩:=h;cases h;exact eD J<|n i)⟩
  |ob k=>exact⟨λh=>(by cases h;exact⟨J,λi z=>(by cases z)⟩),λh=>h.1⟩
  |fld k j=>exact⟨λh=>(by cases h;exact⟨J,λi z=>(by cases z)⟩),λh=>h.1⟩
def jV{b:cw}{p:ju}:g.aj.o b=U p ↔ g.o b=U p/\∀i,p≠.loc i:=BK
theorem fT.aj(x:fT B g H m):fT B g.aj H m:=
 x.mv x.sub (λb p e=>x.live b p (jV.mp e).1) (aK.refl _) J λl p h n=>⟨jV.mpr ⟨h,n⟩,J⟩
def YL:Option ju->Option ju->Option ju
 |U<|.loc i,_=>U<|.loc i
 |_,y=>y
def G.back(g g':G):G:={g' with o:=λb=>YL (g.o b)<|g'.o b}
def D7{b:cw}{i:Nat}(h:g.o b=U (.loc i)):(G.back g g').o b=U (.loc i):=by
 show YL (g.o b) (g'.o b)=_;rw[h];rfl
def nW{b:cw}(h:∀i,g.o b≠U (.loc i)):(G.back g g').o b=g'.o b:=by
 show YL (g.o b) (g'.o b)=_;cases q:g.o b with
 |none=>rfl
 |some p=>cases p with
  |loc i=>exact eD q<|h i
  |ob k=>rfl
  |fld k j=>rfl
theorem SR.back(x:SR B g H W s){m':FR}(p:eQ g.aj H g' H')(y:fT B g' H' m'):eQ g H (G.back g g') H'/\SR B (G.back g g') H' W {s with m:=m'}:=by
 have keep:∀l i,g.o l=U (.loc i)->H' l=H l/\g'.HF l=Y/\g'.o l=Y:=λl i e=>by
  obtain⟨t,u,d⟩:=x.st.live l _ e;have C:g.aj.o l=Y:=by
   cases q:g.aj.o l with
   |none=>rfl
   |some p=>obtain⟨a,b⟩:=jV.mp q;rw[e]at a;cases a;exact eD J<|b i
  obtain⟨r,j,A⟩:=p.rest l u d t C;exact⟨r.trans d.symm,j,A⟩
 have YM:∀l q,g'.o l=U q->∀i,g.o l≠U (.loc i):=λl q e i z=>by rw[(keep l i z).2.2]at e;cases e
 refine⟨⟨p.fr,p.pre,λb u h n z=>?_,p.there⟩,⟨⟨y.sub,λb q e=>?_,y.len,λk ob e=>?_⟩,x.lc.len,λi c e=>?_⟩⟩
 .have C:g.aj.o b=Y:=by
   cases q:g.aj.o b with
   |none=>rfl
   |some p=>rw[(jV.mp q).1]at z;cases z
  obtain⟨r,j,A⟩:=p.rest b u h n C;exact⟨r,j,(nW λi w=>by rw[z]at w;cases w).trans A⟩
 .by_cases f:∃i,g.o b=U (.loc i)
  .obtain⟨i,f⟩:=f
   obtain⟨t,u,d⟩:=x.st.live b _ f;obtain⟨r,j,_⟩:=keep b i f;exact⟨j,u,r.trans d⟩
  .rw[nW λi w=>f ⟨i,w⟩]at e
   exact y.live b q e
 .exact(y.at_ k ob e).mv (aK.refl _) fh λl q h _=>⟨(nW<|YM l q h).trans h,J⟩
 .obtain⟨v,t,d⟩:=x.lc.at_ i c e
  exact⟨v,t,bu.mv (g:=g) (g':=G.back g g') p.fr p.pre (λl o=>⟨D7 o,(keep l i o).1⟩) d⟩
variable{es:Bz}{fl:FL}{u v:FT}
abbrev KTb:=Bi×List Bi
def _root_.L2.Cx.kt(X:Cx)(t:KTb):KT:=⟨X.K,X.prog,X.w,t.1,t.2⟩
inductive tE(B:KT)(f:FE)(W:St)(H:Hp)(Q:VK):Prop where
 |mk g s t s' (x:SR B g H W s) (h:f s=.ok (t,s')) (k:∀v g' H',eQ g H g' H'->SR B g' H' W s'->Rep B g'.al g'.HF t v->Q v H')
inductive tA(B:KT)(f:FL)(W:St)(H:Hp)(Q:List V->Hp->Prop):Prop where
 |mk g s ts s' (x:SR B g H W s) (h:f s=.ok (ts,s')) (k:∀vs g' H',eQ g H g' H'->SR B g' H' W s'->au B g'.al g'.HF ts vs->Q vs H')
inductive tT(B:KT)(f:FT)(W:St)(H:Hp)(Q:Bool->Hp->Prop):Prop where
 |mk g s k s' (x:SR B g H W s) (h:f s=.ok (k,s')) (q:∀g' H',eQ g H g' H'->SR B g' H' W s'->Q k H')
inductive tP(B:KT)(f:FO)(W:St)(H:Hp)(Q:D2->Hp->Prop):Prop where
 |mk g s k s' (x:SR B g H W s) (h:f s=.ok (k,s')) (q:∀g' H',eQ g H g' H'->SR B g' H' W s'->Q k H')
inductive tO(B:KT)(f:FL)(W:St)(H:Hp)(Q:VK):Prop where
 |mk g s ts s' (x:SR B g H W s) (h:f s=.ok (ts,s')) (k:∀l vs g' H',eQ g H g' H'->SR B g' H' W s'->H l=Y->g'.HF l=Y->g'.o l=Y->H' l=U (.lst vs)->au B g'.al g'.HF ts vs->Q (.ref l) H')
def aM{t t':TE}(h:PE X e t)(i:∀W H Q,t' W H Q->t W H Q):PE X e t':=λa s W H Q I q=>h a s W H Q I<|i W H Q q
def vf{t t':TT}(h:PT X e t)(i:∀W H Q,t' W H Q->t W H Q):PT X e t':=λa s W H Q I q=>h a s W H Q I<|i W H Q q
def Mr{t t':TT}(h:PW X e t)(i:∀W H Q,t' W H Q->t W H Q):PW X e t':=λa b s W H Q I q=>h a b s W H Q I<|i W H Q q
def Ms{es:Bz}{t t':TA}(h:PA X es t)(i:∀W H Q,t' W H Q->t W H Q):PA X es t':=λpo a s W H Q I q=>h po a s W H Q I<|i W H Q q
def c_{st:mB}{t t':TS}(h:PS X st t)(i:∀D W H,t' D W H->t D W H):PS X st t':=λa s W H D I q=>h a s W H D I<|i D W H q
def D8{st:DD}{t t':TS}(h:jP X st t)(i:∀D W H,t' D W H->t D W H):jP X st t':=λa s W H D I q=>h a s W H D I<|i D W H q
def Mt{e:Option de}{t t':TO}(h:PO X e t)(i:∀W H Q,t' W H Q->t W H Q):PO X e t':=λa s W H Q I q=>h a s W H Q I<|i W H Q q
def jW{tg:de}{t t':TI}(h:PI X tg e t)(i:∀W H a,t' W H a->t W H a):PI X tg e t':=λb s W H a I q=>h b s W H a I<|i W H a q
def bw:PE X e<|tE B aV:=λ_ _ _ _ _ _ a=>by obtain⟨_,_,_,_,_,h,_⟩:=a;cases h
def jv:PT X e<|tT B pX:=λ_ _ _ _ _ _ a=>by obtain⟨_,_,_,_,_,h,_⟩:=a;cases h
def dZ:PE X e<|tO B fH:=λ_ _ _ _ _ _ a=>by obtain⟨_,_,_,_,_,h,_⟩:=a;cases h
def jX{t:T}{v:V}(h:PE X e<|tC v)(r:∀al H,Rep B al H t v):PE X e<|tE B<|cF t:=aM h λW H Q z=>by
 obtain⟨g,s,a,s',x,h,k⟩:=z;cases h;exact k v g H .refl x<|r _ _
def Mu{i:Nat}{x:Str}(e:X.N[i]?=U x)(d:uM X.env.scope x)(hd:cy x)(c:i7 x):PE X (.Name x pos)<|tE B<|vF i:=by
 refine aM (Mq<|fj e d hd c) λW H Q b=>?_;obtain⟨g,s,t,s',x,h,k⟩:=b;unfold vF at h;split at h
 .rename_i j hr
  cases h;obtain⟨v,a,f⟩:=x.lc.at_ i _ hr;exact⟨v,a,.inl<|k v g H .refl x f⟩
 .rename_i ts hr
  cases h;obtain⟨g',v,p,y,a,r⟩:=x.f9 hr;exact⟨v,a,.inl<|k v g' H p y r⟩
 .rename_i ks ts hr
  cases h;obtain⟨v,a,r⟩:=x.YI hr;exact⟨v,a,r.imp λH' ⟨g',p,y,r⟩=>k v g' H' p y r⟩
 .cases h
def L1(X:Cx)(f:T->FK)(r:V->Hp->VK->Prop):Prop:=∀(B:KT)(_:B.K=X.K)(al:BM)(HF H:Hp)(x:V)(t a:T)(Q:VK),aK HF H->Rep B al HF a x->f a=U t->(∀v S H',Gr HF H S H'->Rep B al S t v->Q v H')->r x H Q
def pD(X:Cx)(f:T->T->FK)(r:R2):Prop:=∀(B:KT)(_:B.K=X.K)(al:BM)(HF H:Hp)(x y:V)(t a ty:T)(Q:VK),aK HF H->Rep B al HF a x->Rep B al HF ty y->f a ty=U t->(∀v S H',Gr HF H S H'->Rep B al S t v->Q v H')->r x y H Q
def LN(X:Cx)(f:FC->FK)(r:List V->Hp->VK->Prop):Prop:=∀(B:KT)(_:B.K=X.K)(al:BM)(HF H:Hp)(a:List V)(t:T)(ts:FC)(Q:VK),aK HF H->au B al HF ts a->f ts=U t->(∀v S H',Gr HF H S H'->Rep B al S t v->Q v H')->r a H Q
def Mv{f:T->FK}{r:V->Hp->VK->Prop}(l:B.K=X.K)(hr:L1 X f r):∀W H Q,tE B (dF f F) W H Q->Ħ r (tE B F) W H Q:=by
 rintro W H Q ⟨g,s,t,s',x,h,k⟩
 revert h;refine aao λb d n=>aan λo m=>λh=>?_;cases h;exact⟨g,s,b,d,x,n,λv g1 H1 j a i=>hr B l g1.al g1.HF H1 v _ b Q a.sub i (ai m) λu S H' c e=>k u (g1.grow S) H' (j.trans<|a.gb c) (a.grow c) e⟩
def iM{f:T->T->FK}{r:R2}(p:B.K=X.K)(hr:pD X f r):∀W H Q,tE B (a_ f F fb) W H Q->NW r (tE B F) (tE B fb) W H Q:=by
 rintro W H Q ⟨g,s,t,s',x,h,k⟩
 revert h;refine aao λc d z=>aao λty j y=>aan λA q=>λh=>?_;cases h;exact⟨g,s,c,d,x,z,λv g1 H1 o i n=>⟨g1,d,ty,j,i,y,λw g2 Z b a m=>
  hr B p g2.al g2.HF Z v w _ c ty Q a.sub (n.mv b.pre b.fr) m (ai q) λu S H' e l=>k u (g2.grow S) H' ((o.trans b).trans<|a.gb e) (a.grow e) l⟩⟩
def Mw{f:FC->FK}{r:List V->Hp->VK->Prop}(j:B.K=X.K)(hr:LN X f r):∀W H Q,tE B (bA f fl) W H Q->Yg r (tA B fl) W H Q:=by
 rintro W H Q ⟨g,s,t,s',x,h,k⟩
 revert h;refine aao λts c m=>aan λn l=>λh=>?_;cases h;exact⟨g,s,ts,c,x,m,λvs g1 H1 i a e=>hr B j g1.al g1.HF H1 vs _ ts Q a.sub e (ai l) λu S H' b d=>k u (g1.grow S) H' (i.trans<|a.gb b) (a.grow b) d⟩
def xw:PA X []<|tA B cj:=Ms bU λW H Q z=>by
 obtain⟨g,s,t,s',x,h,k⟩:=z;cases h;exact k [] g H .refl x J
def rT(o:PE X e<|tE B F)(hr:PA X es<|tA B fl)(n:dy (e::es) X.env=(Zb,e6 e X.env)::dy es X.env):PA X (e::es)<|tA B<|bH F fl:=Ms (aR o hr n) λW H Q z=>by
 obtain⟨g,s,t,s',x,h,k⟩:=z;revert h;refine aao λf b q=>aao λty i p=>λh=>?_;cases h;exact⟨g,s,f,b,x,q,λv g1 H1 m d l=>⟨g1,b,ty,i,d,p,λw g2 Z a c j=>k (v::w) g2 Z (m.trans a) c ⟨v,w,J,l.mv a.pre a.fr,j⟩⟩⟩
def xx{n:Nat}(h:n<=1000):n<=dv:=by rw[ew];exact dq h (by decide)
def Ud{a}(h:PA X es<|tA B fl):PE X (.Tuple es a pos)<|tE B<|bA fX fl:=aM (Dz h) λW H Q z=>by
 obtain⟨g,s,t,s',x,h,k⟩:=z;revert h;refine aao λts d j=>aan λl i=>λh=>?_;cases h;obtain⟨z,rfl⟩:=aX<|ai i;refine⟨g,s,ts,d,x,j,λvs g1 H1 e a c=>⟨xx<|by rw[<- c.len];exact z,λq f=>?_⟩⟩
 have b:=Gr.new (o:=.tup vs) a.sub f;exact k _ _ _ (e.trans<|a.gb b) (a.grow b) ⟨q,vs,J,.inl<|.inl ah,c.same b.fr⟩
def Ue(h:PA X es<|tA B fl):PE X (.List es pos)<|tE B<|bA jq fl:=aM (DA h) λW H Q z=>by
 obtain⟨g,s,t,s',x,h,k⟩:=z;revert h;refine aao λts d j=>aan λl i=>λh=>?_;cases h;obtain⟨z,rfl⟩:=aX<|ai i;refine⟨g,s,ts,d,x,j,λvs g1 H1 e a c=>⟨xx<|by rw[<- c.len];exact z,λq f=>?_⟩⟩
 have b:=Gr.new (o:=.lst vs) a.sub f;exact k _ _ _ (e.trans<|a.gb b) (a.grow b) ⟨q,vs,J,ah,c.same b.fr⟩
def nX(fl:FL):FL:=λs=>(fl s).bind λp=>if p.1.length<=1000 then .ok p else .bad
theorem nT{l:cw}{u:HO}(x:SR B g H W s)(h:H l=Y):Gr g.HF H g.HF (upd H l u)/\g.HF l=Y/\g.o l=Y:=by
 refine⟨.nT x.sub h,x.sub.free h,?_⟩;cases q:g.o l with
 |none=>rfl
 |some p=>obtain⟨_,u,z⟩:=x.st.live l p q;rw[h]at z;cases z
def OG(h:PA X es<|tA B fl):PE X (.List es pos)<|tO B<|nX fl:=aM (DA h) λW H Q z=>by
 obtain⟨g,s,t,s',x,h,k⟩:=z;revert h;refine aao λts l j=>λh=>?_;dsimp only at h;split at h
 .rename_i z
  cases h;refine⟨g,s,_,_,x,j,λvs g1 H1 c a b=>⟨xx<|by rw[<- b.len];exact z,λq d=>?_⟩⟩
  obtain⟨e,i,f⟩:=nT (u:=.lst vs) a d;exact k q vs _ _ (c.trans<|a.gb e) (a.grow e) (c.there q d) i f ah b
 .cases h
def SR.D9{l:cw}{u:HO}(x:SR B g H W s)(j:g.HF l=Y)(f:g.o l=Y)(k:H l=U u):SR B (g.grow<|upd g.HF l u) H W s:=by
 have sl:∀p c v,bu B g H p c v->bu B (g.grow<|upd g.HF l u) H p c v:=λp c v h=>bu.mv (g:=g) (g':=g.grow<|upd g.HF l u) (aY j) fh (λ_ q=>⟨q,J⟩) h;refine⟨x.st.mv (λb w e=>?_) (λb p e=>?_) (aY j) J λ_ _ q _=>⟨q,J⟩,x.lc.len,λi c e=>let⟨v,d,a⟩:=x.lc.at_ i c e;⟨v,d,sl _ _ _ a⟩⟩
 .have e:upd g.HF l u b=U w:=e
  by_cases hb:b=l
  .subst hb;rw[ah]at e;cases e;exact k
  .rw[ak hb]at e;exact x.sub _ _ e
 .obtain⟨d,a⟩:=x.st.live b p e
  have:b≠l:=λz=>by subst z;rw[show g.o b=U p from e]at f;cases f
  exact⟨by show upd g.HF l u b=Y;rw[ak this];exact d,a⟩
def eQ.D9{g1:G}{H1:Hp}{l:cw}{u:HO}(p:eQ g H g1 H1)(e:H l=Y)(d:g1.HF l=Y):eQ g H (g1.grow<|upd g1.HF l u) H1:=
 ⟨p.fr.trans<|aY d,p.pre,λb w h n z=>by
  obtain⟨a,f,c⟩:=p.rest b w h n z
  have:b≠l:=aA h e
  exact⟨a,by show upd g1.HF l u b=Y;rw[ak this];exact f,c⟩,p.there⟩
def xy(h:PE X e<|tO B fl):PE X e<|tE B<|dB fl:=aM h λW H Q z=>by
 obtain⟨g,s,t,s',x,h,k⟩:=z;revert h;refine aao λts n j=>λh=>?_;cases h;refine⟨g,s,_,_,x,j,λl vs g1 H1 d b m a f i c=>?_⟩;exact k _ _ H1 (d.D9 m a) (b.D9 a f i) ⟨l,vs,J,ah,c.same<|aY a⟩
def OH(b:PT X a<|tT B u):PW X (.BoolOp .And [a] pos)<|tT B u:=HJ b
def Ug(b:PT X a<|tT B u):PW X (.BoolOp .Or [a] pos)<|tT B u:=NG b
def Uh{rest:Bz}(m:PT X a<|tT B u)(l:PW X (.BoolOp .And (b::rest) pos)<|tT B v):PW X (.BoolOp .And (a::b::rest) pos)<|tT B<|pY u v:=Mr (NH m l) λW H Q z=>by
 obtain⟨g,s,t,s',x,h,k⟩:=z;revert h;refine aao λd e n=>λh=>?_;refine⟨g,s,d,e,x,n,λg1 H1 f c=>?_⟩;cases d with
 |true=>exact uY ⟨g1,e,_,_,c,h,λg2 Z j i=>k g2 Z (f.trans j) i⟩
 |false=>cases h;exact uX<|k g1 H1 f c
def YN{rest:Bz}(m:PT X a<|tT B u)(l:PW X (.BoolOp .Or (b::rest) pos)<|tT B v):PW X (.BoolOp .Or (a::b::rest) pos)<|tT B<|kT u v:=Mr (RW m l) λW H Q z=>by
 obtain⟨g,s,t,s',x,h,k⟩:=z;revert h;refine aao λd e n=>λh=>?_;refine⟨g,s,d,e,x,n,λg1 H1 f c=>?_⟩;cases d with
 |true=>cases h;exact uY<|k g1 H1 f c
 |false=>exact uX ⟨g1,e,_,_,c,h,λg2 Z j i=>k g2 Z (f.trans j) i⟩
def Ui(f:PT X a<|tT B u):PT X (.UnaryOp .Not a pos)<|tT B<|dS u:=vf (NI f) λW H Q z=>by
 obtain⟨g,s,t,s',x,h,k⟩:=z;revert h;refine aao λd c i=>λh=>?_;cases h;exact⟨g,s,d,c,x,i,λg1 H1 e b=>k g1 H1 e b⟩
def rV{t:T}{k:Bool}(h:Rr t=U k):t=.bl k:=by
 cases t<;>first|(cases h;done)|(cases h;rfl)
def OI{op}(b:PE X a<|tE B F):PE X (.BoolOp op [a] pos)<|tE B F:=NJ b
def OJ{rest:Bz}(p:PE X a<|tE B F)(o:PE X (.BoolOp .And (b::rest) pos)<|tE B fb):PE X (.BoolOp .And (a::b::rest) pos)<|tE B<|pZ F fb:=aM (NK p o) λW H Q z=>by
 obtain⟨g,s,t,s',x,h,k⟩:=z;revert h;refine aao λd e r=>aan λi q=>λh=>?_;cases rV (ai q);refine⟨g,s,_,e,x,r,λv g1 H1 f c m=>⟨i,m,?_⟩⟩;cases i with
 |true=>exact uY ⟨g1,e,_,_,c,h,λw g2 Z n j l=>k w g2 Z (f.trans n) j l⟩
 |false=>cases h;exact uX<|k _ g1 H1 f c J
def OL(i:PE X a<|tE B F):PE X (.UnaryOp .Not a pos)<|tE B<|BJ F:=aM (NL i) λW H Q z=>by
 obtain⟨g,s,t,s',x,h,k⟩:=z;revert h;refine aao λd c l=>aan λm j=>λh=>?_;cases rV (ai j);cases h;exact⟨g,s,_,c,x,l,λv g1 H1 f b e=>⟨m,e,k _ g1 H1 f b J⟩⟩
def Uj(n:PT X c<|tT B u)(p:PE X a<|tE B F)(o:PE X b<|tE B fb):PE X (.IfExp c a b pos)<|tE B<|u_ u F fb:=aM (uO n p o) λW H Q z=>by
 obtain⟨g,s,t,s',x,h,k⟩:=z;revert h;refine aao λd f q=>λh=>?_;refine⟨g,s,d,f,x,q,λg1 H1 m l=>?_⟩;cases d with
 |true=>exact uY ⟨g1,f,_,_,l,h,λw g2 Z j e i=>k w g2 Z (m.trans j) e i⟩
 |false=>exact uX ⟨g1,f,_,_,l,h,λw g2 Z j e i=>k w g2 Z (m.trans j) e i⟩
def D_{al:BM}{HF:Hp}{t:T}{k:Bool}{v:V}(h:Iz t=U k)(c:aK HF H)(r:Rep B al HF t v):N6 B.K v H k:=by
 cases t<;>try(cases h;done)
 .cases h;cases r;rfl
 .cases h
  obtain⟨a,vs,rfl,q,d⟩:=r;refine .inl ⟨vs,c9.of<|c _ _ q,?_⟩
  have:=d.len
  rename_i b;cases b<;>cases vs<;>first|rfl|(cases this)
def Mx(j:PE X a<|tE B F)(l:B.K=X.K)(he:∀c,Gf a X.env c=(do let v <- c;rO a.pos;rS [v] (truthy v))):PT X a<|tT B<|tB F:=vf (Du j he) λW H Q z=>by
 obtain⟨g,s,t,s',x,h,k⟩:=z;revert h;refine aao λd e n=>aan λo m=>λh=>?_;cases h;exact⟨g,s,_,e,x,n,λv g1 H1 i b f=>⟨_,l▸D_ (ai m) b.sub f,k g1 H1 i b⟩⟩
section
def fK(l:B1):(⟨l.toArray⟩:Str).length=l.length:=by show l.toArray.size=_;simp
def YO{l:B1}(h:l.length<=1000000):(⟨l.toArray⟩:Str).length<=dv:=by rw[fK,ew];exact dq h (by decide)
def OM(a b:B1):(⟨a.toArray⟩:Str)++⟨b.toArray⟩=⟨(a++b).toArray⟩:=by
 show(⟨a.toArray++b.toArray⟩:Str)=_;simp
def My:R2:=λx y H Q=>Cm (λi j=>.int<|i+j) x y H Q\/(∃i j,x=.str i/\y=.str j/\i.length+j.length<=dv/\Q (.str<|i++j) H)\/SO x y H Q
def IC:fW X (kn .Add) My:=NZ.or<|wZ.or Oh
def Uk:pD X Tz My:=λB u al HF H x y t j ty Q a d b h k=>by
 cases j<;>first|(cases h;done)|(cases ty<;>try(cases h;done))
 .cases h;exact .inl ⟨_,_,d,b,k _ HF H (.refl a) J⟩
 .obtain⟨c,rfl⟩:=aX h
  obtain⟨rfl,_⟩:=d;obtain⟨rfl,_⟩:=b;refine .inr<|.inl ⟨_,_,J,J,?_,?_⟩
  .rw[fK,fK,ew];exact dq c (by decide)
  .rw[OM]
   exact k _ HF H (.refl a) ⟨J,by rw[dg];exact c⟩
 .obtain⟨c,rfl⟩:=aX h
  obtain⟨l,f,rfl,q,r⟩:=d;obtain⟨m,e,rfl,n,g⟩:=b;refine .inr<|.inr ⟨l,m,f,e,J,J,a _ _ q,a _ _ n,by rw[<- r.len,<- g.len,ew];exact dq c<|by decide,λp s=>?_⟩
  have i:=Gr.new (o:=.lst<|f++e) a s;exact k _ _ _ i ⟨p,_,J,ah,(r.app g).same i.fr⟩
def Ul{f:T->T->FK}{gg:Int->Int->V}{G:Int->Int->T}(g:∀a ty t,f a ty=U t->∃i j,a=.int i/\ty=.int j/\t=G i j)(e:∀B al i j H,Rep B al H (G i j)<|gg i j):pD X f<|Cm gg:=λB l al HF H x y t a ty Q b d c h k=>by
 obtain⟨i,j,rfl,rfl,rfl⟩:=g _ _ _ h;exact⟨i,j,d,c,k _ HF H (.refl b)<|e B al i j HF⟩
def Ea{f:T->T->FK}{gg:Int->Int->V}{G:Int->Int->T}{C:Int->Int->Prop}(l:∀a ty t,f a ty=U t->∃i j,a=.int i/\ty=.int j/\t=G i j/\C i j)(g:∀B al i j H,Rep B al H (G i j)<|gg i j):pD X f<|rI C gg:=λB m al HF H x y t a ty Q b e d h k=>by
 obtain⟨i,j,rfl,rfl,rfl,c⟩:=l _ _ _ h;exact⟨i,j,e,d,c,k _ HF H (.refl b)<|g B al i j HF⟩
def Um:pD X TH<|Cm λi j=>.int<|i-j:=Ul (G:=λi j=>.int<|i-j) (λa ty t h=>by
 cases a<;>first | (cases h;done) | (cases ty<;>first | (cases h;done) | (cases h;exact⟨_,_,J,J,J⟩))) λ_ _ _ _ _=>J
def Uo:pD X TL<|rI Sh λi j=>.int<|i/j:=Ea (G:=λi j=>.int<|i/j) (λa ty t h=>by
 cases a<;>first | (cases h;done) | (cases ty<;>first | (cases h;done) | (obtain⟨c,rfl⟩:=aX h;exact⟨_,_,J,J,J,c⟩))) λ_ _ _ _ _=>J
def Up:pD X TM<|rI (λ_ j=>0<j) λi j=>.int<|i % j:=Ea (G:=λi j=>.int<|i % j) (λa ty t h=>by
 cases a<;>first | (cases h;done) | (cases ty<;>first | (cases h;done) | (obtain⟨c,rfl⟩:=aX h;exact⟨_,_,J,J,J,c⟩))) λ_ _ _ _ _=>J
def Uq:pD X TN<|rI Si λi j=>.int<|i^j.toNat:=Ea (G:=λi j=>.int<|i^j.toNat) (λa ty t h=>by
 cases a<;>first | (cases h;done) | (cases ty<;>first | (cases h;done) | (obtain⟨c,rfl⟩:=aX h;exact⟨_,_,J,J,J,c⟩))) λ_ _ _ _ _=>J
def zm(i j:Int):Prop:=NY i j\/(i.natAbs.log2<2000000/\j.natAbs.log2<2000000)
def qH{i:Int}(h:i.natAbs.log2<2000000):il i<=2000000:=by
 unfold il;split
 .exact Lh ..
 .exact dq h (by decide)
theorem zm.ok{i j:Int}(h:zm i j):IntMulOk i j:=by
 rcases h with h|⟨f,e⟩
 .exact h.ok
 .have a:=qH f
  have b:=qH e;intro q;rw[dj]at q;have c:=dc<|show decide (((il i:Nat):Int)+(il j:Nat) > (bitsLine:Nat))=O from q.2;have d:(bitsLine:Nat)=134217728:=J
  lia
def ID:fW X (kn .Mult)<|rI zm λi j=>.int<|i*j:=WN λ_ _ _ _ _ _ _ a q=>PyProof.Rows.mul_int q a.ok
def Eb:R2:=λx y H Q=>∃l k,x=SV l/\y=.int k/\(0<=k/\k<=100)/\l≠[]/\l.length<=10000/\Q (SV (dN k.toNat l).flatten) H
theorem zo(l:B1):∀(k:Nat)(a:B1),(dN k l.toArray).foldl (·++·) a.toArray=(a++(dN k l).flatten).toArray
 |0,a=>by simp
 |k+1,a=>by
  rw[m_,uf,show a.toArray++l.toArray=(a++l).toArray by simp,zo l k,m_,kJ,b_]
def zp(l:B1)(k:Nat):(dN k l).flatten.length=k*l.length:=by
 rw[Lq,C0,List.sum_replicate_nat]
def Ec:fW X (kn .Mult) Eb:=by
 intro A s W H x y v u Q I c b h;obtain⟨l,k,rfl,rfl,⟨z,i⟩,d,f,q⟩:=h;obtain⟨t,rfl⟩:=c;obtain⟨o,rfl⟩:=b;have len:=fK l;have g:=ew;have r:k.toNat*l.length<=100*10000:=CL (by lia) f
 refine PySem.P.mul_str (by rw[dd<|by lia,dd<|by lia];rfl) (λp _=>?_) (λ_ _=>?_) ?_
 .intro n
  rw[len]at n;have w:((2:Int)^63-1)/k*k<=2^63-1:=Int.ediv_mul_le _ (by lia)
  have j:(2:Int)^63-1<((2^63-1)/k+1)*k:=Int.lt_ediv_add_one_mul_self _ (by lia)
  have m:(((2:Int)^63-1)/k+1)*k<=10000*100:=Int.le_trans (Int.mul_le_mul_of_nonneg_right (by lia)<|by lia)<|Int.mul_le_mul_of_nonneg_left i<|by decide
  exact eD (Int.lt_of_lt_of_le j m) (by decide)
 .rw[len,Lf]
  unfold Builtin.Str.tooLong;exact dd (by lia)
 .by_cases h1:k<1
  .have e:k=0:=by lia
   subst e;rw[bt h1];exact⟨by show 0<=_;lia,⟨SV [],H,I.tok _,⟨_,J⟩,q⟩⟩
  .rw[ag h1]
   split
   .rename_i a
    have e:k=1:=by
     rw[Bd]at a;rcases a with a|a
     .exact dc (by simpa using a)
     .have a:=eq_of_beq a
      rw[len]at a;exact eD (uw.mp a) d
    subst e;have e:(dN (Int.toNat 1) l).flatten=l:=by simp
    rw[e]at q;exact⟨SV l,H,I,⟨_,J⟩,q⟩
   .have e:=zo l k.toNat []
    rw[lT]at e;refine⟨?_,?_⟩
    .show Array.size _<=_
     rw[show((dN k.toNat (⟨l.toArray⟩:Str).cps).foldl (·++·) #[])=_ from e,bT,zp]
     lia
    .rw[show((dN k.toNat (⟨l.toArray⟩:Str).cps).foldl (·++·) #[])=_ from e]
     exact⟨SV (dN k.toNat l).flatten,H,I.tok _,⟨_,J⟩,q⟩
def Mz:R2:=λx y H Q=>rI zm (λi j=>.int<|i*j) x y H Q\/SW x y H Q\/Eb x y H Q
def IE:fW X (kn .Mult) Mz:=ID.or<|DO.or Ec
def MB:T->T->FK
 |.int i,.int j=>TJ (.int i)<|.int j
 |.str l,.int k=>gd ((0<=k/\k<=100)/\l≠[]/\l.length<=10000)<|.str (dN k.toNat l).flatten
 |.lst a,.int k=>TJ (.lst a)<|.int k
 |_,_=>Y
def Ur:pD X MB Mz:=λB i al HF H x y t g ty Q a d b h k=>by
 cases g<;>first|(cases h;done)|(cases ty<;>try(cases h;done))
 .obtain⟨c,rfl⟩:=aX h
  exact .inl ⟨_,_,d,b,c,k _ HF H (.refl a) J⟩
 .obtain⟨c,rfl⟩:=aX h
  obtain⟨rfl,_⟩:=d;refine .inr<|.inr ⟨_,_,J,b,c.1,c.2.1,c.2.2,k _ HF H (.refl a) ⟨J,?_⟩⟩;rw[zp];exact CL (show _<=100 from Int.toNat_le.mpr c.1.2) c.2.2
 .obtain⟨c,rfl⟩:=aX h
  obtain⟨l,f,rfl,q,r⟩:=d;refine .inr<|.inl ⟨l,_,f,J,b,a _ _ q,by lia,by lia,by rw[<- r.len,ew];lia,λp e=>?_⟩
  exact k _ _ _ (Gr.new a e) ⟨p,_,J,ah,(r.flat _).same<|aY<|a.free e⟩
def bO:o7->T->T->FK
 |.Add=>Tz
 |.Sub=>TH
 |.Mult=>MB
 |.FloorDiv=>TL
 |.Mod=>TM
 |.Pow=>TN
 |_=>λ_ _=>Y
def Us(e:B.K=X.K)(op:o7)(d:PE X a<|tE B F)(c:PE X b<|tE B fb):PE X (.BinOp a op b pos)<|tE B<|a_ (bO op) F fb:=by
 have no:∀f:T->T->FK,(∀x y,f x y=Y)->PE X (.BinOp a op b pos) (tE B<|a_ f F fb):=λf i _ _ _ _ _ _ z=>by
  obtain⟨_,_,_,_,_,h,_⟩:=z;revert h;refine aao λj m o=>aao λty l n=>aan λk g=>λh=>?_;rw[i]at g;cases g
 cases op
 case Add=>exact aM (nB IC d c)<|iM e Uk
 case Sub=>exact aM (nB N1 d c)<|iM e Um
 case Mult=>exact aM (nB IE d c)<|iM e Ur
 case FloorDiv=>exact aM (nB HQ d c)<|iM e Uo
 case Mod=>exact aM (nB N2 d c)<|iM e Up
 case Pow=>exact aM (nB N3 d c)<|iM e Uq
 all_goals exact no _ λ_ _=>J
def Ut(b:B.K=X.K)(f:PE X a<|tE B F):PE X (.UnaryOp .USub a pos)<|tE B<|dF pW F:=
 aM (Sf N4 f)<|Mv b λB b al HF H x t c Q d e h k=>by
  cases c<;>try(cases h;done)
  cases h;exact⟨_,e,k _ HF H (.refl d) J⟩
end
section
def xA{B:KT}{al:BM}{H:Hp}{t:T}{v:V}(h:Rep B al H t v)(f:cO t=O):(t=.non/\v=.non)\/(∃b,t=.bl b/\v=.bl b)\/(∃i,t=.int i/\v=.int i)\/∃l,t=.str l/\v=.str ⟨l.toArray⟩:=by
 cases t with
 |non=>exact .inl ⟨J,h⟩
 |bl b=>exact .inr<|.inl ⟨b,J,h⟩
 |int i=>exact .inr<|.inr<|.inl ⟨i,J,h⟩
 |str l=>exact .inr<|.inr<|.inr ⟨l,J,h.1⟩
 |_=>cases f
def d_{B:KT}{al:BM}{H:Hp}{t:T}{v:V}(h:Rep B al H t v)(f:cO t=O):eA v=O:=by
 rcases xA h f with⟨_,rfl⟩|⟨_,_,rfl⟩|⟨_,_,rfl⟩|⟨_,_,rfl⟩<;>rfl
def str_beq(l m:B1):((⟨l.toArray⟩:Str) == ⟨m.toArray⟩)=decide (l=m):=by
 by_cases h:l=m
 .subst h;simp
 .rw[dd h,beq_eq_false_iff_ne]
  intro e;injection e with e
  exact h (by simpa using e)
def jY{B:KT}{al:BM}{H:Hp}{t u:T}{v w:V}(h:Rep B al H t v)(h':Rep B al H u w)(f:cO t=O)(a:cO u=O):DJ v w=eqT t u:=by
 rcases xA h f with⟨rfl,rfl⟩|⟨b,rfl,rfl⟩|⟨i,rfl,rfl⟩|⟨l,rfl,rfl⟩<;>rcases xA h' a with⟨rfl,rfl⟩|⟨c,rfl,rfl⟩|⟨j,rfl,rfl⟩|⟨m,rfl,rfl⟩<;>first|rfl|exact str_beq _ _|exact Bool.beq_eq_decide_eq _ _
def jZ{d:dm}{W:St}{H HF:Hp}{s:bh}{a:cw}{vs:List V}(I:Inv X d W H s)(b:aK HF H)(h:kM X.K HF a vs):∃its:B2,Vals vs its/\s.heap.IsTuple a its.toArray:=by
 obtain⟨its,r,c,e⟩:=I.tuple (xs:=vs)<|b8 b h;exact⟨its,r,c⟩
def j4{c:dm}{W:St}{H HF:Hp}{s:bh}{a:cw}{vs:List V}(I:Inv X c W H s)(b:aK HF H)(h:HF a=U (.lst vs)):∃its:B2,Vals vs its/\s.heap.IsList a its.toArray:=by
 obtain⟨its,r,p,d⟩:=I.list<|c9.of<|b _ _ h;exact⟨its,r,p.isList⟩
def Ed{v:V}(f:eA v=O):DJ v v=O:=by
 cases v<;>first|(cases f;done)|rfl|(show(_ == _)=O;exact n6 _)
def Ef(t u:T):shape 0 t u=(cO t&&cO u):=J
def zq{al:BM}(o:B.K=X.K){D:dm}{W:St}{H HF:Hp}{s:bh}(I:Inv X D W H s)(m:aK HF H)(n:Nat):∀{t u:T}{v:V},Rep B al HF t v->Rep B al HF u v->shape n t u=O->eqT t u=O:=by
 have flat:∀{t u:T}{v:V},Rep B al HF t v->Rep B al HF u v->(cO t&&cO u)=O->eqT t u=O:=λh b f=>by
  obtain⟨p,C⟩:=uD.mp f;rw[<- jY h b p C];exact Ed<|d_ h p
 induction n with
 |zero=>exact λ{t u v} h b sh=>flat h b<|(Ef t u).symm.trans sh
 |succ n x=>
  intro t u v h b sh;have d:∀{ts c:FC}{vs:List V},au B al HF ts vs->au B al HF c vs->all2 (shape n) ts c=O->iJ ts c=O:=by
   intro ts
   induction ts with
   |nil=>intro c vs h b _;cases(show vs=[]from h);cases c with
    |nil=>rfl
    |cons u c=>obtain⟨_,_,e,_⟩:=b;cases e
   |cons t ts l=>intro c vs h b sh;cases c with
    |nil=>obtain⟨_,_,e,_⟩:=h;cases(show vs=[]from b);cases e
    |cons u c=>
     obtain⟨v,r,rfl,z,y⟩:=h;obtain⟨G,g,e,F,w⟩:=b;cases e;obtain⟨k,j⟩:=uD.mp<|show(shape n t u&&all2 (shape n) ts c)=O from sh;show(eqT t u&&iJ ts c)=O;rw[x z F k,l y w j];rfl
  cases t with
  |tup ts=>
   cases u with
   |tup c=>
    obtain⟨a,vs,rfl,q,r⟩:=h;obtain⟨E,A,e,i,g⟩:=b;cases e;have ev:=I.qr (b8 m<|o▸q)<|b8 m<|o▸i;subst ev;exact d r g sh
   |_=>exact flat h b sh
  |lst ts=>
   cases u with
   |lst c=>
    obtain⟨a,vs,rfl,q,r⟩:=h;obtain⟨E,A,e,i,g⟩:=b;cases e;rw[q]at i;cases i;exact d r g sh
   |_=>exact flat h b sh
  |_=>exact flat h b (by cases u<;>exact sh)
theorem vg{p:T->T->Bool}:∀{as bs:FC},all2 p as bs=O->∀{j:Nat}{a b:T},as[j]?=U a->bs[j]?=U b->p a b=O
 |a::as,b::bs,h,0,_,_,d,c=>by
  simp at d c;subst d c;exact(uD.mp h).1
 |a::as,b::bs,h,j+1,_,_,d,c=>vg (uD.mp h).2 (j:=j) (by simpa using d) (by simpa using c)
 |[],_,_,_,_,_,d,_=>by simp at d
 |_::_,[],_,_,_,_,_,c=>by simp at c
theorem fU:∀(xs ys:FC),((bZ<|min xs.length ys.length).all (λj=>eqT (xs.getD j .non)<|ys.getD j .non)&&xs.length == ys.length)=iJ xs ys
 |[],[]=>J
 |[],_::_=>by simp[iJ]
 |_::_,[]=>by simp[iJ]
 |x::xs,y::ys=>by
  have a:=fU xs ys;rw[bI,bI,Nat.succ_min_succ,CY,fG,CZ];have e:(xs.length+1 == ys.length+1)=(xs.length == ys.length):=by
   by_cases h:xs.length=ys.length<;>simp[h]
  rw[e];show((eqT x y&&(bZ<|min xs.length ys.length).all λj=>eqT (xs.getD j .non)<|ys.getD j .non)&&_)=(eqT x y&&iJ xs ys);rw[<- a,Bool.and_assoc]
theorem nY:∀{xs ys:FC},xs.length≠ys.length->iJ xs ys=Zb
 |[],[],h=>eD J h
 |[],_::_,_=>J
 |_::_,[],_=>J
 |x::xs,y::ys,h=>by
  show(eqT x y&&iJ xs ys)=Zb;rw[nY λe=>h<|by simp[e],LQ]
def in1_units(A:eL):A.in1.units=A.units+1:=J
def j7{al:BM}{HF:Hp}{A:eL}{s:bh}{ts us:FC}{vs d:List V}{its its':B2}{n:Nat}(r:au B al HF ts vs)(f:au B al HF us d)(e:Vals vs its)(c:Vals d its')(sh:all2 (shape n) ts us=O)
  (k:∀{t u:T}{v w:V}{x y:ar},Rep B al HF t v->Rep B al HF u w->RelV v x->RelV w y->shape n t u=O->n4 A s x y (eqT t u)) :
  ∀j(h:j<its.toArray.size)(g:j<its'.toArray.size),n4 A s its.toArray[j] its'.toArray[j]<|(λj=>eqT (ts.getD j .non)<|us.getD j .non) j:=by
 intro j h g;have l1:=e.length;have l2:=c.length;have l3:=r.len;have l4:=f.len;have b:j<ts.length:=by rw[l3,l1];simpa using h
 have a:j<us.length:=by rw[l4,l2];simpa using g
 obtain⟨v,o,q1⟩:=r.get<|cD b;obtain⟨w,m,q2⟩:=f.get<|cD a;obtain⟨x,l,i⟩:=e.get o;obtain⟨y,e4,q4⟩:=c.get m;have q5:its.toArray[j]=x:=by
  obtain⟨_,z⟩:=du.mp l;simpa using z
 have q6:its'.toArray[j]=y:=by
  obtain⟨_,z⟩:=du.mp e4;simpa using z
 rw[q5,q6];have g1:ts.getD j .non=ts[j]:=by rw[gP,cD b];rfl
 have g2:us.getD j .non=us[j]:=by rw[gP,cD a];rfl
 show n4 A s x y<|eqT (ts.getD j .non)<|us.getD j .non;rw[g1,g2];exact k q1 q2 i q4<|vg sh (cD b)<|cD a
def IF{al:BM}(E:B.K=X.K){Q:dm}{W:St}{H HF:Hp}{s:bh}(I:Inv X Q W H s)(g:aK HF H)(n:Nat):∀(A:eL){t u:T}{v w:V}{x y:ar},A.units+n<kd->Rep B al HF t v->Rep B al HF u w->RelV v x->RelV w y->shape n t u=O->n4 A s x y (eqT t u):=by
 induction n with
 |zero=>
  intro A t u v w x y C rt f j i sh;have sh:=(Ef t u).symm.trans sh;obtain⟨p,o⟩:=uD.mp sh;rw[<- jY rt f p o];exact xo j i (d_ rt p)<|d_ f o
 |succ n N=>
  intro A t u v w x y C rt f j i sh;have flat:(cO t&&cO u)=O->n4 A s x y (eqT t u):=λsh=>by
   obtain⟨p,o⟩:=uD.mp sh;rw[<- jY rt f p o];exact xo j i (d_ rt p)<|d_ f o
  cases t with
  |tup ts=>
   cases u with
   |tup G=>
    obtain⟨a,vs,rfl,q,r⟩:=id rt;obtain⟨b,P,rfl,L,l⟩:=id f;cases j;cases i;by_cases hab:a=b
    .subst hab
     rw[zq E I g (n+1) rt f sh];exact SeqAt.EqAt.same _
    obtain⟨M,k,D⟩:=jZ I g<|E▸q;obtain⟨m,h,F⟩:=jZ I g<|E▸L;have z:=wj D F (pJ (cH _ _) C)<|j7 (A:=A.in1) r l k h sh λa b c d e=>N A.in1 (by rw[in1_units];lia) a b c d e
    rw[bT,bT,<- k.length,<- h.length,<- r.len,<- l.len,fU]at z;exact .of_refs hab z
   |_=>exact flat sh
  |lst ts=>
   cases u with
   |lst G=>
    obtain⟨a,vs,rfl,q,r⟩:=id rt;obtain⟨b,P,rfl,L,l⟩:=id f;cases j;cases i;by_cases hab:a=b
    .subst hab
     rw[zq E I g (n+1) rt f sh];exact SeqAt.EqAt.same _
    obtain⟨M,k,D⟩:=j4 I g q;obtain⟨m,h,F⟩:=j4 I g L;have l1:=k.length;have l2:=h.length;have l3:=r.len;have l4:=l.len;by_cases hsz:ts.length=G.length
    .have z:=xi D F (by rw[bT,bT];lia) (pJ (cH _ _) C)<|j7 (A:=A.in1) r l k h sh λa b c d e=>N A.in1 (by rw[in1_units];lia) a b c d e
     have e:=fU ts G;rw[<- hsz,Li,n6,yI]at e;rw[bT,<- l1,<- l3,e]at z;exact .of_refs hab z
    .have z:=sm (s:=s) (A:=A) D F (by rw[bT,bT,bne_iff_ne];lia)<|pJ (cH _ _) C
     rw[<- nY hsz]at z;exact .of_refs hab z
   |_=>exact flat sh
  |_=>exact flat (by cases u<;>exact sh)
def IG{al:BM}{HF:Hp}{A:eL}{s:bh}{t u:T}{v w:V}{x y:ar}(rt:Rep B al HF t v)(f:Rep B al HF u w)(e:RelV v x)(d:RelV w y)(h:cO t=O)(g:cO u=O):zr A s x y (eqT t u)/\wh A s x y (!eqT t u):=by
 rw[<- jY rt f h g];have g1:=d_ rt h;have g2:=d_ f g;cases v with
 |non=>
  cases e;cases w with
  |non=>cases d;exact⟨SeqAt.RcAt.none_none,SeqAt.RcNeAt.none_none⟩
  |bl b=>cases d;exact⟨SeqAt.RcAt.none_bool b,SeqAt.RcNeAt.none_bool b⟩
  |int b=>obtain⟨t,rfl⟩:=d;exact⟨SeqAt.RcAt.none_int b t,SeqAt.RcNeAt.none_int b t⟩
  |str b=>obtain⟨t,rfl⟩:=d;exact⟨SeqAt.RcAt.none_str b t,SeqAt.RcNeAt.none_str b t⟩
  |_=>exact eD (show Zb=O from g2) cK
 |bl a=>
  cases e;cases w with
  |non=>cases d;exact⟨SeqAt.RcAt.bool_none a,SeqAt.RcNeAt.bool_none a⟩
  |bl b=>cases d;exact⟨SeqAt.RcAt.bool_bool a b,SeqAt.RcNeAt.bool_bool a b⟩
  |int b=>obtain⟨t,rfl⟩:=d;exact⟨SeqAt.RcAt.bool_int a b t,SeqAt.RcNeAt.bool_int a b t⟩
  |str b=>obtain⟨t,rfl⟩:=d;exact⟨SeqAt.RcAt.bool_str a b t,SeqAt.RcNeAt.bool_str a b t⟩
  |_=>exact eD (show Zb=O from g2) cK
 |int a=>
  obtain⟨c,rfl⟩:=e;cases w with
  |non=>cases d;exact⟨SeqAt.RcAt.int_none a c,SeqAt.RcNeAt.int_none a c⟩
  |bl b=>cases d;exact⟨SeqAt.RcAt.int_bool a c b,SeqAt.RcNeAt.int_bool a c b⟩
  |int b=>obtain⟨t,rfl⟩:=d;exact⟨SeqAt.RcAt.int_int a c b t,SeqAt.RcNeAt.int_int a c b t⟩
  |str b=>obtain⟨t,rfl⟩:=d;exact⟨SeqAt.RcAt.int_str a c b t,SeqAt.RcNeAt.int_str a c b t⟩
  |_=>exact eD (show Zb=O from g2) cK
 |str a=>
  obtain⟨c,rfl⟩:=e;cases w with
  |non=>cases d;exact⟨SeqAt.RcAt.str_none a c,SeqAt.RcNeAt.str_none a c⟩
  |bl b=>cases d;exact⟨SeqAt.RcAt.str_bool a c b,SeqAt.RcNeAt.str_bool a c b⟩
  |int b=>obtain⟨t,rfl⟩:=d;exact⟨SeqAt.RcAt.str_int a c b t,SeqAt.RcNeAt.str_int a c b t⟩
  |str b=>obtain⟨t,rfl⟩:=d;exact⟨SeqAt.RcAt.str_str a c b t,SeqAt.RcNeAt.str_str a c b t⟩
  |_=>exact eD (show Zb=O from g2) cK
 |_=>exact eD (show Zb=O from g1) cK
def Eg{al:BM}(L:B.K=X.K){Q:dm}{W:St}{H HF:Hp}{s:bh}(I:Inv X Q W H s)(m:aK HF H)(A:eL){t u:T}{v w:V}{x y:ar}(R:A.units+6<kd)(rt:Rep B al HF t v)(F:Rep B al HF u w)(E:RelV v x)(D:RelV w y)(sh:shape 5 t u=O) :
  zr A s x y (eqT t u)/\wh A s x y (!eqT t u):=by
 have flat:(cO t&&cO u)=O->zr A s x y (eqT t u)/\wh A s x y (!eqT t u):=λsh=>by
  obtain⟨P,N⟩:=uD.mp sh;exact IG rt F E D P N
 have k:A.units<kd:=by lia
 have dp:=λ{t u:T} {v w:V} {x y:ar} (a:Rep B al HF t v) (b:Rep B al HF u w) (c:RelV v x) (d:RelV w y) (e:shape 4 t u=O)=>IF L I m 4 A.in1 (by rw[in1_units];lia) a b c d e
 cases t with
 |tup ts=>
  cases u with
  |tup C=>
   obtain⟨a,vs,rfl,q,r⟩:=id rt;obtain⟨b,M,rfl,G,o⟩:=id F;cases E;cases D;obtain⟨h,n,i⟩:=jZ I m<|L▸q;obtain⟨f,l,j⟩:=jZ I m<|L▸G;have it:=j7 (A:=A.in1) (s:=s) r o n l sh dp;have z:=wj i j k it;have g:=SeqAt.RcNeAt.tuples i j k it;rw[bT,bT,<- n.length,<- l.length,<- r.len,<- o.len,fU]at z g;exact⟨z,g⟩
  |_=>exact flat sh
 |lst ts=>
  cases u with
  |lst C=>
   obtain⟨a,vs,rfl,q,r⟩:=id rt;obtain⟨b,M,rfl,G,o⟩:=id F;cases E;cases D;obtain⟨h,n,i⟩:=j4 I m q;obtain⟨f,l,j⟩:=j4 I m G;have l1:=n.length;have l2:=l.length;have l3:=r.len;have l4:=o.len;by_cases hsz:ts.length=C.length
   .have it:=j7 (A:=A.in1) (s:=s) r o n l sh dp
    have p:h.toArray.size=f.toArray.size:=by rw[bT,bT];lia
    have z:=xi i j p k it;have g:=SeqAt.RcNeAt.lists i j p k it;have e:=fU ts C;rw[<- hsz,Li,n6,yI]at e;rw[bT,<- l1,<- l3,e]at z g;exact⟨z,g⟩
   .have p:(h.toArray.size != f.toArray.size)=O:=by rw[bT,bT,bne_iff_ne];lia
    have z:=sm (s:=s) (A:=A) i j p k;have g:=SeqAt.RcNeAt.lists_lengths (s:=s) (A:=A) i j p k;have e:eqT (.lst ts) (.lst C)=Zb:=nY hsz;rw[e];exact⟨z,g⟩
  |_=>exact flat sh
 |_=>exact flat (by cases u<;>exact sh)
def OO(e:X.A.units+6<kd):fW X (eJ .Eq) λx y H Q=>∃B al HF t u,B.K=X.K/\aK HF H/\Rep B al HF t x/\Rep B al HF u y/\shape 5 t u=O/\Q (.bl<|eqT t u) H:=by
 intro i s W H x y v u Q I c b h;obtain⟨B,al,HF,t,g,f,a,rt,d,sh,q⟩:=h;exact(Eg f I a X.A e rt d c b sh).1 _ _ _ _<|iF I q J
def OP(e:X.A.units+6<kd):fW X (eJ .NotEq) λx y H Q=>∃B al HF t u,B.K=X.K/\aK HF H/\Rep B al HF t x/\Rep B al HF u y/\shape 5 t u=O/\Q (.bl<|!eqT t u) H:=by
 intro i s W H x y v u Q I c b h;obtain⟨B,al,HF,t,g,f,a,rt,d,sh,q⟩:=h;exact(Eg f I a X.A e rt d c b sh).2 _ _ _ _<|iF I q J
def Eh:fW X (eJ .Is) λx y H Q=>∃a b,x=.bl a/\y=.bl b/\Q (.bl<|a == b) H:=by
 intro e s W H x y v u Q I d c h;obtain⟨a,b,rfl,rfl,q⟩:=h;cases d;cases c;exact PyProof.Rows.is_bool<|iF I q J
theorem vh{B:KT}{al:BM}{H:Hp}:∀{ts:FC}{vs:List V},au B al H ts vs->ts.all cO=O->vs.all eA=O
 |[],_,h,_=>by cases(show _=[]from h);rfl
 |t::ts,_,h,f=>by
  obtain⟨v,r,rfl,b,a⟩:=h;rw[fG,dj]at f;rw[fG,d_ b f.1,vh a f.2];rfl
theorem any_eq{B:KT}{al:BM}{H:Hp}{x:T}{a:V}(b:Rep B al H x a)(fx:cO x=O):∀{ts:FC}{vs:List V},au B al H ts vs->ts.all cO=O->(vs.any λy=>DJ y a)=ts.any λy=>eqT y x
 |[],_,h,_=>by cases(show _=[]from h);rfl
 |t::ts,_,h,f=>by
  obtain⟨v,r,rfl,d,c⟩:=h;rw[fG,dj]at f;rw[rn,rn,jY d b f.1 fx,any_eq b fx c f.2]
def xC{α:Type}(xs:List α)(i:Int):atT xs i=DI xs i:=by
 unfold atT DI Ib;by_cases h0:0<=i
 .rw[bt h0,bt h0]
  by_cases h1:i<xs.length
  .rw[bt h1,bt h1];rfl
  .rw[ag h1,ag h1];rfl
 .rw[ag h0,ag h0]
  by_cases h1:-(xs.length:Int)<=i
  .rw[bt h1,bt h1];rfl
  .rw[ag h1,ag h1];rfl
def rW{B:KT}{al:BM}{H:Hp}{ts:FC}{vs:List V}{i:Int}{t:T}(r:au B al H ts vs)(h:atT ts i=U t):∃v,DI vs i=U v/\Rep B al H t v:=by
 rw[xC]at h;unfold DI at h ⊢;rw[<- r.len];cases e:Ib ts.length i with
 |none=>rw[e]at h;cases h
 |some j=>
  rw[e]at h;exact r.get h
end
section
variable{n:Pos}{z Q:FO}{w C:Option de}
def Ei{al:BM}{H:Hp}{t:T}{v:V}(h:Rep B al H t v):decide (v=.non)=mi t:=by
 cases t with
 |non=>cases(show v=.non from h);rfl
 |bl b=>cases(show v=.bl b from h);rfl
 |int i=>cases(show v=.int i from h);rfl
 |str l=>obtain⟨rfl,_⟩:=h;rfl
 |tup ts=>obtain⟨a,vs,rfl,_⟩:=h;rfl
 |lst ts=>obtain⟨a,vs,rfl,_⟩:=h;rfl
 |scr ts=>obtain⟨a,rfl,_⟩:=h;rfl
 |obj _ _=>obtain⟨a,_,_,_,_,rfl,_⟩:=h;rfl
 |own _=>obtain⟨a,rfl,_⟩:=h;rfl
 |cC _ _=>obtain⟨a,c,rfl,_⟩:=h;rfl
def rIs:R2:=λx y H Q=>(y=.non/\Q (.bl<|decide<|x=.non) H)\/∃a b,x=.bl a/\y=.bl b/\Q (.bl<|a == b) H
def YQ:R2:=λx y H Q=>(y=.non/\Q (.bl<|!decide (x=.non)) H)\/∃a b,x=.bl a/\y=.bl b/\Q (.bl<|a != b) H
def zt{p:Bool}{c ty t:T}(h:TQ p c ty=U t):(ty=.non/\t=.bl (p == mi c))\/∃a b,c=.bl a/\ty=.bl b/\t=.bl (p == (a == b)):=by
 cases ty<;>try(cases h;done)
 .cases h;exact .inl ⟨J,J⟩
 .cases c<;>try(cases h;done)
  cases h;exact .inr ⟨_,_,J,J,J⟩
def YR:pD X (TQ O) rIs:=λB g al HF H x y t f ty Q c e d h k=>by
 rcases zt h with⟨rfl,rfl⟩|⟨a,b,rfl,rfl,rfl⟩
 .exact .inl ⟨d,by rw[Ei e];exact k _ HF H (.refl c)<|by cases mi f<;>rfl⟩
 .exact .inr ⟨a,b,e,d,k _ HF H (.refl c)<|by cases(a == b)<;>rfl⟩
def Uu:pD X (TQ Zb) YQ:=λB g al HF H x y t f ty Q c e d h k=>by
 rcases zt h with⟨rfl,rfl⟩|⟨a,b,rfl,rfl,rfl⟩
 .exact .inl ⟨d,by rw[Ei e];exact k _ HF H (.refl c)<|by cases mi f<;>rfl⟩
 .exact .inr ⟨a,b,e,d,k _ HF H (.refl c)<|by show V.bl (a != b)=V.bl (Zb == (a == b));cases a<;>cases b<;>rfl⟩
def Ej(K:bG)(neg:Bool):R2:=λx y H Q=>(∃i j,x=.str i/\y=.str j/\Q (.bl<|if neg then(!(!(eH j i 0 j.length 1).isEmpty))else(!(eH j i 0 j.length 1).isEmpty)) H)\/WZ K neg x y H Q
def OQ:fW X (eJ .In)<|Ej X.K Zb:=Bo.or Bv
def IJ:fW X (eJ .NotIn)<|Ej X.K O:=rF.or rM
def IK{a ty:T}{k:Bool}(h:Rq a ty=U k):(∃x l,a=.str x/\ty=.str l/\k=tU x l)\/((∃ys,(ty=.tup ys\/ty=.lst ys)/\(cO a=O/\ys.all cO=O)/\k=ys.any λy=>eqT y a)):=by
 cases ty<;>try(cases h;done)
 .cases a<;>try(cases h;done)
  cases h;exact .inl ⟨_,_,J,J,J⟩
 .obtain⟨c,rfl⟩:=aX h
  exact .inr ⟨_,.inl J,c,J⟩
 .obtain⟨c,rfl⟩:=aX h
  exact .inr ⟨_,.inr J,c,J⟩
def zu(x l:B1):(!(eH (⟨l.toArray⟩:Str) ⟨x.toArray⟩ 0 (⟨l.toArray⟩:Str).length 1).isEmpty)=(bZ<|l.length+1).any λi=>decide (i+x.length<=l.length)&&((l.drop i).take x.length == x):=by
 rw[LR,StrLaws.found_iff,C1];constructor
 .rintro⟨i,b,a⟩
  rw[oy,fK]at a;rw[fK,fK]at b;exact⟨i,gu.mpr<|by lia,by rw[dr b,yJ];exact a⟩
 .rintro⟨i,_,h⟩
  rw[dj,pq]at h;exact⟨i,by rw[fK,fK];exact h.1,by rw[oy,fK];exact h.2⟩
def IL(x l:B1):(!(eH (⟨l.toArray⟩:Str) ⟨x.toArray⟩ 0 (⟨l.toArray⟩:Str).length 1).isEmpty)=tU x l:=by
 match x with
 |[]=>exact zu ..
 |[c]=>exact StrLaws.found_one ..
 |_::_::_=>exact zu ..
def MC{neg:Bool}{B:KT}(o:B.K=X.K){al:BM}{HF H:Hp}{x y:V}{e ty:T}{k:Bool}{Q:VK}(f:aK HF H)(d:Rep B al HF e x)(c:Rep B al HF ty y)(h:Rq e ty=U k)(q:Q (.bl<|if neg then !k else k) H):Ej X.K neg x y H Q:=by
 rcases IK h with⟨x,l,rfl,rfl,rfl⟩|⟨j,n,⟨i,g⟩,rfl⟩
 .obtain⟨rfl,_⟩:=d
  obtain⟨rfl,_⟩:=c;refine .inl ⟨_,_,J,J,?_⟩;rw[IL];exact q
 .right
  have b:∀a vs,y=.ref a->(c9 X.K H a vs\/kM X.K H a vs)->au B al HF j vs->WZ X.K neg x y H Q:=λa vs p m r=>by
   refine⟨a,vs,p,m,d_ d i,vh r g,?_⟩;unfold Yh;rw[any_eq d i r g];exact q
  rcases n with rfl|rfl
  .obtain⟨a,vs,rfl,q1,r⟩:=c
   exact b a vs J (.inr<|o▸b8 f q1) r
  .obtain⟨a,vs,rfl,q1,r⟩:=c
   exact b a vs J (.inl<|c9.of<|f _ _ q1) r
def YS:pD X inD<|Ej X.K Zb:=λB g al HF H x y t b ty Q a f c h k=>by
 unfold inD at h;cases e:Rq b ty with
 |none=>rw[e]at h;cases h
 |some d=>rw[e]at h;cases h;exact MC g a f c e<|k _ HF H (.refl a) J
def Uv:pD X OD<|Ej X.K O:=λB g al HF H x y t b ty Q a f c h k=>by
 unfold OD at h;cases e:Rq b ty with
 |none=>rw[e]at h;cases h
 |some d=>rw[e]at h;cases h;exact MC g a f c e<|k _ HF H (.refl a) J
def Uw(X:Cx)(neg:Bool):R2:=λx y H Q=>∃B al HF t u,B.K=X.K/\aK HF H/\Rep B al HF t x/\Rep B al HF u y/\shape 5 t u=O/\Q (.bl<|if neg then !eqT t u else eqT t u) H
def YT:pD X Ń<|Uw X Zb:=λB f al HF H x y t b ty Q a e d h k=>by
 obtain⟨c,rfl⟩:=aX h;exact⟨B,al,HF,b,ty,f,a,e,d,c,k _ HF H (.refl a) J⟩
def YU:pD X ń<|Uw X O:=λB f al HF H x y t b ty Q a e d h k=>by
 obtain⟨c,rfl⟩:=aX h;exact⟨B,al,HF,b,ty,f,a,e,d,c,k _ HF H (.refl a) J⟩
def zw(f:Int->Int->Bool):pD X (D4 f)<|Cm λi j=>.bl<|f i j:=Ul (G:=λi j=>.bl<|f i j) (λa ty t h=>by
 cases a<;>first | (cases h;done) | (cases ty<;>first | (cases h;done) | (cases h;exact⟨_,_,J,J,J⟩))) λ_ _ _ _ _=>J
def IM:oa->T->T->FK
 |.Eq=>Ń
 |.NotEq=>ń
 |.Lt=>D4 λi j=>decide<|i<j
 |.LtE=>D4 λi j=>decide<|i<=j
 |.Gt=>D4 λi j=>decide<|j<i
 |.GtE=>D4 λi j=>decide<|j<=i
 |.Is=>TQ O
 |.IsNot=>TQ Zb
 |.In=>inD
 |.NotIn=>OD
def OR{op:oa}{k:Nat}(hr:bL k X.A):∃r,fW X (eJ op) r/\pD X (IM op) r:=by
 have a:X.A.units+6<kd:=by have:=hr.units;lia
 cases op
 case Eq=>exact⟨_,OO a,YT⟩
 case NotEq=>exact⟨_,OP a,YU⟩
 case Lt=>exact⟨_,Sj,zw _⟩
 case LtE=>exact⟨_,Sk,zw _⟩
 case Gt=>exact⟨_,Sl,zw _⟩
 case GtE=>exact⟨_,Sm,zw _⟩
 case Is=>exact⟨_,N5.or Eh,YR⟩
 case IsNot=>exact⟨_,HR.or u1,Uu⟩
 case In=>exact⟨_,OQ,YS⟩
 case NotIn=>exact⟨_,IJ,Uv⟩
def b9(a:FE):FT:=λs=>(a s).bind λp=>(aW<|Rr p.1).bind λb=>.ok (b,p.2)
def zx{f:FE}{W:St}{H:Hp}{Q:Bool->Hp->Prop}(h:tT B (b9 f) W H Q):tE B f W H λx H'=>∃k,x=.bl k/\Q k H':=by
 obtain⟨g,s,t,s',x,h,k⟩:=h;revert h;refine aao λd b j=>aan λl i=>λh=>?_;cases rV (ai i);cases h;exact⟨g,s,_,b,x,j,λv g1 H1 e a c=>⟨_,c,k g1 H1 e a⟩⟩
def jw:T->T->FK
 |.cC _ _,_=>Y
 |x,y=>u7 x y
def Ek{a ty t:T}(h:jw a ty=U t):∃i,ty=.int i/\((∃xs,(a=.lst xs\/a=.tup xs)/\atT xs i=U t)\/(∃l c,a=.str l/\atT l i=U c/\t=.str [c])\/∃ns n,a=.scr ns/\atT ns i=U n/\t=.int n):=by
 cases a<;>first|(cases h;done)|(cases ty<;>try(cases h;done))
 .rename_i l i
  have h:(atT l i).map (λc=>T.str [c])=U t:=h;cases e:atT l i with
  |none=>rw[e]at h;cases h
  |some c=>rw[e]at h;cases h;exact⟨i,J,.inr<|.inl ⟨l,c,J,e,J⟩⟩
 .exact⟨_,J,.inl ⟨_,.inr J,h⟩⟩
 .exact⟨_,J,.inl ⟨_,.inl J,h⟩⟩
 .rename_i l i
  have h:(atT l i).map T.int=U t:=h;cases e:atT l i with
  |none=>rw[e]at h;cases h
  |some c=>rw[e]at h;cases h;exact⟨i,J,.inr<|.inr ⟨l,c,J,e,J⟩⟩
def OS{α a:Type}(f:α->a){l:List α}{i:Int}{c:α}(h:atT l i=U c):DI (l.map f) i=U (f c):=by
 rw[xC]at h;unfold DI at h ⊢;rw[bX];cases e:Ib l.length i with
 |none=>rw[e]at h;cases h
 |some j=>
  rw[e]at h;show(uu f _)[j]?=_;rw[dH,show _[j]?=U c from h];rfl
def YV:pD X jw<|Ī X.K:=λB j al HF H x y t s ty Q a d b h k=>by
 obtain⟨i,rfl,⟨o,g|g,e⟩|⟨l,c,rfl,e,rfl⟩|⟨ns,n,rfl,e,rfl⟩⟩:=Ek h
 .subst g
  obtain⟨p,vs,rfl,q,r⟩:=d;obtain⟨v,e,f⟩:=rW r e;exact .inl ⟨p,vs,_,v,J,b,c9.of<|a _ _ q,e,k v HF H (.refl a) f⟩
 .subst g
  obtain⟨p,vs,rfl,q,r⟩:=d;obtain⟨v,e,f⟩:=rW r e;exact .inr<|.inl ⟨p,vs,_,v,J,b,j▸b8 a q,e,k v HF H (.refl a) f⟩
 .obtain⟨rfl,m⟩:=d
  refine .inr<|.inr ⟨_,_,c,J,b,YO m,?_,k _ HF H (.refl a) ⟨J,by simp⟩⟩
  rw[<- xC];exact e
 .obtain⟨p,rfl,q⟩:=d
  exact .inl ⟨p,_,_,.int n,J,b,j▸a.seq q,OS V.int e,k _ HF H (.refl a) J⟩
def OT(f:B.K=X.K)(e:PE X a<|tE B F)(d:PE X b<|tE B fb)(c:iU b):PE X (.Subscript a b pos)<|tE B<|a_ jw F fb:=aM (Mi Oc e d c)<|iM f YV
end
end D
namespace L2
open PySem PySem.Spec PyProof.Rows
section
variable{X:Cx}
theorem qI:∀(ls:Bi)(t:Nat),Vals (ls.map V.str)<|strsFrom t ls
 |[],_=>.nil
 |x::ls,t=>.cons ⟨_,J⟩<|qI ls<|t+1
def El:yY X "str.split" λx vs H Q=>∃a b,x=.str a/\vs=[.str b]/\(b.length == 0)=Zb/\a.length<=dv/\(Txt.split a b).length<=dv/\∀l,H l=Y->Q (.ref l) (upd H l<|.lst<|(Txt.split a b).map V.str):=by
 intro m s j H x vs v k Q I f g h;obtain⟨a,b,rfl,rfl,e,i,c,q⟩:=h;obtain⟨t,rfl⟩:=f;obtain⟨u,rfl,⟨t',rfl⟩⟩:=g.one;unfold Txt.split at c q;by_cases c1:(decide (a.length<b.length) ||decide (gN a<gN b))=O
 .rw[bt c1]at c q
  refine oT F.slot_str_split (qx s a t) F.entry_str_split (F.args_str_split_2 _ _) (meets_str_split_cannot_occur a b t t' c1) ?_;exact⟨.ref s.heap.objs.size,_,I.Bw (t':=s.toks) (ys:=[V.str a]) (.cons ⟨_,J⟩ .nil) c,J,q _ I.fresh⟩
 .rw[ag c1]at c q
  have Ň:(decide (a.length<b.length) ||decide (gN a<gN b))=Zb:=by
   rcases LS (decide (a.length<b.length) ||decide (gN a<gN b))with z|z
   .exact eD z c1
   .exact z
  by_cases c2:(eH a b 0 a.length<|a.length+1).isEmpty=O
  .rw[bt c2]at c q
   refine oT F.slot_str_split (qx s a t) F.entry_str_split (F.args_str_split_2 _ _) (meets_str_split_not_found a b t t' Ň e c2) ?_;exact⟨.ref s.heap.objs.size,_,I.Bw (t':=s.toks) (ys:=[V.str a]) (.cons ⟨_,J⟩ .nil) c,J,q _ I.fresh⟩
  .rw[ag c2]at c q
   have d:(eH a b 0 a.length<|a.length+1).isEmpty=Zb:=by
    rcases LS (eH a b 0 a.length<|a.length+1).isEmpty with z|z
    .exact eD z c2
    .exact z
   refine oT F.slot_str_split (qx s a t) F.entry_str_split (F.args_str_split_2 _ _) (meets_str_split_sep a b t t' Ň e d i c) ?_;exact⟨.ref s.heap.objs.size,_,I.Bw (qI _ _)<|by rw[bX];exact c,J,q _ I.fresh⟩
end
section
variable{X:Cx}
def Em:yY X "str.find" λx vs H Q=>∃a b,x=.str a/\vs=[.str b]/\Q (.int<|Txt.find a b) H:=by
 intro i s e H x vs v f Q I c d h;obtain⟨a,b,rfl,rfl,q⟩:=h;obtain⟨t,rfl⟩:=c;obtain⟨u,rfl,⟨g,rfl⟩⟩:=d.one;exact SC.find ⟨.int _,H,I.tok _,⟨_,J⟩,q⟩
end
end L2
namespace D
open PySem L2
variable{X:Cx}{env:Env}{a b c e o tg:de}{fa fb u fo:FE}{fl:FL}{g g':G}{H H':Hp}{B:KT}{es:Bz}{bo bF p pos:Pos}{s s':S}{σ:St}{x y:Str}
section
variable{S:Pos}{Z Rv:FO}{Rw Rx:Option de}
def En(lo hi:D2)(n:Nat):f7 lo hi 1 n=f7 (U ((D.gO n 0 lo:Nat):Int)) (U ((D.gO n n hi:Nat):Int)) 1 n:=by
 have c:∀v:Int,max 0 (min (if v<0 then v+(n:Int)else v) (n:Int))=((if v<0 then(v+(n:Int)).toNat else min v.toNat n:Nat):Int):=λv=>by
  by_cases hv:v<0
  .rw[bt hv,bt hv];lia
  .rw[ag hv,ag hv];lia
 have d:∀m:Nat,m<=n->max 0 (min (if((m:Nat):Int)<0 then((m:Nat):Int)+(n:Int)else((m:Nat):Int)) (n:Int))=((m:Nat):Int):=λm a=>by
  rw[ag<|by lia];lia
 have l1:D.gO n 0 lo<=n:=by
  cases lo with
  |none=>exact gq _
  |some v=>show(if v<0 then(v+(n:Int)).toNat else min v.toNat n)<=n;split<;>lia
 have l2:D.gO n n hi<=n:=by
  cases hi with
  |none=>exact bW _
  |some v=>show(if v<0 then(v+(n:Int)).toNat else min v.toNat n)<=n;split<;>lia
 unfold f7;simp only[show((1:Int) > 0)from by decide,o_]
 rw[d _ l1,d _ l2]
 congr 1
 .cases lo with
  |none=>rfl
  |some v=>exact c v
 .cases hi with
  |none=>rfl
  |some v=>exact c v
def Eo(n d:Nat)(hd:d<=n)(o:D2):D.gO n d o<=n:=by
 cases o with
 |none=>exact hd
 |some v=>show(if v<0 then(v+(n:Int)).toNat else min v.toNat n)<=n;split<;>lia
def cut_str(l:B1)(lo hi:D2):wK ⟨l.toArray⟩ lo hi=⟨(bM l lo hi).toArray⟩:=by
 have f:wK ⟨l.toArray⟩ lo hi=k6 ⟨l.toArray⟩ lo hi:=J;have e:k6 ⟨l.toArray⟩ lo hi=k6 ⟨l.toArray⟩ (U ((D.gO l.length 0 lo:Nat):Int)) (U ((D.gO l.length l.length hi:Nat):Int)):=by
  unfold k6;rw[fK,En]
 rw[f,e];have a:=Eo l.length l.length (bW _) hi;by_cases hab:D.gO l.length 0 lo<=D.gO l.length l.length hi
 .rw[StrLaws.sliceText_nat _ hab<|by rw[fK];exact a]
  rfl
 .have b:=Eo l.length 0 (gq _) lo
  have c:bM l lo hi=[]:=by
   unfold bM;rw[show D.gO l.length l.length hi-D.gO l.length 0 lo=0 by lia,List.take_zero]
  rw[c];have e4:f7 (U ((D.gO l.length 0 lo:Nat):Int)) (U ((D.gO l.length l.length hi:Nat):Int)) 1 l.length=[]:=by
   have d:∀m:Nat,m<=l.length->max 0 (min (if((m:Nat):Int)<0 then((m:Nat):Int)+(l.length:Int)else((m:Nat):Int)) (l.length:Int))=((m:Nat):Int):=λm g=>by
    rw[ag<|by lia];lia
   unfold f7;simp only[show((1:Int) > 0)from by decide,o_]
   rw[d _ b,d _ a];simp only[sliceRange];rw[bt<|by decide,ag<|by lia]
   rfl
  unfold k6;rw[fK,e4];rw[ag<|by simp;lia]
  rfl
def Ep{α:Type}(l:List α)(lo hi:D2):(bM l lo hi).length<=l.length:=by
 unfold bM;rw[eT,jL]
 lia
def rX(xs:List V)(lo hi:D2):Bu xs lo hi=bM xs lo hi:=by
 have e:∀(n d:Nat)(o:D2),HT.gO n d o=D.gO n d o:=λn d o=>by cases o<;>rfl
 unfold Bu bM;rw[e,e]
def au.cut{B:KT}{al:BM}{H:Hp}{ts:FC}{vs:List V}(r:au B al H ts vs)(lo hi:D2):au B al H (bM ts lo hi)<|bM vs lo hi:=by
 unfold bM;rw[r.len];exact(r.drop _).take _
def rY{α a:Type}(f:α->a)(l:List α)(lo hi:D2):(bM l lo hi).map f=bM (l.map f) lo hi:=by
 unfold bM;rw[bX,Lr,C2]
theorem vj{B:KT}{al:BM}{H:Hp}:∀{ts:FC}{vs:List V}{ls:Ap},au B al H ts vs->strsOf ts=U ls->vs=(ls.map λl=>(⟨l.toArray⟩:Str)).map V.str
 |[],_,_,h,e=>by cases(show _=[]from h);cases e;rfl
 |t::ts,_,ls,h,e=>by
  obtain⟨v,r,rfl,c,b⟩:=h;cases t<;>try(cases e;done)
  rename_i l;have e:(strsOf ts).map (l::·)=U ls:=e
  cases a:strsOf ts with
  |none=>rw[a]at e;cases e
  |some ms=>
   rw[a]at e;cases e;obtain⟨rfl,_⟩:=c;rw[vj b a];rfl
theorem join_eq(sep:B1):∀ls:Ap,uW ⟨sep.toArray⟩ (ls.map λl=>(⟨l.toArray⟩:Str))=⟨(fS sep ls).toArray⟩
 |[]=>J
 |[c]=>J
 |c::d::r=>by
  have a:=join_eq sep<|d::r;show(⟨c.toArray⟩:Str)++⟨sep.toArray⟩++uW ⟨sep.toArray⟩ ((d::r).map λl=>(⟨l.toArray⟩:Str))=⟨(c++sep++fS sep (d::r)).toArray⟩;rw[a,OM,OM]
theorem qJ(sep:B1):∀ls:Ap,(fS sep ls).length<=(ls.map (·.length)).sum+ls.length*sep.length
 |[]=>by simp[fS]
 |[c]=>by simp[fS]
 |c::d::r=>by
  have a:=qJ sep<|d::r;show(c++sep++fS sep (d::r)).length<=_;rw[dg,dg,dG,List.sum_cons,bI,CK]
  lia
def Er(ls:Ap):((ls.map λl=>(⟨l.toArray⟩:Str)).map (·.length))=ls.map (·.length):=by
 rw[iu];apply uh;intro l _;exact fK l
def OU(l s:B1):qB ⟨l.toArray⟩ ⟨s.toArray⟩=pre s l:=by
 unfold qB pre;rw[oy];show(decide (0+(⟨s.toArray⟩:Str).length<=l.toArray.size)&&((l.drop 0).take (⟨s.toArray⟩:Str).length == s))=_;rw[fK,bT,pK,um]
def OV(l s:B1):r3 ⟨l.toArray⟩ ⟨s.toArray⟩=YH s l:=by
 unfold r3 YH;rw[oy,fK,fK];show(decide (0+s.length<=l.length)&&((l.drop<|l.length-s.length).take s.length == s))=_;rw[pK];by_cases h:s.length<=l.length
 .rw[dr h,yJ,yJ]
  rw[ux<|by rw[jL];lia]
 .rw[dd h,Df,Df]
theorem kX{B:KT}{al:BM}{H:Hp}:∀{ts:FC}{vs:List V}{ks:Ee},au B al H ts vs->boolsOf ts=U ks->vs=ks.map V.bl
 |[],_,_,h,e=>by cases(show _=[]from h);cases e;rfl
 |t::ts,_,b,h,e=>by
  obtain⟨v,r,rfl,d,c⟩:=h;cases t<;>try(cases e;done)
  rename_i l;have e:(boolsOf ts).map (l::·)=U b:=e
  cases a:boolsOf ts with
  |none=>rw[a]at e;cases e
  |some ms=>
   rw[a]at e;cases e;cases(show v=.bl l from d);rw[kX c a];rfl
def vm(tn T:String):Option Bool:=if(pa tn == pa T)=O then U O else if PySem.W.kitMeta T=O then(fastBuiltinMro tn).map (·.contains<|pa T)else Y
def jx(K:bG){tn T:String}{b:Bool}(h:vm tn T=U b):rm K (.type tn) (.type T)=U b:=h
structure jy(T:String):Prop where
 non:vm "NoneType" T=U Zb
 bl:vm "bool" T=U (T == "bool" ||T == "int")
 int:vm "int" T=U (T == "int")
 str:vm "str" T=U (T == "str")
 tup:vm "tuple" T=U (T == "tuple")
 lst:vm "list" T=U (T == "list")
 dic:vm "dict" T=U (T == "dict")
def OW:jy "int" := by constructor<;>decide +kernel
def IP:jy "bool" := by constructor<;>decide +kernel
def OX:jy "str" := by constructor<;>decide +kernel
def Es:jy "tuple" := by constructor<;>decide +kernel
def IQ:jy "list" := by constructor<;>decide +kernel
def aU(c:Nat):B1->Ap
 |[]=>[[]]
 |d::l=>if d=c then[]::aU c l else match aU c l with
  |p::r=>(d::p)::r
  |[]=>[[d]]
theorem nZ{c:Nat}:∀{p:B1},c∉p->aU c p=[p]
 |[],_=>J
 |d::p,h=>by
  have hd:d≠c:=λe=>h (by rw[e];exact bC ..)
  have a:c∉p:=λe=>h<|eE _ e;unfold aU;rw[ag hd,nZ a]
theorem n_{c:Nat}(l:B1):∀{p:B1},c∉p->aU c (p++[c]++l)=p::aU c l
 |[],_=>by
  show aU c (c::l)=_;rw[aU,bt J]
 |d::p,h=>by
  have hd:d≠c:=λe=>h (by rw[e];exact bC ..)
  have a:c∉p:=λe=>h<|eE _ e;show aU c (d::(p++[c]++l))=_;rw[aU,ag hd,n_ l a]
theorem lI{c:Nat}:∀{ls:Ap},ls≠[]->(∀p∈ls,c∉p)->aU c (fS [c] ls)=ls
 |[],h,_=>eD J h
 |[p],_,h=>nZ<|h p<|bC ..
 |p::q::r,_,h=>by
  show aU c (p++[c]++fS [c] (q::r))=_;rw[n_ _<|h p<|bC ..,lI (by simp) λx a=>h x<|eE _ a]
def split_len(x y:Str):(Txt.split x y).length<=x.length+2:=by
 unfold Txt.split;split
 .simp
 .split
  .simp
  .rw[length_partsBetween]
   have:=StrLaws.occ_length_le x y 0 x.length<|x.length+1
   exact uc this _
def Et(x y:Str):Txt.split x y≠[]:=by
 unfold Txt.split;split
 .simp
 .split
  .simp
  .intro e
   have:=length_partsBetween x (eH x y 0 x.length<|x.length+1) y.length
   rw[e]at this;simp at this
def Eu(a:B1)(c:Nat):Txt.split ⟨a.toArray⟩ ⟨#[c]⟩=(aU c a).map λl=>(⟨l.toArray⟩:Str):=by
 obtain⟨L,b⟩:∃L:Ap,L=(Txt.split ⟨a.toArray⟩ ⟨#[c]⟩).map λp=>p.cps.toList:=⟨_,J⟩;have d:Txt.split ⟨a.toArray⟩ ⟨#[c]⟩=L.map λl=>(⟨l.toArray⟩:Str):=by
  rw[b,iu]
  conv=>lhs;rw[<- Ls<|Txt.split ⟨a.toArray⟩ ⟨#[c]⟩]
  apply uh;intro p _;show p=(⟨p.cps.toList.toArray⟩:Str);rw[nr]
 have g:L≠[]:=by
  rw[b];intro e;exact Et _ _<|List.map_eq_nil_iff.mp e
 have f:∀p∈L,c∉p:=by
  rw[b];intro p i;obtain⟨q,h,rfl⟩:=gA.mp i;exact StrLaws.split_free _ c q h
 have hj:=StrLaws.join_split ⟨a.toArray⟩ ⟨#[c]⟩;rw[d,show(⟨#[c]⟩:Str)=⟨([c]:B1).toArray⟩from J,join_eq]at hj;have ň:fS [c] L=a:=by
  injection hj with hj
  simpa using hj
 rw[d,<- ň,lI g f]
theorem qK{B:KT}{al:BM}{H:Hp}:∀{ls:Ap},(∀l∈ls,l.length<=1000000)->au B al H (ls.map T.str) (ls.map λl=>SV l)
 |[],_=>J
 |l::ls,h=>⟨_,_,J,⟨J,h l<|bC ..⟩,qK λx a=>h x<|eE _ a⟩
theorem j8(c:Nat):∀(a:B1),∀l∈aU c a,l.length<=a.length
 |[],l,h=>by
  rw[iw.mp h];simp
 |d::a,l,h=>by
  have b:=j8 c a;rw[aU]at h;split at h
  .rcases bK.mp h with e|e
   .rw[e];simp
   .have:=b l e;simp;exact dq this<|cH ..
  .split at h
   .rename_i p r Ŋ
    rcases bK.mp h with e|e
    .have:=b p (by rw[Ŋ];exact bC ..)
     rw[e];simp;exact this
    .have:=b l (by rw[Ŋ];exact eE _ e)
     simp;exact dq this<|cH ..
   .rw[iw.mp h];simp
def Ux:PO X Y<|tP B rP:=Mt H_ λσ H Q z=>by
 obtain⟨g,s,t,s',x,h,k⟩:=z;cases h;exact k g H .refl x
def zy{t:T}{i:Int}(h:TY t=U i):t=.int i:=by
 cases t<;>first|(cases h;done)|(cases h;rfl)
def Uy(j:PE X a<|tE B fa):PO X (U a)<|tP B<|jh fa:=Mt (Ia j) λσ H Q z=>by
 obtain⟨g,s,t,s',x,h,k⟩:=z;revert h;refine aao λd c m=>aan λi l=>λh=>?_;cases zy (ai l);cases h;exact⟨g,s,_,c,x,m,λv g1 H1 f b e=>⟨_,e,k g1 H1 f b⟩⟩
def YW(K:bG):V->D2->D2->Hp->VK->Prop:=λx lo hi H Q=>(∃z,x=.str z/\z.length<=dv/\Q (.str<|wK z lo hi) H)\/SM K x lo hi H Q
def Uz:Mh X<|YW X.K:=Om.or Ie
def YX(F:B.K=X.K)(E:PE X a<|tE B fa)(c:PO X Rw<|tP B Z)(D:PO X Rx<|tP B Rv):PE X (.Subscript a (.Slice Rw Rx Y S) pos)<|tE B<|lH fa Z Rv:=by
 refine aM (uU Uz E c D) λσ H Q w=>?_;obtain⟨g,s,t,s',x,h,k⟩:=w;revert h;refine aao λm p L=>aao λlo n I=>aao λhi P G=>aan λN d=>λh=>?_;cases h;have d:Xb lo hi m=U _:=ai d;refine⟨g,s,_,p,x,L,λv g1 H1 C z A=>⟨g1,p,_,n,z,I,λg2 R S y=>⟨g2,n,_,_,y,G,λg3 M i b=>?_⟩⟩⟩;have e:=(A.mv S.pre S.fr).mv i.pre i.fr;have f:=(C.trans S).trans i;cases m<;>try(cases d;done)
 .cases d
  obtain⟨rfl,u⟩:=e;refine .inl ⟨_,J,YO u,?_⟩;rw[cut_str];exact k _ g3 M f b ⟨J,dq (Ep _ _ _) u⟩
 .cases d
  obtain⟨a,vs,rfl,q,r⟩:=e;refine .inr ⟨a,vs,J,c9.of<|b.sub _ _ q,λl c=>?_⟩;rw[rX];have j:=Gr.new (o:=.lst<|bM vs lo hi) b.sub c;exact k _ _ _ (f.trans<|b.gb j) (b.grow j) ⟨l,_,J,ah,(r.cut _ _).same j.fr⟩
 .cases d
  obtain⟨a,rfl,q⟩:=e;refine .inr ⟨a,_,J,F▸b.sub.seq q,λl c=>?_⟩;rw[rX,<- rY];exact k _ _ _ (f.trans<|b.gb<|Gr.new b.sub c) (b.grow<|Gr.new b.sub c) ⟨l,_,J,ah,au.ints _⟩
end
section
def noStar:de->Bool
 |.Starred _ _=>Zb
 |_=>O
def ao(h:noStar e=O):dy (e::es) env=(Zb,e6 e env)::dy es env:=by
 cases e<;>first|rfl|(cases h)
theorem eW:∀{es:Bz},es.all noStar=O->(hW pos<|dy es env).any (·.1)=Zb
 |[],_=>J
 |e::es,h=>by
  rw[fG,dj]at h;rw[ao h.1];show(Zb ||(hW pos<|dy es env).any (·.1))=Zb
  rw[eW h.2];rfl
theorem oh:∀{es:Bz},es.all noStar=O->(hW pos<|dy es env).all (λx=>!x.1)=O
 |[],_=>J
 |e::es,h=>by
  rw[fG,dj]at h;rw[ao h.1];show(O&&(hW pos<|dy es env).all (λx=>!x.1))=O;rw[oh h.2];rfl
def qG(h:(e::es).all noStar=O)(a:es.length<29):((hW bF<|dy (e::es) env).all (λx=>!x.1)&&(pB bF<|my [] env).all (λx=>x.1.isSome)
   && decide ((e::es).length+([]:List rb).length+(if([]:List rb).isEmpty then 0 else 1)<30))=O:=by
 rw[oh h,dj];exact⟨J,dr<|show es.length+1+0+0<30 from pJ a<|by decide⟩
def aT:de->Bool
 |.Call (.Name _ _) [] [] _=>Zb
 |_=>O
def ee{f:Str}{a:Sem ar}(h:aT o=O):gL o f env a=a:=by
 unfold gL;split
 .cases h
 .rfl
def LM(X:Cx)(f:B1->FC->FK)(r:V->List V->Hp->VK->Prop):Prop:=∀(B:KT)(_:B.K=X.K)(al:BM)(HF H:Hp)(l:B1)(a:List V)(t:T)(ts:FC)(Q:VK),aK HF H->l.length<=1000000->au B al HF ts a->f l ts=U t->(∀v b H',Gr HF H b H'->Rep B al b t v->Q v H')->r (SV l) a H Q
def IS:T->Option B1
 |.str l=>U l
 |_=>Y
def j9(f:B1->FC->FK)(o:FE)(fl:FL):FE:=λs=>(o s).bind λp=>(aW<|IS p.1).bind λl=>(fl p.2).bind λq=>(aW<|f l q.1).bind λt=>.ok (t,q.2)
def Ew{t:T}{l:B1}(h:IS t=U l):t=.str l:=by
 cases t<;>first|(cases h;done)|(cases h;rfl)
def YY{f:B1->FC->FK}{r:V->List V->Hp->VK->Prop}(p:B.K=X.K)(hr:LM X f r):∀σ H Q,tE B (j9 f fo fl) σ H Q->Ĭ X.K "str" r (tE B fo) (tA B fl) σ H Q:=by
 rintro σ H Q ⟨g,s,t,s',x,h,k⟩
 revert h;refine aao λD b z=>aan λl y=>aao λts F w=>aan λE q=>λh=>?_;cases h;cases Ew (ai y);refine⟨g,s,_,b,x,z,λv g1 H1 n d j=>?_⟩;obtain⟨rfl,o⟩:=j;exact⟨J,g1,b,_,_,d,w,λvs g2 C m a i=>hr B p g2.al g2.HF C l vs _ ts Q a.sub o i (ai q) λu A H' c e=>k u (g2.grow A) H' ((n.trans m).trans<|a.gb c) (a.grow c) e⟩
def Ex(l:B1):FC->FK
 |[.str s]=>U<|.bl<|pre s l
 |_=>Y
def YZ(l:B1):FC->FK
 |[.str s]=>U<|.bl<|YH s l
 |_=>Y
def joinM(l:B1):FC->FK
 |[t]=>Mn (.str l) t
 |_=>Y
def splitM(l:B1):FC->FK
 |[.str [c]]=>gd (l.length<=100000)<|.lst<|(aU c l).map .str
 |_=>Y
open PySem.Spec PyProof.Rows in
def zE(l:B1):FC->FK
 |[.str s]=>U<|.int<|Txt.find ⟨l.toArray⟩ ⟨s.toArray⟩
 |[.str s,.int i]=>U<|.int<|Txt.find3 ⟨l.toArray⟩ ⟨s.toArray⟩ i
 |_=>Y
def cL{al:BM}{H:Hp}{t:T}{xs:List V}(r:au B al H [t] xs):∃v,xs=[v]/\Rep B al H t v:=by
 obtain⟨v,w,rfl,h,e⟩:=r;cases(show w=[]from e);exact⟨v,J,h⟩
def IU{al:BM}{H:Hp}{t u:T}{xs:List V}(r:au B al H [t,u] xs):∃v w,xs=[v,w]/\Rep B al H t v/\Rep B al H u w:=by
 obtain⟨v,b,rfl,h,e⟩:=r;obtain⟨w,rfl,a⟩:=cL e;exact⟨v,w,J,h,a⟩
def Y0:LM X Ex λx vs H Q=>∃a b,x=.str a/\vs=[.str b]/\Q (.bl<|qB a b) H:=λB f al HF H l d t ts Q c e r h k=>by
 match ts,h with
 |[.str s],h=>
  cases h;obtain⟨v,rfl,rfl,_⟩:=cL r;refine⟨_,_,J,J,?_⟩;rw[OU];exact k _ HF H (.refl c) J
def Y3:LM X YZ λx vs H Q=>∃a b,x=.str a/\vs=[.str b]/\Q (.bl<|r3 a b) H:=λB f al HF H l d t ts Q c e r h k=>by
 match ts,h with
 |[.str s],h=>
  cases h;obtain⟨v,rfl,rfl,_⟩:=cL r;refine⟨_,_,J,J,?_⟩;rw[OV];exact k _ HF H (.refl c) J
def OY:LM X joinM λx vs H Q=>∃sep l ys,x=.str sep/\vs=[.ref l]/\c9 X.K H l (ys.map V.str)/\(ys.map (·.length)).sum+ys.length*sep.length<=16777216/\Q (.str<|uW sep ys) H:=λB m al HF H l g t ts Q b j r h k=>by
 match ts,h with
 |[u],h=>
  obtain⟨v,rfl,d⟩:=cL r;have h:Mn (.str l) u=U t:=h;cases u with
  |lst c=>
   have h:(strsOf c).bind (λys=>gd ((ys.map (·.length)).sum+ys.length*l.length<=1000000)<|T.str<|fS l ys)=U t:=h
   revert h;refine aak λi f=>λh=>?_;obtain⟨z,rfl⟩:=aX h;obtain⟨a,vs,rfl,q,r⟩:=d;have e:=vj r f;subst e;refine⟨_,a,_,J,J,c9.of<|b _ _ q,?_,?_⟩
   .rw[Er,bX,fK];exact dq z (by decide)
   .rw[join_eq]
    exact k _ HF H (.refl b) ⟨J,dq (qJ _ _) z⟩
  |_=>cases h
def m_find:LM X zE λx vs H Q=>(∃a b,x=.str a/\vs=[.str b]/\Q (.int<|Txt.find a b) H)\/∃a b i,x=.str a/\vs=[.str b,.int i]/\Q (.int<|Txt.find3 a b i) H:=λB f al HF H l d t ts Q c e r h k=>by
 match ts,h with
 |[.str s],h=>
  cases h;obtain⟨v,rfl,rfl,_⟩:=cL r;exact .inl ⟨_,_,J,J,k _ HF H (.refl c) J⟩
 |[.str s,.int i],h=>
  cases h;obtain⟨v,w,rfl,⟨rfl,_⟩,rfl⟩:=IU r;exact .inr ⟨_,_,_,J,J,k _ HF H (.refl c) J⟩
def m_split:LM X splitM λx vs H Q=>∃a b,x=.str a/\vs=[.str b]/\(b.length == 0)=Zb/\a.length<=dv/\(Txt.split a b).length<=dv/\∀l,H l=Y->Q (.ref l) (upd H l<|.lst<|(Txt.split a b).map V.str):=λB o al HF H l n t ts Q d f r h k=>by
 match ts,h with
 |[.str [c]],h=>
  obtain⟨z,rfl⟩:=aX h;obtain⟨v,rfl,rfl,_⟩:=cL r;have j:=split_len ⟨l.toArray⟩ ⟨([c]:B1).toArray⟩;rw[fK]at j;refine⟨_,_,J,J,J,by rw[fK,ew];exact dq z<|by decide,by rw[ew];lia,λq g=>?_⟩
  have e:(Txt.split ⟨l.toArray⟩ ⟨([c]:B1).toArray⟩).map V.str=(aU c l).map λl=>SV l:=by
   rw[show(⟨([c]:B1).toArray⟩:Str)=⟨#[c]⟩from J,Eu,iu];rfl
  rw[e];refine k _ _ _ (Gr.new d g) ⟨q,_,J,ah,qK λm i=>?_⟩
  have:=j8 c l m i
  exact dq this f
 |[.str []],h=>cases h
 |[.str<|_::_::_],h=>cases h
def yY.or{id:String}{r d:V->List V->Hp->VK->Prop}(h:yY X id r)(h':yY X id d):yY X id λx vs H Q=>r x vs H Q\/d x vs H Q:=λe s σ H x vs v a Q I b c q=>by
 rcases q with q|q
 .exact h e s σ H x vs v a Q I b c q
 .exact h' e s σ H x vs v a Q I b c q
structure ŋ(X:Cx)(n:Str)(f:B1->FC->FK):Prop where
 ex:∃id r,Slot "str" n id/\typeOf (.builtin id)=pure (.type "method_descriptor")/\yY X id r/\LM X f r
def UB{n:Str}{f:B1->FC->FK}(M:ŋ X n f)(i:B.K=X.K)(c:PE X o<|tE B fo)(h:PA X (e::es)<|tA B fl)(g:aT o=O)(b:(e::es).all noStar=O)(d:es.length<29)(p:(bo.endLine == bF.line)=O) :
  PE X (.Call (.Attribute o n bo) (e::es) [] bF)<|tE B<|j9 f fo fl:=by
 obtain⟨id,r,m,l,k,j⟩:=M.ex;have a:=b;rw[fG,dj]at a;exact aM (y9 PySem.F.plainAttrs_str m l k c h (ee g) (qG b d) p (ao a.1)<|eW a.2)<|YY i j
def UC(l:B1):FC->FK
 |[.str s]=>U<|.int<|Txt.count ⟨l.toArray⟩ ⟨s.toArray⟩
 |_=>Y
def Ey:yY X "str.count" λx vs H Q=>∃a b,x=.str a/\vs=[.str b]/\Q (.int<|Txt.count a b) H:=by
 intro g s σ H x vs v e Q I c d h;obtain⟨a,b,rfl,rfl,q⟩:=h;obtain⟨t,rfl⟩:=c;obtain⟨u,rfl,⟨f,rfl⟩⟩:=d.one;exact SC.count ⟨.int _,H,I.tok _,⟨_,J⟩,q⟩
def IV:LM X UC λx vs H Q=>∃a b,x=.str a/\vs=[.str b]/\Q (.int<|Txt.count a b) H:=λB f al HF H l d t ts Q c e r h k=>by
 match ts,h with
 |[.str s],h=>
  cases h;obtain⟨v,rfl,rfl,_⟩:=cL r;exact⟨_,_,J,J,k _ HF H (.refl c) J⟩
def xD:List<|Str×(B1->FC->FK):=[("startswith",Ex),("endswith",YZ),("join",joinM),("split",splitM),("find",zE),("count",UC)]
def OZ:∀p∈xD,ŋ X p.1 p.2:=by
 intro p h;simp only[xD,bK,iC,hH]at h;rcases h with rfl|rfl|rfl|rfl|rfl|rfl
 .exact⟨_,_,PySem.F.slot_str_startswith,PySem.F.type_str_startswith,pT,Y0⟩
 .exact⟨_,_,PySem.F.slot_str_endswith,PySem.F.type_str_endswith,uZ,Y3⟩
 .exact⟨_,_,PySem.F.slot_str_join,PySem.F.type_str_join,Iq,OY⟩
 .exact⟨_,_,PySem.F.slot_str_split,PySem.F.type_str_split,El,m_split⟩
 .exact⟨_,_,PySem.F.slot_str_find,PySem.F.type_str_find,yY.or Em DT,m_find⟩
 .exact⟨_,_,PySem.F.slot_str_count,PySem.F.type_str_count,Ey,IV⟩
end
section
def cV:FC->FK
 |[t]=>(match t with
  |.cC _ _=>Y
  |t=>YG t)
 |_=>Y
def UD:LN X cV λxs H Q=>∃x n,xs=[x]/\So X.K x H n/\Q (.int n) H:=λB d al HF H xs t ts Q b r h k=>by
 match ts,h with
 |[tx],h=>
  obtain⟨v,rfl,c⟩:=cL r;cases tx<;>try(cases h;done)
  .cases h
   obtain⟨rfl,e⟩:=c;exact⟨_,_,J,⟨YO e,(fK _).symm⟩,k _ HF H (.refl b) J⟩
  .cases h
   obtain⟨a,vs,rfl,q,r⟩:=c;exact⟨_,_,J,.inr ⟨vs,d▸b8 b q,r.len⟩,k _ HF H (.refl b) J⟩
  .cases h
   obtain⟨a,vs,rfl,q,r⟩:=c;exact⟨_,_,J,.inl ⟨vs,c9.of<|b _ _ q,r.len⟩,k _ HF H (.refl b) J⟩
  .cases h
   obtain⟨a,rfl,q⟩:=c;exact⟨_,_,J,.inl ⟨_,d▸b.seq q,(bX _).symm⟩,k _ HF H (.refl b) J⟩
def BL:FC->FK
 |[t]=>TU t
 |_=>Y
def IW:FC->FK
 |[t]=>TV t
 |_=>Y
def UE:LN X BL λxs H Q=>∃(p:cw)(ks:Ee),xs=[.ref p]/\c9 X.K H p (ks.map V.bl)/\Q (.bl<|ks.all id) H:=λB g al HF H xs t ts Q b r h k=>by
 match ts,h with
 |[tx],h=>
  obtain⟨v,rfl,d⟩:=cL r;have h:TU tx=U t:=h;cases tx with
  |lst c=>
   obtain⟨ks,f,h⟩:=bD.mp<|show(boolsOf c).map _=U t from h;obtain⟨a,vs,rfl,q,r⟩:=d;have e:=kX r f;subst e h;exact⟨a,ks,J,c9.of<|b _ _ q,k _ HF H (.refl b) J⟩
  |_=>cases h
def UG:LN X IW λxs H Q=>∃(p:cw)(ks:Ee),xs=[.ref p]/\c9 X.K H p (ks.map V.bl)/\Q (.bl<|ks.any id) H:=λB g al HF H xs t ts Q b r h k=>by
 match ts,h with
 |[tx],h=>
  obtain⟨v,rfl,d⟩:=cL r;have h:TV tx=U t:=h;cases tx with
  |lst c=>
   obtain⟨ks,f,h⟩:=bD.mp<|show(boolsOf c).map _=U t from h;obtain⟨a,vs,rfl,q,r⟩:=d;have e:=kX r f;subst e h;exact⟨a,ks,J,c9.of<|b _ _ q,k _ HF H (.refl b) J⟩
  |_=>cases h
def jz(i:Int):B1:=(toString i).toList.map tL
def strN:FC->FK
 |[.int i]=>gd (i.natAbs.log2<1920/\(jz i).length<=1000000)<|.str<|jz i
 |_=>Y
def UH:LN X strN λxs H Q=>∃i,xs=[.int i]/\i.natAbs.log2<1920/\Q (.str<|toString i) H:=λB e al HF H xs t ts Q a r h k=>by
 match ts,h with
 |[.int i],h=>
  obtain⟨v,rfl,b⟩:=cL r;obtain⟨⟨d,c⟩,rfl⟩:=aX h;cases b;refine⟨i,J,d,k _ HF H (.refl a) ⟨?_,c⟩⟩;show V.str (f5<|toString i)=_;rw[Str.ofString_eq_toList];rfl
def mz:FC->FK
 |[.str l]=>(tc ⟨l.toArray⟩).bind λn=>gd (l.length<=640)<|.int n
 |[.bl b]=>U<|.int<|if b then 1 else 0
 |_=>Y
abbrev UI:List V->Hp->VK->Prop:=λa H Q=>(∃y n,a=[.str y]/\tc y=U n/\y.length<=640/\Q (.int n) H)\/∃b,a=[.bl b]/\Q (.int<|if b then 1 else 0) H
def BN:dW X (.type "int") UI:=by
 intro g s σ H d f Q I r h;rcases h with⟨y,n,rfl,a,c,q⟩|⟨b,rfl,q⟩
 .obtain⟨u,rfl,t,rfl⟩:=vals1 r
  exact PySem.W.KIN.call_text a c ⟨.int n,H,I.tok _,⟨_,J⟩,q⟩
 .obtain⟨u,rfl,e⟩:=vals1 r
  cases(show u=pb b from e);exact PySem.call_int_bool ⟨.int<|if b then 1 else 0,H,I.tok _,⟨_,J⟩,q⟩
def UJ:LN X mz UI:=λB f al HF H e t ts Q c r h k=>by
 match ts,h with
 |[.str l],h=>
  obtain⟨v,rfl,a⟩:=cL r;revert h;refine aak λn d=>λh=>?_;obtain⟨z,rfl⟩:=aX h;obtain⟨rfl,_⟩:=a;exact .inl ⟨_,n,J,d,by rw[fK];exact z,k _ HF H (.refl c) J⟩
 |[.bl b],h=>
  obtain⟨v,rfl,a⟩:=cL r;cases h;cases a;exact .inr ⟨b,J,k _ HF H (.refl c) J⟩
def zF:FC->FK
 |[t]=>Mp t
 |_=>Y
def O0:LN X zF λxs H Q=>∃p ys,xs=[.ref p]/\(c9 X.K H p ys\/kM X.K H p ys)/\∀l,H l=Y->Q (.ref l) (upd H l<|.lst ys):=λB d al HF H xs t ts Q a r h k=>by
 match ts,h with
 |[tx],h=>
  obtain⟨v,rfl,c⟩:=cL r;have h:Mp tx=U t:=h;cases tx<;>try(cases h;done)
  .cases h
   obtain⟨l,xs,rfl,q,r⟩:=c;exact⟨l,xs,J,.inr<|d▸b8 a q,λp b=>k _ _ _ (Gr.new a b) ⟨p,_,J,ah,r.same<|aY<|a.free b⟩⟩
  .cases h
   obtain⟨l,xs,rfl,q,r⟩:=c;exact⟨l,xs,J,.inl<|c9.of<|a _ _ q,λp b=>k _ _ _ (Gr.new a b) ⟨p,_,J,ah,r.same<|aY<|a.free b⟩⟩
structure Y4(X:Cx)(n:Str)(f:FC->FK):Prop where
 ex:∃r,LN X f r/\((∃id,ih n=U (.builtin id)/\dW X (.builtin id) r)\/∃ty,ih n=U (.type ty)/\dW X (.type ty) r)
 nn:n ≠ "__name__"
 nd:cy n
def UK{f:FC->FK}(M:Y4 X x f)(i:B.K=X.K)(g:Gl X x)(d:X.mg x=Y)(h:PA X (e::es)<|tA B fl)(a:(e::es).all noStar=O):PE X (.Call (.Name x p) (e::es) [] pos)<|tE B<|bA f fl:=by
 obtain⟨⟨r,j,k⟩,nn,nd⟩:=M;rw[fG,dj]at a;rcases k with⟨id,c,b⟩|⟨ty,c,b⟩
 .exact aM (dX b g d c h nn nd (ao a.1)<|eW a.2)<|Mw i j
 .exact aM (gB b g d c h nn nd (ao a.1)<|eW a.2)<|Mw i j
def xE:List<|Str×(FC->FK):=[("str",strN),("len",cV),("all",BL),("any",IW),("int",mz),("list",zF)]
def O1(a:X.calm=O):∀p∈xE,Y4 X p.1 p.2:=by
 intro p h;simp only[xE,bK,iC,hH]at h;rcases h with rfl|rfl|rfl|rfl|rfl|rfl
 .exact⟨⟨_,UH,.inr ⟨_,L6,rG⟩⟩,by decide,by decide⟩
 .exact⟨⟨_,UD,.inl ⟨_,td,nE⟩⟩,by decide,by decide⟩
 .exact⟨⟨_,UE,.inl ⟨_,PyProof.Rows.boot_all,DU a⟩⟩,by decide,by decide⟩
 .exact⟨⟨_,UG,.inl ⟨_,PyProof.Rows.boot_any,DV a⟩⟩,by decide,by decide⟩
 .exact⟨⟨_,UJ,.inr ⟨_,L7,BN⟩⟩,by decide,by decide⟩
 .exact⟨⟨_,O0,.inr ⟨_,uH,gT⟩⟩,by decide,by decide⟩
end
structure Pg where
 cn:Bi
 an:Bi
 tab:Ap
 sub:Ap
def Pg.fn(P:Pg):List Bi:=P.tab.map λl=>l.map λi=>P.an.getD i xc
structure Ry(K:bG)(mg:Str->D1)(n:Str)(ns:Bi)(C:cw):Prop where
 at_:pH K eR n=U (U<|.ref C)
 gl:mg n=U (.ref C)
 nd:ns.Nodup
 qG:ns.length<=100
 cl:pP K C
 na:∀f∈ns,eG K C f
 ca:gp K (.ref C) "__class__" = U (U<|.builtin "object.__class__")
 mo:yo K C (.type "object")=U O
structure mC(K:bG)(mg:Str->D1)(P:Pg):Prop where
 cls:∀(c:Nat)(n:Str)(ns:Bi),P.cn[c]?=U n->P.fn[c]?=U ns->∃C,Ry K mg n ns C
 sub:∀(c d:Nat)(n n':Str)(C D:cw)(l:B1),P.cn[c]?=U n->P.cn[d]?=U n'->mg n=U (.ref C)->mg n'=U (.ref D)->P.sub[c]?=U l->rm K (.ref C) (.ref D)=U (decide<|d∈l)
 gt:ym K (.builtin "object.__class__") "__get__" = U (U<|.builtin "getset_descriptor.__get__")/\yn K (.builtin "object.__class__")=U O
abbrev Pg.kt(P:Pg)(X:Cx):KT:=⟨X.K,X.prog,X.w,P.cn,P.fn⟩
variable{P:Pg}
def mC.of(g:mC X.K X.mg P){c:Nat}{C:cw}{ns:Bi}(h:iz (P.kt X) c C ns):∃n,P.cn[c]?=U n/\P.fn[c]?=U ns/\Ry X.K X.mg n ns C:=by
 obtain⟨n,b,a,f,d⟩:=h;obtain⟨e,F⟩:=g.cls c n ns b a
 have:C=e:=by
  have:=(show pH X.K eR n=U (U<|.ref C)from d).symm.trans F.at_
  injection this with this
  injection this with this
  injection this
 subst this;exact⟨n,b,a,F⟩
theorem gX{f:Str}:∀{ns:Bi}{vs:List V}{j:Nat},ns.Nodup->ns[j]?=U f->(ns.zip vs).lookup f=vs[j]?
 |[],vs,j,_,h=>by simp at h
 |n::ns,[],j,_,_=>by simp
 |n::ns,v::vs,0,nd,h=>by
  simp at h;subst h;rw[nj,List.lookup_cons_self];rfl
 |n::ns,v::vs,j+1,nd,h=>by
  simp at h;have e:(f == n)=Zb:=beq_eq_false_iff_ne.mpr λz=>by subst z;exact(lS.mp nd).1<|dh h
  rw[nj,jk,e];simpa using gX (lS.mp nd).2 h
theorem oi{f:Str}:∀{ns:Bi}{vs:List V},f∉ns->(ns.zip vs).lookup f=Y
 |[],vs,_=>by simp
 |n::ns,[],_=>by simp
 |n::ns,v::vs,h=>by
  have e:(f == n)=Zb:=beq_eq_false_iff_ne.mpr λz=>h (by rw[z];exact bC ..)
  rw[nj,jk,e];exact oi λz=>h<|eE _ z
theorem zG{f:Str}{v:V}:∀{ns:Bi}{vs:List V}{j:Nat},ns.Nodup->ns[j]?=U f->vs.length<=ns.length->j<vs.length->L2.dJ f v (ns.zip vs)=ns.zip (vs.set j v)
 |[],vs,j,_,h,_,_=>by simp at h
 |n::ns,[],j,_,_,_,h=>by simp at h
 |n::ns,w::vs,0,nd,h,_,_=>by
  simp at h;subst h;show(if n=n then(n,v)::ns.zip vs else(n,w)::L2.dJ n v (ns.zip vs))=_
  rw[bt J];rfl
 |n::ns,w::vs,j+1,nd,h,a,hj=>by
  simp at h a hj;show(if n=f then(n,v)::ns.zip vs else(n,w)::L2.dJ f v (ns.zip vs))=_
  rw[ag λz=>(lS.mp nd).1<|by rw[z];exact dh h,zG (lS.mp nd).2 h a hj]
  rfl
theorem rZ{f:Str}{v:V}:∀{ns:Bi}{vs:List V},ns.Nodup->ns[vs.length]?=U f->L2.dJ f v (ns.zip vs)=ns.zip (vs++[v])
 |[],vs,_,h=>by simp at h
 |n::ns,[],nd,h=>by
  simp at h;subst h;show L2.dJ n v []=(n,v)::ns.zip [];simp[L2.dJ]
 |n::ns,w::vs,nd,h=>by
  simp at h;show(if n=f then(n,v)::ns.zip vs else(n,w)::L2.dJ f v (ns.zip vs))=_
  rw[ag λz=>(lS.mp nd).1<|by rw[z];exact dh h,rZ (lS.mp nd).2 h]
  rfl
def IX{l:B1}{f j:Nat}(h:l.idxOf? f=U j):l[j]?=U f:=by
 rw[Lu,Lv]at h;obtain⟨hj,a,_⟩:=h;rw[cD hj,eq_of_beq a]
def mT{c f j:Nat}{n:Str}{ns:Bi}(b:P.an[f]?=U n)(a:P.fn[c]?=U ns)(h:gW P.tab c f=U j):ns[j]?=U n:=by
 unfold gW at h;obtain⟨l,e,d⟩:=dI.mp h;unfold Pg.fn at a;rw[dH,e]at a;cases a;rw[dH,IX d];show U (P.an.getD f xc)=_;rw[gP,b];rfl
def MD(q0:mC X.K X.mg P){f:Nat}{n:Str}(E:P.an[f]?=U n)(he:PE X e<|tE (P.kt X) fa)(V:aT e=O):PE X (.Attribute e n pos)<|tE (P.kt X)<|aB P.tab f fa:=by
 refine aM (Dy he<|ee V) λσ H Q I=>?_;obtain⟨g,s,t,s',x,h,k⟩:=I;revert h;refine aao λM N h1=>λh=>?_;refine⟨g,s,_,N,x,h1,λv g1 H1 D b B=>?_⟩;cases M<;>try(cases h;done)
 .rename_i c fs
  revert h;refine aan λu y=>λh=>?_;cases h;obtain⟨j,p,o⟩:=dI.mp<|ai y;obtain⟨a,C,A,ns,vs,rfl,hC,S,hl,hd,r⟩:=B;obtain⟨m,T,d,F⟩:=q0.of hC;have hj:=mT E d p;obtain⟨w,i,L⟩:=r.get o;exact⟨a,C,A,_,w,J,b.sub _ _ S,F.cl,F.na _<|dh hj,by rw[gX F.nd hj,i],k _ g1 H1 D b L⟩
 .rename_i R
  revert h;refine aan λc y=>λh=>?_;obtain⟨ob,p,o⟩:=dI.mp<|ai y;obtain⟨j,G,h6⟩:=dI.mp o;obtain⟨a,rfl,W⟩:=B;rcases b.st.at_ R ob p with⟨a',C,A,ns,vs,Z⟩|⟨a',Z⟩
  case inr=>
   obtain⟨l,q,_⟩:=dI.mp G;have z:(P.tab.map _)[ob.c]?=Y:=Z.nf;rw[dH,q]at z;cases z
  have:=Z.al.symm.trans W
  cases this;obtain⟨m,T,d,F⟩:=q0.of Z.cl;have hj:=mT E d G;obtain⟨w,i,sl⟩:=Z.f j c h6;cases c with
  |val t'=>
   cases h;exact⟨a,C,A,_,w,J,Z.h,F.cl,F.na _<|dh hj,by rw[gX F.nd hj,i],k _ g1 H1 D b sl⟩
  |ol ts=>cases h
  |od ks ts=>cases h
  |yg t=>cases h
def tyB(ty:String):T->Option Bool
 |.non=>U Zb
 |.bl _=>U<|ty == "bool" ||ty == "int"
 |.int _=>U<|ty == "int"
 |.str _=>U<|ty == "str"
 |.tup _=>U<|ty == "tuple"
 |.lst _=>U<|ty == "list"
 |_=>Y
def IY(ty:String):T->FK:=λt=>(tyB ty t).map .bl
def O2{B:KT}{al:BM}{H:Hp}{t:T}{v:V}{Ty:String}{u:Bool}(ka:jy Ty)(r:Rep B al H t v)(h:tyB Ty t=U u):∃tn,i9 B.K H v tn/\rm B.K tn (.type Ty)=U u:=by
 cases t with
 |non=>cases(show v=.non from r);cases h;exact⟨_,.non,jx B.K ka.non⟩
 |bl b=>cases(show v=.bl b from r);cases h;exact⟨_,.bl _,jx B.K ka.bl⟩
 |int i=>cases(show v=.int i from r);cases h;exact⟨_,.int _,jx B.K ka.int⟩
 |str l=>obtain⟨rfl,_⟩:=r;cases h;exact⟨_,.str _,jx B.K ka.str⟩
 |tup ts=>obtain⟨a,vs,rfl,q,_⟩:=r;cases h;exact⟨_,.tup q,jx B.K ka.tup⟩
 |lst ts=>obtain⟨a,vs,rfl,q,_⟩:=r;cases h;exact⟨_,.lst q,jx B.K ka.lst⟩
 |_=>cases h
def vn:List<|Str×String:=[("int","int"),("bool","bool"),("str","str"),("tuple","tuple"),("list","list")]
def UL:∀q∈vn,jy q.2/\ih q.1=U (.type q.2)/\q.1 ≠ "__name__" /\ (q.1 == ("__debug__" : Str))=Zb:=by
 intro p h;simp only[vn,bK,iC,hH]at h;rcases h with rfl|rfl|rfl|rfl|rfl
 .exact⟨OW,L7,by decide,by decide⟩
 .exact⟨IP,PyProof.Rows.boot_bool,by decide,by decide⟩
 .exact⟨OX,L6,by decide,by decide⟩
 .exact⟨Es,PyProof.Rows.boot_tuple,by decide,by decide⟩
 .exact⟨IQ,uH,by decide,by decide⟩
def O3{B:KT}(c:B.K=X.K){ty:String}{d:Pos}(n:(y,ty)∈vn)(q:X.mg "isinstance" = Y)(E:X.mg y=Y)(z:PE X a<|tE B fa)(s:Gl X "isinstance")(F:Gl X y)(g:noStar a=O) :
  PE X (.Call (.Name "isinstance" p) [a,.Name y d] [] pos)<|tE B<|dF (IY ty) fa:=by
 obtain⟨ka,w,o,hd⟩:=UL _ n;have l:dy [Hv y d] X.env=(Zb,e6 (.Name y d) X.env)::dy [] X.env:=J;refine aM (dX u2 s q yN (aR z (aR (yR F E w (v:=.ty ty) J o hd) bU l)<|ao g) (he:=ao g) (hpl:=J))
 <|Mv c (r:=λx H Q=>∃e i t b,[x,.ty ty]=[e,.ty i]/\i9 X.K H e t/\rm X.K t (.type i)=U b/\Q (.bl b) H) λB c al HF H x t G Q f m h k=>?_
 obtain⟨u,D,rfl⟩:=bD.mp h;obtain⟨j,C,A⟩:=O2 ka (m.same f) D;exact⟨x,ty,j,u,J,c▸C,c▸A,k _ HF H (.refl f) J⟩
def iV(sub:Ap)(ds:B1):T->FK
 |.obj c _=>(sub[c]?).map λl=>.bl<|ds.any λd=>decide<|d∈l
 |_=>Y
def Ez:dW X (.builtin "isinstance") λxs H Q=>∃x D t b,xs=[x,.ref D]/\i9 X.K H x t/\rm X.K t (.ref D)=U b/\Q (.bl b) H:=by
 intro g s σ H xs d Q I r h;obtain⟨x,D,t,b,rfl,ty,e,q⟩:=h;obtain⟨u,f,rfl,a,c⟩:=vals2 r;cases c;exact qt I a ty e λtk=>⟨.bl b,H,I.tok _,J,q⟩
def UN(q0:mC X.K X.mg P){d:Nat}{c:Pos}(f:P.cn[d]?=U y)(B:X.mg "isinstance" = Y)(M:PE X a<|tE (P.kt X) fa)(I:Gl X "isinstance")(W:Gl X y)(i:noStar a=O)(hd:cy y)(T:(P.fn[d]?).isSome=O) :
  PE X (.Call (.Name "isinstance" p) [a,.Name y c] [] pos)<|tE (P.kt X)<|dF (iV P.sub [d]) fa:=by
 obtain⟨ns,o⟩:=Dg.mp T;obtain⟨D,j⟩:=q0.cls d y ns f o;have u:dy [Hv y c] X.env=(Zb,e6 (.Name y c) X.env)::dy [] X.env:=J;refine aM (dX Ez I B yN (aR M (aR (rC (v:=.ref D) W j.gl J hd) bU u)<|ao i) (he:=ao i) (hpl:=J)) λσ H Q n=>?_;obtain⟨g,s,t,s',x,h,k⟩:=n;revert h;refine aao λq s1 R=>aan λZ b=>λh=>?_;cases h;refine⟨g,s,_,_,x,R,λv g1 H1 z e w=>?_⟩;have b:=ai b;cases q<;>try(cases b;done)
 obtain⟨l,G,rfl⟩:=bD.mp b;obtain⟨a,C,dx,D5,vs,rfl,N,A,E,L,r⟩:=w;obtain⟨m,S,Y6,F⟩:=q0.of N;refine⟨_,D,_,_,J,.ins (e.sub _ _ A) F.cl F.ca q0.gt.1 q0.gt.2 F.mo,q0.sub _ d m y C D l S f F.gl j.gl G,?_⟩
 have:=k (V.bl<|decide<|d∈l) g1 H1 z e (by show _=V.bl (([d]:B1).any λd=>decide<|d∈l);simp)
 exact this
abbrev jA(P:Pg)(K:bG)(Pr:ef)(w:dA):KT:=⟨K,Pr,w,P.cn,P.fn⟩
inductive qL(B:KT)(f:Fn)(vs:List V)(H:Hp)(Q:VK)(_:XK):Prop where
 |mk g ts m t m' (x:fT B g H m) (r:au B g.al g.HF ts vs) (h:f ts m=.ok (t,m')) (k:∀v g' H',eQ g H g' H'->fT B g' H' m'->Rep B g'.al g'.HF t v->Q v H')
structure Y7(P:Pg)(Pr:ef)(w:dA)(K:bG)(mg:Str->D1)(base:fA)(k:Nat)(x:Str)(ds:FC)(f:Fn):Prop where
 ex:∃(fa:cw)(fd:eX)(ps:Bi)(gx:B2)(dV:List V),dR Pr w K mg base mf k fa fd ps (qL (jA P K Pr w) f)/\mg x=U (.ref fa)/\pG K (.ref fa)=O/\Binds K fd ps gx/\Vals dV gx/\∀al H,au (jA P K Pr w) al H ds dV
def j_{f:Fn}{ds:FC}{t:T}(h:aq f ds fl s=.ok (t,s')):∃ts s1 m',fl s=.ok (ts,s1)/\f (ts++ds) s1.m=.ok (t,m')/\s'={s1 with m:=m'}:=by
 revert h;refine aao λts s1 a=>λh=>?_;dsimp only at h;cases q:f (ts++ds) s1.m with
 |ok r=>rw[q]at h;cases h;exact⟨ts,s1,r.2,a,q,J⟩
 |bad=>rw[q]at h;cases h
 |exc c fs b=>rw[q]at h;cases h
def vo{B:KT}{f:Fn}{ts:FC}{t:T}{m':FR}{vs:List V}{Q:VK}{E:XK}(x:SR B g H σ s)(r:au B g.al g.HF ts vs)(h:f ts s.m=.ok (t,m'))(k:∀v g' H',eQ g H g' H'->SR B g' H' σ {s with m:=m'}->Rep B g'.al g'.HF t v->Q v H'):qL B f vs H Q E:=
 ⟨g.aj,ts,s.m,t,m',x.st.aj,r,h,λv g' H' p y a=>let⟨p2,x2⟩:=x.back p y;k v (G.back g g') H' p2 x2 a⟩
def s_call{k j:Nat}{ds:FC}{f:Fn}(D:Y7 P X.prog X.w X.K X.mg X.base k x ds f)(hr:bL j X.A)(I:k<=j)(C:PA X (e::es)<|tA (P.kt X) fl)(z:Gl X x)(r:cy x)(a:(e::es).all noStar=O) :
  PE X (.Call (.Name x p) (e::es) [] pos)<|tE (P.kt X)<|aq f ds fl:=by
 obtain⟨N,fd,ps,M,R,F,u,y,B,hd,c⟩:=D.ex;rw[fG,dj]at a;refine aM (HX F (hr.mono I) z u y B hd nK C r (ao a.1)<|eW a.2) λσ H Q b=>?_;obtain⟨g,s,t,s',x,h,k⟩:=b;obtain⟨ts,l,L,G,E,rfl⟩:=j_ h;exact⟨g,s,ts,l,x,G,λvs g1 H1 q i n=>vo i (n.app<|c _ _) E λv g' H' o d m=>k v g' H' (q.trans o) d m⟩
def IZ{k j:Nat}{ds:FC}{f:Fn}(D:Y7 P X.prog X.w X.K X.mg X.base k x ds f)(hr:bL j X.A)(y:k<=j)(n:Gl X x)(i:cy x) :
  PE X (.Call (.Name x p) [] [] pos)<|tE (P.kt X)<|aq f ds cj:=by
 obtain⟨G,fd,ps,C,u,F,l,m,o,hd,b⟩:=D.ex;refine aM (DC F (hr.mono y) n l m o hd nK i) λσ H Q a=>?_;obtain⟨g,s,t,s',x,h,k⟩:=a;obtain⟨ts,z,B,r,q,rfl⟩:=j_ h;cases r;exact vo (E:=E0) (vs:=[]++u) x (b _ _) q λv g' H' e c d=>k v g' H' e c d
structure Xe(P:Pg)(Pr:ef)(w:dA)(K:bG)(mg:Str->D1)(base:fA)(k:Nat)(c:Nat)(m:Str)(f:Fn):Prop where
 ex:∃(C fa:cw)(fd:eX)(ps:Bi)(ns:Bi),iz (jA P K Pr w) c C ns/\pP K C/\Meth K C m fa/\dR Pr w K mg base mf k fa fd ps (qL (jA P K Pr w) f)/\Binds K fd ps []/\m∉ns
def ME{ι:Type}{t:ι->TE}{t':TE}{C:ι->Prop}(h:∀i,C i->PE X e (t i))(k:∀σ H Q,t' σ H Q->∃i,C i/\t i σ H Q):PE X e t':=λb s σ H Q I q=>by
 obtain⟨i,hi,a⟩:=k σ H Q q;exact h i hi b s σ H Q I a
def EA(X:Cx)(o:de)(m:Str)(bo:Pos)(es:Bz)(pos:Pos):Prop:=∃pl,e6 (.Call (.Attribute o m bo) es [] pos) X.env=(do
   let ov <- e6 o X.env
   rO bo.atName
   let(f,first) <- rS [ov] (ui ov m pl)
   callWith pos f first (hW pos<|dy es X.env) (pB pos<|my [] X.env))
def vp{gm:Nat->Option Fn}{t:T}(h:aD gm fo fl s=.ok (t,s')):∃a s1 c f ts s2 m',fo s=.ok (a,s1)/\((∃k ob,a=.own k/\s1.m[k]?=U ob/\ob.c=c)\/∃fs,a=.obj c fs)/\gm c=U f/\fl s1=.ok (ts,s2)/\f (a::ts) s2.m=.ok (t,m')/\s'={s2 with m:=m'}:=by
 revert h;refine aao λa s1 j=>λh=>?_;cases a<;>try(cases h;done)
 .rename_i c fs
  revert h;refine aan λf i=>λh=>?_;obtain⟨l,s2,m',g,b,rfl⟩:=j_ h;obtain⟨⟨ts,n⟩,e,d⟩:=aa g;cases d;rw[dw]at b;exact⟨_,s1,c,f,ts,_,m',j,.inr ⟨fs,J⟩,ai i,e,b,J⟩
 .rename_i o
  revert h;refine aan λf i=>λh=>?_;obtain⟨ob,q,p⟩:=dI.mp<|ai i;obtain⟨l,s2,m',g,b,rfl⟩:=j_ h;obtain⟨⟨ts,n⟩,e,d⟩:=aa g;cases d;rw[dw]at b;exact⟨_,s1,ob.c,f,ts,_,m',j,.inl ⟨o,ob,J,q,J⟩,p,e,b,J⟩
def EB{B:KT}{C:cw}{ns:Bi}{c:Nat}{b:T}{v:V}(x:SR B g H σ s)(e:iz B c C ns)(r:Rep B g.al g.HF b v)(h:(∃k ob,b=.own k/\s.m[k]?=U ob/\ob.c=c)\/∃fs,b=.obj c fs):∃a dx vs,v=.ref a/\H a=U (.ins C dx<|ns.zip vs):=by
 rcases h with⟨k,ob,rfl,j,rfl⟩|⟨fs,rfl⟩
 .obtain⟨a,rfl,i⟩:=r
  rcases x.st.at_ k ob j with⟨l,p,dx,o,vs,Z⟩|⟨l,Z⟩
  case inr=>
   obtain⟨n,q,_⟩:=e;rw[Z.nc]at q;cases q
  have:=Z.al.symm.trans i
  cases this;obtain⟨rfl,rfl⟩:=Z.cl.eq e;exact⟨a,dx,vs,J,Z.h⟩
 .obtain⟨a,p,dx,o,vs,rfl,d,f,_⟩:=r
  obtain⟨rfl,rfl⟩:=d.eq e;exact⟨a,dx,vs,J,x.sub _ _ f⟩
def O4{m:Str}{k j:Nat}{gm:Nat->Option Fn}(D:∀c f,gm c=U f->Xe P X.prog X.w X.K X.mg X.base k c m f)(hr:bL j X.A)(BO:k<=j)(W:PE X o<|tE (P.kt X) fo)(ha:PA X (e::es)<|tA (P.kt X) fl)(l:(e::es).all noStar=O)(d:EA X o m bo (e::es) pos) :
  PE X (.Call (.Attribute o m bo) (e::es) [] pos)<|tE (P.kt X)<|aD gm fo fl:=by
 obtain⟨pl,d⟩:=d;rw[fG,dj]at l;refine ME (ι:=cw×Fn) (C:=λi=>∃c fa fd ps ns,iz (P.kt X) c i.1 ns/\gm c=U i.2/\pP X.K i.1/\Meth X.K i.1 m fa/\dR X.prog X.w X.K X.mg X.base mf k fa fd ps (qL (P.kt X) i.2)/\Binds X.K fd ps []/\m∉ns)
  (t:=λi=>yW i.1 m (qL (P.kt X) i.2) [] E0 (tE (P.kt X) fo)<|tA (P.kt X) fl) (by rintro i ⟨c,fa,fd,ps,ns,p,_,cl,M,F,n,_⟩;exact HZ (pl:=pl) W cl M F (hr.mono BO) n .nil nK ha (ao l.1) (eW l.2) d) ?_
 rintro σ H Q ⟨g,s,t,s',x,h,k⟩
 obtain⟨I,u,c,f,ts,L,m',h1,Z,B,h3,h4,rfl⟩:=vp h;obtain⟨C,fa,fd,ps,ns,p,cl,M,F,n,z⟩:=(D c f B).ex;refine⟨(C,f),⟨c,fa,fd,ps,ns,p,B,cl,M,F,n,z⟩,g,s,_,u,x,h1,λv g1 H1 T q y=>?_⟩;obtain⟨a,dx,vs,rfl,hi⟩:=EB q p y Z;refine⟨a,dx,_,J,hi,oi z,g1,u,ts,L,q,h3,λr g2 H2 b G R=>?_⟩;show qL _ _ (V.ref a::(r++[])) H2 Q E0;rw[dw];exact vo (ts:=I::ts) G ⟨_,r,J,y.mv b.pre b.fr,R⟩ h4 λv g' H' S E N=>k v g' H' ((T.trans b).trans S) E N
def I0{m:Str}{k j:Nat}{gm:Nat->Option Fn}(D:∀c f,gm c=U f->Xe P X.prog X.w X.K X.mg X.base k c m f)(hr:bL j X.A)(V:k<=j)(I:PE X o<|tE (P.kt X) fo)(b:EA X o m bo [] pos) :
  PE X (.Call (.Attribute o m bo) [] [] pos)<|tE (P.kt X)<|aD gm fo cj:=by
 obtain⟨pl,b⟩:=b;refine ME (ι:=cw×Fn) (C:=λi=>∃c fa fd ps ns,iz (P.kt X) c i.1 ns/\gm c=U i.2/\pP X.K i.1/\Meth X.K i.1 m fa/\dR X.prog X.w X.K X.mg X.base mf k fa fd ps (qL (P.kt X) i.2)/\Binds X.K fd ps []/\m∉ns)
  (t:=λi=>yW i.1 m (qL (P.kt X) i.2) [] E0 (tE (P.kt X) fo) HW) (by rintro i ⟨c,fa,fd,ps,ns,e,_,cl,M,F,d,_⟩;exact DE (pl:=pl) I cl M F (hr.mono V) d .nil nK b) ?_
 rintro σ H Q ⟨g,s,t,s',x,h,k⟩
 obtain⟨u,y,c,f,ts,W,Z,S,L,q,R,N,rfl⟩:=vp h;cases R;obtain⟨C,fa,fd,ps,ns,e,cl,M,F,d,p⟩:=(D c f q).ex;refine⟨(C,f),⟨c,fa,fd,ps,ns,e,q,cl,M,F,d,p⟩,g,s,_,y,x,S,λv g1 H1 G l n=>?_⟩;obtain⟨a,T,vs,rfl,hi⟩:=EB l e n L;exact⟨a,T,_,J,hi,oi p,vo (E:=E0) (ts:=[u]) (vs:=[.ref a]) l (.one n) N λv g' H' B r z=>k v g' H' (G.trans B) r z⟩
def Ō(C:cw)(ns:Bi):Sp:=λvs H Q _=>∃x b a,vs=.ref x::a/\a.length=ns.length/\H x=U (.ins C b [])/\Q .non (upd H x<|.ins C b<|ns.zip a)
structure ō(P:Pg)(Pr:ef)(w:dA)(K:bG)(mg:Str->D1)(base:fA)(k:Nat)(c n:Nat)(x:Str):Prop where
 ex:∃(C fi:cw)(fd:eX)(ps:Bi)(ns:Bi),iz (jA P K Pr w) c C ns/\ns.length=n/\mg x=U (.ref C)/\Mk K C fi/\dR Pr w K mg base mf k fi fd ps (Ō C ns)/\Binds K fd ps []
def zJ{B:KT}{c:Nat}{C x dx:cw}{ns:Bi}{ts:FC}{vs:List V}(f:SR B g H σ s)(d:iz B c C ns)(b:vs.length<=ns.length)(r:au B g.al g.HF ts vs)(nx:H x=Y)(nd:H dx=Y)(a:dx≠x) :
  ∃h:Gr g.HF H (upd (upd g.HF dx<|.own x) x<|.ins C dx<|ns.zip vs) (upd (upd H dx<|.own x) x<|.ins C dx<|ns.zip vs),Rep B g.al (upd (upd g.HF dx<|.own x) x<|.ins C dx<|ns.zip vs) (.obj c ts)<|.ref x:=by
 have g2:=Gr.new (o:=.own x) f.sub nd;have e:upd H dx (.own x) x=Y:=by rw[ak<|Ne.symm a];exact nx
 have g3:=Gr.new (o:=.ins C dx<|ns.zip vs) g2.sub e;exact⟨g2.trans g3,x,C,dx,ns,vs,J,d,ah,b,by rw[ak a,ah],r.same<|g2.fr.trans g3.fr⟩
def UO{k j c n:Nat}(D:ō P X.prog X.w X.K X.mg X.base k c n x)(hr:bL j X.A)(N:k+1<=j)(E:PA X (e::es)<|tA (P.kt X) fl)(z:Gl X x)(r:cy x)(b:(e::es).all noStar=O) :
  PE X (.Call (.Name x p) (e::es) [] pos)<|tE (P.kt X)<|iK c n fl:=by
 obtain⟨C,f,fd,ps,ns,G,u,v,M,F,B⟩:=D.ex;rw[fG,dj]at b;refine aM (rJ M F (hr.mono N) z v B .nil nK E r (ao b.1)<|eW b.2) λσ H Q l=>?_;obtain⟨g,s,t,s',x,h,k⟩:=l;revert h;refine aao λts R I=>λh=>?_;dsimp only at h;split at h
 .rename_i y
  cases h;refine⟨g,s,ts,_,x,I,λvs g1 H1 o a d x L nx nd q=>?_⟩;have Ŏ:vs.length=ns.length:=by rw[<- d.len,y,u]
  refine⟨x,L,vs++[],J,by rw[dw,Ŏ],ah,J,?_⟩
  rw[dw,yO];obtain⟨i,m⟩:=zJ (c:=c) (ts:=ts) a G (wL Ŏ) d nx nd q;exact k _ (g1.grow _) _ (o.trans<|a.gb i) (a.grow i) m
 .cases h
section
structure ŏ(K:bG)(C:cw):Prop where
 makes:t_ K C=O
 init:gp K (.ref C) "__init__" = U (U<|.builtin "object.__init__")
 kp:pG K (.ref C)=O
def Y9(C:cw):TE:=λ_ H Q=>∀x a,H x=Y->H a=Y->a≠x->Q (.ref x) (upd (upd H a<|.own x) x<|.ins C a [])
open PySem.W in
def O5{C:cw}(M:ŏ X.K C)(hg:Gl X x)(hm:X.mg x=U (.ref C))(nI:cy x:=by decide):PE X (.Call (.Name x p) [] [] pos)<|Y9 C:=by
 intro ae s σ H Q I h;refine gV<|jQ I hg hm ?_ nI;refine CH I.jJ M.kp ?_;have hq:=h (s.heap.objs.size+1) s.heap.objs.size (I.aZ.fresh<|yq _) (I.aZ.fresh<|bW _)<|dP<|pI _;have I2:=Inv.made (C:=C) I;have KX:=I.jJ;obtain⟨hh,g,d,t,os⟩:=s;refine xp ?_;have a:=makes_of (M:=da X.prog X.w) KX M.makes;refine make_core a (looks_findIn KX M.init) (λself=>Looks.of_pure<|oi_bind self) (.inr ⟨J,J⟩) ?_;have hz:(hh.push BG).objs.size=hh.objs.size+1:=lK ..;have gt:((hh.push BG).push<|instObj C hh.objs.size).get? (hh.objs.size+1)=U (instObj C hh.objs.size):=by
  rw[<- hz];exact c8 _ J
 have t1:Looks (da X.prog X.w) ((hh.push BG).push<|instObj C hh.objs.size) (typeOf<|.ref<|hh.objs.size+1)<|.ref C:=(Looks.ld gt).andThen .now;have t2:Looks (da X.prog X.w) ((hh.push BG).push<|instObj C hh.objs.size) (isInstance (.ref<|hh.objs.size+1)<|.type "object") O:=t1.andThen<|a.top.keeps λb o e=>bp _<|bp _ e;refine rz oi_plain entry_oi<|@check_slot (da X.prog X.w) _ _ _ "object.__init__" "object" "__init__" (.ref<|hh.objs.size+1) [] [] _ oi_kind oi_split t2 (oi_args<|.ref<|hh.objs.size+1) ?_;show eg _ _ (Builtin.«object.__init__» ⟨[Value.ref<|hh.objs.size+1],[]⟩) _ _ _;rw[oi_run];exact c7<|And.intro J ⟨V.ref<|hh.objs.size+1,_,I2,J,hq⟩
end
structure UP(P:Pg)(Pr:ef)(w:dA)(K:bG)(mg:Str->D1)(c:Nat)(x:Str):Prop where
 ex:∃(C:cw)(ns:Bi),iz (jA P K Pr w) c C ns/\mg x=U (.ref C)/\ŏ K C
def O6{c:Nat}(D:UP P X.prog X.w X.K X.mg c x)(l:Gl X x)(i:cy x):PE X (.Call (.Name x p) [] [] pos)<|tE (P.kt X)<|iK c 0 cj:=by
 obtain⟨C,ns,m,j,M⟩:=D.ex;refine aM (O5 M l j i) λσ H Q b=>?_;obtain⟨g,s,t,s',z,h,k⟩:=b;cases h;intro x n nx nd f;obtain⟨a,d⟩:=zJ (c:=c) (ts:=[]) (vs:=[]) z m (gq _) J nx nd f;have e:ns.zip ([]:List V)=[]:=Lw
 have:=k _ (g.grow _) _ (z.gb a) (z.grow a) d
 rw[e]at this;exact this
section
structure Walk(B:KT)(al:BM)(Zg:It)(HF:Hp)(ts:FC):Prop where
 go:∀i H,aK HF H->i<ts.length->Zg.go i H
 yld:∀i H x H',aK HF H->i<ts.length->Zg.yld i H x H'->∃t,ts[i]?=U t/\∀r6,aK HF r6->aK r6 H->∃O7,Gr r6 H O7 H'/\Rep B al O7 t x
 stop:∀i H,aK HF H->i=ts.length->Zg.stop i H
def BP{B:KT}{al:BM}{HF:Hp}{l:cw}{ts:FC}{vs:List V}(h:HF l=U (.lst vs))(r:au B al HF ts vs):Walk B al (WK B.K l) HF ts:=by
 refine⟨λi H a hi=>?_,λi H x H' a hi y=>?_,λi H a hi=>⟨vs,c9.of<|a _ _ h,by rw[hi,r.len];exact bW _⟩⟩
 .obtain⟨v,e,_⟩:=r.get<|cD hi
  exact⟨vs,v,c9.of<|a _ _ h,e⟩
 .obtain⟨rfl,y⟩:=y
  have e:=y vs<|c9.of<|a _ _ h;obtain⟨t,g,f⟩:=r.vd e;exact⟨t,g,λd c b=>⟨d,.refl b,f.same c⟩⟩
def EC{B:KT}{al:BM}{HF:Hp}{l:cw}{ts:FC}{vs:List V}(h:kM B.K HF l vs)(r:au B al HF ts vs):Walk B al (X4 B.K l) HF ts:=by
 refine⟨λi H a hi=>?_,λi H x H' a hi y=>?_,λi H a hi=>⟨vs,b8 a h,by rw[hi,r.len];exact bW _⟩⟩
 .obtain⟨v,e,_⟩:=r.get<|cD hi
  exact⟨vs,v,b8 a h,e⟩
 .obtain⟨rfl,y⟩:=y
  have e:=y vs<|b8 a h;obtain⟨t,g,f⟩:=r.vd e;exact⟨t,g,λd c b=>⟨d,.refl b,f.same c⟩⟩
def kc{B:KT}{al:BM}{Zg:It}{src:List V}{ts:FC}{HF:Hp}(d:W6 Zg src λ_=>True)(r:au B al HF ts src):Walk B al Zg HF ts:=by
 refine⟨λi H a hi=>d.go i H trivial<|by rw[<- r.len];exact hi,λi H x H' a hi y=>?_,λi H a hi=>d.stop i H trivial<|by rw[<- r.len];exact hi⟩
 obtain⟨rfl,e⟩:=d.yld i H x H' trivial (by rw[<- r.len];exact hi) y
 obtain⟨t,h,g⟩:=r.vd e;exact⟨t,h,λf c b=>⟨f,.refl b,g.same c⟩⟩
theorem au.lW{B:KT}{al:BM}{H:Hp}(lo:Int)(n:Nat):au B al H (D.lW lo n)<|(bZ n).map λk=>V.int<|lo+(k:Nat):=by
 have b:D.lW lo n=((bZ n).map λk=>lo+((k:Nat):Int)).map T.int:=by unfold D.lW;rw[iu];rfl
 have a:((bZ n).map λk=>V.int<|lo+(k:Nat))=((bZ n).map λk=>lo+((k:Nat):Int)).map V.int:=by rw[iu];rfl
 rw[b,a];exact au.ints _
def ED(hi:Int)(n:Nat):W6 (Yy hi n) ((bZ n).map λk=>V.int<|hi-(k:Nat)) λ_=>True:=
 ⟨λi H _ h=>by rw[bX,nh]at h;exact h,
  λi H x H' _ hi y=>by
  obtain⟨e,ex⟩:=y;refine⟨e,?_⟩;have hi:i<n:=by rw[bX,nh]at hi;exact hi
  rw[dH,yu hi,ex];rfl,
  λi H _ h=>by rw[bX,nh]at h;exact wL h.symm⟩
def au.dwn{B:KT}{al:BM}{H:Hp}(hi:Int)(n:Nat):au B al H ((bZ n).map λk=>T.int<|hi-(k:Nat))<|(bZ n).map λk=>V.int<|hi-(k:Nat):=by
 have b:((bZ n).map λk=>T.int<|hi-(k:Nat))=((bZ n).map λk=>hi-((k:Nat):Int)).map T.int:=by rw[iu];rfl
 have a:((bZ n).map λk=>V.int<|hi-(k:Nat))=((bZ n).map λk=>hi-((k:Nat):Int)).map V.int:=by rw[iu];rfl
 rw[b,a];exact au.ints _
structure Sets(B:KT)(al:BM)(HF:Hp)(S:B1)(σ σ':St)(ρ ρ':Fh):Prop where
 len:σ'.length=σ.length
 lenR:ρ'.length=ρ.length
 off:∀(i:Nat),i∉S->σ'[i]?=σ[i]?/\ρ'[i]?=ρ[i]?
 on:∀(i:Nat),i∈S->i<ρ.length->∃(t:T)(v:V),ρ'[i]?=U (U<|.val t)/\σ'[i]?=U (U v)/\Rep B al HF t v
structure r8(B:KT)(g:TG)(fg:FG)(S:B1):Prop where
 ok:∀(al:BM)(HF H:Hp)(σ:St)(ρ:Fh)(t:T)(v:V)(ρ':Fh)(Q:St->Hp->Prop),aK HF H->Rep B al HF t v->fg t ρ=U ρ'->ρ.length=σ.length->(∀σ',Sets B al HF S σ σ' ρ ρ'->Q σ' H)->g v σ H Q
def Sets.one{B:KT}{al:BM}{HF:Hp}{i:Nat}{σ:St}{a:Fh}{t:T}{v:V}(c:a.length=σ.length)(r:Rep B al HF t v):Sets B al HF [i] σ (σ.set i<|U v) a<|a.set i<|U<|.val t:=by
 refine⟨eU,eU,λj hj=>?_,λj hj b=>?_⟩
 .have:i≠j:=λe=>hj (by simp[e])
  rw[cJ this,cJ this];exact⟨J,J⟩
 .have:j=i:=by simpa using hj
  subst this;exact⟨t,v,by rw[dQ b],by rw[dQ<|by lia],r⟩
def zK{B:KT}(i:Nat):r8 B (yU i) (setG i) [i]:=⟨λal HF H σ c t v a Q d r h b q=>by
 cases h;exact q _<|.one b r⟩
def Sets.cons{B:KT}{al:BM}{HF:Hp}{i:Nat}{S:B1}{σ d:St}{f e:Fh}{t:T}{v:V}(p:f.length=σ.length)(r:Rep B al HF t v)(h:Sets B al HF S (σ.set i<|U v) d (f.set i<|U<|.val t) e):Sets B al HF (i::S) σ d f e:=by
 have o:=Sets.one (B:=B) (al:=al) (i:=i) p r;refine⟨h.len.trans o.len,h.lenR.trans o.lenR,λj hj=>?_,λj hj l=>?_⟩
 .obtain⟨k,g⟩:=h.off j λz=>hj<|by simp[z]
  obtain⟨s,q⟩:=o.off j λz=>hj<|by simp at z;simp[z]
  exact⟨k.trans s,g.trans q⟩
 .by_cases hs:j∈S
  .exact h.on j hs (by rw[eU];exact l)
  .obtain⟨k,g⟩:=h.off j hs
   obtain⟨n,m,a,b,c⟩:=o.on j (by rcases bK.mp hj with z|z;exact(by simp[z]);exact eD z hs) l
   exact⟨n,m,g.trans a,k.trans b,c⟩
def oj:B1->Mc
 |[]=>R9
 |i::is=>Me (yU i)<|oj is
theorem qM{B:KT}{al:BM}:∀(is:B1)(HF H:Hp)(σ:St)(c:Fh)(ts:FC)(vs:List V)(a:Fh)(Q:St->Hp->Prop),aK HF H->au B al HF ts vs->zf is ts c=U a->c.length=σ.length->(∀b,Sets B al HF is σ b c a->Q b H)->oj is vs σ H Q
 |[],HF,H,σ,c,ts,vs,a,Q,e,r,h,d,q=>by
  cases ts with
  |cons t ts=>cases h
  |nil=>
   cases h;cases(show vs=[]from r);exact⟨J,q _ ⟨J,J,λ_ _=>⟨J,J⟩,λi hi=>by cases hi⟩⟩
 |i::is,HF,H,σ,c,ts,vs,a,Q,e,r,h,d,q=>by
  cases ts with
  |nil=>cases h
  |cons t ts=>
   obtain⟨v,f,rfl,j,g⟩:=r;refine⟨v,f,J,?_⟩;exact qM is HF H _ _ ts f a Q e g h (by rw[eU,eU];exact d) λb s=>q b<|.cons d j s
def EE{B:KT}(is:B1){n:Nat}(f:is.length=n:=by rfl):r8 B (NP B.K n<|oj is) (eV is) is:=⟨λal HF H σ c t v b Q d r h g q=>by
 cases t<;>try(cases h;done)
 .rename_i ts
  obtain⟨a,vs,rfl,q1,r⟩:=r;have j:∀(is:B1)(ts:FC)(c:Fh),zf is ts c=U b->is.length=ts.length:=by
   intro is
   induction is with
   |nil=>intro ts c h;cases ts with
    |nil=>rfl
    |cons=>cases h
   |cons i is e=>intro ts c h;cases ts with
    |nil=>cases h
    |cons t ts=>simp[e ts _ h]
  exact⟨a,vs,J,b8 d q1,by rw[<- r.len,<- j _ _ _ h,f],qM is HF H σ c ts vs b Q d r h g q⟩
⟩
theorem Walk.mv{al b:BM}{Zg:It}{HF a:Hp}{ts:FC}(w:Walk B al Zg HF ts)(p:al <+: b)(s:aK HF a):Walk B b Zg a ts:=
 ⟨λi H h=>w.go i H<|s.trans h,λi H x H' h hi y=>let⟨t,h1,h2⟩:=w.yld i H x H' (s.trans h) hi y;⟨t,h1,λe d c=>let⟨O7,gr,r⟩:=h2 e (s.trans d) c;⟨O7,gr,r.mv p<|aK.refl _⟩⟩,λi H h=>w.stop i H<|s.trans h⟩
inductive tI(B:KT)(f:FL)(σ:St)(H:Hp)(R:It->Hp->Prop):Prop where
 |mk g s ts s' (x:SR B g H σ s) (h:f s=.ok (ts,s')) (k:∀a g' H',eQ g H g' H'->SR B g' H' σ s'->Walk B g'.al a g'.HF ts->R a H')
def qN:PI X tg e<|tI B fH:=λ_ _ _ _ _ _ a=>by obtain⟨_,_,_,_,_,h,_⟩:=a;cases h
def MF{t t':TI}(h:PI X tg e t)(h':PI X tg e t'):PI X tg e λσ H R=>t σ H R\/t' σ H R:=λa s σ H R I q=>by
 rcases q with q|q
 .exact h a s σ H R I q
 .exact h' a s σ H R I q
def O8:T->Bool
 |.str _=>Zb
 |_=>O
def O9:T->Fs
 |.str _=>Y
 |t=>Xc t
def I_(a:FE):FL:=λs=>(a s).bind λp=>(aW<|O9 p.1).bind λts=>.ok (ts,p.2)
def BQ{al:BM}{HF:Hp}{a:cw}{ns:Dx}(h:c9 B.K HF a<|ns.map V.int):Walk B al (WK B.K a) HF<|ns.map T.int:=by
 refine⟨λi H b hi=>?_,λi H x H' b hi y=>?_,λi H b hi=>⟨_,b.seq h,by rw[hi,bX,bX];exact bW _⟩⟩
 .rw[bX]at hi
  exact⟨_,.int ns[i],b.seq h,by rw[dH,cD hi];rfl⟩
 .rw[bX]at hi
  obtain⟨rfl,y⟩:=y;have e:=y _<|b.seq h;obtain⟨t,j,g⟩:=(au.ints (B:=B) (al:=al) (H:=HF) ns).vd e;exact⟨t,j,λf d c=>⟨f,.refl c,g.same d⟩⟩
def MG(f:B.K=X.K)(m:PE X e<|tE B fa):PI X tg e<|tI B<|I_ fa:=by
 refine jW (MF (HN m)<|NU m) λσ H R n=>?_;obtain⟨g,s,t,s',x,h,k⟩:=n;revert h;refine aao λo p i=>aan λts b=>λh=>?_;cases h;have b:=ai b;have j:=f.symm;cases o<;>try(cases b;done)
 .cases b
  refine .inr ⟨g,s,_,_,x,i,λv g1 H1 d a c=>?_⟩;obtain⟨l,vs,rfl,q,r⟩:=c;refine⟨l,J,⟨vs,f▸b8 a.sub q⟩,?_⟩;rw[j];exact k _ g1 H1 d a<|EC q r
 .cases b
  refine .inl ⟨g,s,_,_,x,i,λv g1 H1 d a c=>?_⟩;obtain⟨l,vs,rfl,q,r⟩:=c;refine⟨l,J,⟨vs,c9.of<|a.sub _ _ q⟩,?_⟩;rw[j];exact k _ g1 H1 d a<|BP q r
 .cases b
  refine .inl ⟨g,s,_,_,x,i,λv g1 H1 d a c=>?_⟩;obtain⟨l,rfl,q⟩:=c;refine⟨l,J,⟨_,f▸a.sub.seq q⟩,?_⟩;rw[j];exact k _ g1 H1 d a<|BQ q
def UQ(n:B.K=X.K){l:Pos}(c:PE X e<|tE B fa):PI X (.Name x l) e<|tI B<|iL fa:=by
 refine jW (MF (MG n c)<|Oj c) λσ H R f=>?_;obtain⟨g,s,t,s',z,h,k⟩:=f;revert h;refine aao λa o d=>aan λts b=>λh=>?_;cases h;by_cases hs:O8 a=O
 .refine .inl ⟨g,s,t,_,z,?_,k⟩
  unfold I_;rw[d];show(aW<|O9 a).bind _=_;have e:O9 a=Xc a:=by cases a<;>first|rfl|(cases hs)
  rw[e,b];rfl
 .cases a<;>first|(exact eD J hs)|skip
  have b:=ai b;cases b;refine .inr ⟨g,s,_,_,z,d,λv g1 H1 m i j=>?_⟩;obtain⟨rfl,p⟩:=j;exact⟨_,J,k _ g1 H1 m i<|kc (Ip _)<|au.signs _⟩
def EF(o:Gl X "range")(n:X.mg "range" = Y)(q:PE X a<|tE B fa)(m:noStar a=O):PI X tg (.Call (.Name "range" p) [a] [] pos)<|tI B<|ze mj<|bH fa cj:=by
 have d:dy [a] X.env=[(Zb,e6 a X.env)]:=ao m;refine jW (Bk o n (aR q bU d) d) λσ H R e=>?_;obtain⟨g,s,t,s',x,h,k⟩:=e;revert h;refine aao λts y c=>aan λu b=>λh=>?_;cases h;revert c;refine aao λi w r=>λc=>?_;cases c;have b:=ai b;cases i<;>try(cases b;done)
 obtain⟨z,rfl⟩:=aX b;refine⟨g,s,_,_,x,r,λv g1 H1 l f j=>?_⟩;cases j;exact⟨_,J,by lia,by lia,k _ g1 H1 l f<|kc (qD 0 _)<|au.lW 0 _⟩
def EG{a b:T}{us:FC}(h:mj [a,b]=U us):∃i j,a=.int i/\b=.int j/\(i<1000000/\-1000000<i/\j<1000000/\-1000000<j)/\lW i (j-i).toNat=us:=by
 cases a<;>try(cases h;done)
 cases b<;>try(cases h;done)
 obtain⟨z,e⟩:=aX h;exact⟨_,_,J,J,z,e⟩
def EH(A:Gl X "range")(z:X.mg "range" = Y)(D:PE X a<|tE B fa)(C:PE X b<|tE B fb)(y:noStar a=O)(l:noStar b=O):PI X tg (.Call (.Name "range" p) [a,b] [] pos)<|tI B<|ze mj<|bH fa<|bH fb cj:=by
 have c:dy [b] X.env=[(Zb,e6 b X.env)]:=ao l;have Ő:dy [a,b] X.env=[(Zb,e6 a X.env),(Zb,e6 b X.env)]:=by rw[ao y,c]
 refine jW (Bl A z (aR D (aR C bU c)<|by rw[Ő,c]) Ő c) λσ H R f=>?_
 obtain⟨g,s,t,s',x,h,k⟩:=f;revert h;refine aao λts Z e=>aan λP G=>λh=>?_;cases h;revert e;refine aao λS W F=>aao λty V d=>λe=>?_;cases e;revert d;refine aao λQ T E=>λd=>?_;cases d;obtain⟨i,j,rfl,rfl,⟨N,M,L,K⟩,rfl⟩:=EG<|ai G;refine⟨g,s,_,_,x,F,λv g1 H1 u n q=>⟨g1,_,_,_,n,E,λw g2 I r m o=>?_⟩⟩;cases q;cases o;exact⟨_,_,J,⟨by lia,by lia,by lia,by lia⟩,k _ g2 I (u.trans r) m<|kc (qD _ _)<|au.lW _ _⟩
def nU.sets{al:BM}{k:B1}{a:St}{r j:Fh}(x:nU B g H σ r)(d:al=g.al)(t:Sets B al g.HF k σ a r j):nU B g H a j:=by
 subst d;refine⟨by rw[t.lenR,t.len];exact x.len,λi c h=>?_⟩
 by_cases hi:i∈k
 .have l:i<r.length:=by rw[<- t.lenR];exact(du.mp h).1
  obtain⟨u,v,b,f,e⟩:=t.on i hi l;rw[h]at b;cases b;exact⟨v,f,e⟩
 .obtain⟨b,f⟩:=t.off i hi
  rw[f]at h;obtain⟨v,e,m⟩:=x.at_ i c h;exact⟨v,b.trans e,m⟩
end
def xF{B:KT}{al:BM}{HF:Hp}{S:B1}{c:St}{j f:Fh}{k:Nat}{js:B1}{σ:St}(m:∀i∈S,i<k)(s:Sets B al HF S (cR k js σ) c j f):cX (cR k js σ) c:=by
 have gen:∀(a b:St),a.length=b.length->(∀(i:Nat)(v:V),a[i]?=U (U v)->b[i]?=U (U v))->cX a b:=by
  intro a
  induction a with
  |nil=>intro b d _;cases b with
   |nil=>trivial
   |cons=>cases d
  |cons x a l=>intro b d h;cases b with
   |nil=>cases d
   |cons y b=>
    have hr:=l b (by simpa using d) λi v e=>by simpa using h (i+1) v (by simpa using e)
    cases x with
    |none=>exact hr
    |some v=>
     have:=h 0 v J
     simp at this;subst this;exact⟨J,hr⟩
 refine gen _ _ s.len.symm λi v e=>?_;by_cases hi:i∈S
 .have g:=m i hi
  unfold cR at e;rw[e_<|by rw[kI];exact g,wM,bt g]at e
  cases e
 .rw[(s.off i hi).1];exact e
section
variable{scope:hB}{ls fs:Bi}{js S':B1}{j elt:de}{n:Bz}{gt:TG}{qo:FL}{fg:FG}{ft:FT}{fe:FE}
theorem SR.kU:∀(js:B1){g:G}{s:S},SR B g H σ s->∃g',eQ g H g' H/\SR B g' H σ {s with r:=kU js s.r}
 |[],g,s,x=>⟨g,.refl,x⟩
 |j::js,g,s,x=>by
  show ∃g',eQ g H g' H/\SR B g' H σ {s with r:=D.kU js (IA s.r j)}
  have one:∃g1,eQ g H g1 H/\SR B g1 H σ {s with r:=IA s.r j}:=by
   unfold IA;split
   .rename_i ts h
    obtain⟨g1,v,p,y,_⟩:=x.f9 h;exact⟨g1,p,y⟩
   .exact⟨g,.refl,x⟩
  obtain⟨g1,d,b⟩:=one;obtain⟨g2,c,a⟩:=SR.kU js b;exact⟨g2,d.trans c,a⟩
def nU.block{r:Fh}(x:nU B g H σ r)(k:Nat)(js:B1):nU B g.aj H (cR k js σ)<|jt k js r:=by
 refine⟨by unfold jt cR;simp,λi c h=>?_⟩
 unfold jt at h;unfold cR;by_cases hi:i<k
 .rw[e_<|by simpa using hi,wM,bt hi]at h
  cases h
 .rw[eF<|by simpa using hi,kI,dH]at h
  rw[eF<|by simpa using hi,kI,dH]
  cases hj:js[i-k]? with
  |none=>rw[hj]at h;cases h
  |some j=>
   rw[hj]at h;have h:(match r[j]? with|U<|U<|.val t=>U<|C.val t|_=>Y)=U c:=by injection h
   split at h
   .rename_i t hr
    cases h;obtain⟨v,b,a⟩:=x.at_ j _ hr;exact⟨v,by show U ((σ[j]?).join)=_;rw[b];rfl,a⟩
   .cases h
def SR.O_{D:cw}{u:HO}(x:SR B g H σ s)(j:g.HF D=Y)(f:g.o D=Y)(k:∃w,H D=U w):SR B g (upd H D u) σ s:=by
 have ne:∀b p,g.o b=U p->b≠D:=λb p e z=>by rw[z,f]at e;cases e
 refine⟨x.st.mv (λb w e=>?_) (λb p e=>?_) (aK.refl _) J λl p h _=>⟨h,ak<|ne l p h⟩,x.lc.len,λi c e=>?_⟩
 .have:b≠D:=λz=>by rw[z,j]at e;cases e
  rw[ak this];exact x.sub _ _ e
 .obtain⟨d,w,a⟩:=x.st.live b p e
  exact⟨d,w,by rw[ak<|ne b p e];exact a⟩
 .obtain⟨v,d,a⟩:=x.lc.at_ i c e
  exact⟨v,d,bu.mv (g:=g) (g':=g) (aK.refl _) fh (λl h=>⟨h,ak<|ne l _ h⟩) a⟩
def eQ.O_{D:cw}{u:HO}{g1:G}{H1:Hp}(p:eQ g H g1 H1)(a:H D=Y):eQ g H g1<|upd H1 D u:=
 ⟨p.fr,p.pre,λb w h n z=>by
  have:b≠D:=aA h a
  rw[ak this];exact p.rest b w h n z,λb h=>by
  by_cases hb:b=D
  .subst hb;exact a
  .rw[ak hb]at h;exact p.there b h⟩
def UR:Hs X []<|tT B dM:=λa s σ H Q I z=>by
 obtain⟨g,st,t,s',x,h,k⟩:=z;cases h;exact Ik a s σ H Q I<|k g H .refl x
def US{c:de}(h:PT X c<|tT B ft):Hs X [c]<|tT B ft:=Il h
def xG{k:Nat}(Hx:r8 B gt fg S')(hS:∀i∈S',i<k):∀σ H Q,tO B (bQ qo k js fg ft fe) σ H Q->tComp (tI B qo) k js gt (tT B ft) (tE B fe) σ H Q:=by
 rintro σ H Q ⟨g,s,ys,s',x,h,kk⟩
 revert h;refine aao λa L h1=>λh=>?_;dsimp only at h;split at h
 case isFalse=>cases h
 rename_i hz;revert h;refine aao λrs mm h2=>λh=>?_;cases h;unfold tComp;refine⟨g,s,a,L,x,h1,λq0 g1 H1 p1 x1 A D E=>?_⟩;obtain⟨g2,p2,K⟩:=x1.kU js;have A:=A.mv p2.pre p2.fr;obtain⟨b,hb⟩:∃b,b=jt k js (_root_.D.kU js L.r):=⟨_,J⟩;rw[<- hb]at h2;have ő:=p1.trans p2;have hD0:H D=Y:=ő.there D E;have nD:∀{F:G}{ss:S},SR B F H1 σ ss->F.HF D=Y/\F.o D=Y:=λ{F ss} x=>⟨x.sub.free E,by
  cases q:F.o D with
  |none=>rfl
  |some p=>obtain⟨_,u,z⟩:=x.st.live D p q;rw[E]at z;cases z⟩
 obtain⟨f2,o2⟩:=nD K;obtain⟨Œ,_,_⟩:=nT (u:=.lst []) K E;refine⟨λi m zs f=>m=a.length-i/\i<=a.length/\∃g3 m3 done rest,eQ g2 H1 g3 f/\SR B g3 f σ ⟨_root_.D.kU js L.r,m3⟩/\g3.HF D=Y/\g3.o D=Y/\f D=U (.lst zs)/\au B g3.al g3.HF done zs/\done.length<=i/\bz fg ft fe b (a.drop i) m3=.ok (rest,mm)/\rs=done++rest,
  ⟨a.length,by simp,gq _,g2.grow g2.HF,L.m,[],rs,K.gb Œ,K.grow Œ,f2,o2,ah,J,bW _,by rw[um];exact h2,J⟩,?_⟩
 rintro i m zs f ⟨rfl,hi,g3,m3,done,rest,n,d,R,o3,N,rd,C,hr,rfl⟩
 by_cases iB:i<a.length
 .have œ:=n.fr.trans d.sub
  refine .inr ⟨A.go i f œ iB,λv H3 y=>?_⟩;obtain⟨t,ht,y2⟩:=A.yld i f v H3 œ iB y;obtain⟨I,l,rx⟩:=y2 g3.HF n.fr d.sub;have UU:a.drop i=t::a.drop (i+1):=by
   obtain⟨hh,e⟩:=du.mp ht;rw[jN hh,e]
  rw[UU]at hr;revert hr;refine aan λb1 q1=>aao λc Z q2=>λhr=>?_;have w:=d.grow l;have p4:=n.trans<|d.gb l;obtain⟨hl4,f4⟩:=l.rest D _ N R;have eb:=w.lc.block k js;rw[<- hb]at eb;refine Hx.ok g3.al I H3 _ _ t v b1 _ w.sub (rx.mv n.pre<|aK.refl _) (ai q1) eb.len λV uS=>⟨xF hS uS,?_⟩;have xb:SR B (g3.grow I).aj H3 V ⟨b1,m3⟩:=⟨w.st.aj,eb.sets J uS⟩;refine⟨(g3.grow I).aj,⟨b1,m3⟩,c,Z,xb,q2,λg6 H6 p6 x6=>?_⟩;cases c with
  |true=>
   revert hr;refine aao λy' s7 q3=>aao λW m8 q4=>λhr=>?_;cases hr;refine uY ⟨g6,Z,y',s7,x6,q3,λv7 g7 H7 p7 x7 r7=>?_⟩;obtain⟨j,X⟩:=w.back (p6.trans p7) x7.st;have p8:=p4.trans j;obtain⟨T,P,M⟩:=(d.gb l |>.trans j).rest D _ N R o3;have hzl:zs.length<dv:=by rw[<- rd.len,ew];lia
   refine⟨T,hzl,a.length-(i+1),CM iB<|pI i,J,iB,G.back (g3.grow I) g7,s7.m,done++[y'],W,p8.O_ E,X.O_ P M ⟨_,T⟩,P,M,ah,?_,by simp;exact C,q4,by simp⟩
   have st:=(d.gb l).trans j;exact(rd.mv st.pre st.fr).app<|.one r7
  |false=>
   obtain⟨j,X⟩:=w.back p6 x6.st;obtain⟨T,P,M⟩:=(d.gb l |>.trans j).rest D _ N R o3;have st:=(d.gb l).trans j;exact uX ⟨a.length-(i+1),CM iB<|pI i,J,iB,G.back (g3.grow I) g6,Z.m,done,rest,p4.trans j,X,P,M,T,rd.mv st.pre st.fr,dq C<|cH ..,hr,J⟩
 .have e:i=a.length:=Lj hi<|ud iB
  subst e;rw[yv]at hr;cases hr;rw[dw]at kk;exact .inl ⟨A.stop _ f (n.fr.trans d.sub) J,kk D zs g3 f (ő.trans n) d hD0 R o3 N rd⟩
def Pb(ls:Bi)(e:X.calm=O)(g:f_ X scope)(F:fQ X scope js fs)(hi:PI X tg j<|tI B qo)(d:∀cl C a s H,PG (X.block (ls++fs) scope cl C a s H) tg gt)(h:r8 B gt fg S')
  (b:∀cl C a s H,Hs (X.block (ls++fs) scope cl C a s H) n<|tT B ft) (he:∀cl C a s H,PE (X.block (ls++fs) scope cl C a s H) elt<|tE B fe)
  (f:∀i∈S',i<ls.length) (c:∀x,fE j X.env x=pure x):PE X (.ListComp elt [⟨tg,j,n,0⟩] scope pos)<|tO B<|bQ qo ls.length js fg ft fe:=
 aM (Im ls e g F hi d b he c)<|xG h f
end
def EI(B:KT)(g:G)(H:Hp)(D:Ends):Out->S->Prop
 |.nx,s'=>∀a g' H',eQ g H g' H'->SR B g' H' a s'->D.nx a H'
 |.rt t,s'=>∀v g' H',eQ g H g' H'->fT B g' H' s'.m->Rep B g'.al g'.HF t v->D.rt v H'
 |.bk,s'=>∀a g' H',eQ g H g' H'->SR B g' H' a s'->D.bk a H'
 |.ct,s'=>∀a g' H',eQ g H g' H'->SR B g' H' a s'->D.ct a H'
inductive tS(B:KT)(f:FS)(D:Ends)(σ:St)(H:Hp):Prop where
 |mk g s o s' (x:SR B g H σ s) (h:f s=.ok (o,s')) (k:EI B g H D o s')
section
variable{cz j:Pos}{ft:FT}{H1:Hp}{g1:G}{F n:FS}{st:mB}{rest d:DD}{i:Nat}
def EI.mv{D:Ends}{o:Out}(k:EI B g H D o s')(p:eQ g H g1 H1):EI B g1 H1 D o s':=by
 cases o with
 |nx=>exact λa g' H' q x=>k a g' H' (p.trans q) x
 |rt t=>exact λv g' H' q x r=>k v g' H' (p.trans q) x r
 |bk=>exact λa g' H' q x=>k a g' H' (p.trans q) x
 |ct=>exact λa g' H' q x=>k a g' H' (p.trans q) x
def UW:jP X d<|tS B cY:=λ_ _ _ _ _ _ a=>by obtain⟨_,_,_,_,_,h,_⟩:=a;cases h
def cP:PS X st<|tS B cY:=λ_ _ _ _ _ _ a=>by obtain⟨_,_,_,_,_,h,_⟩:=a;cases h
def UX:jP X []<|tS B aI:=D8 yS λD σ H z=>by
 obtain⟨g,s,o,s',x,h,k⟩:=z;cases h;exact k σ g H .refl x
def Pd(f:PS X st<|tS B F)(e:jP X rest<|tS B n):jP X (st::rest)<|tS B<|af F n:=D8 (uP f e) λD σ H z=>by
 obtain⟨g,s,o,s',x,h,k⟩:=z;revert h;refine aao λo1 a i=>λh=>?_;refine⟨g,s,o1,a,x,i,?_⟩;cases o1 with
 |nx=>exact λb g1 H1 d c=>⟨g1,a,o,s',c,h,k.mv d⟩
 |rt t=>cases h;exact k
 |bk=>cases h;exact k
 |ct=>cases h;exact k
def UY(h:PS X st<|tS B F):jP X [st]<|tS B F:=yT h
def Ph:PS X (.Pass pos)<|tS B aI:=c_ HK λD σ H z=>by
 obtain⟨g,s,o,s',x,h,k⟩:=z;cases h;exact k σ g H .refl x
def EJ(m:X.N.Nodup)(hi:X.N[i]?=U x)(f:Loc X.env.scope x)(he:PE X e<|tE B fa)(j:fI e (U<|.Name x cz) pos.line X.env=pure Zb)(l:X.fn x=O\/X.env.scope.names.lookup x=U .local) :
  PS X (.Assign [.Name x cz] e pos)<|tS B<|aN i fa:=c_ (wU m hi f he j l) λD σ H z=>by
 obtain⟨g,s,o,s',x,h,k⟩:=z;revert h;refine aao λt b n=>λh=>?_;cases h;exact⟨g,s,t,b,x,n,λv g1 H1 d a c=>k _ g1 H1 d<|a.set c⟩
def zL{D:Ends}{ts:FC}{s1:S}(k:EI B g H D .nx<|kG s1 i<|.ol ts){l:cw}{vs:List V}(d:eQ g H g1 H1)(e:SR B g1 H1 σ s1)(p:H l=Y)(j:g1.HF l=Y)(f:g1.o l=Y)(m:H1 l=U (.lst vs))(r:au B g1.al g1.HF ts vs):D.nx (σ.set i<|U<|.ref l) H1:=by
 refine k _ (g1.own l<|.loc i) H1 ⟨d.fr,d.pre,λb u h n z=>?_,d.there⟩<|e.own f j m r;obtain⟨a,q,c⟩:=d.rest b u h n z
 have:b≠l:=aA h p
 exact⟨a,q,by show(if b=l then U (ju.loc i)else g1.o b)=Y;rw[ag this];exact c⟩
def MJ(q:X.N.Nodup)(hi:X.N[i]?=U x)(j:Loc X.env.scope x)(he:PE X e<|tO B fl)(m:fI e (U<|.Name x cz) pos.line X.env=pure Zb)(p:X.fn x=O\/X.env.scope.names.lookup x=U .local) :
  PS X (.Assign [.Name x cz] e pos)<|tS B<|mq i fl:=c_ (wU q hi j he m p) λD σ H z=>by
 obtain⟨g,s,o,s',x,h,k⟩:=z;revert h;refine aao λts b u=>λh=>?_;cases h;exact⟨g,s,ts,b,x,u,λl vs g1 H1 c a t f d n r=>zL k c a t f d n r⟩
section
variable{scope:hB}{ls fs:Bi}{js V:B1}{Q elt:de}{R:Bz}{gt:TG}{S:FL}{T:FG}{fe:FE}
def Pj(ls:Bi)(E:X.calm=O)(G:X.N.Nodup)(hi:X.N[i]?=U x)(v:Loc X.env.scope x)(K:f_ X scope)(Fr:fQ X scope js fs)(b:PI X tg Q<|tI B S)(z:∀cl C c s H,PG (X.block (ls++fs) scope cl C c s H) tg gt)(L:r8 B gt T V)
  (w:∀cl C c s H,Hs (X.block (ls++fs) scope cl C c s H) R<|tT B ft) (he:∀cl C c s H,PE (X.block (ls++fs) scope cl C c s H) elt<|tE B fe)
  (F:∀i∈V,i<ls.length) (y:∀x,fE Q X.env x=pure x) (A:X.fn x=O\/X.env.scope.names.lookup x=U .local)
  (I:fI (.ListComp elt [⟨tg,Q,R,0⟩] scope bF) (U<|.Name x cz) pos.line X.env=pure O) :
  PS X (.Assign [.Name x cz] (.ListComp elt [⟨tg,Q,R,0⟩] scope bF) pos) (tS B<|mq i<|bQ S ls.length js T ft fe) /\
  PS X (.Assign [.Name x cz] (.ListComp elt [⟨tg,Q,R,0⟩] scope bF) pos) (tS B<|aN i<|dB<|bQ S ls.length js T ft fe):=by
 constructor
 .refine c_ (za ls E G hi v K Fr b z w he y A I) λD σ H d=>?_
  obtain⟨g,s,o,s',x,h,k⟩:=d;revert h;refine aao λts f q=>λh=>?_;cases h;exact xG L F σ H _ ⟨g,s,ts,f,x,q,λl vs g1 H1 j e p a m n r=>zL k j e p a m n r⟩
 .refine c_ (za ls E G hi v K Fr b z w he y A I) λD σ H d=>?_
  obtain⟨g,s,o,s',x,h,k⟩:=d;revert h;refine aao λt M u=>λh=>?_;revert u;refine aao λts f q=>λu=>?_;cases u;cases h;exact xG L F σ H _ ⟨g,s,ts,f,x,q,λl vs g1 H1 j e p a m n r=>k _ (g1.grow<|upd g1.HF l<|.lst vs) H1 (j.D9 p a)<|(e.D9 a m n).set (t:=.lst ts) ⟨l,vs,J,ah,r.same<|aY a⟩⟩
end
def UZ{gt:TG}{d:FG}{w:B1}(he:PE X e<|tE B fa)(n:PG X tg gt)(y:r8 B gt d w)(m:swapsWithSole [tg] e pos.line X.env=pure Zb)(l:sk [tg] e X.env=pure Y)
  (p:(ij [tg] X.env).map (·.2)=[sx tg X.env]):PS X (.Assign [tg] e pos)<|tS B<|T_ d fa:=c_ (Dr he n m l p) λD σ H z=>by
 obtain⟨g,s,o,s',x,h,k⟩:=z;revert h;refine aao λt c u=>aan λi q=>λh=>?_;cases h;exact⟨g,s,t,c,x,u,λv g1 H1 j a f=>y.ok g1.al g1.HF H1 σ c.r t v i _ a.sub f (ai q) a.lc.len λb st=>k b g1 H1 j ⟨a.st,a.lc.sets J st⟩⟩
def U0(he:PE X e<|tE B fa):PS X (.Return (U e) pos)<|tS B<|az fa:=c_ (NN he) λD σ H z=>by
 obtain⟨g,s,o,s',x,h,k⟩:=z;revert h;refine aao λt b f=>λh=>?_;cases h;exact⟨g,s,t,b,x,f,λv g1 H1 d a c=>k v g1 H1 d a.st c⟩
def Pk:PS X (.Return Y pos)<|tS B<|az<|cF .non:=c_ HL λD σ H z=>by
 obtain⟨g,s,o,s',x,h,k⟩:=z;cases h;exact k _ g H .refl x.st J
def Po(he:PE X e<|tE B fa)(d:fI e Y pos.line X.env=pure Zb):PS X (.Expr e pos)<|tS B<|aQ fa:=c_ (rD he d) λD σ H z=>by
 obtain⟨g,s,o,s',x,h,k⟩:=z;revert h;refine aao λt b f=>λh=>?_;cases h;exact⟨g,s,t,b,x,f,λv g1 H1 c a i=>k σ g1 H1 c a⟩
def Za{A f:DD}(i:PT X c<|tT B ft)(l:jP X A<|tS B F)(j:jP X f<|tS B n):PS X (.If c A f pos)<|tS B<|bB ft F n:=c_ (R6 i l j) λD σ H z=>by
 obtain⟨g,s,o,s',x,h,k⟩:=z;revert h;refine aao λd a m=>λh=>?_;refine⟨g,s,d,a,x,m,λg1 H1 e b=>?_⟩;cases d with
 |true=>exact uY ⟨g1,a,o,s',b,h,k.mv e⟩
 |false=>exact uX ⟨g1,a,o,s',b,h,k.mv e⟩
def iW{r:Fh}{ts:FC}(h:rQ r[i]?=U ts):r[i]?=U (U<|.ol ts):=by
 unfold rQ at h;split at h
 .rename_i a;cases h;exact a
 .cases h
def SR.xH(x:SR B g H σ s){ts:FC}(h:s.r[i]?=U (U<|.ol ts)):∃l vs,σ[i]?=U (U<|.ref l)/\g.o l=U (.loc i)/\H l=U (.lst vs)/\au B g.al g.HF ts vs:=by
 obtain⟨v,d,l,vs,rfl,c,b,a⟩:=x.lc.at_ i _ h;exact⟨l,vs,d,c,b,a⟩
def U4{q:Pos}(he:PE X e<|tE B fa)(C:X.N[i]?=U y)(A:uM X.env.scope y)(hd:cy y)(w:i7 y)(a:noStar e=O)(L:(bo.endLine == bF.line)=O) :
  PS X (.Expr (.Call (.Attribute (.Name y q) "append" bo) [e] [] bF) pos)<|tS B<|mw i fa:=by
 refine c_ (rD (y9 oB th tf kP (fj C A hd w) (aR he bU<|ao a) (ee J) (qG (by rw[fG,a];rfl)<|by decide) L (ao a) J) J) λD σ H d=>?_
 obtain⟨g,s,o,s',x,h,k⟩:=d;revert h;refine aan λP K=>aao λt m I=>aan λts G=>aan λM E=>λh=>?_;obtain⟨z,rfl⟩:=aX<|ai E;cases h;obtain⟨l0,j,q1,q2,p,q4⟩:=x.xH<|iW<|ai K;refine⟨_,q1,.inl ⟨J,_,c9.of p⟩,g,s,t,m,x,I,λv g1 H1 u b n=>?_⟩;have c:=iW<|ai G;obtain⟨l,vs,w1,w2,w3,w4⟩:=b.xH c;rw[q1]at w1;cases w1;obtain⟨f,r⟩:=b.chg c q1<|w4.app<|.one n;exact⟨l0,vs,v,J,J,w3,by rw[<- w4.len,ew];exact ez z<|by decide,k σ g1 _ (u.trans r) f⟩
def U5{f:de}{n:DD}{gt:TG}{P:FG}{S':B1}(hc:X.calm=O)(hi:PI X tg f<|tI B fl)(hg:PG X tg gt)(Hx:r8 B gt P S')(hb:jP X n<|tS B F)(hp:vi (da X.prog X.w) X.A X.env X.xe)
  (hs:∀x,fE f X.env x=pure x):PS X (.For tg f n [] pos)<|tS B<|fq fl P F:=by
 refine c_ (NV hp hc hi hg hb hs) λD σ H zz=>?_;obtain⟨g,s,o,s',x,h,k⟩:=zz;revert h;refine aao λd V e1=>λh=>?_;refine⟨g,s,d,V,x,e1,λq0 g1 H1 S x1 Q=>?_⟩;refine⟨λi m j z=>m=d.length-i/\i<=d.length/\∃g2 G,eQ g1 H1 g2 z/\SR B g2 z j G/\b7 P F (d.drop i) G=.ok (o,s'),
  ⟨d.length,by simp,gq _,g1,V,.refl,x1,by rw[um];exact h⟩,?_⟩
 rintro i m j z ⟨rfl,ł,g2,G,I,E,l⟩
 have T:=I.fr.trans E.sub;by_cases iB:i<d.length
 .have hx:d[i]?=U d[i]:=cD iB
  rw[jN iB]at l;revert l;refine aan λW q1=>aao λZ R q2=>λl=>?_;refine .inr ⟨Q.go i z T iB,λC H'=>∃g' M,eQ g1 H1 g' H'/\SR B g' H' C M/\b7 P F (d.drop<|i+1) M=.ok (o,s'),
   by rintro C H' ⟨g',M,a,b,c⟩;exact⟨d.length-(i+1),CM iB<|pI i,J,iB,g',M,a,b,c⟩,λv H3 y=>?_⟩
  obtain⟨t,ht,y2⟩:=Q.yld i z v H3 T iB y;rw[hx]at ht;cases ht;obtain⟨O7,Ŕ,rx⟩:=y2 g2.HF I.fr E.sub;have L:=E.grow Ŕ;have N:=I.trans<|E.gb Ŕ;refine Hx.ok g2.al O7 H3 j G.r _ v W _ L.sub (rx.mv I.pre<|aK.refl _) (ai q1) L.lc.len λσ4 st=>⟨g2.grow O7,⟨W,G.m⟩,Z,R,⟨L.st,L.lc.sets J st⟩,q2,?_⟩;cases Z with
  |nx=>exact λp g5 K u q=>⟨g5,R,N.trans u,q,l⟩
  |ct=>exact λp g5 K u q=>⟨g5,R,N.trans u,q,l⟩
  |bk=>
   cases l;exact λp g5 K u q=>k p g5 K ((S.trans N).trans u) q
  |rt t=>
   cases l;exact λv g5 K u q r=>k v g5 K ((S.trans N).trans u) q r
 .have e:i=d.length:=Lj ł<|ud iB
  subst e;rw[yv]at l;cases l;exact .inl ⟨Q.stop _ z T J,k j g2 z (S.trans I) E⟩
def Ja{f:DD}(n:Nat)(S:PT X c<|tT B ft)(T:jP X f<|tS B F)(R:vi (da X.prog X.w) X.A X.env X.xe):PS X (.While c f [] pos)<|tS B<|kW n ft F:=by
 refine c_ (Dt R S T) λD σ H P=>?_;obtain⟨g,s,o,s',x,h,k⟩:=P;refine⟨λm j G=>∃g2 z,eQ g H g2 G/\SR B g2 G j z/\fJ ft F m z=.ok (o,s'),⟨n,g,s,.refl,x,h⟩,?_⟩
 rintro m j G ⟨g2,z,M,Q,e⟩
 cases m with
 |zero=>cases e
 |succ m=>
  revert e;refine aao λd K q1=>λe=>?_;refine⟨g2,z,d,K,Q,q1,λg3 V L I=>?_⟩;cases d with
  |false=>
   cases e;exact uX<|k j g3 V (M.trans L) I
  |true=>
   revert e;refine aao λN E q2=>λe=>?_;refine uY ⟨λq H'=>∃g' y,eQ g H g' H'/\SR B g' H' q y/\fJ ft F m y=.ok (o,s'),by rintro q H' ⟨g',y,a,b,c⟩;exact⟨m,pI m,g',y,a,b,c⟩,?_⟩
   refine⟨g3,K,N,E,I,q2,?_⟩;have C:=M.trans L;cases N with
   |nx=>exact λi g5 u p l=>⟨g5,E,C.trans p,l,e⟩
   |ct=>exact λi g5 u p l=>⟨g5,E,C.trans p,l,e⟩
   |bk=>
    cases e;exact λi g5 u p l=>k i g5 u (C.trans p) l
   |rt t=>
    cases e;exact λv g5 u p l r=>k v g5 u (C.trans p) l r
end
section
def BR{N:Bi}{vs:List V}{ts:FC}(r:au B g.al g.HF ts vs):nU B g H (L2.start N vs)<|ts.map (λt=>U<|C.val t)++dN (N.length-ts.length) Y:=by
 refine⟨by unfold L2.start;simp[r.len],λi c h=>?_⟩
 by_cases hi:i<ts.length
 .rw[e_<|by simpa using hi,dH,cD hi]at h
  cases h;obtain⟨v,b,a⟩:=r.get<|cD hi;refine⟨v,?_,a⟩;unfold L2.start;rw[e_<|by rw[bX,<- r.len];exact hi,dH,b];rfl
 .rw[eF<|by simpa using hi,wM]at h
  split at h<;>cases h
def zM{a n:Nat}{F:FS}{ts:FC}{m m':FR}{t:T}(h:aG a n F ts m=.ok (t,m')):ts.length=a/\∃o s',F ⟨ts.map (λt=>U<|.val t)++dN (n-ts.length) Y,m⟩=.ok (o,s')/\s'.m=m'/\(o=.rt t\/(o=.nx/\t=.non)):=by
 unfold aG at h;split at h
 .rename_i b
  revert h;refine aao λo s' c=>λh=>?_;refine⟨b,o,s',c,?_⟩;cases o with
  |rt u=>cases h;exact⟨J,.inl J⟩
  |nx=>cases h;exact⟨J,.inr ⟨J,J⟩⟩
  |bk=>cases h
  |ct=>cases h
 .cases h
variable{P:ef}{w:dA}{K:bG}{mg:Str->D1}{base:fA}
structure xJ(K:bG)(x qual:Str)(st:mB)(f:cw)(fd:eX):Prop where
 ex:∃(oc:ar)(od:Option cw)(dV kV doc pm:ar)(an:Option cw)(jK ct:ar)(DG:Array D1),
  fd=A9 x qual (jU st) (cW st) (aE st) dV kV doc pm an jK ct/\K.lookup f=U ⟨oc,od,.func fd,DG⟩/\CI K jK qual=O
 kp:pG K (.ref f)=O
def xJ.ok{x qual:Str}{st:mB}{f:cw}{fd:eX}{N ps:Bi}{k:Nat}{sp:Sp}(F:xJ K x qual st f fd)(e:gS N ps<|aE st)(len:∀vs H Q E,sp vs H Q E->vs.length=ps.length)
  (i:∀(a:ar)(A:eL)(outer:List Env)(s:bh)(H:Hp)(vs:List V)(Q:VK)(E:XK),bL k (A.deeper<|L8 qual (aE st) s.heap.objs.size f a)->sp vs H Q E ->
   ∃t,jP (pQ mf P w K mg base N qual (aE st) f a A outer s H E).Mb (cW st) t/\t {nx:=λ_ H'=>Q .non H',rt:=Q} (L2.start N vs) H):dR P w K mg base mf (k+1) f fd ps sp:=by
 obtain⟨l,od,m,kV,d,j,an,a,ct,n,rfl,b,c⟩:=F.ex;refine SA b c e len λA outer s H vs Q E hr g=>?_;obtain⟨t,h,q⟩:=i a A outer s H vs Q E hr g;exact⟨t,h.Mb,q⟩
def Pp{x qual:Str}{st:mB}{f:cw}{fd:eX}{N ps:Bi}{k:Nat}{F:FS}(Fn:xJ K x qual st f fd)(l:gS N ps<|aE st)
  (a:∀(b:ar)(A:eL)(outer:List Env)(s:bh)(H:Hp)(E:XK),bL k (A.deeper<|L8 qual (aE st) s.heap.objs.size f b)->jP (pQ mf P w K mg base N qual (aE st) f b A outer s H E).Mb (cW st) (tS B F)) :
  dR P w K mg base mf (k+1) f fd ps<|qL B<|aG ps.length N.length F:=by
 refine Fn.ok l (λvs H Q E h=>?_) λb A outer s H vs Q E hr h=>?_
 .obtain⟨g,ts,m,t,e,x,r,h,_⟩:=h
  rw[<- r.len,(zM h).1]
 .obtain⟨g,ts,m,t,e,x,r,h,q⟩:=h
  obtain⟨_,o,s',j,rfl,i⟩:=zM h;refine⟨_,a b A outer s H E hr,g,_,o,s',⟨x,BR r⟩,j,?_⟩;rcases i with rfl|⟨rfl,rfl⟩
  .exact λv g' H' p y d=>q v g' H' p y d
  .exact λc g' H' p y=>q _ g' H' p y.st J
def Jb{f:cw}{fd:eX}{ps:Bi}{k:Nat}{fn:Fn}(F:dR P w K mg base mf k f fd ps<|qL B fn):dR P w K mg base mf k f fd ps<|qL B<|aS fn:=F.imp λvs H Q E h=>by
 obtain⟨g,ts,m,t,I,x,r,h,q⟩:=h;unfold aS at h;split at h
 case isFalse=>cases h
 rename_i C;cases e:fn ts []with
 |bad=>rw[e]at h;cases h
 |exc c fs s=>rw[e]at h;dsimp only at h;split at h<;>cases h
 |ok z=>
  rw[e]at h;dsimp only at h;split at h
  case isFalse=>cases h
  rename_i G;cases h;refine⟨⟨g.HF,λ_=>Y,[]⟩,ts,[],z.1,z.2,⟨x.sub,λb p e=>(by cases e),J,λk ob e=>(by simp at e)⟩,au.no C r,e,λv g0 H' p y A=>?_⟩
  have keep:∀b p,g.o b=U p->H' b=H b/\g0.HF b=Y:=λb q D=>by
   obtain⟨j,u,i⟩:=x.live b q D;obtain⟨d,a,_⟩:=p.rest b u i j J;exact⟨d.trans i.symm,a⟩
  refine q v ⟨g0.HF,g.o,g.al⟩ H' ⟨p.fr,fh,λb u h n z=>?_,p.there⟩ (x.mv y.sub (λb p e=>?_) p.fr J λl p h _=>⟨h,(keep l p h).1⟩)<|Rep.no G A
  .obtain⟨d,a,_⟩:=p.rest b u h n J
   exact⟨d,a,z⟩
  .obtain⟨j,u,i⟩:=x.live b p e
   obtain⟨d,a⟩:=keep b p e;exact⟨a,u,d.trans i⟩
end
section
variable{cz:Pos}
def SR.MK{k:Nat}{ob om:Ob}{a C dx:cw}{ns:Bi}{vs d:List V}(x:SR B g H σ s)(Z:Co B g H k ob a C dx ns vs)(F:s.m[k]?=U ob)(I:om.c=ob.c)(A:d.length<=ns.length)(y:d.length=om.fs.length)
  (G:∀j c,om.fs[j]?=U c->∃v,d[j]?=U v/\bu B g H (.fld k j) c v) :
  eQ g H g (upd H a<|.ins C dx<|ns.zip d)/\SR B g (upd H a<|.ins C dx<|ns.zip d) σ {s with m:=s.m.set k om}:=by
 have ne:∀l q,g.o l=U q->q≠.ob k->upd H a (.ins C dx<|ns.zip d) l=H l:=λl q p n=>ak λz=>n (by rw[z,Z.o]at p;cases p;rfl)
 have sl:∀{q:ju}{c:_root_.D.C}{v:V},q≠.ob k->bu B g H q c v->bu B g (upd H a<|.ins C dx<|ns.zip d) q c v:=λn h=>bu.mv (g:=g) (g':=g) (aK.refl _) fh (λl p=>⟨p,ne l _ p n⟩) h;refine⟨mS Z.o,⟨⟨λb w e=>?_,λb q e=>?_,by rw[eU];exact x.st.len,λu t e=>?_⟩,x.lc.len,λi c e=>?_⟩⟩
 .have:b≠a:=λz=>by rw[z,(x.st.live a _ Z.o).1]at e;cases e
  rw[ak this];exact x.sub _ _ e
 .obtain⟨f,w,r⟩:=x.st.live b q e
  by_cases hb:b=a
  .exact⟨f,_,by rw[hb,ah]⟩
  .exact⟨f,w,by rw[ak hb];exact r⟩
 .by_cases p9:k=u
  .subst p9
   have E:k<s.m.length:=(du.mp F).1;have e:(s.m.set k om)[k]?=U t:=e;rw[dQ E]at e;cases e;exact .inl ⟨a,C,dx,ns,d,Z.al,Z.o,by rw[I];exact Z.cl,ah,A,y,λj c h=>let⟨v,f,r⟩:=G j c h;⟨v,f,sl (λz=>by cases z) r⟩⟩
  .have e:(s.m.set k om)[u]?=U t:=e
   rw[cJ p9]at e;refine(x.st.at_ u t e).mv (aK.refl _) fh λl q h n=>⟨h,ne l q h ?_⟩;rcases n with rfl|⟨j,rfl⟩
   .exact λz=>p9 (by cases z;rfl)
   .exact λz=>by cases z
 .obtain⟨v,f,r⟩:=x.lc.at_ i c e
  exact⟨v,f,sl (λz=>by cases z) r⟩
def BS{fs a:List C}{j:Nat}{c:C}(h:setAt fs j c=U a):(j<fs.length/\a=fs.set j c)\/(j=fs.length/\a=fs++[c]):=by
 unfold setAt at h;split at h
 .rename_i q;cases h;exact .inl ⟨q,J⟩
 .split at h
  .rename_i q;cases h;exact .inr ⟨q,J⟩
  .cases h
def zN(I:mC X.K X.mg P){f:Nat}{n:Str}{k:Nat}{ob om:Ob}{c':_root_.D.C}{a C dx:cw}{ns:Bi}{vs:List V}{v:V}(y:P.an[f]?=U n)(x:SR (P.kt X) g H σ s)(Z:Co (P.kt X) g H k ob a C dx ns vs)(t:s.m[k]?=U ob)(h:dY P.tab f c' ob=U om)
  (r:∀j,bu (P.kt X) g H (.fld k j) c' v):pP X.K C/\eG X.K C n/\(ns.zip vs).length<1000 /\
  ∃p,L2.dJ n v (ns.zip vs)=ns.zip p/\eQ g H g (upd H a<|.ins C dx<|ns.zip p)/\SR (P.kt X) g (upd H a<|.ins C dx<|ns.zip p) σ {s with m:=s.m.set k om}:=by
 obtain⟨j,B,A⟩:=dI.mp h;obtain⟨E,z,rfl⟩:=bD.mp A;obtain⟨m,G,u,F⟩:=I.of Z.cl;have hj:=mT y u B;have d:j<ns.length:=(du.mp hj).1;refine⟨F.cl,F.na _<|dh hj,by rw[nk];have:=F.qG;lia,?_⟩
 rcases BS z with⟨b,rfl⟩|⟨rfl,rfl⟩
 .refine⟨vs.set j v,zG F.nd hj Z.le<|by rw[Z.ln];exact b,?_⟩
  refine x.MK Z t J (by rw[eU];exact Z.le) (by rw[eU,eU];exact Z.ln) λi c e=>?_
  by_cases hi:j=i
  .subst hi
   rw[dQ b]at e;cases e;exact⟨v,by rw[dQ<|by rw[Z.ln];exact b],r j⟩
  .rw[cJ hi]at e
   obtain⟨w,o,l⟩:=Z.f i c e;exact⟨w,by rw[cJ hi];exact o,l⟩
 .refine⟨vs++[v],rZ F.nd<|by rw[Z.ln];exact hj,?_⟩
  refine x.MK Z t J (by rw[dg,Z.ln];exact d) (by rw[dg,dg,Z.ln];rfl) λi c e=>?_
  by_cases hi:i<ob.fs.length
  .rw[e_ hi]at e
   obtain⟨w,o,l⟩:=Z.f i c e;exact⟨w,by rw[e_<|by rw[Z.ln];exact hi];exact o,l⟩
  .rw[eF<|by lia]at e
   have q:i-ob.fs.length=0:=by
    have:=(du.mp e).1
    simp at this;exact this
   rw[q]at e;cases e;exact⟨v,by rw[eF<|by rw[Z.ln];lia,Z.ln,q];rfl,r i⟩
def U6(q0:mC X.K X.mg P){f:Nat}{n:Str}(Q:P.an[f]?=U n)(M:PE X o<|tE (P.kt X) fo)(he:PE X e<|tE (P.kt X) fa)(L:fI e (U<|.Attribute o n cz) pos.line X.env=pure Zb) :
  PS X (.Assign [.Attribute o n cz] e pos)<|tS (P.kt X)<|aL P.tab f fo fa:=c_ (xf M he L) λD σ H z=>by
 obtain⟨g,s,oo,s',x,h,k⟩:=z;revert h;refine aao λt i V=>aao λy A T=>λh=>?_;cases y<;>try(cases h;done)
 rename_i I;revert h;refine aan λom S=>λh=>?_;cases h;obtain⟨ob,p,m⟩:=dI.mp<|ai S;refine⟨g,s,t,i,x,V,λv g1 H1 G u E=>⟨g1,i,_,A,u,T,λw g2 H2 b d B=>?_⟩⟩;obtain⟨a,rfl,R⟩:=B;rcases d.st.at_ I ob p with⟨a',C,dx,ns,vs,Z⟩|⟨a',Z⟩
 case inr=>
  obtain⟨j,q,_⟩:=dI.mp m;obtain⟨l,q,_⟩:=dI.mp q;have z:(P.tab.map _)[ob.c]?=Y:=Z.nf;rw[dH,q]at z;cases z
 have:=Z.al.symm.trans R
 cases this;obtain⟨cl,na,N,fM,W,F,r⟩:=zN q0 Q d Z p m (v:=v) λj=>E.mv b.pre b.fr;refine⟨a,C,dx,_,J,Z.h,cl,na,N,?_⟩;rw[W];exact k σ g2 _ ((G.trans b).trans F) r
end
end D
namespace L2
open PySem PySem.Spec PyProof.Rows
section
variable{X:Cx}
end
end L2
namespace D
open PySem L2
variable{X:Cx}{env:Env}{a b c e o tg:de}{fa fb fc fo:FE}{fl:FL}{g g':G}{H H':Hp}{B:KT}{es:Bz}{i k n:Nat}{P:Pg}{bo bF p pos cz:Pos}{s s':S}{σ:St}{x y:Str}
section
theorem zP:∀{Ds:BM}{its:B2},Vals (Ds.map V.ref) its->its=Ds.map Value.ref
 |[],_,h=>by cases h;rfl
 |D::Ds,_,h=>by
  cases h with
  |cons p q=>
   cases p;rw[zP q];rfl
def EK:dW X (.builtin "isinstance") λxs H Q=>∃(a C dx tp:cw)(fs:List (Str×V))(Ds:BM)(b:Bool),xs=[.ref a,.ref tp]/\H a=U (.ins C dx fs)/\pP X.K C/\gp X.K (.ref C) "__class__" = U (U<|.builtin "object.__class__") /\
  ym X.K (.builtin "object.__class__") "__get__" = U (U<|.builtin "getset_descriptor.__get__")/\yn X.K (.builtin "object.__class__")=U O/\yo X.K C (.type "object")=U O /\
  H tp=U (.tup<|Ds.map V.ref)/\CJ X.K (.ref C) (Ds.map Value.ref)=U b/\Q (.bl b) H:=by
 intro E s σ H xs y Q I r h;obtain⟨a,C,dx,tp,fs,Ds,b,rfl,v,cl,m,k,d,l,p,e,q⟩:=h;obtain⟨u,A,rfl,g,x⟩:=vals2 r;cases g;cases x;obtain⟨D,G,_⟩:=jS I.aZ v;obtain⟨od,L,_⟩:=G.look;obtain⟨_,c,f,o,g1,g2,n,g3⟩:=(show bP X.prog X.w H s.heap tp (.tup<|Ds.map V.ref)from I.aZ tp _ p);have t:c=Ds.map Value.ref:=zP f;obtain⟨B,j,i,F⟩:=o;cases g2;cases g3;rw[t]at g1;exact PySem.W.kia_tup (La (cl.get _) cl.hd m k d l) I.jJ L g1 e (λz=>nomatch z) λtk=>⟨.bl b,H,I.tok _,J,q⟩
def G.eu(g:G)(a:cw):G:={g with o:=λb=>if b=a then U (.ob g.al.length)else g.o b,al:=g.al++[a]}
theorem SR.eu{c:Nat}{C q dx:cw}{ns:Bi}(x:SR B g H σ s)(D:iz B c C ns)(nx:H q=Y)(nd:H dx=Y)(G:dx≠q) :
  eQ g H (g.eu q) (upd (upd H dx<|.own q) q<|.ins C dx [])/\SR B (g.eu q) (upd (upd H dx<|.own q) q<|.ins C dx []) σ {s with m:=s.m++[⟨c,[]⟩]}:=by
 have nf:g.HF q=Y:=x.sub.free nx;have w:g.HF dx=Y:=x.sub.free nd;have no:∀l a,g.o l=U a->l≠q/\l≠dx:=λl a h=>by
  obtain⟨_,u,z⟩:=x.st.live l a h;exact⟨aA z nx,aA z nd⟩
 have p:∀l,l≠q->l≠dx->upd (upd H dx<|.own q) q (.ins C dx []) l=H l:=λl d f=>by rw[ak d,ak f]
 have y:∀l a,g.o l=U a->(g.eu q).o l=U a:=λl a h=>by
  show(if l=q then U (ju.ob g.al.length)else g.o l)=_
  rw[ag (no l a h).1];exact h
 have pre:g.al <+: (g.eu q).al:=yw _ _;refine⟨⟨aK.refl _,pre,λb u h n z=>?_,λb h=>?_⟩,⟨⟨λb u e=>?_,λb a e=>?_,?_,λk ob e=>?_⟩,x.lc.len,λi E e=>?_⟩⟩
 .have d:=aA h nx
  have f:=aA h nd;refine⟨(p b d f).trans h,n,?_⟩;show(if b=q then U (ju.ob g.al.length)else g.o b)=Y
  rw[ag d];exact z
 .by_cases d:b=q
  .subst d;exact nx
  .by_cases f:b=dx
   .subst f;exact nd
   .rw[p b d f]at h;exact h
 .have d:b≠q:=λz=>by rw[z]at e;have e:g.HF q=U u:=e;rw[nf]at e;cases e
  have f:b≠dx:=λz=>by rw[z]at e;have e:g.HF dx=U u:=e;rw[w]at e;cases e
  rw[p b d f];exact x.sub _ _ e
 .have e:(if b=q then U (ju.ob g.al.length)else g.o b)=U a:=e
  by_cases hb:b=q
  .subst hb;exact⟨nf,_,ah⟩
  .rw[ag hb]at e
   obtain⟨d,u,f⟩:=x.st.live b a e;obtain⟨t,r⟩:=no b a e;exact⟨d,u,(p b t r).trans f⟩
 .show(s.m++[_]).length=(g.al++[q]).length
  rw[dg,dg,x.st.len];rfl
 .have e:(s.m++[(⟨c,[]⟩:Ob)])[k]?=U ob:=e
  by_cases hk:k<s.m.length
  .rw[e_ hk]at e
   refine(x.st.at_ k ob e).mv (aK.refl _) pre λl a h _=>⟨y l a h,?_⟩;obtain⟨t,r⟩:=no l a h;exact p l t r
  .rw[eF<|by lia]at e
   have F:k-s.m.length=0:=by
    have:=(du.mp e).1
    simp at this;exact this
   rw[F]at e;cases e;have A:k=g.al.length:=by have:=x.st.len;lia
   subst A;refine .inl ⟨q,C,dx,ns,[],?_,?_,D,?_,gq _,J,λj c h=>by simp at h⟩
   .show(g.al++[q])[g.al.length]?=U q
    rw[eF<|bW _,kH];rfl
   .show(if q=q then U (ju.ob g.al.length)else g.o q)=_
    rw[bt J]
   .rw[ah,Lw]
 .obtain⟨v,d,f⟩:=x.lc.at_ i E e
  refine⟨v,d,bu.mv (g:=g) (g':=g.eu q) (aK.refl _) pre (λl h=>⟨y l _ h,?_⟩) f⟩;obtain⟨t,r⟩:=no l _ h;exact p l t r
structure ŕ(P:Pg)(Pr:ef)(w:dA)(K:bG)(mg:Str->D1)(base:fA)(k:Nat)(c:Nat)(x:Str)(f:Fn):Prop where
 ex:∃(C fi:cw)(fd:eX)(ps:Bi)(ns:Bi),iz (jA P K Pr w) c C ns/\mg x=U (.ref C)/\Mk K C fi/\dR Pr w K mg base mf k fi fd ps (qL (jA P K Pr w) f)/\Binds K fd ps []
def Jc{c:Nat}{f:Fn}{t:T}(h:jr c f fl s=.ok (t,s')):∃ts s1 m',fl s=.ok (ts,s1)/\f (.own s1.m.length::ts) (s1.m++[⟨c,[]⟩])=.ok (.non,m')/\t=.own s1.m.length/\s'={s1 with m:=m'}:=by
 revert h;refine aao λts s1 a=>λh=>?_;dsimp only at h;cases q:f (.own s1.m.length::ts) (s1.m++[⟨c,[]⟩])with
 |ok r=>
  rw[q]at h;obtain⟨u,m'⟩:=r;cases u<;>try(cases h;done)
  cases h;exact⟨ts,s1,m',a,q,J,J⟩
 |bad=>rw[q]at h;cases h
 |exc c fs b=>rw[q]at h;cases h
def Jd{c:Nat}{f:Fn}{C:cw}{ns:Bi}{ts:FC}{vs:List V}{m':FR}{Q:VK}(p:iz B c C ns)(d:SR B g H σ s)(n:au B g.al g.HF ts vs)(r:f (.own s.m.length::ts) (s.m++[⟨c,[]⟩])=.ok (.non,m'))
  (k:∀v g' H',eQ g H g' H'->SR B g' H' σ {s with m:=m'}->Rep B g'.al g'.HF (.own s.m.length) v->Q v H'):∀q a,H q=Y->H a=Y->a≠q->qL B f (.ref q::(vs++[])) (upd (upd H a<|.own q) q<|.ins C a []) (λv t=>v=.non/\Q (.ref q) t) E0:=λq a nx nd o=>by
 obtain⟨b,j⟩:=d.eu p nx nd o;rw[dw];have h:(g.eu q).al[s.m.length]?=U q:=by
  show(g.al++[q])[s.m.length]?=U q;rw[d.st.len,eF<|bW _,kH];rfl
 refine vo (E:=E0) (ts:=.own s.m.length::ts) j ⟨_,vs,J,⟨q,J,h⟩,n.mv b.pre b.fr⟩ r λv g' H' e i l=>⟨l,k _ g' H' (b.trans e) i ⟨q,J,cZ e.pre h⟩⟩
def Pq{k j c:Nat}{f:Fn}(D:ŕ P X.prog X.w X.K X.mg X.base k c x f)(hr:bL j X.A)(L:k+1<=j)(B:PA X (e::es)<|tA (P.kt X) fl)(y:Gl X x)(r:cy x)(a:(e::es).all noStar=O) :
  PE X (.Call (.Name x p) (e::es) [] pos)<|tE (P.kt X)<|jr c f fl:=by
 obtain⟨C,R,fd,ps,ns,E,u,M,F,z⟩:=D.ex;rw[fG,dj]at a;refine aM (rJ M F (hr.mono L) y u z .nil nK B r (ao a.1)<|eW a.2) λσ H Q b=>?_;obtain⟨g,s,t,s',x,h,k⟩:=b;obtain⟨ts,l,N,I,G,rfl,rfl⟩:=Jc h;exact⟨g,s,ts,l,x,I,λvs g1 H1 q i n=>Jd E i n G λv g' H' o d m=>k v g' H' (q.trans o) d m⟩
def kY:de->Option (de×Bz×List rb×Pos)
 |.Call f a k p=>U (f,a,k,p)
 |_=>Y
def asName:de->Option Str
 |.Name x _=>U x
 |_=>Y
def gY:de->Option (de×Str×Pos)
 |.Attribute o f p=>U (o,f,p)
 |_=>Y
def oq(e:de):Option<|Str×Bz×List rb:=(kY e).bind λq=>(asName q.1).map λf=>(f,q.2.1,q.2.2.1)
def kZ{e:de}{q}(h:kY e=U q):e=.Call q.1 q.2.1 q.2.2.1 q.2.2.2:=by
 cases e<;>first|(cases h;done)|(cases h;rfl)
def dC{e:de}{x:Str}(h:asName e=U x):∃p,e=.Name x p:=by
 cases e<;>first|(cases h;done)|(cases h;exact⟨_,J⟩)
def kg{e:de}{q}(h:gY e=U q):e=.Attribute q.1 q.2.1 q.2.2:=by
 cases e<;>first|(cases h;done)|(cases h;rfl)
def gZ{e:de}{q}(h:oq e=U q):∃p pos,e=.Call (.Name q.1 p) q.2.1 q.2.2 pos:=by
 obtain⟨w,d,c⟩:=dI.mp h;obtain⟨f,b,rfl⟩:=bD.mp c;obtain⟨p,a⟩:=dC b;rw[kZ d,a];exact⟨_,_,J⟩
def Je{α b:Type}:List α->List b->Option α
 |[a],[]=>U a
 |_,_=>Y
def ou{α c:Type}{a:α}{as:List α}{ks:List c}(h:Je as ks=U a):as=[a]/\ks=[]:=by
 match as,ks,h with
 |[b],[],h=>cases h;exact⟨J,J⟩
def Zd(e:de):Option<|Str×de:=(oq e).bind λq=>(Je q.2.1 q.2.2).map λa=>(q.1,a)
def zQ{e:de}{q}(h:Zd e=U q):∃p pos,e=.Call (.Name q.1 p) [q.2] [] pos:=by
 revert h;refine aak λu c=>λh=>?_;obtain⟨a,b,rfl⟩:=bD.mp h;obtain⟨p,r,g⟩:=gZ c;obtain⟨f,d⟩:=ou b;exact⟨p,r,by rw[g,f,d]⟩
def Ze(e:de):Option<|de×Str×de:=(kY e).bind λq=>(gY q.1).bind λw=>(Je q.2.1 q.2.2.1).bind λa=>if noStar a=O/\(w.2.2.endLine == q.2.2.2.line)=O then U (w.1,w.2.1,a)else Y
def zR{e o a:de}{m:Str}(h:Ze e=U (o,m,a)):noStar a=O/\∃c cp,e=.Call (.Attribute o m c) [a] [] cp/\(c.endLine == cp.line)=O:=by
 revert h;refine aak λu g=>aak λw f=>aak λb d=>λh=>?_;obtain⟨⟨q1,q2⟩,h⟩:=ql.mp h;cases h;obtain⟨j,i⟩:=ou d;exact⟨q1,_,_,by rw[kZ g,kg f,j,i],q2⟩
def EL:mB->Option (Str×Str×de)
 |.Assign ts e _=>(match ts with
  |[t]=>(gY t).bind λq=>(asName q.1).map λs=>(s,q.2.1,e)
  |_=>Y)
 |_=>Y
def zS{st:mB}{q}(h:EL st=U q):∃b a pos,st=.Assign [.Attribute (.Name q.1 b) q.2.1 a] q.2.2 pos:=by
 cases st<;>try(cases h;done)
 rename_i ts e pos
 match ts,h with
 |[t],h=>
  obtain⟨w,g,f⟩:=dI.mp<|show(gY t).bind _=U q from h;obtain⟨s,d,rfl⟩:=bD.mp f;obtain⟨p,c⟩:=dC d;rw[kg g,c];exact⟨_,_,_,J⟩
def r9(st:mB):Option<|Str×Str×Str:=(EL st).bind λw=>(asName w.2.2).map λq=>(w.1,w.2.1,q)
def xM{st:mB}{z:Str×Str×Str}(h:r9 st=U z):∃b a c pos,st=.Assign [.Attribute (.Name z.1 b) z.2.1 a] (.Name z.2.2 c) pos:=by
 obtain⟨w,g,f⟩:=dI.mp h;obtain⟨q,e,rfl⟩:=bD.mp f;obtain⟨b,a,pos,rfl⟩:=zS g;obtain⟨p,d⟩:=dC e;rw[d];exact⟨_,_,_,_,J⟩
def ow(N:Bi):Nat->DD->Bi->Bool
 |_,[],[]=>O
 |i,st::rest,n::ns=>(match r9 st with
  |some z=>decide (N[0]?=U z.1)&&decide (N[i]?=U z.2.2)&&decide (z.2.1=n)
  |none=>Zb)&&ow N (i+1) rest ns
 |_,_,_=>Zb
def Xh(K:bG):Nat->Bi->TS
 |_,[]=>Dn
 |i,n::ns=>R3 (Ss K (HH 0) (HH i) n)<|Xh K (i+1) ns
theorem zT(c:∀(i:Nat)(x:Str),X.N[i]?=U x->uM X.env.scope x/\cy x/\i7 x):∀(a:DD)(ns:Bi)(i:Nat),ow X.N i a ns=O->jP X a (Xh X.K i ns)
 |[],[],_,_=>yS
 |[],_::_,_,h=>by cases h
 |st::rest,[],_,h=>by cases h
 |st::rest,n::ns,i,h=>by
  have h:((match r9 st with
   |some z=>decide (X.N[0]?=U z.1)&&decide (X.N[i]?=U z.2.2)&&decide (z.2.1=n)
   |none=>Zb)&&ow X.N (i+1) rest ns)=O:=h
  rw[dj]at h;obtain⟨b,l⟩:=h;cases e:r9 st with
  |none=>rw[e]at b;cases b
  |some z=>
   rw[e]at b;simp only[dj,eP]at b;obtain⟨⟨f,d⟩,rfl⟩:=b;obtain⟨p,o,m,pos,rfl⟩:=xM e;obtain⟨k,j,g⟩:=c 0 _ f;obtain⟨w1,w2,w3⟩:=c i _ d;exact uP (xf (fj f k j g) (fj d w1 w2 w3) J)<|zT c rest ns (i+1) l
theorem zU{K:bG}{C q dx:cw}{N:Bi}{all:List V}{D:Ends}(cl:pP K C):∀(ns d:Bi)(as c:List V)(H:Hp),(∀f∈ns,eG K C f)->(d++ns).Nodup->(d++ns).length<=100->c.length=d.length->as.length=ns.length->all=.ref q::(c++as)->H q=U (.ins C dx<|d.zip c) ->
  D.nx (L2.start N all) (upd H q<|.ins C dx<|(d++ns).zip<|c++as)->Xh K (c.length+1) ns D (L2.start N all) H
 |[],d,as,c,H,_,_,_,m,l,g,o,k=>by
  have:as=[]:=uw.mp l
  subst this;rw[dw,dw]at k;have e:upd H q (.ins C dx<|d.zip c)=H:=by
   funext b
   by_cases hb:b=q
   .subst hb;rw[ah,o]
   .rw[ak hb]
  rw[e]at k;exact k
 |n::ns,d,[],c,H,_,_,_,m,l,g,o,k=>by cases l
 |n::ns,d,v::as,c,H,j,nd,i,m,l,g,o,k=>by
  have t:(L2.start N all)[c.length+1]?=U (U v):=by
   unfold L2.start;rw[e_<|by rw[g];simp,dH,g,List.getElem?_cons_succ,eF<|bW _,kH];rfl
  have w:(L2.start N all)[0]?=U (U<|.ref q):=by
   unfold L2.start;rw[e_<|by rw[g];simp,dH,g];rfl
  have B:n∉d:=λz=>by
   rw[Lx]at nd;exact nd.2.2 n z n (bC ..) J
  refine⟨v,t,.ref q,w,q,C,dx,d.zip c,J,o,cl,j n<|bC ..,?_,?_⟩
  .rw[nk];rw[dg]at i;lia
  .have A:L2.dJ n v (d.zip c)=(d++[n]).zip (c++[v]):=by
    have:=rZ (f:=n) (v:=v) (ns:=d++[n]) (vs:=c) (by
     rw[show d++n::ns=(d++[n])++ns by simp]at nd
     exact(Lx.mp nd).1) (by rw[m,eF<|bW _,kH];rfl)
    rw[<- this]
    congr 1
    have:∀(a:Bi)(b:List V)(r:Bi),b.length=a.length->a.zip b=(a++r).zip b:=by
     intro a
     induction a with
     |nil=>intro b r h;cases b with
      |nil=>simp
      |cons=>cases h
     |cons x a s=>intro b r h;cases b with
      |nil=>cases h
      |cons y b=>rw[nj,uo,nj,s b r<|by simpa using h]
    exact this d c [n] m
   rw[A];have p:=zU (N:=N) (all:=all) (D:=D) (q:=q) (dx:=dx) cl ns (d++[n]) as (c++[v]) (upd H q<|.ins C dx<|(d++[n]).zip<|c++[v]) (λf u=>j f<|eE _ u) (by simpa using nd) (by simpa using i) (by simp[m]) (by simpa using l) (by rw[g];simp) ah (by
    rw[yO];simpa using k)
   rw[show(c++[v]).length+1=c.length+1+1 by simp]at p
   exact p
end
section
theorem gJ:∀(k:Int)(ts:FC),(dO k ts).length=ts.length
 |_,[]=>J
 |k,_::ts=>cm (· + 1)<|gJ (k+1) ts
theorem zV:∀(k:Nat)(ts:FC)(i:Nat)(t:T),ts[i]?=U t->(dO (k:Int) ts)[i]?=U (.tup [.int ((k+i:Nat):Int),t])
 |_,[],_,_,h=>by simp at h
 |k,_::ts,0,_,h=>by simp at h;subst h;rfl
 |k,_::ts,i+1,t,h=>by
  have:=zV (k+1) ts i t (by simpa using h)
  rw[show k+(i+1)=k+1+i by lia]
  exact this
def U8(M:B.K=X.K)(m:Nat):∀σ H R,tI B (gI (m:Int) fa) σ H R->OB X.K m (tA B<|bH fa cj) σ H R:=by
 rintro σ H R ⟨g,s,t,s',x,h,k⟩
 revert h;refine aao λn C G=>aan λts e=>λh=>?_;cases h;have e:=ai e;obtain⟨b,rfl,rfl⟩:∃b,n=.lst b/\t=dO m b:=by
  cases n<;>first|(cases e;done)|(cases e;exact⟨_,J,J⟩)
 have F:bH fa cj s=.ok ([.lst b],C):=by
  show(fa s).bind _=_;rw[G];rfl
 refine⟨g,s,_,_,x,F,λvs g1 H1 E j a=>?_⟩;obtain⟨v,rfl,l,w,rfl,q1,a⟩:=cL a;refine⟨l,w,J,c9.of<|j.sub _ _ q1,k _ g1 H1 E j ⟨λi u d hi=>?_,λi u x N d hi y=>?_,λi u d hi=>?_⟩⟩
 .rw[gJ,a.len]at hi
  exact⟨hi,c9.of<|d _ _ q1⟩
 .obtain⟨p,c,r,L,rfl,rfl⟩:=y
  obtain⟨t1,I,f⟩:=a.vd L;refine⟨_,zV m b i t1 I,λD A q=>⟨upd D p<|.tup [.int ((m+i:Nat):Int),c],.new q r,p,[.int ((m+i:Nat):Int),c],J,kM.of ah,?_⟩⟩;have z:=A.trans<|aY (o:=.tup [.int ((m+i:Nat):Int),c])<|q.free r;exact⟨.int ((m+i:Nat):Int),[c],J,J,.one<|f.same z⟩
 .rw[gJ,a.len]at hi
  exact⟨hi,c9.of<|d _ _ q1⟩
def U9(i:B.K=X.K){b:Bz}{d:Nat}{e:Pos}(g:Gl X "enumerate")(f:X.mg "enumerate" = Y)(h:PE X a<|tE B fa)(c:noStar a=O):PI X (.Tuple b d e) (.Call (.Name "enumerate" p) [a] [] pos)<|tI B<|gI 0 fa:=
 jW (Tw g f (rT h xw<|ao c)<|ao c)<|U8 i 0
def U_(j:B.K=X.K){b:Bz}{d k1:Nat}{f e kp:Pos}(h:Gl X "enumerate")(g:X.mg "enumerate" = Y)(i:PE X a<|tE B fa)(c:noStar a=O):PI X (.Tuple b d f) (.Call (.Name "enumerate" p) [a] [⟨U<|f5 "start",.Constant (.int 1) k1 e,kp⟩] pos)<|tI B<|gI 1 fa:=
 jW (OC h g (rT i xw<|ao c)<|ao c)<|U8 j 1
end
section
def ML{m:Str}(e:aT o=O)(a:es.all noStar=O)(c:es.length<30)(b:(bo.endLine == pos.line)=O):EA X o m bo es pos:=by
 have d:methodCallForm (es.length+0) (hW pos<|dy es X.env) (pB pos<|my [] X.env)=O:=by
  unfold methodCallForm;rw[oh a];show(O&&O&&decide (es.length+0+0<30))=O;rw[dr<|show es.length+0+0<30 from ez c<|by decide];rfl
 refine⟨(do return(<- importBound o X.env).getD O),?_⟩
 show(do
  let ov <- gL o m X.env (e6 o X.env)
  rO bo.atName
  methodCall o m bo pos X.env ov (es.length+0) (hW pos<|dy es X.env) (pB pos<|my [] X.env))=_
 rw[ee e];unfold methodCall;rw[d];unfold calleeOf methodCallPos;rw[b];rfl
def Jf{Pr:ef}{w:dA}{K:bG}{mg:Str->D1}{base:fA}{n qual:Str}{st:mB}{f C:cw}{fd:eX}{N ps ns:Bi}{k:Nat}(Fn:xJ K n qual st f fd)(l:gS N ps<|aE st)
  (e:∀(i:Nat)(x:Str),N[i]?=U x->uM (aE st) x/\cy x/\i7 x) (hi:ow N 1 (cW st) ns=O) (g:ps.length=ns.length+1) (cl:pP K C) (na:∀f∈ns,eG K C f) (nd:ns.Nodup) (qG:ns.length<=100) :
  dR Pr w K mg base mf (k+1) f fd ps<|Ō C ns:=by
 refine Fn.ok l (λvs H Q E h=>?_) λc A outer s H vs Q E hr h=>?_
 .obtain⟨x,j,a,rfl,b,_⟩:=h
  rw[bI,b,g]
 .obtain⟨x,j,a,rfl,b,d,q⟩:=h
  refine⟨Xh K 1 ns,zT (X:=(pQ mf Pr w K mg base N qual (aE st) f c A outer s H E).Mb) e _ ns 1 hi,?_⟩;exact zU (N:=N) (D:={nx:=λ_ H'=>Q .non H',rt:=Q}) cl ns [] a [] H na (by simpa using nd) (by simpa using qG) J b J (by simpa using d) (by simpa using q)
def Ŗ(K:bG)(C:cw)(n:Str):Sp:=λvs H Q _=>∃x b p a,vs=[.ref x,.ref p]/\H x=U (.ins C b [])/\c9 K H p a/\∀l,H l=Y->Q .non (upd (upd H l<|.lst a) x<|.ins C b [(n,.ref l)])
def se(st:mB):Option<|Str×Str×Str:=(EL st).bind λw=>(oq w.2.2).bind λc=>(match c.2.1,c.2.2 with
 |[a],[]=>if c.1=("list" : Str)then(asName a).map λq=>(w.1,w.2.1,q)else Y
 |_,_=>Y)
def vq{st:mB}{z:Str×Str×Str}(h:se st=U z):∃j g d pl i pos,st=.Assign [.Attribute (.Name z.1 j) z.2.1 g] (.Call (.Name "list" pl) [.Name z.2.2 d] [] i) pos:=by
 obtain⟨w,o,n⟩:=dI.mp h;obtain⟨⟨f,as,ks⟩,c,b⟩:=dI.mp n
 match as,ks,c,b with
 |[a],[],c,b=>
  dsimp only at b;split at b
  .rename_i e
   obtain⟨q,m,rfl⟩:=bD.mp b;obtain⟨j,g,pos,rfl⟩:=zS o;obtain⟨pl,i,l⟩:=gZ c;obtain⟨d,k⟩:=dC m;rw[l,k,e];exact⟨_,_,_,_,_,_,J⟩
  .cases b
def EM{Pr:ef}{w:dA}{K:bG}{mg:Str->D1}{base:fA}{y qual d q n:Str}{st g:mB}{f C:cw}{fd:eX}{N ps:Bi}{k:Nat}(Fn:xJ K y qual st f fd)(L:gS N ps<|aE st)
  (G:cW st=[g]) (I:se g=U (d,n,q)) (o:N[0]?=U d) (m:N[1]?=U q) (j:∀(i:Nat)(x:Str),N[i]?=U x->uM (aE st) x/\cy x/\i7 x) (D:mg "list" = Y) (F:(aE st).names.lookup ("list" : Str)=U .globalImplicit) (a:ps.length=2) (cl:pP K C) (na:eG K C n) :
  dR Pr w K mg base mf (k+1) f fd ps<|Ŗ K C n:=by
 obtain⟨S,P,M,pl,R,pos,rfl⟩:=vq I;refine Fn.ok L (λvs H Q E h=>?_) λz A outer s H vs Q E hr h=>?_
 .obtain⟨x,r,p,c,rfl,_⟩:=h
  exact a.symm
 .obtain⟨x,r,p,c,rfl,b,B,k⟩:=h
  obtain⟨v,u,t⟩:=j 0 _ o;obtain⟨w1,w2,w3⟩:=j 1 _ m;rw[G];refine⟨_,yT<|xf (fj o v u t) (gB gT (X:=(pQ mf Pr w K mg base N qual (aE st) f z A outer s H E).Mb) F D uH<|aR (fj m w1 w2 w3) bU) J,?_⟩;refine⟨.ref p,J,p,c,J,.inl B,λl a=>⟨.ref x,J,x,C,r,[],J,?_,cl,na,by decide,k l a⟩⟩
  rw[ak (λe=>by subst e;rw[a]at b;cases b)]
  exact b
structure ŗ(P:Pg)(Pr:ef)(w:dA)(K:bG)(mg:Str->D1)(base:fA)(k:Nat)(c:Nat)(x:Str):Prop where
 ex:∃(C fi:cw)(fd:eX)(ps:Bi)(n:Str),iz (jA P K Pr w) c C [n]/\mg x=U (.ref C)/\Mk K C fi/\dR Pr w K mg base mf k fi fd ps (Ŗ K C n)/\Binds K fd ps []
def Pu{k j c:Nat}(D:ŗ P X.prog X.w X.K X.mg X.base k c x)(hr:bL j X.A)(BO:k+1<=j)(ha:PE X e<|tE (P.kt X) fa)(hg:Gl X x)(Z:cy x)(I:noStar e=O) :
  PE X (.Call (.Name x p) [e] [] pos)<|tE (P.kt X)<|dF (OE c) fa:=by
 obtain⟨C,fi,fd,ps,n,hC,hm,M,F,d⟩:=D.ex;refine aM (rJ M F (hr.mono BO) hg hm d .nil nK (aR ha bU<|ao I) Z (ao I) J) λσ H Q L=>?_;obtain⟨g,s,t,s',z,h,k⟩:=L;revert h;refine aao λN s1 h1=>aan λt' r=>λh=>?_;cases h;have r:=ai r;cases N<;>try(cases r;done)
 rename_i ts;cases r;refine⟨g,s,_,_,z,h1,λv g1 H1 W i S x a nx nd G=>?_⟩;obtain⟨q,vs,rfl,hq,R⟩:=S;have g2:=Gr.new (o:=.own x) i.sub nd;have Y8:upd H1 a (.own x) x=Y:=by rw[ak<|Ne.symm G];exact nx
 have f:H1 q=U (.lst vs):=i.sub _ _ hq;have V:q≠a:=λe=>by subst e;rw[nd]at f;cases f
 have T:q≠x:=λe=>by subst e;rw[nx]at f;cases f
 refine⟨x,a,q,vs,J,ah,c9.of<|by rw[ak T,ak V];exact f,λl m=>⟨J,?_⟩⟩
 have y:l≠x:=λe=>by subst e;rw[ah]at m;cases m
 have E:upd H1 a (.own x) l=Y:=by rw[ak y]at m;exact m
 have ld:l≠a:=λe=>by subst e;rw[ah]at E;cases E
 have g3:=Gr.new (o:=.lst vs) g2.sub E;have u:upd (upd H1 a<|.own x) l (.lst vs) x=Y:=by rw[ak<|Ne.symm y];exact Y8
 have g4:=Gr.new (o:=.ins C a [(n,.ref l)]) g3.sub u;have e:upd (upd (upd (upd H1 a<|.own x) x<|.ins C a []) l<|.lst vs) x (.ins C a [(n,.ref l)])=upd (upd (upd H1 a<|.own x) l<|.lst vs) x (.ins C a [(n,.ref l)]):=by
  funext b
  by_cases d:b=x
  .subst d;rw[ah,ah]
  .rw[ak d,ak d]
   by_cases hb2:b=l
   .subst hb2;rw[ah,ah]
   .rw[ak hb2,ak hb2,ak d]
 rw[e];have B:=(g2.trans g3).trans g4;refine k _ (g1.grow _) _ (W.trans<|i.gb B) (i.grow B) ⟨x,C,a,[n],[.ref l],J,hC,ah,bW _,?_,.one ⟨l,vs,J,?_,R.same B.fr⟩⟩
 .show upd (upd (upd g1.HF a<|.own x) l<|.lst vs) x _ a=_
  rw[ak G,ak<|Ne.symm ld,ah]
 .show upd (upd (upd g1.HF a<|.own x) l<|.lst vs) x _ l=_
  rw[ak y,ah]
theorem zW{K:bG}{t:ar}:∀{cs:B2}{bs:Ee},cs.length=bs.length->(∀(i:Nat)(c:ar)(b:Bool),cs[i]?=U c->bs[i]?=U b->rm K t c=U b)->CJ K t cs=U (bs.any id)
 |[],[],_,_=>J
 |[],_::_,h,_=>by cases h
 |_::_,[],h,_=>by cases h
 |c::cs,b::bs,a,h=>by
  have e:=h 0 c b J J;have d:=zW (cs:=cs) (bs:=bs) (by simpa using a) λi c b g f=>h (i+1) c b (by simpa using g) (by simpa using f)
  unfold CJ;rw[e];cases b with
  |true=>rfl
  |false=>exact d
def namesOf:Bz->Option Bi
 |[]=>U []
 |.Name x _::es=>(namesOf es).map (x::·)
 |_=>Y
theorem vt{Ds:BM}:∀{es:Bz}{ys:Bi}{Ds:BM},namesOf es=U ys->ys.length=Ds.length->(∀(i:Nat)(y:Str)(D:cw),ys[i]?=U y->Ds[i]?=U D->Gl X y/\X.mg y=U (.ref D)/\cy y)->PA X es (λ_ H Q=>Q (Ds.map V.ref) H)
 |[],_,Ds,h,a,_=>by
  cases h;cases Ds with
  |nil=>exact bU
  |cons=>cases a
 |e::es,ys,Ds,h,a,k=>by
  cases e<;>try(cases h;done)
  rename_i x f;obtain⟨zs,b,rfl⟩:=bD.mp<|show(namesOf es).map (x::·)=U ys from h
  cases Ds with
  |nil=>cases a
  |cons D Ds=>
   obtain⟨k1,k2,k3⟩:=k 0 x D J J;exact aR (rC (v:=.ref D) k1 k2 J k3) (vt (Ds:=Ds) b (by simpa using a) λi y D d c=>k (i+1) y D (by simpa using d)<|by simpa using c) J
def Vb(q0:mC X.K X.mg P){ds:B1}{ys:Bi}{q:Nat}{i8:Pos}(Ř:namesOf es=U ys)(hd:ys.length=ds.length)(B:∀(i d:Nat)(y:Str),ds[i]?=U d->ys[i]?=U y->P.cn[d]?=U y/\(P.fn[d]?).isSome=O/\Gl X y/\cy y)
  (u:es.length<=100) (hm:X.mg "isinstance" = Y) (ha:PE X a<|tE (P.kt X) fa) (hg:Gl X "isinstance") (L:noStar a=O) :
  PE X (.Call (.Name "isinstance" p) [a,.Tuple es q i8] [] pos)<|tE (P.kt X)<|dF (iV P.sub ds) fa:=by
 have cls:∀(ds:B1)(ys:Bi),ys.length=ds.length->(∀(i d:Nat)(y:Str),ds[i]?=U d->ys[i]?=U y->P.cn[d]?=U y/\(P.fn[d]?).isSome=O/\Gl X y/\cy y)->∃Ds:BM,Ds.length=ds.length/\∀(i:Nat)(y:Str)(D:cw),ys[i]?=U y->Ds[i]?=U D->X.mg y=U (.ref D):=by
  intro ds
  induction ds with
  |nil=>intro ys u _;exact⟨[],J,λi y D _ h=>by simp at h⟩
  |cons d ds A=>
   intro ys u h;cases ys with
   |nil=>cases u
   |cons y ys=>
    obtain⟨w,n,_⟩:=h 0 d y J J;obtain⟨ns,S⟩:=Dg.mp n;obtain⟨D,F⟩:=q0.cls d y ns w S;obtain⟨Ds,hD,k⟩:=A ys (by simpa using u) λi d y f j=>h (i+1) d y (by simpa using f) (by simpa using j)
    refine⟨D::Ds,by simp[hD],λi R D' f j=>?_⟩
    cases i with
    |zero=>simp at f j;subst f j;exact F.gl
    |succ i=>exact k i R D' (by simpa using f) (by simpa using j)
 obtain⟨Ds,I,ř⟩:=cls ds ys hd B;have get:∀(i:Nat)(y:Str),ys[i]?=U y->∃d,ds[i]?=U d:=λi y h=>by
  have:=(du.mp h).1
  exact⟨_,cD<|by lia⟩
 have names:=vt (X:=X) (Ds:=Ds) Ř (by rw[hd,I]) λi y D f j=>by
  obtain⟨d,G⟩:=get i y f;obtain⟨_,_,h3,h4⟩:=B i d y G f;exact⟨h3,ř i y D f j,h4⟩
 refine aM (dX EK hg hm yN (aR ha (aR (Dz names) bU J)<|ao L) (he:=ao L) (hpl:=J)) λσ H Q N=>?_;obtain⟨g,s,t,s',x,h,k⟩:=N;revert h;refine aao λT s1 w=>aan λt' n=>λh=>?_;cases h;refine⟨g,s,_,_,x,w,λv g1 H1 p1 q Z=>?_⟩;have n:=ai n;cases T<;>try(cases n;done)
 obtain⟨l,HG,rfl⟩:=bD.mp n;obtain⟨b,C,dx,D5,vs,rfl,hC,hq,hle,hdx,r⟩:=Z;obtain⟨m,Y5,Y6,F⟩:=q0.of hC;have cU:ys.length=es.length:=by
  have:∀(es:Bz)(ys:Bi),namesOf es=U ys->ys.length=es.length:=by
   intro es
   induction es with
   |nil=>intro ys h;cases h;rfl
   |cons e es A=>
    intro ys h;cases e<;>try(cases h;done)
    rename_i x px;obtain⟨zs,w,rfl⟩:=bD.mp<|show(namesOf es).map (x::·)=U ys from h
    rw[bI,bI,A zs w]
  exact this es ys Ř
 refine⟨by rw[bX,I,<- hd,cU,ew];exact dq u<|by decide,λW E=>?_⟩
 have g2:=Gr.new (o:=.tup<|Ds.map V.ref) q.sub E;have z:=zW (K:=X.K) (t:=.ref C) (cs:=Ds.map Value.ref) (bs:=ds.map λd=>decide<|d∈l) (by rw[bX,bX,I]) λi c bb f j=>by
  rw[dH]at f j;obtain⟨D,G,rfl⟩:=bD.mp f;obtain⟨d,e4,rfl⟩:=bD.mp j;have hi:i<ys.length:=by rw[hd];exact(du.mp e4).1
  have M:ys[i]?=U ys[i]:=cD hi;obtain⟨f1,_⟩:=B i d _ e4 M;exact q0.sub _ d m _ C D l Y5 f1 F.gl (ř i _ D M G) HG
 refine⟨b,C,dx,W,_,Ds,_,J,g2.sub _ _<|g2.fr _ _ hq,F.cl,F.ca,q0.gt.1,q0.gt.2,F.mo,ah,z,?_⟩
 have:=k (V.bl<|ds.any λd=>decide<|d∈l) (g1.grow _) _ (p1.trans<|q.gb g2) (q.grow g2) J
 rw[Lp];exact this
def Pw{n:Pos}(z:X.N[i]?=U y)(q:uM X.env.scope y)(hd:cy y)(p:i7 y)(u:PE X b<|tE B fb)(r:iU b) :
  PE X (.Subscript (.Name y n) b pos)<|tE B<|vc i fb:=by
 refine aM (Mi yZ (fj z q hd p) u r) λσ H Q d=>?_;obtain⟨g,s,t,s',x,h,k⟩:=d;revert h;refine aan λF D=>aao λty I C=>aan λts A=>aan λG a=>λh=>?_;cases h;obtain⟨l,vs,w1,w2,w3,w4⟩:=x.xH<|iW<|ai D;refine⟨_,w1,g,s,ty,_,x,C,λv g1 H1 o c j=>?_⟩;obtain⟨K,E,q1,q2,m,q4⟩:=c.xH<|iW<|ai A;rw[w1]at q1;cases q1;have a:=ai a;cases ty<;>try(cases a;done)
 obtain⟨w,e,f⟩:=rW q4<|show atT ts _=U _ from a;exact⟨l,E,_,w,J,j,c9.of m,e,k w g1 H1 o c f⟩
def iN:T->T->FK
 |.int i,.int j=>U<|.int<|i+j
 |_,_=>Y
def Vc(r:X.N.Nodup)(hi:X.N[i]?=U x)(n:Loc X.env.scope x)(he:PE X e<|tE B fa)(q:X.fn x=O\/X.env.scope.names.lookup x=U .local) :
  PS X (.AugAssign (.Name x cz) .Add e pos)<|tS B<|IB iN i fa:=c_ (NR r hi n he NS q) λD σ H b=>by
 obtain⟨g,s,o,s',z,h,k⟩:=b;unfold IB at h;split at h
 .rename_i d hr
  revert h;refine aao λty f u=>aan λt a=>λh=>?_;cases h;obtain⟨v,p,j⟩:=z.lc.at_ i _ hr;have a:=ai a;cases d<;>first|(cases a;done)|(cases ty<;>try(cases a;done))
  cases a;cases(show v=V.int _ from j);refine⟨_,p,g,s,_,f,z,u,λw g1 H1 m c l=>?_⟩;cases(show w=V.int _ from l);exact⟨_,_,J,J,k _ g1 H1 m<|c.set (t:=.int _) J⟩
 .cases h
def zX(K:bG)(mg:Str->D1)(x:Str)(t:T):Prop:=∃u v,mg x=U u/\RelV v u/\∀(B:KT)(al:BM)(H:Hp),B.K=K->Rep B al H t v
def Vd{t:T}(h:zX X.K X.mg x t)(b:B.K=X.K)(a:Gl X x)(hd:cy x):PE X (.Name x pos)<|tE B<|cF t:=by
 obtain⟨u,v,e,d,c⟩:=h;exact jX (rC a e d hd) λal H=>c B al H b
def Ve{a:DD}{g:ExceptHandler}{d:List ExceptHandler}{t:TS}(b:X.xe=λ_ _=>False)(h:jP X a t):PS X (.Try a (g::d) [] [] pos) t:=λi s σ H D I q=>by
 refine wpAny_Try_except<|f6 (h i s σ H D I q) (λf c z=>?_) λe c z=>?_
 .cases f with
  |next=>exact n5 z
  |brk=>exact z
  |cont=>exact z
  |ret u=>exact z
 .rw[b]at z;exact z.elim
end
def Jg(neg:Bool):T->T->FK
 |x,.cC ks _=>(gU x).map λk=>.bl<|if neg then !decide (k∈ks)else decide (k∈ks)
 |_,_=>Y
def aP(op:oa)(x y:T):FK:=match op,y with
 |.In,.cC ks vs=>Jg Zb x<|.cC ks vs
 |.NotIn,.cC ks vs=>Jg O x<|.cC ks vs
 |op,y=>IM op x y
def Vf:Option (Option C)->Option (List Ky×FC)
 |U<|U<|.od ks ts=>U (ks,ts)
 |_=>Y
def qO:oa->Option Bool
 |.In=>U Zb
 |.NotIn=>U O
 |_=>Y
def EN(neg:Bool)(i:Nat)(a:FE):FE:=λs=>(a s).bind λp=>(aW<|Vf p.2.r[i]?).bind λd=>(aW<|gU p.1).bind λk=>.ok (.bl<|if neg then !decide (k∈d.1)else decide (k∈d.1),p.2)
def Vg(i:Nat)(s:S):Bool:=(rQ s.r[i]?).isSome
def vv(i:Nat):FS:=λs=>.ok (.nx,kG s i<|.od [] [])
def fD(ks:List Ky)(ts:FC)(k:Ky)(t:T):List Ky×FC:=if k∈ks then(ks,(ks.zip ts).map λp=>if p.1=k then t else p.2)else(ks++[k],ts++[t])
def MM(i:Nat)(b a:FE):FS:=λs=>(a s).bind λp=>(b p.2).bind λq=>(aW<|Vf p.2.r[i]?).bind λ_=>(aW<|Vf q.2.r[i]?).bind λd=>(aW<|gU q.1).bind λk=>(aW<|gd (d.1.length<1000000) ()).bind λ_=>.ok (.nx,kG q.2 i<|let z:=fD d.1 d.2 k p.1;.od z.1 z.2)
section
variable{d p1:Pos}{al:BM}
def sf{a b:Ky}(h:jb a=jb b):a=b:=by
 cases a<;>cases b
 .injection h with h;rw[h]
 .cases h
 .cases h
 .injection h with h
  injection h with h
  have h:=cm wH h;dsimp only at h;rw[h]
def gc{t:T}{v:V}{k:Ky}(h:gU t=U k)(r:Rep B al H t v):v=kV (jb k):=by
 cases t<;>try(cases h;done)
 .cases h;exact r
 .cases h;exact r.1
theorem oF:∀{ks:List Ky}{vs:List V},ks.length=vs.length->∀k,(i_ ((ks.map jb).zip vs)<|jb k).isSome=decide (k∈ks)
 |[],_,_,k=>by simp[i_]
 |q::ks,[],h,_=>by cases h
 |q::ks,v::vs,h,k=>by
  rw[dG,nj];by_cases e:q=k
  .rw[gD (p:=(jb q,v))<|by rw[e]]
   simp[e]
  .rw[gE (p:=(jb q,v)) λz=>e<|sf z,oF (pL.inj h) k]
   have:(k∈q::ks) ↔ (k∈ks):=⟨λz=>(bK.mp z).elim (λz=>eD z.symm e) id,eE _⟩
   simp only[this]
theorem zY{k:Ky}{v:V}{t:T}(rt:Rep B al H t v):∀{ks:List Ky}{vs:List V}{ts:FC},ks.length=vs.length->au B al H ts vs ->
  ((ks.map jb).zip vs).map (λa=>if a.1=jb k then(a.1,v)else a)=(ks.map jb).zip ((ks.zip vs).map λp=>if p.1=k then v else p.2)/\ks.length=((ks.zip vs).map λp=>if p.1=k then v else p.2).length/\au B al H ((ks.zip ts).map λp=>if p.1=k then t else p.2) ((ks.zip vs).map λp=>if p.1=k then v else p.2)
 |[],[],_,_,r=>⟨J,J,by cases ‹FC›<;>exact J⟩
 |q::ks,[],_,h,_=>by cases h
 |[],_::_,_,h,_=>by cases h
 |q::ks,u::vs,ts,h,r=>by
  cases ts with
  |nil=>cases(show u::vs=[]from r)
  |cons j ts=>
   obtain⟨i,l,e,c,d⟩:=r;cases e;obtain⟨b,g,f⟩:=zY rt (ks:=ks) (vs:=vs) (ts:=ts) (pL.inj h) d;refine⟨?_,?_,?_⟩
   .simp only[dG,nj]at b ⊢
    rw[b];by_cases e:q=k
    .rw[bt<|by rw[e],bt e]
    .rw[ag λz=>e<|sf z,ag e]
   .simp only[nj,dG,bI]
    rw[<- g]
   .simp only[nj,dG]
    refine⟨_,_,J,?_,f⟩;by_cases e:q=k
    .rw[bt e,bt e];exact rt
    .rw[ag e,ag e];exact c
def EO{ks:List Ky}{ts:FC}{vs:List V}{k:Ky}{t:T}{v:V}(a:ks.length=vs.length)(r:au B al H ts vs)(rt:Rep B al H t v) :
  ∃b,L2.putK ((ks.map jb).zip vs) (jb k) v=((fD ks ts k t).1.map jb).zip b/\(fD ks ts k t).1.length=b.length/\au B al H (fD ks ts k t).2 b:=by
 unfold L2.putK fD;rw[nP,oF a];by_cases e:k∈ks
 .rw[bt<|dr e,bt e]
  obtain⟨f,d,c⟩:=zY (k:=k) rt a r;exact⟨_,f,d,c⟩
 .rw[ag<|by simpa using e,ag e]
  refine⟨vs++[v],?_,by simp[a],r.app<|.one rt⟩
  rw[i6,Ly<|by rw[bX];exact a]
  rfl
def RC(neg:Bool):R2:=λx y H Q=>∃a o,y=.ref a/\pV H a x o/\Q (.bl<|if neg then !o.isSome else o.isSome) H
def ER(d:X.A.units+1<kd):fW X (eJ .In)<|RC Zb:=λi s σ H x y v u Q I c b z=>by
 obtain⟨a,o,e,g,q⟩:=z;subst e
 obtain rfl:u=Value.ref a:=b
 exact YC d I g c λh f=>⟨.bl o.isSome,H,f,J,q⟩
def zZ(d:X.A.units+1<kd):fW X (eJ .NotIn)<|RC O:=λi s σ H x y v u Q I c b z=>by
 obtain⟨a,o,e,g,q⟩:=z;subst e
 obtain rfl:u=Value.ref a:=b
 exact Iu d I g c λh f=>⟨.bl<|!o.isSome,H,f,J,q⟩
def MN(neg:Bool):pD X (Jg neg)<|RC neg:=λB l al HF H x y t i ty Q b d c h k=>by
 unfold Jg at h;split at h
 case h_2=>cases h
 rename_i ks ts;obtain⟨j,g,rfl⟩:=bD.mp h;obtain⟨a,vs,rfl,f,e,m⟩:=c;rw[gc g d];refine⟨a,_,J,.inl ⟨_,_,(f.same b).rd,J,J⟩,?_⟩;rw[oF e];exact k _ HF H (.refl b) J
def z5{op:oa}{k:Nat}(hr:bL k X.A):∃r,fW X (eJ op) r/\pD X (aP op) r:=by
 have i:X.A.units+1<kd:=by have:=hr.units;lia
 obtain⟨r,g,f⟩:=OR (op:=op) hr;have j:(∀x y,aP op x y=IM op x y)->∃r,fW X (eJ op) r/\pD X (aP op) r:=λz=>⟨r,g,by
  have:aP op=IM op:=He λx=>He λy=>z x y
  rw[this];exact f⟩
 cases op
 case In=>exact⟨_,g.or<|ER i,λB e al HF H x y t a ty Q b d c h k=>by
  unfold aP at h;split at h
  .exact .inr<|MN Zb B e al HF H x y t a _ Q b d c h k
  .rename_i q;cases q
  .exact .inl<|f B e al HF H x y t a _ Q b d c h k⟩
 case NotIn=>exact⟨_,g.or<|zZ i,λB e al HF H x y t a ty Q b d c h k=>by
  unfold aP at h;split at h
  .rename_i q;cases q
  .exact .inr<|MN O B e al HF H x y t a _ Q b d c h k
  .exact .inl<|f B e al HF H x y t a _ Q b d c h k⟩
 all_goals exact j λx y=>by cases y<;>rfl
def Px{op:oa}{k:Nat}(h:B.K=X.K)(hr:bL k X.A)(g:PE X a<|tE B fa)(f:PE X b<|tE B fb)(d:ff op b=Zb):PE X (.Compare a [op] [b] pos)<|tE B<|a_ (aP op) fa fb:=by
 obtain⟨r,c,e⟩:=z5 (op:=op) hr;exact aM (mP c g f d)<|iM h e
def Jh{op:oa}{k:Nat}(h:B.K=X.K)(hr:bL k X.A)(g:PE X a<|tE B fa)(f:PE X b<|tE B fb)(d:ff op b=Zb):PT X (.Compare a [op] [b] pos)<|tT B<|b9<|a_ (aP op) fa fb:=by
 obtain⟨r,c,e⟩:=z5 (op:=op) hr;exact vf (mQ c g f d) λσ H Q q=>iM h e σ H _<|zx q
def sj{q:Option<|Option C}{d:List Ky×FC}(h:Vf q=U d):q=U (U<|.od d.1 d.2):=by
 unfold Vf at h;split at h
 .cases h;rfl
 .cases h
def SR.Py(x:SR B g H σ s){ks:List Ky}{ts:FC}(h:s.r[i]?=U (U<|.od ks ts)):∃l vs,σ[i]?=U (U<|.ref l)/\g.o l=U (.loc i)/\H l=U (.dK<|(ks.map jb).zip vs)/\ks.length=vs.length/\au B g.al g.HF ts vs:=by
 obtain⟨v,e,l,vs,rfl,d,c,b,a⟩:=x.lc.at_ i _ h;exact⟨l,vs,e,d,c,b,a⟩
def ES{neg:Bool}:∀σ H Q,tE B (EN neg i fa) σ H Q->NW (RC neg) (tE B fa) (HH i) σ H Q:=by
 rintro σ H Q ⟨g,s,t,s',x,h,k⟩
 revert h;refine aao λb m j=>aan λd f=>aan λn e=>λh=>?_;cases h;refine⟨g,s,b,_,x,j,λv g1 H1 p1 a c=>?_⟩;obtain⟨l,vs,w1,w2,w3,w4,w5⟩:=a.Py<|sj<|ai f;refine⟨_,w1,?_⟩;rw[gc (ai e) c];refine⟨l,_,J,.k w3,?_⟩;rw[oF w4];exact k _ g1 H1 p1 a J
def kh{op:oa}{neg:Bool}(a:X.A.units+1<kd)(h:qO op=U neg):fW X (eJ op)<|RC neg:=by
 cases op<;>try(cases h;done)
 .cases h;exact ER a
 .cases h;exact zZ a
def ET{op:oa}{neg:Bool}{k:Nat}{b:Pos}(hr:bL k X.A)(f:qO op=U neg)(l:PE X a<|tE B fa)(m:X.N[i]?=U y)(d:uM X.env.scope y)(hd:cy y)(c:i7 y) :
  PE X (.Compare a [op] [.Name y b] pos) (tE B<|EN neg i fa)/\PT X (.Compare a [op] [.Name y b] pos) (tT B<|b9<|EN neg i fa):=by
 have e:X.A.units+1<kd:=by have:=hr.units;lia
 have j:ff op (.Name y b)=Zb:=by cases op<;>rfl
 have p:=mQ (pos:=pos) (kh e f) l (fj m d hd c) j;refine⟨aM (mP (kh e f) l (fj m d hd c) j) ES,λr n σ H Q I q=>?_⟩;obtain⟨g,s,t,s',x,h,o⟩:=zx q;exact p r n σ H Q I<|ES σ H _ ⟨g,s,t,s',x,h,o⟩
def Pz{dp:Pos}(r:X.N.Nodup)(hi:X.N[i]?=U x)(m:Loc X.env.scope x)(p:X.fn x=O\/X.env.scope.names.lookup x=U .local) :
  PS X (.Assign [.Name x cz] (.Dict [] [] dp) pos)<|tS B<|vv i:=c_ (wU r hi m u4 J p) λD σ H z=>by
 obtain⟨g,s,o,s',x,h,k⟩:=z;cases h;intro q d;obtain⟨e,l,j⟩:=nT (u:=.dK []) x d;have f:=x.grow e;have p1:=x.gb e;refine k _ ((g.grow g.HF).own q<|.loc i) _ ⟨p1.fr,p1.pre,λb u h n z=>?_,p1.there⟩<|f.YJ (ks:=[]) (ts:=[]) (vs:=[]) j l ah J J;obtain⟨a,t,c⟩:=p1.rest b u h n z
 have:b≠q:=aA h d
 exact⟨a,t,by show(if b=q then U (ju.loc i)else g.o b)=Y;rw[ag this];exact c⟩
def PB{m:Pos}{k:Nat}(hr:bL k X.A)(he:PE X e<|tE B fa)(P:PE X b<|tE B fb)(Q:X.N[i]?=U y)(K:uM X.env.scope y)(hd:cy y)(G:i7 y)
  (M:fI e (U<|.Subscript (.Name y m) b cz) pos.line X.env=pure Zb) :
  PS X (.Assign [.Subscript (.Name y m) b cz] e pos)<|tS B<|MM i fb fa:=by
 have L:X.A.units+1<kd:=by have:=hr.units;lia
 refine c_ (zd L (fj Q K hd G) P he M) λD σ H p=>?_;obtain⟨g,s,o,s',x,h,k⟩:=p;revert h;refine aao λt j Z=>aao λtk r W=>aan λd0 V=>aan λd T=>aan λI S=>aan λ_ R=>λh=>?_;obtain⟨z,_⟩:=aX<|ai R;cases h;refine⟨g,s,t,j,x,Z,λv g1 H1 p1 f C=>?_⟩;obtain⟨l,vs,w1,w2,w3,w4,w5⟩:=f.Py<|sj<|ai V;refine⟨_,w1,g1,j,tk,r,f,W,λu g2 H2 a c w=>?_⟩;have n:=sj<|ai T;obtain⟨l',fM,q1,q2,E,q4,q5⟩:=c.Py n;rw[w1]at q1;cases q1;obtain⟨RD,e1,e2,e3⟩:=EO (k:=I) q4 q5<|C.mv a.pre a.fr;obtain⟨q,F⟩:=c.YK n w1 e2 e3;rw[gc (ai S) w];refine⟨l,_,J,.k E ?_,?_⟩
 .rw[nk,bX,ew]
  have:d.1.length<1000000:=z
  lia
 .rw[e1]
  exact k σ g2 _ ((p1.trans a).trans F) q
end
def p_(n:Nat)(m:FR):T->Option (Nat×C)
 |.own k=>(m[k]?).bind λob=>(match ob.fs with
  |[c]=>if ob.c=n then U (k,c)else Y
  |_=>Y)
 |_=>Y
def Zh:C->Fs
 |.ol ts=>U ts
 |_=>Y
def Zi:C->Option (List Ky×FC)
 |.od ks ts=>U (ks,ts)
 |_=>Y
def mD(n:Nat)(m:FR)(t:T):Option<|Nat×FC:=(p_ n m t).bind λz=>(Zh z.2).map λts=>(z.1,ts)
def jc(n:Nat)(m:FR)(t:T):Option<|Nat×List Ky×FC:=(p_ n m t).bind λz=>(Zi z.2).map λd=>(z.1,d.1,d.2)
def setB(n:Nat)(s:S)(k:Nat)(c:C):S:={s with m:=s.m.set k ⟨n,[c]⟩}
def ki(n:Nat):FE:=λs=>.ok (.own s.m.length,{s with m:=s.m++[⟨n,[.od [] []]⟩]})
def fF(n:Nat)(o a:FE):FS:=λs=>(o s).bind λp=>(aW<|mD n p.2.m p.1).bind λ_=>(a p.2).bind λq=>(aW<|mD n q.2.m p.1).bind λz=>(aW<|gd (z.2.length<1000000) ()).bind λ_=>.ok (.nx,setB n q.2 z.1<|.ol<|z.2++[q.1])
def qa(n:Nat)(o b a:FE):FS:=λs=>(a s).bind λv=>(o v.2).bind λp=>(b p.2).bind λq=>(aW<|jc n q.2.m p.1).bind λz=>(aW<|gU q.1).bind λk=>(aW<|gd (z.2.1.length<1000000) ()).bind λ_=>.ok (.nx,setB n q.2 z.1<|let y:=fD z.2.1 z.2.2 k v.1;.od y.1 y.2)
def sA(n:Nat)(neg:Bool)(a o:FE):FE:=λs=>(a s).bind λp=>(o p.2).bind λq=>(aW<|jc n q.2.m q.1).bind λz=>(aW<|gU p.1).bind λk=>.ok (.bl<|if neg then !decide (k∈z.2.1)else decide (k∈z.2.1),q.2)
def BU(n:Nat)(o b:FE):FE:=λs=>(o s).bind λp=>(b p.2).bind λq=>(aW<|jc n q.2.m p.1).bind λz=>(aW<|gU q.1).bind λk=>(aW<|fm z.2.1 z.2.2 k).bind λt=>.ok (t,q.2)
def sC(n:Nat)(o b d:FE):FE:=λs=>(o s).bind λp=>(aW<|jc n p.2.m p.1).bind λ_=>(b p.2).bind λq=>(d q.2).bind λw=>(aW<|jc n w.2.m p.1).bind λz=>(aW<|gU q.1).bind λk=>.ok ((fm z.2.1 z.2.2 k).getD w.1,w.2)
section
variable{f:de}{H1:Hp}{g1:G}
def kj{m:FR}{t:T}{z:Nat×C}(h:p_ n m t=U z):t=.own z.1/\m[z.1]?=U ⟨n,[z.2]⟩:=by
 cases t<;>try(cases h;done)
 obtain⟨ob,a,h⟩:=dI.mp<|show(m[_]?).bind _=U z from h;obtain⟨d,fs⟩:=ob
 match fs,h,a with
 |[c],h,a=>
  dsimp only at h;split at h
  .rename_i q;cases h;subst q;exact⟨J,a⟩
  .cases h
def iO{m:FR}{t:T}{z:Nat×FC}(h:mD n m t=U z):t=.own z.1/\m[z.1]?=U ⟨n,[.ol z.2]⟩:=by
 obtain⟨w,d,b⟩:=dI.mp h;obtain⟨ts,a,rfl⟩:=bD.mp b;obtain⟨f,e⟩:=kj d;obtain⟨k,c⟩:=w;cases c<;>try(cases a;done)
 cases a;exact⟨f,e⟩
def gK{m:FR}{t:T}{z:Nat×List Ky×FC}(h:jc n m t=U z):t=.own z.1/\m[z.1]?=U ⟨n,[.od z.2.1 z.2.2]⟩:=by
 obtain⟨w,e,b⟩:=dI.mp h;obtain⟨d,a,rfl⟩:=bD.mp b;obtain⟨g,f⟩:=kj e;obtain⟨k,c⟩:=w;cases c<;>try(cases a;done)
 cases a;exact⟨g,f⟩
def SR.k7(x:SR B g H σ s)(b:B.cn[n]?=Y){c:C}(a:s.m[k]?=U ⟨n,[c]⟩){l:cw}(d:g.al[k]?=U l):Xd B g H k ⟨n,[c]⟩ l/\bu B g H (.ob k) c (.ref l):=by
 rcases x.st.at_ k _ a with⟨e,C,h,ns,vs,Z⟩|⟨e,Z⟩
 .obtain⟨m,q,_⟩:=Z.cl
  rw[b]at q;cases q
 .have:=Z.al.symm.trans d
  cases this;exact⟨Z,Z.f c J⟩
def SR.vz{l:cw}{c:C}(x:SR B g H σ s)(y:B.cn[n]?=Y)(w:B.fn[n]?=Y)(q:g.HF l=Y)(p:g.o l=Y){u:HO}(t:H l=U u)(r:bu B (g.eu l) H (.ob g.al.length) c<|.ref l):SR B (g.eu l) H σ {s with m:=s.m++[⟨n,[c]⟩]}:=by
 have f:∀b a,g.o b=U a->(g.eu l).o b=U a:=λb a h=>by
  show(if b=l then U (ju.ob g.al.length)else g.o b)=_
  rw[ag λz=>by rw[z,p]at h;cases h];exact h
 have pre:g.al <+: (g.eu l).al:=yw _ _;refine⟨⟨x.sub,λb a e=>?_,?_,λk ob e=>?_⟩,x.lc.len,λi E e=>?_⟩
 .have e:(if b=l then U (ju.ob g.al.length)else g.o b)=U a:=e
  by_cases hb:b=l
  .subst hb;exact⟨q,_,t⟩
  .rw[ag hb]at e;exact x.st.live b a e
 .show(s.m++[_]).length=(g.al++[l]).length
  rw[dg,dg,x.st.len];rfl
 .have e:(s.m++[(⟨n,[c]⟩:Ob)])[k]?=U ob:=e
  by_cases hk:k<s.m.length
  .rw[e_ hk]at e
   exact(x.st.at_ k ob e).mv (aK.refl _) pre λb a h _=>⟨f b a h,J⟩
  .rw[eF<|by lia]at e
   have F:k-s.m.length=0:=by
    have:=(du.mp e).1
    simp at this;exact this
   rw[F]at e;cases e;have j:k=g.al.length:=by have:=x.st.len;lia
   subst j;refine .inr ⟨l,?_,y,w,λd z=>by cases z;exact r⟩
   show(g.al++[l])[g.al.length]?=U l;rw[eF<|bW _,kH];rfl
 .obtain⟨v,D,A⟩:=x.lc.at_ i E e
  exact⟨v,D,bu.mv (g:=g) (g':=g.eu l) (aK.refl _) pre (λb h=>⟨f b _ h,J⟩) A⟩
def z6{l:cw}:(g.eu l).o l=U (.ob g.al.length):=by
 show(if l=l then U (ju.ob g.al.length)else g.o l)=_
 rw[bt J]
def eQ.vz(q:eQ g H g1 H1){l:cw}(e:H l=Y):eQ g H (g1.eu l) H1:=⟨q.fr,q.pre.trans<|yw _ _,λb u h n z=>by
 obtain⟨d,c,a⟩:=q.rest b u h n z;refine⟨d,c,?_⟩;show(if b=l then U (ju.ob g1.al.length)else g1.o b)=Y
 rw[ag<|aA h e];exact a,q.there⟩
def vA(x:SR B g H σ s){l:cw}:Rep B (g.eu l).al (g.eu l).HF (.own s.m.length)<|.ref l:=⟨l,J,by
 show(g.al++[l])[s.m.length]?=U l;rw[x.st.len,eF<|bW _,kH];rfl⟩
def EU(o:B.cn[n]?=Y)(m:B.fn[n]?=Y)(he:PE X e<|tO B fl):PE X e<|tE B<|nS n fl:=aM he λσ H Q z=>by
 obtain⟨g,s,t,s',x,h,k⟩:=z;revert h;refine aao λts d p=>λh=>?_;cases h;exact⟨g,s,ts,d,x,p,λl vs g1 H1 f a q j i b r=>k _ (g1.eu l) H1 (f.vz q) (a.vz (c:=.ol ts) o m j i b ⟨l,vs,J,z6,b,r.mv (yw _ _)<|aK.refl _⟩)<|vA a⟩
def EV{dp:Pos}(j:B.cn[n]?=Y)(i:B.fn[n]?=Y):PE X (.Dict [] [] dp)<|tE B<|ki n:=aM u4 λσ H Q z=>by
 obtain⟨g,s,t,s',x,h,k⟩:=z;cases h;intro q b;obtain⟨d,f,e⟩:=nT (u:=.dK []) x b;have a:=x.grow d;exact k _ ((g.grow g.HF).eu q) _ ((x.gb d).vz b) (a.vz (c:=.od [] []) j i f e ah ⟨q,[],J,z6,ah,J,J⟩)<|vA a
def SR.EX{l:cw}{c c':C}{u:HO}(x:SR B g H σ s)(Z:Xd B g H k ⟨n,[c]⟩ l)(E:s.m[k]?=U ⟨n,[c]⟩)(y:g.o l=U (.ob k))(r:bu B g (upd H l u) (.ob k) c'<|.ref l) :
  eQ g H g (upd H l u)/\SR B g (upd H l u) σ (setB n s k c'):=by
 have ne:∀b q,g.o b=U q->q≠.ob k->upd H l u b=H b:=λb q a t=>ak λz=>t (by rw[z,y]at a;cases a;rfl)
 refine⟨mS y,⟨⟨λb w e=>?_,λb q e=>?_,by show(s.m.set k _).length=_;rw[eU];exact x.st.len,λp D e=>?_⟩,x.lc.len,λi c e=>?_⟩⟩
 .have:b≠l:=λz=>by rw[z,(x.st.live l _ y).1]at e;cases e
  rw[ak this];exact x.sub _ _ e
 .obtain⟨f,w,A⟩:=x.st.live b q e
  by_cases a:b=l
  .exact⟨f,_,by rw[a,ah]⟩
  .exact⟨f,w,by rw[ak a];exact A⟩
 .have e:(s.m.set k ⟨n,[c']⟩)[p]?=U D:=e
  by_cases p9:k=p
  .subst p9
   rw[dQ (du.mp E).1]at e;cases e;exact .inr ⟨l,Z.al,Z.nc,Z.nf,λd z=>by cases z;exact r⟩
  .rw[cJ p9]at e
   refine(x.st.at_ p D e).mv (aK.refl _) fh λb q h t=>⟨h,ne b q h ?_⟩;rcases t with rfl|⟨j,rfl⟩
   .exact λz=>p9 (by cases z;rfl)
   .exact λz=>by cases z
 .obtain⟨v,f,A⟩:=x.lc.at_ i c e
  exact⟨v,f,bu.mv (g:=g) (g':=g) (aK.refl _) fh (λb a=>⟨a,ne b _ a λz=>by cases z⟩) A⟩
def PC(q:B.cn[n]?=Y)(K:PE X o<|tE B fo)(L:aT o=O)(he:PE X e<|tE B fa)(b:noStar e=O)(T:(bo.endLine == bF.line)=O) :
  PS X (.Expr (.Call (.Attribute o "append" bo) [e] [] bF) pos)<|tS B<|fF n fo fa:=by
 refine c_ (rD (y9 oB th tf kP K (aR he bU<|ao b) (ee L) (qG (by rw[fG,b];rfl)<|by decide) T (ao b) J) J) λD σ H z=>?_
 obtain⟨g,s,oo,s',x,h,k⟩:=z;revert h;refine aao λtx j R=>aan λz0 Q=>aao λt y P=>aan λz N=>aan λ_ M=>λh=>?_;obtain⟨I,_⟩:=aX<|ai M;cases h;obtain⟨r,m1⟩:=iO<|ai Q;obtain⟨a,m2⟩:=iO<|ai N;dsimp only at r a;subst r;refine⟨g,s,_,j,x,R,λv g1 H1 G i C=>?_⟩;obtain⟨l,rfl,d⟩:=C;obtain⟨Z1,l1,w,q1,o1,V,_⟩:=i.k7 q m1 d;cases q1;refine⟨.inl ⟨J,_,c9.of V⟩,g1,j,t,y,i,P,λv g2 H2 p f A=>?_⟩;have S:z.1=z0.1:=by injection a with a;exact a.symm
 rw[<- S]at d;obtain⟨W,l2,Z,q2,o2,c,m⟩:=f.k7 q m2<|cZ p.pre d;cases q2;obtain⟨E,u⟩:=f.EX (c':=.ol<|z.2++[t]) W m2 o2 ⟨l,_,J,o2,ah,m.app<|.one A⟩;exact⟨l,Z,v,J,J,c,by rw[<- m.len,ew];exact ez I<|by decide,k σ g2 _ ((G.trans p).trans E) u⟩
def Vh{K:Nat}(S:B.cn[n]?=Y)(hr:bL K X.A)(he:PE X e<|tE B fa)(P:PE X o<|tE B fo)(T:PE X b<|tE B fb)(N:fI e (U<|.Subscript o b cz) pos.line X.env=pure Zb) :
  PS X (.Assign [.Subscript o b cz] e pos)<|tS B<|qa n fo fb fa:=by
 have M:X.A.units+1<kd:=by have:=hr.units;lia
 refine c_ (zd M P T he N) λD σ H z=>?_;obtain⟨g,s,oo,s',x,h,k⟩:=z;revert h;refine aao λt j h1=>aao λtx i h2=>aao λtk r h3=>aan λz h4=>aan λky h5=>aan λ_ W=>λh=>?_;obtain⟨L,_⟩:=aX<|ai W;cases h;obtain⟨c,m1⟩:=gK<|ai h4;dsimp only at c;subst c;refine⟨g,s,t,j,x,h1,λv g1 H1 I q F=>⟨g1,j,_,i,q,h2,λw g2 H2 d p E=>⟨g2,i,tk,r,p,h3,λu g3 H3 a f C=>?_⟩⟩⟩;obtain⟨l,rfl,V⟩:=E;obtain⟨Z,l1,vs,q1,o1,R,Q,y⟩:=f.k7 S m1<|cZ a.pre V;cases q1;obtain⟨RD,c,e2,e3⟩:=EO (k:=ky) Q y<|(F.mv d.pre d.fr).mv a.pre a.fr;obtain⟨G,m⟩:=f.EX (c':=.od (fD z.2.1 z.2.2 ky t).1 (fD z.2.1 z.2.2 ky t).2) Z m1 o1 ⟨l,RD,J,o1,ah,e2,e3⟩;rw[gc (ai h5) C];refine⟨l,_,J,.k R ?_,?_⟩
 .rw[nk,bX,ew]
  have:z.2.1.length<1000000:=L
  lia
 .rw[c]
  exact k σ g3 _ (((I.trans d).trans a).trans G) m
def MO{neg:Bool}(r:B.cn[n]?=Y):∀σ H Q,tE B (sA n neg fa fo) σ H Q->NW (RC neg) (tE B fa) (tE B fo) σ H Q:=by
 rintro σ H Q ⟨g,s,t,s',x,h,k⟩
 revert h;refine aao λe b D=>aao λty f C=>aan λz A=>aan λG y=>λh=>?_;cases h;obtain⟨c,m1⟩:=gK<|ai A;dsimp only at c;subst c;refine⟨g,s,e,b,x,D,λv g1 H1 o d j=>⟨g1,b,_,f,d,C,λw g2 E m a i=>?_⟩⟩;obtain⟨l,rfl,u⟩:=i;obtain⟨Z,l1,vs,q1,o1,q,p,F⟩:=a.k7 r m1 u;cases q1;rw[gc (ai y) j];refine⟨l,_,J,.k q,?_⟩;rw[oF p];exact k _ g2 E (o.trans m) a J
def PD{op:oa}{neg:Bool}{b:Nat}(f:B.cn[n]?=Y)(hr:bL b X.A)(d:qO op=U neg)(g:PE X a<|tE B fa)(c:PE X o<|tE B fo)(e:ff op o=Zb):PE X (.Compare a [op] [o] pos)<|tE B<|sA n neg fa fo:=
 aM (mP (kh (by have:=hr.units;lia) d) g c e)<|MO f
def PF{op:oa}{neg:Bool}{b:Nat}(f:B.cn[n]?=Y)(hr:bL b X.A)(d:qO op=U neg)(g:PE X a<|tE B fa)(c:PE X o<|tE B fo)(e:ff op o=Zb):PT X (.Compare a [op] [o] pos)<|tT B<|b9<|sA n neg fa fo:=
 vf (mQ (kh (by have:=hr.units;lia) d) g c e) λσ H Q q=>MO f σ H _<|zx q
theorem mU{al:BM}{HF:Hp}{k:Ky}:∀{ks:List Ky}{ts:FC}{vs:List V},ks.length=vs.length->au B al HF ts vs->(∀t,fm ks ts k=U t->∃v,i_ ((ks.map jb).zip vs) (jb k)=U v/\Rep B al HF t v)/\(fm ks ts k=Y->i_ ((ks.map jb).zip vs) (jb k)=Y)
 |[],ts,[],_,r=>by
  refine⟨λt h=>?_,λ_=>J⟩;cases ts<;>cases h
 |[],_,_::_,h,_=>by cases h
 |q::ks,_,[],h,_=>by cases h
 |q::ks,[],u::vs,h,r=>by cases(show u::vs=[]from r)
 |q::ks,t::ts,u::vs,h,r=>by
  obtain⟨d,g,e,b,c⟩:=r;cases e;rw[dG,nj];by_cases e:q=k
  .rw[gD (p:=(jb q,u))<|by rw[e]]
   refine⟨λf a=>?_,λa=>?_⟩
   .rw[fm,bt e]at a
    cases a;exact⟨u,J,b⟩
   .rw[fm,bt e]at a;cases a
  .rw[gE (p:=(jb q,u)) λz=>e<|sf z,fm,ag e]
   exact mU (pL.inj h) c
def Vi{u:Nat}(G:B.cn[n]?=Y)(hr:bL u X.A)(D:PE X o<|tE B fo)(I:PE X b<|tE B fb)(C:Ov b):PE X (.Subscript o b pos)<|tE B<|BU n fo fb:=by
 refine aM (zc (by have:=hr.units;lia) D I C) λσ H Q z=>?_
 obtain⟨g,s,t,s',x,h,k⟩:=z;revert h;refine aao λT c R=>aao λty i P=>aan λz N=>aan λky M=>aan λV L=>λh=>?_;cases h;obtain⟨e,m1⟩:=gK<|ai N;dsimp only at e;subst e;refine⟨g,s,_,c,x,R,λv g1 H1 r f q=>⟨g1,c,ty,i,f,P,λw g2 S d a p=>?_⟩⟩;obtain⟨l,rfl,K⟩:=q;obtain⟨Z,l1,vs,q1,o1,F,E,m⟩:=a.k7 G m1<|cZ d.pre K;cases q1;obtain⟨v,y,j⟩:=(mU (k:=ky) E m).1 _<|ai L;rw[gc (ai M) p];exact⟨l,v,J,y▸.k F,k v g2 S (r.trans d) a j⟩
def Vj{T:Nat}(C:B.cn[n]?=Y)(hr:bL T X.A)(W:PE X o<|tE B fo)(hb:PE X b<|tE B fb)(hd:PE X f<|tE B fc)(m:M2 X o "get" bo b f bF):PE X (.Call (.Attribute o "get" bo) [b,f] [] bF)<|tE B<|sC n fo fb fc:=by
 refine aM (DX (by have:=hr.units;lia) W hb hd m) λσ H Q z=>?_
 obtain⟨g,s,t,s',x,h,k⟩:=z;revert h;refine aao λtx r h1=>aan λz0 h2=>aao λty q h3=>aao λI L h4=>aan λz h5=>aan λky h6=>λh=>?_;cases h;obtain⟨D,m1⟩:=gK<|ai h2;obtain⟨a,m2⟩:=gK<|ai h5;dsimp only at D a;subst D;refine⟨g,s,_,r,x,h1,λv g1 H1 u p S=>?_⟩;obtain⟨l,rfl,j⟩:=S;obtain⟨Z1,l1,G,q1,o1,Zj,_⟩:=p.k7 C m1 j;cases q1;refine⟨l,J,.inl ⟨_,.inl Zj⟩,g1,r,ty,q,p,h3,λw g2 H2 i F R=>⟨g2,q,I,L,F,h4,λy g3 E d c P=>?_⟩⟩;have ek:z.1=z0.1:=by injection a with a;exact a.symm
 rw[<- ek]at j;obtain⟨Z,l2,vs,q2,o2,hh,hl,N⟩:=c.k7 C m2<|cZ d.pre<|cZ i.pre j;cases q2;rw[gc (ai h6) R];obtain⟨g4,g5⟩:=mU (k:=ky) hl N;refine⟨_,.k hh,?_⟩;cases e:fm z.2.1 z.2.2 ky with
 |none=>rw[e]at k;rw[g5 e];exact k _ g3 E ((u.trans i).trans d) c P
 |some K=>
  rw[e]at k;obtain⟨v,V,M⟩:=g4 K e;rw[V];exact k _ g3 E ((u.trans i).trans d) c M
end
section
variable{m:FR}{j:Nat}{ob:Ob}{c c':C}{a Q dx:cw}{ns:Bi}{vs:List V}{w:V}
def fT.one(x:fT B g H m)(F:m[k]?=U ob)(Z:Co B g H k ob a Q dx ns vs)(t:vs[j]?=U w)(sub:aK g'.HF H')(live:∀b p,g'.o b=U p->g'.HF b=Y/\∃u,H' b=U u)(fr:aK g.HF g'.HF)(A:g'.al=g.al)
  (r:∀l p,g.o l=U p->p≠.fld k j->(∀i,p≠.loc i)->g'.o l=U p/\H' l=H l) (q:bu B g' H' (.fld k j) c' w):fT B g' H'<|m.set k ⟨ob.c,ob.fs.set j c'⟩:=by
 have pre:g.al <+: g'.al:=by rw[A];exact fh
 refine⟨sub,live,by rw[eU,A];exact x.len,λs C e=>?_⟩
 by_cases p9:k=s
 .subst p9
  rw[dQ (du.mp F).1]at e;cases e;obtain⟨D,K⟩:=r a _ Z.o (λz=>by cases z) (λi z=>by cases z)
  refine .inl ⟨a,Q,dx,ns,vs,cZ pre Z.al,D,Z.cl,K.trans Z.h,Z.le,by rw[eU];exact Z.ln,λn d e=>?_⟩
  by_cases hj:j=n
  .subst hj
   have E:j<ob.fs.length:=by rw[<- Z.ln];exact(du.mp t).1
   have e:(ob.fs.set j c')[j]?=U d:=e;rw[dQ E]at e;cases e;exact⟨w,t,q⟩
  .have e:(ob.fs.set j c')[n]?=U d:=e
   rw[cJ hj]at e;obtain⟨v,I,G⟩:=Z.f n d e;exact⟨v,I,G.mv fr pre λl z=>r l _ z (λz=>hj<|by cases z;rfl) (λi z=>by cases z)⟩
 .rw[cJ p9]at e
  refine(x.at_ s C e).mv fr pre λl p h y=>r l p h ?_ ?_
  .rcases y with rfl|⟨n,rfl⟩
   .exact λz=>by cases z
   .exact λz=>p9 (by cases z;rfl)
  .rcases y with rfl|⟨n,rfl⟩
   .exact λi z=>by cases z
   .exact λi z=>by cases z
end
def ie(tab:Ap)(f:Nat)(m:FR):T->Option (Nat×Ob×Nat×C)
 |.own k=>(m[k]?).bind λob=>(gW tab ob.c f).bind λj=>(ob.fs[j]?).map λc=>(k,ob,j,c)
 |_=>Y
def EY(m:FR)(z:Nat×Ob×Nat×C)(c:C):FR:=m.set z.1 ⟨z.2.1.c,z.2.1.fs.set z.2.2.1 c⟩
def Ji:C->FK
 |.ol ts=>U<|.lst ts
 |.od ks ts=>U<|.cC ks ts
 |_=>Y
def jB(n:Nat)(tab:Ap)(f:Nat)(a:FE):FE:=λs=>(a s).bind λp=>(aW<|ie tab f p.2.m p.1).bind λz=>match z.2.2.2 with
 |.val t=>(match p_ n p.2.m t with
  |some y=>(aW<|Ji y.2).bind λu=>.ok (u,{p.2 with m:=EY (p.2.m.set y.1 ⟨n,[]⟩) z (.val u)})
  |none=>.ok (t,p.2))
 |_=>.bad
def vB(tab:Ap)(f:Nat)(gg:T->T->FK)(o a:FE):FS:=λs=>(o s).bind λp=>(aW<|ie tab f p.2.m p.1).bind λz=>match z.2.2.2 with
 |.val t=>(a p.2).bind λq=>(aW<|ie tab f q.2.m p.1).bind λy=>(aW<|gd (y.2.1.c=z.2.1.c) ()).bind λ_=>(aW<|gg t q.1).bind λu=>.ok (.nx,{q.2 with m:=EY q.2.m y (.val u)})
 |_=>.bad
section
def SR.Jj(E:mC X.K X.mg P){f:Nat}{n:Str}(p:P.an[f]?=U n)(x:SR (P.kt X) g H σ s){t:T}{z:Nat×Ob×Nat×C}(h:ie P.tab f s.m t=U z){v:V}(r:Rep (P.kt X) g.al g.HF t v) :
  ∃a b dx ns vs w,v=.ref a/\Co (P.kt X) g H z.1 z.2.1 a b dx ns vs/\s.m[z.1]?=U z.2.1/\vs[z.2.2.1]?=U w/\bu (P.kt X) g H (.fld z.1 z.2.2.1) z.2.2.2 w/\pP X.K b/\eG X.K b n/\(ns.zip vs).lookup n=U w:=by
 cases t<;>try(cases h;done)
 rename_i k;obtain⟨ob,i,h⟩:=dI.mp<|show(s.m[k]?).bind _=U z from h;revert h;refine aak λj e=>λh=>?_;obtain⟨c,y,rfl⟩:=bD.mp h;obtain⟨a,rfl,u⟩:=r;rcases x.st.at_ k ob i with⟨A,b,dx,ns,vs,Z⟩|⟨A,Z⟩
 case inr=>
  obtain⟨l,q,_⟩:=dI.mp e;have z:(P.tab.map _)[ob.c]?=Y:=Z.nf;rw[dH,q]at z;cases z
 have:=Z.al.symm.trans u
 cases this;obtain⟨B,D,o,F⟩:=E.of Z.cl;have hj:=mT p o e;obtain⟨w,d,sl⟩:=Z.f j c y;exact⟨a,b,dx,ns,vs,w,J,Z,i,d,sl,F.cl,F.na _<|dh hj,by rw[gX F.nd hj,d]⟩
def SR.Vk{l:cw}{c:C}{u:HO}(x:SR B g H σ s)(Z:Xd B g H k ⟨n,[c]⟩ l)(G:s.m[k]?=U ⟨n,[c]⟩)(f:g.o l=U (.ob k)) :
  eQ g H (g.f9 l u) (upd H l u)/\SR B (g.f9 l u) (upd H l u) σ {s with m:=s.m.set k ⟨n,[]⟩}:=by
 have y:=(x.st.live l _ f).1;have ne:∀b p,g.o b=U p->p≠.ob k->(g.f9 l u).o b=U p:=λb p a r=>by
  have:b≠l:=λe=>r (by rw[e,f]at a;cases a;rfl)
  show(if b=l then Y else g.o b)=_
  rw[ag this];exact a
 refine⟨rR f y,⟨⟨λb w e=>?_,λb q e=>?_,by show(s.m.set k _).length=_;rw[eU];exact x.st.len,λt E e=>?_⟩,x.lc.len,λi d e=>?_⟩⟩
 .have e:upd g.HF l u b=U w:=e
  by_cases a:b=l
  .subst a;rw[ah]at e ⊢;exact e
  .rw[ak a]at e ⊢;exact x.sub _ _ e
 .have e:(if b=l then Y else g.o b)=U q:=e
  by_cases a:b=l
  .rw[bt a]at e;cases e
  .rw[ag a]at e
   obtain⟨D,A⟩:=x.st.live b q e;exact⟨by show upd g.HF l u b=Y;rw[ak a];exact D,by rw[ak a];exact A⟩
 .have e:(s.m.set k ⟨n,[]⟩)[t]?=U E:=e
  by_cases p9:k=t
  .subst p9
   rw[dQ (du.mp G).1]at e;cases e;exact .inr ⟨l,Z.al,Z.nc,Z.nf,λd z=>by cases z⟩
  .rw[cJ p9]at e
   refine(x.st.at_ t E e).mv (g':=g.f9 l u) (aY y) fh λb q h F=>?_;have r:q≠.ob k:=by
    rcases F with rfl|⟨j,rfl⟩
    .exact λz=>p9 (by cases z;rfl)
    .exact λz=>by cases z
   exact⟨ne b q h r,ak λz=>r<|by rw[z,f]at h;cases h;rfl⟩
 .obtain⟨v,D,A⟩:=x.lc.at_ i d e
  exact⟨v,D,nV (q:=.loc i) f y (λz=>by cases z) A⟩
def SR.Zk{z:Nat×Ob×Nat×C}{c':C}{a d dx:cw}{ns:Bi}{vs:List V}{w:V}(x:SR B g H σ s)(c:s.m[z.1]?=U z.2.1)(Z:Co B g H z.1 z.2.1 a d dx ns vs)(b:vs[z.2.2.1]?=U w)(q:bu B g H (.fld z.1 z.2.2.1) c' w):SR B g H σ {s with m:=EY s.m z c'}:=
 ⟨x.st.one c Z b x.st.sub x.st.live (aK.refl _) J (λ_ _ h _ _=>⟨h,J⟩) q,x.lc⟩
def qP{tab:Ap}{f:Nat}{m:FR}{t:T}{z:Nat×Ob×Nat×C}(h:ie tab f m t=U z):t=.own z.1/\m[z.1]?=U z.2.1/\gW tab z.2.1.c f=U z.2.2.1/\z.2.1.fs[z.2.2.1]?=U z.2.2.2:=by
 cases t<;>try(cases h;done)
 rename_i k;obtain⟨ob,d,h⟩:=dI.mp<|show(m[k]?).bind _=U z from h;revert h;refine aak λj b=>λh=>?_;obtain⟨c,a,rfl⟩:=bD.mp h;exact⟨J,d,b,a⟩
def z7{l:cw}{c:C}{u:T}(h:Ji c=U u)(q:bu B g H (.ob k) c<|.ref l)(f:g.HF l=Y):g.o l=U (.ob k)/\Rl H λH'=>∃a,H'=upd H l a/\Rep B (g.f9 l a).al (g.f9 l a).HF u (.ref l):=by
 cases c<;>try(cases h;done)
 .cases h
  obtain⟨i,vs,e,b,d,r⟩:=q;cases e;exact⟨b,.inl ⟨_,(D6 d).symm,l,vs,J,ah,r.mv fh<|aY f⟩⟩
 .cases h
  obtain⟨i,vs,e,b,d,j,r⟩:=q;cases e;exact⟨b,.inr ⟨l,_,d,λob=>⟨_,J,l,vs,J,⟨ob,ah⟩,j,r.mv fh<|aY f⟩⟩⟩
def PH(q0:mC X.K X.mg P){f:Nat}{R:Str}(V:P.cn[n]?=Y)(T:P.an[f]?=U R)(he:PE X e<|tE (P.kt X) fa)(o:aT e=O):PE X (.Attribute e R pos)<|tE (P.kt X)<|jB n P.tab f fa:=by
 refine aM (Mq<|Dy he<|ee o) λσ H Q z=>?_;obtain⟨g,s,t,s',x,h,k⟩:=z;revert h;refine aao λtx d h1=>aan λz h2=>λh=>?_;have S:=ai h2;refine⟨g,s,_,d,x,h1,λv g1 H1 N b M=>?_⟩;obtain⟨a,Ca,dx,ns,vs,w,rfl,Z,hk,hw,sl,cl,na,lk⟩:=b.Jj q0 T S M;refine⟨a,Ca,dx,_,w,J,Z.h,cl,na,lk,?_⟩;obtain⟨A,ob,j,c⟩:=z;cases c<;>try(cases h;done)
 rename_i tv;dsimp only at h;cases o:p_ n d.m tv with
 |none=>
  rw[o]at h;cases h;exact .inl<|k w g1 H1 N b sl
 |some y=>
  rw[o]at h;revert h;refine aan λu B=>λh=>?_;cases h;obtain⟨p,m1⟩:=kj o;subst p;obtain⟨l,rfl,W⟩:=sl;obtain⟨ZB,C⟩:=b.k7 V m1 W;have Zl:g1.HF l=Y:=by
   have B:=ai B;obtain⟨kb,cb⟩:=y;cases cb<;>try(cases B;done)
   .obtain⟨D,_,e,i,_⟩:=C
    cases e;exact(b.st.live l _ i).1
   .obtain⟨D,_,e,i,_⟩:=C
    cases e;exact(b.st.live l _ i).1
  obtain⟨i,rl⟩:=z7 (ai B) C Zl;refine rl.imp λH2 zz=>?_;obtain⟨hu,rfl,L⟩:=zz;obtain⟨r,I⟩:=b.Vk (u:=hu) ZB m1 i;obtain⟨e0,p,G,e3⟩:=qP S;dsimp only at e0 p G e3;have p9:y.1≠A:=λz=>by
   rw[z,p]at m1;cases m1;obtain⟨l,q,_⟩:=dI.mp G;obtain⟨mm,q2,_⟩:=Z.cl;rw[V]at q2;cases q2
  have xN:(d.m.set y.1 ⟨n,[]⟩)[A]?=U ob:=by rw[cJ p9];exact p
  have Zm:ie P.tab f (d.m.set y.1 ⟨n,[]⟩) tx=U (A,ob,j,.val<|.own y.1):=by
   rw[e0];show((d.m.set y.1 ⟨n,[]⟩)[A]?).bind _=_;rw[xN];show(gW P.tab ob.c f).bind _=_;rw[G];show(ob.fs[j]?).map _=_;rw[e3];rfl
  obtain⟨a',Ca',WW,D5,fM,w',e4,Z',F,E,WC,_⟩:=I.Jj q0 T Zm<|M.mv r.pre r.fr;obtain⟨D,e5,W3⟩:=WC
  have:l=D:=by
   have q:=cZ r.pre W;rw[q]at W3;exact kL.inj W3
  subst this;subst e5;exact k _ _ _ (N.trans r) (I.Zk F Z' E (c':=.val _) L) L
def BV{t u w:T}(h:iN t u=U w):∃i j,t=.int i/\u=.int j/\w=.int (i+j):=by
 cases t<;>first|(cases h;done)|(cases u<;>first|(cases h;done)|(cases h;exact⟨_,_,J,J,J⟩))
def Vl(q0:mC X.K X.mg P){f:Nat}{E:Str}(m:P.an[f]?=U E)(ho:PE X o<|tE (P.kt X) fo)(he:PE X e<|tE (P.kt X) fa):PS X (.AugAssign (.Attribute o E cz) .Add e pos)<|tS (P.kt X)<|vB P.tab f iN fo fa:=by
 refine c_ (Bs ho he N8) λD σ H z=>?_;obtain⟨g,s,oo,s',x,h,k⟩:=z;revert h;refine aao λtx B h1=>aan λz h2=>λh=>?_;have W:=ai h2;refine⟨g,s,_,B,x,h1,λv g1 H1 R A C=>?_⟩;obtain⟨a,Ca,dx,ns,vs,w,rfl,Z,hk,hw,sl,cl,na,T⟩:=A.Jj q0 m W C;refine⟨a,Ca,dx,_,w,J,Z.h,cl,na,T,?_⟩;obtain⟨k0,ob,j,c⟩:=z;cases c<;>try(cases h;done)
 rename_i tv;revert h;refine aao λty M h3=>aan λy h4=>aan λ_ h5=>λh=>?_;obtain⟨r,_⟩:=aX<|ai h5;revert h;refine aan λu n=>λh=>?_;cases h;have n:=ai n;obtain⟨i,d,rfl,rfl,rfl⟩:=BV n;cases(show w=V.int i from sl);refine⟨g1,B,_,M,A,h3,λw2 g2 H2 l t N=>?_⟩;cases(show w2=V.int d from N);refine⟨_,_,J,J,?_⟩;have G:=ai h4;obtain⟨a2,Ca2,p,S,RD,w3,e4,q,xN,hw2,_,_⟩:=t.Jj q0 m G<|C.mv l.pre l.fr;cases e4;obtain⟨k2,b,F,c2⟩:=y;have r:b.c=ob.c:=r;have I:=q.cl;rw[r]at I;obtain⟨rfl,rfl⟩:=I.eq Z.cl;obtain⟨e0,e1,e2,e3⟩:=qP G;have hp:dY P.tab f (.val<|.int<|i+d) b=U ⟨b.c,b.fs.set F<|.val<|.int<|i+d⟩:=by
  unfold dY;rw[e2];show(setAt b.fs F _).map _=_;unfold setAt;rw[bt (du.mp e3).1];rfl
 obtain⟨_,_,hl,fM,e5,Q,L⟩:=zN q0 m t q e1 hp (v:=.int<|i+d) λj=>J;refine⟨p,_,q.h,hl,?_⟩;rw[e5];exact k σ g2 _ ((R.trans l).trans Q) L
end
def Xi(c:FT)(a b:FL):FL:=λs=>(c s).bind λp=>if p.1 then a p.2 else b p.2
def Zn:T->Fs
 |.tup ts=>U ts
 |.lst ts=>U ts
 |_=>Y
def o1(g:T->Fs)(a:FE):FL:=λs=>(a s).bind λp=>(aW<|g p.1).bind λts=>.ok (ts,p.2)
def EZ:T->T->Fs
 |.lst a,.int k=>gd (k<1000000/\-1000000<k/\a.length*k.toNat<=1000000) (dN k.toNat a).flatten
 |_,_=>Y
def o2(g:T->T->Fs)(a b:FE):FL:=λs=>(a s).bind λp=>(b p.2).bind λq=>(aW<|g p.1 q.1).bind λts=>.ok (ts,q.2)
def BW:T->Fs
 |.int j=>gd (0<=j/\j<1000000)<|lW 0 j.toNat
 |_=>Y
def BY:FC->Fs
 |[.int i,.int j,.int k]=>gd (j=-1/\k=-1/\-1<=i/\i<1000000)<|(bZ (i+1).toNat).map λk=>.int<|i-(k:Nat)
 |_=>Y
def PJ:T->Fs
 |.lst ts=>U ts.reverse
 |_=>Y
def isSlice:de->Bool
 |.Slice _ _ _ _=>O
 |_=>Zb
def MP(i:Nat)(b a:FE):FS:=λs=>match Vg i s with
 |true=>dJ i b a s
 |false=>MM i b a s
section
variable{gl:FL}{v:FT}
def Vm(p:PT X c<|tT B v)(r:PE X a<|tO B fl)(q:PE X b<|tO B gl):PE X (.IfExp c a b pos)<|tO B<|Xi v fl gl:=aM (uO p r q) λσ H Q z=>by
 obtain⟨g,s,t,s',x,h,k⟩:=z;revert h;refine aao λd i u=>λh=>?_;refine⟨g,s,d,i,x,u,λg1 H1 e o=>?_⟩;cases d with
 |true=>exact uY ⟨g1,i,_,_,o,h,λl vs g2 n j f m=>k l vs g2 n (e.trans j) f<|e.there l m⟩
 |false=>exact uX ⟨g1,i,_,_,o,h,λl vs g2 n j f m=>k l vs g2 n (e.trans j) f<|e.there l m⟩
def Vn(F:B.K=X.K)(C:X.mg "list" = Y)(D:Gl X "list")(E:PE X a<|tE B fa)(m:noStar a=O):PE X (.Call (.Name "list" p) [a] [] pos)<|tO B<|o1 Zn fa:=by
 refine aM (gB gT D C uH (aR E bU<|ao m) (by decide) (by decide) (ao m) J) λσ H Q z=>?_
 obtain⟨g,s,t,s',x,h,k⟩:=z;revert h;refine aao λf w G=>aan λts e=>λh=>?_;cases h;have e:=ai e;refine⟨g,s,f,w,x,G,λv g1 H1 j d i=>?_⟩;have c:∀{b:List V},au B g1.al g1.HF t b->∀l,H1 l=Y->Q (.ref l) (upd H1 l<|.lst b):=λ{b} r l n=>by
  obtain⟨o,A,y⟩:=nT (u:=.lst b) d n;exact k l b _ _ (j.trans<|d.gb o) (d.grow o) (j.there l n) A y ah r
 cases f<;>try(cases e;done)
 .cases e
  obtain⟨l,b,rfl,q,r⟩:=i;exact⟨l,b,J,.inr<|F▸b8 d.sub q,c r⟩
 .cases e
  obtain⟨l,b,rfl,q,r⟩:=i;exact⟨l,b,J,.inl<|c9.of<|d.sub _ _ q,c r⟩
def PK(K:PE X a<|tE B fa)(I:PE X b<|tE B fb):PE X (.BinOp a .Mult b pos)<|tO B<|o2 EZ fa fb:=by
 refine aM (nB DO K I) λσ H Q z=>?_;obtain⟨g,s,t,s',x,h,k⟩:=z;revert h;refine aao λj m M=>aao λty C L=>aan λts d=>λh=>?_;cases h;have d:=ai d;refine⟨g,s,j,m,x,M,λv g1 H1 n A E=>⟨g1,m,ty,C,A,L,λw g2 N f e D=>?_⟩⟩;cases j<;>first|(cases d;done)|(cases ty<;>try(cases d;done))
 obtain⟨c,rfl⟩:=aX d;obtain⟨l,i,rfl,q,r⟩:=E.mv f.pre f.fr;refine⟨l,_,i,J,D,e.sub _ _ q,by lia,by lia,by rw[<- r.len,ew];lia,λp o=>?_⟩
 obtain⟨y,G,F⟩:=nT (u:=.lst (dN _ i).flatten) e o;exact k p _ _ _ ((n.trans f).trans<|e.gb y) (e.grow y) (n.there p<|f.there p o) G F ah<|r.flat _
def Jk{t:T}{ts:FC}(h:BW t=U ts):∃j,t=.int j/\(0<=j/\j<1000000)/\ts=lW 0 j.toNat:=by
 cases t<;>try(cases h;done)
 obtain⟨c,rfl⟩:=aX h;exact⟨_,J,c,J⟩
def MQ(K:X.calm=O)(n:X.mg "list" = Y)(m:X.mg "range" = Y)(r:Gl X "list")(o:Gl X "range")(L:PE X a<|tE B fa){b D:Pos}(y:noStar a=O) :
  PE X (.Call (.Name "list" p) [.Call (.Name "range" b) [a] [] D] [] pos)<|tO B<|o1 BW fa:=by
 refine aM (gB (pU K) r n uH (aR (gB BC o m PyProof.Rows.boot_range (aR L bU<|ao y) (by decide) (by decide) (ao y) J) bU<|ao J) (by decide) (by decide) (ao J) J) λσ H Q z=>?_
 obtain⟨g,s,t,s',x,h,k⟩:=z;revert h;refine aao λR C M=>aan λts w=>λh=>?_;cases h;have w:=ai w;obtain⟨j,rfl,c,rfl⟩:=Jk w;refine⟨g,s,_,C,x,M,λv g1 H1 b i E=>?_⟩;cases E;refine⟨j,J,λq I=>⟨q,j,J,ah,c.1,by lia,λl d=>?_⟩⟩
 obtain⟨A,T,S⟩:=nT (u:=.lW 0 j) i I;have f:=i.grow A;obtain⟨Ś,G,F⟩:=nT (u:=.lst<|(bZ j.toNat).map λk=>V.int (k:Nat)) f d;have P:l≠q:=(aA ah d).symm;have N:H1 l=Y:=by rw[ak P]at d;exact d
 have e:((bZ j.toNat).map λk=>V.int (k:Nat))=(bZ j.toNat).map λk=>V.int<|0+((k:Nat):Int):=by
  apply uh;intro k _;rw[uG]
 refine k l _ _ _ ((b.trans<|i.gb A).trans<|f.gb Ś) (f.grow Ś) (b.there l N) G F ah ?_;rw[e];exact au.lW 0 _
theorem au.rev{al:BM}{H:Hp}:∀{ts:FC}{vs:List V},au B al H ts vs->au B al H ts.reverse vs.reverse
 |[],_,h=>by have h:_=[]:=h;subst h;rfl
 |t::ts,_,h=>by
  obtain⟨v,r,rfl,b,a⟩:=h;rw[C4,C4];exact a.rev.app<|.one b
def Jl{a b c:T}{ts:FC}(h:BY [a,b,c]=U ts):∃i,a=.int i/\b=.int (-1)/\c=.int (-1)/\-1<=i/\i<1000000/\ts=(bZ (i+1).toNat).map λk=>.int<|i-(k:Nat):=by
 cases a<;>first|(cases h;done)|(cases b<;>first|(cases h;done)|(cases c<;>try(cases h;done)))
 obtain⟨⟨rfl,rfl,e,d⟩,rfl⟩:=aX h;exact⟨_,J,J,J,e,d,J⟩
def PL(F:Gl X "range")(E:X.mg "range" = Y)(K:PE X a<|tE B fa)(I:PE X b<|tE B fb)(G:PE X c<|tE B fc)(j:[a,b,c].all noStar=O):PI X tg (.Call (.Name "range" p) [a,b,c] [] pos)<|tI B<|ze BY<|bH fa<|bH fb<|bH fc cj:=by
 simp only[fG,Lz,yI,dj]at j;obtain⟨k1,k2,k3⟩:=j;have Q:dy [c] X.env=[(Zb,e6 c X.env)]:=ao k3;have l:dy [b,c] X.env=[(Zb,e6 b X.env),(Zb,e6 c X.env)]:=by rw[ao k2,Q]
 have S:dy [a,b,c] X.env=[(Zb,e6 a X.env),(Zb,e6 b X.env),(Zb,e6 c X.env)]:=by rw[ao k1,l]
 refine jW (Io F E (aR K (aR I (aR G bU<|ao k3)<|ao k2)<|ao k1) S l) λσ H R z=>?_;obtain⟨g,s,t,s',x,h,k⟩:=z;revert h;refine aao λts s1 f=>aan λV P=>λh=>?_;cases h;revert f;refine aao λZ s2 N=>aao λty s3 e=>λf=>?_;cases f;revert e;refine aao λW s4 M=>aao λtw s5 d=>λe=>?_;cases e;revert d;refine aao λtv s6 L=>λd=>?_;cases d;obtain⟨i,rfl,rfl,rfl,l1,l2,rfl⟩:=Jl<|ai P;refine⟨g,s,_,_,x,N,λv g1 H1 D o y=>⟨g1,_,_,_,o,M,λw g2 H2 C n r=>⟨g2,_,_,_,n,L,λu g3 T A m q=>?_⟩⟩⟩;cases y;cases r;cases q;exact⟨_,J,l1,by lia,k _ g3 T ((D.trans C).trans A) m<|kc (ED _ _)<|au.dwn _ _⟩
def Vo(D:Gl X "reversed")(C:X.mg "reversed" = Y)(E:PE X a<|tE B fa)(A:noStar a=O):PI X tg (.Call (.Name "reversed" p) [a] [] pos)<|tI B<|o1 PJ fa:=by
 have f:dy [a] X.env=[(Zb,e6 a X.env)]:=ao A;refine jW (Ol D C (aR E bU f) f) λσ H R z=>?_;obtain⟨g,s,t,s',x,h,k⟩:=z;revert h;refine aao λj b F=>aan λts c=>λh=>?_;cases h;have c:=ai c;cases j<;>try(cases c;done)
 cases c;refine⟨g,s,_,b,x,F,λv g1 H1 w d u=>?_⟩;obtain⟨l,vs,rfl,q,r⟩:=u;refine⟨l,vs,J,c9.of<|d.sub _ _ q,k _ g1 H1 w d ⟨λi H1 b hi=>?_,λi H1 x L b hi y=>?_,λi H1 b hi=>?_⟩⟩
 .rw[wN,r.len]at hi
  exact⟨hi,c9.of<|b _ _ q⟩
 .rw[wN,r.len]at hi
  obtain⟨rfl,e⟩:=y;have K:vs.reverse[i]?=U x:=by rw[C5 hi];exact e
  obtain⟨t,I,G⟩:=r.rev.vd K;exact⟨t,I,λo n m=>⟨o,.refl m,G.same n⟩⟩
 .rw[wN,r.len]at hi
  exact hi
def Vp{n m:Pos}(M:PE X b<|tE B fb)(he:PE X e<|tE B fa)(P:X.N[i]?=U y)(K:uM X.env.scope y)(hd:cy y)(I:i7 y)(L:fI e (U<|.Subscript (.Name y n) b m) pos.line X.env=pure Zb)(UA:isSlice b=Zb) :
  PS X (.Assign [.Subscript (.Name y n) b m] e pos)<|tS B<|dJ i fb fa:=by
 refine c_ (Dr he (NQ (fj P K hd I) M set_list λv=>?_) L J J) λD σ H z=>?_
 .cases b<;>first|rfl|(cases UA)
 obtain⟨g,s,oo,s',x,h,k⟩:=z;revert h;refine aao λt f W=>aan λMR V=>aao λtk w T=>aan λts S=>aan λj R=>aan λus Q=>λh=>?_;obtain⟨⟨q,z2⟩,rfl⟩:=aX<|ai Q;cases h;have Z:tk=.int j:=zy<|ai R;subst Z;refine⟨g,s,t,f,x,W,λv g1 H1 G d C=>?_⟩;obtain⟨l,vs,w1,w2,w3,w4⟩:=d.xH<|iW<|ai V;refine⟨_,w1,g1,f,_,w,d,T,λu g2 H2 a c A=>?_⟩;have o:=iW<|ai S;obtain⟨l',p,q1,q2,E,q4⟩:=c.xH o;rw[w1]at q1;cases q1;cases A;obtain⟨r,F⟩:=c.chg o w1<|q4.set (C.mv a.pre a.fr) j.toNat;have hl:ts.length=p.length:=q4.len;refine⟨l,p,j,j.toNat,J,J,E,?_,k σ g2 _ ((G.trans a).trans F) r⟩;unfold Ib;rw[bt q,bt<|by lia]
def Zo{c a:Pos}{k:Nat}(hr:bL k X.A)(n:PE X b<|tE B fb)(he:PE X e<|tE B fa)(o:X.N[i]?=U y)(j:uM X.env.scope y)(hd:cy y)(f:i7 y)(l:fI e (U<|.Subscript (.Name y c) b a) pos.line X.env=pure Zb)(q:isSlice b=Zb) :
  PS X (.Assign [.Subscript (.Name y c) b a] e pos)<|tS B<|MP i fb fa:=λp sh σ H D I z=>by
 obtain⟨g,s,d,s',x,h,k⟩:=z;unfold MP at h;cases m:Vg i s with
 |true=>
  rw[m]at h;exact Vp n he o j hd f l q p sh σ H D I ⟨g,s,d,s',x,h,k⟩
 |false=>
  rw[m]at h;exact PB hr he n o j hd f l p sh σ H D I ⟨g,s,d,s',x,h,k⟩
def BZ(i:Nat):FE:=λs=>match s.r[i]? with
 |U<|U<|.ol ts=>.ok (.int ts.length,s)
 |U<|U<|.val<|.lst ts=>.ok (.int ts.length,s)
 |_=>.bad
def PM(m:B.K=X.K){b:Pos}(j:X.N[i]?=U y)(d:uM X.env.scope y)(hd:cy y)(c:i7 y)(f:Gl X "len")(e:X.mg "len" = Y) :
  PE X (.Call (.Name "len" p) [.Name y b] [] pos)<|tE B<|BZ i:=by
 refine aM (dX nE f e td (aR (fj j d hd c) bU J) (he:=J) (hpl:=J)) λσ H Q z=>?_;obtain⟨g,s,t,s',x,h,k⟩:=z;unfold BZ at h;split at h
 .rename_i ts a
  cases h;obtain⟨l,vs,w1,w2,w3,w4⟩:=x.xH a;exact⟨_,w1,_,_,J,.inl ⟨vs,c9.of w3,w4.len⟩,k _ g H .refl x J⟩
 .rename_i ts a
  cases h;obtain⟨v,w1,l,vs,rfl,w3,w4⟩:=x.lc.at_ _ _ a;exact⟨_,w1,_,_,J,.inl ⟨vs,c9.of<|x.sub _ _ w3,w4.len⟩,k _ g H .refl x J⟩
 .cases h
end
def mV:de->Option Const
 |.Constant c _ _=>U c
 |_=>Y
def Zp:T->Bool
 |.cC _ _=>O
 |_=>Zb
section
def Vq{N:Nat}(S:B.K=X.K)(hr:bL N X.A)(o:PE X a<|tE B fa)(n:PE X b<|tE B fb)(m:iU b):PE X (.Subscript a b pos)<|tE B<|a_ u7 fa fb:=λy sh σ H Q I z=>by
 obtain⟨g,s,t,s',x,h,k⟩:=z;obtain⟨⟨c,d⟩,u,i⟩:=aa h;revert i;refine aao λty D r=>aan λZ p=>λi=>?_;cases i;cases hd:Zp c with
 |false=>
  refine OT S o n m y sh σ H Q I ⟨g,s,t,_,x,?_,k⟩;have e:jw c ty=u7 c ty:=by cases c<;>first|rfl|(cases hd)
  unfold a_;rw[u];show(fb d).bind _=_;rw[r];show(aW<|jw c ty).bind _=_;rw[e,p];rfl
 |true=>
  cases c<;>try(cases hd;done)
  obtain⟨ky,V,T⟩:=dI.mp<|ai p;refine zc (by have:=hr.units;lia) o n m y sh σ H Q I ⟨g,s,_,d,x,u,λv g1 H1 M C L=>⟨g1,d,ty,D,C,r,λw g2 W f j G=>?_⟩⟩
  obtain⟨l,vs,rfl,q,R,F⟩:=L.mv f.pre f.fr;obtain⟨v,P,E⟩:=(mU (k:=ky) R F).1 _ T;rw[gc V G];exact⟨l,v,J,P▸.inl ⟨_,_,(q.same j.sub).rd,J,J⟩,k v g2 W (M.trans f) j E⟩
def qQ{q}(h:mV e=U q):∃k p,e=.Constant q k p:=by
 cases e<;>first|(cases h;done)|(cases h;exact⟨_,_,J⟩)
end
def MS(n:Nat)(o:FE):FE:=λs=>(o s).bind λp=>(aW<|mD n p.2.m p.1).bind λz=>.ok (.int z.2.length,p.2)
def E1(n:Nat)(o:FE):FE:=λs=>(o s).bind λp=>(aW<|mD n p.2.m p.1).bind λz=>match z.2 with
 |t::ts=>.ok (t,setB n p.2 z.1<|.ol ts)
 |[]=>.bad
def Vr(n:Nat)(o:FE)(lo hi:FO):FE:=λs=>(o s).bind λp=>(lo p.2).bind λq=>(hi q.2).bind λw=>(aW<|mD n w.2.m p.1).bind λz=>.ok (.lst<|bM z.2 q.1 w.1,w.2)
section
variable{S T:Option de}{R:Pos}{V W:FO}
def PN(u:B.cn[n]?=Y)(j:PE X o<|tE B fo)(b:noStar o=O)(r:Gl X "len")(m:X.mg "len" = Y):PE X (.Call (.Name "len" p) [o] [] pos)<|tE B<|MS n fo:=by
 refine aM (dX nE r m td (aR j bU<|ao b) (he:=ao b) (hpl:=J)) λσ H Q z=>?_;obtain⟨g,s,t,s',x,h,k⟩:=z;revert h;refine aao λC d A=>aan λz y=>λh=>?_;cases h;obtain⟨c,m1⟩:=iO<|ai y;dsimp only at c;subst c;refine⟨g,s,_,d,x,A,λv g1 H1 i a f=>?_⟩;obtain⟨l,rfl,w⟩:=f;obtain⟨Z,l1,vs,q1,o1,q,e⟩:=a.k7 u m1 w;cases q1;exact⟨_,_,J,.inl ⟨vs,c9.of q,e.len⟩,k _ g1 H1 i a J⟩
def PQ{c:Nat}{kp:Pos}(A:B.cn[n]?=Y)(y:PE X o<|tE B fo)(C:aT o=O)(I:(bo.endLine == bF.line)=O):PE X (.Call (.Attribute o "pop" bo) [.Constant (.int 0) c kp] [] bF)<|tE B<|E1 n fo:=by
 refine aM (y9 oB PySem.F.slot_list_pop PySem.F.type_list_pop DN y (aR Dl bU J) (ee C) (qG J<|by decide) I J J) λσ H Q z=>?_
 obtain⟨g,s,t,s',x,h,k⟩:=z;revert h;refine aao λK m G=>aao λkb ts E=>λh=>?_;obtain⟨i,m1⟩:=iO<|ai E;dsimp only at i m1;subst i;dsimp only at h;cases ts with
 |nil=>cases h
 |cons t0 ts=>
  cases h;refine⟨g,s,_,m,x,G,λv g1 H1 w b p=>?_⟩;obtain⟨l,rfl,D⟩:=p;obtain⟨Z,l1,vs,q1,o1,e,a⟩:=b.k7 A m1 D;cases q1;obtain⟨d,f,rfl,q,a⟩:=a;refine⟨.inl ⟨J,_,c9.of e⟩,l,_,0,0,d,J,J,e,by decide,by decide,by simp[z4],J,?_⟩
  obtain⟨r,j⟩:=b.EX (c':=.ol ts) (u:=.lst f) Z m1 o1 ⟨l,f,J,o1,ah,a⟩;exact k d g1 _ (w.trans r) j q
def Vs(C:B.cn[n]?=Y)(y:PE X o<|tE B fo)(A:PO X S<|tP B V)(b:PO X T<|tP B W):PE X (.Subscript o (.Slice S T Y R) pos)<|tE B<|Vr n fo V W:=by
 refine aM (uU Uz y A b) λσ H Q z=>?_;obtain⟨g,s,t,s',x,h,k⟩:=z;revert h;refine aao λK e I=>aao λlo d G=>aao λhi L F=>aao λkb ts E=>λh=>?_;cases h;obtain⟨i,m1⟩:=iO<|ai E;dsimp only at i m1;subst i;refine⟨g,s,_,e,x,I,λv g1 H1 u m r=>⟨g1,e,_,d,m,G,λg2 N R j=>⟨g2,d,_,_,j,F,λg3 M f a=>?_⟩⟩⟩;obtain⟨l,rfl,D⟩:=r;obtain⟨Z,l1,vs,q1,o1,b,p⟩:=a.k7 C m1<|cZ f.pre<|cZ R.pre D;cases q1;refine .inr ⟨l,vs,J,c9.of b,λq w=>?_⟩;rw[rX];have c:=Gr.new (o:=.lst<|bM vs lo hi) a.sub w;exact k _ _ _ (((u.trans R).trans f).trans<|a.gb c) (a.grow c) ⟨q,_,J,ah,(p.cut _ _).same c.fr⟩
end
end D
namespace PySem
open Sem (wp)
section
variable{prog:ef}{w:dA}{A:eL}{E:ar->bh->Prop}{s:bh}{I:cw}{d g:BM}{G:Array xK->Array xK->Prop}{n:Nat}{P:Nat->ar->Prop}{St:Nat->bh->Prop}{T:String}
end
end PySem
namespace L2
open PySem PySem.Spec PyProof.Rows
section
variable{X:Cx}{a:de}{d:TE}{p g pos j:Pos}
end
end L2
namespace D
open PySem L2
def E2:FC->FK
 |[.int i,.int j]=>U<|.int<|if j > i then j else i
 |_=>Y
def Vt{X:Cx}:LN X E2 λxs H Q=>∃i j,xs=[.int i,.int j]/\Q (.int<|if j > i then j else i) H:=λB e al HF H xs t ts Q a r h k=>by
 match ts,h with
 |[.int i,.int j],h=>
  cases h;obtain⟨v,vs,rfl,c,r⟩:=r;obtain⟨w,d,rfl,b,r⟩:=r;cases r;cases c;cases b;exact⟨i,j,J,k _ HF H (.refl a) J⟩
section
variable{B:KT}{X:Cx}{a:de}{d:FE}{p g pos j:Pos}
end
def set_same{a:St}{i:Nat}{v:V}(h:a[i]?=U (U v)):a.set i (U v)=a:=by
 apply ug;intro j;by_cases hj:i=j
 .subst hj
  rw[dQ (du.mp h).1,h]
 .rw[cJ hj]
section
variable{B:KT}{X:Cx}{a b o:de}{pos p d:Pos}{g j:FE}{n i:Nat}{y:Str}
end
section
variable{B:KT}{X:Cx}{pos:Pos}{n:Nat}{d:de->FE}
end
end D
namespace Ts
open PySem PyProof.Rows
def km:Bool->ed->Array ed->Nat->Nat->Nat->StateT eh Sem (Option Nat):=sortPriv% PySem.Builtin.gallop
def E3:Array ed->Array ed->StateT eh Sem (Array ed):=sortPriv% PySem.Builtin.mergeLo
def E4:Array ed->Array ed->StateT eh Sem (Array ed):=sortPriv% PySem.Builtin.mergeHi
variable{prog:ef}{w:dA}{A:eL}{E:ar->bh->Prop}{s:bh}{κ:KeyKind}
abbrev kx(κ:KeyKind)(p:ed):κ.α:=(κ.keyOf p.1).getD κ.dflt
def Ky(κ:KeyKind)(p:ed):Prop:=∃a,κ.keyOf p.1=U a
def vC{st:eh}{x y:ed}{Q:Option Bool->eh->Prop}(i:κ.OneLt)(g:kindOf st=hV)(f:Ky κ x)(e:Ky κ y)(h:Q (U<|κ.blt (kx κ x)<|kx κ y) st) :
  wpS (da prog w) A E s (lt' x y) Q st:=by
 obtain⟨a,d⟩:=f;obtain⟨b,c⟩:=e;rw[lt'_eq];refine cq<|oe ?_;rw[g,keyLt'_oneType];refine cq<|rr<|y8<|i prog w A _ s _ _ a b d c ⟨J,?_⟩;unfold kx at h;rw[d,c]at h;exact cx h
def bq{st:eh}{arr:Array ed}{i:Nat}{p:ed}{Q:ed->eh->Prop}(h:arr[i]?=U p)(q:Q p st):wpS (da prog w) A E s (elem' arr i) Q st:=by
 rw[elem'_eq,h];exact cx q
def sD(κ:KeyKind)(left:Bool)(a x:ed):Bool:=if left=O then κ.blt (kx κ x) (kx κ a)else !κ.blt (kx κ a) (kx κ x)
structure Zq(κ:KeyKind)(left:Bool)(key:ed)(arr:Array ed)(base n:Nat)(bd:Nat->Bool):Prop where
 ky:Ky κ key
 el:∀i,i<n->∃x,arr[base+i]?=U x/\Ky κ x/\bd i=sD κ left key x
 mono:∀i j,i<=j->j<n->bd j=O->bd i=O
def sE{st:eh}{left:Bool}{a:ed}{arr:Array ed}{base n i:Nat}{bd:Nat->Bool}{Q:Option Bool->eh->Prop}(c:κ.OneLt)(b:kindOf st=hV)(B:Zq κ left a arr base n bd)
  (hi:i<n) (q:Q (U<|bd i) st):wpS (da prog w) A E s (elem' arr (base+i) >>= λx=>if left=O then lt' x a else lt' a x >>= λr=>pure<|r.map λx=>!x) Q st:=by
 obtain⟨x,f,d,e⟩:=B.el i hi;rw[e]at q;unfold sD at q;refine cq<|bq f ?_;cases left
 .exact cq<|vC c b B.ky d<|cx q
 .exact vC c b d B.ky q
abbrev C3(γ:Type):=Option γ×Nat×Nat
def sF{γ d:Type}{st:eh}{n lo hi:Nat}{bd:Nat->Bool}{Q:d->eh->Prop}{f:Nat->C3 γ->StateT eh Sem (ForInStep<|C3 γ)}{K:C3 γ->StateT eh Sem d}
  (mono:∀i j,i<=j->j<n->bd j=O->bd i=O) (g:∀i j,i<=j->j<n->bd i=Zb->bd j=Zb)
  (t:∀x l r,l<=r->r<=n->∀b,(if l ≥ r then b (.done (Y,l,r)) st else if bd (l+(r-l)/2)=O then b (.yield (Y,l+(r-l)/2+1,r)) st else b (.yield (Y,l,l+(r-l)/2)) st)->wpS (da prog w) A E s (f x (Y,l,r)) b st)
  (q:∀k,k<=n->(∀i,i<k->bd i=O)->(∀i,k<=i->i<n->bd i=Zb)->wpS (da prog w) A E s (K (Y,k,k)) Q st)
  (p:lo<=hi) (o:hi<=n) (m:∀i,i<lo->bd i=O) (h:∀i,hi<=i->i<n->bd i=Zb):wpS (da prog w) A E s (forIn [:n] ((Y,lo,hi):C3 γ) f >>= K) Q st:=by
 refine cq<|hQ (fw (I:=λx c a=>a=st/\∃l r,c=(Y,l,r)/\l<=r/\r<=n/\r-l<=n-x/\(∀i,i<l->bd i=O)/\(∀i,r<=i->i<n->bd i=Zb))
  (Q:=λc a=>a=st/\∃r,c=(Y,r,r)/\r<=n/\(∀i,i<r->bd i=O)/\(∀i,r<=i->i<n->bd i=Zb)) ?_ ?_ ⟨J,lo,hi,J,p,o,by lia,m,h⟩) ?_
 .rintro x c a _ u ⟨rfl,l,r,rfl,a1,a2,a3,a4,a5⟩
  refine t x l r a1 a2 _ ?_;by_cases hge:l ≥ r
  .rw[bt hge]
   have:l=r:=by lia
   subst this;exact⟨J,l,J,a2,a4,a5⟩
  .rw[ag hge]
   cases e:bd (l+(r-l)/2)
   .exact⟨J,l,l+(r-l)/2,J,by lia,by lia,by lia,a4,λi b1 b2=>g _ _ b1 b2 e⟩
   .exact⟨J,l+(r-l)/2+1,r,J,by lia,by lia,by lia,λi b1=>mono _ _ (by lia) (by lia) e,a5⟩
 .rintro c a ⟨rfl,l,r,rfl,a1,a2,a3,a4,a5⟩
  have:l=r:=by lia
  subst this;exact⟨J,l,J,a2,a4,a5⟩
 .rintro c a ⟨rfl,r,rfl,a2,a4,a5⟩
  exact q r a2 a4 a5
def fP{st:eh}{left:Bool}{e:ed}{arr:Array ed}{base n a:Nat}{bd:Nat->Bool}{Q:Option Nat->eh->Prop}(o:κ.OneLt)(m:kindOf st=hV)(B:Zq κ left e arr base n bd)
  (v:a<n) (q:∀k,k<=n->(∀i,i<k->bd i=O)->(∀i,k<=i->i<n->bd i=Zb)->Q (U k) st) :
  wpS (da prog w) A E s (km left e arr base n a) Q st:=by
 have g:∀i j,i<=j->j<n->bd i=Zb->bd j=Zb:=λi j C z t=>by
  cases h:bd j
  .rfl
  .rw[B.mono i j C z h]at t;cases t
 refine cq<|sE (i:=a) o m B v ?_;have fin:∀{x l r:Nat}{P:ForInStep (C3<|Option Nat)->eh->Prop},r<=n->(if l ≥ r then P (.done (Y,l,r)) st else if bd (l+(r-l)/2)=O then P (.yield (Y,l+(r-l)/2+1,r)) st else P (.yield (Y,l,l+(r-l)/2)) st) ->
   ∀{F:Option Bool->StateT eh Sem (ForInStep<|C3<|Option Nat)},(∀b,wpS (da prog w) A E s (F<|U b) P st=wpS (da prog w) A E s (if b=O then pure (.yield (Y,l+(r-l)/2+1,r))else pure (.yield (Y,l,l+(r-l)/2))) P st) ->
   wpS (da prog w) A E s (if l ≥ r then pure (.done (Y,l,r))else(elem' arr (base+(l+(r-l)/2)) >>= λx=>if left=O then lt' x e else lt' e x >>= λr=>pure<|r.map λx=>!x) >>= F) P st:=λ{x l r P} hr h {F} y=>by
  by_cases hge:l ≥ r
  .rw[bt hge]at h ⊢;exact cx h
  .rw[ag hge]at h ⊢
   refine cq<|sE o m B (by lia) ?_
   rw[y];cases f:bd (l+(r-l)/2)
   .rw[f]at h;exact cx h
   .rw[f]at h;exact cx h
 cases p:bd a
 .show wpS _ _ _ _ (forIn [:n] ((Y,0,1):C3<|Option Nat) _ >>= _) Q st
  refine cq<|hQ (fw (I:=λx c d=>d=st/\∃l r,c=(Y,l,r)/\x+1<=r/\l<r/\l<=a/\bd (a-l)=Zb)
   (Q:=λc d=>d=st/\∃l r,c=(Y,l,r)/\l<r/\l<=a/\bd (a-l)=Zb/\(r<=a->bd (a-r)=O)) ?_ ?_ ⟨J,0,1,J,by lia,by lia,by lia,p⟩) ?_
  .rintro x c d _ u ⟨rfl,l,r,rfl,a1,a2,a3,a4⟩
   dsimp only;by_cases hge:r ≥ a+1
   .rw[bt hge]
    exact cx ⟨J,l,r,J,a2,a3,a4,λh=>by lia⟩
   .rw[ag hge]
    refine cq<|sE (i:=a-r) o m B (by lia) ?_
    cases f:bd (a-r)
    .exact cx ⟨J,r,2*r+1,J,by lia,by lia,by lia,f⟩
    .exact cx ⟨J,l,r,J,a2,a3,a4,λ_=>f⟩
  .rintro c d ⟨rfl,l,r,rfl,a1,a2,a3,a4⟩
   exact⟨J,l,r,J,a2,a3,a4,λh=>by lia⟩
  .rintro c d ⟨rfl,l,r,rfl,a1,a2,a3,a4⟩
   refine sF (bd:=bd) (lo:=a+1-min r (a+1)) (hi:=a-l) B.mono g (λx l r _ hr D h=>?_) (λk a1 a2 a3=>cx<|q k a1 a2 a3) (by lia) (by lia) (λi hi=>B.mono i (a-r) (by lia) (by lia)<|a4<|by lia) λi b1 b2=>g _ _ b1 b2 a3
   exact fin (x:=x) hr h λb=>J
 .show wpS _ _ _ _ (forIn [:n] ((Y,0,1):C3<|Option Nat) _ >>= _) Q st
  refine cq<|hQ (fw (I:=λx c d=>d=st/\∃l r,c=(Y,l,r)/\x+1<=r/\l<r/\a+l<n/\bd (a+l)=O)
   (Q:=λc d=>d=st/\∃l r,c=(Y,l,r)/\l<r/\a+l<n/\bd (a+l)=O/\(a+r<n->bd (a+r)=Zb)) ?_ ?_ ⟨J,0,1,J,by lia,by lia,by lia,p⟩) ?_
  .rintro x c d _ u ⟨rfl,l,r,rfl,a1,a2,a3,a4⟩
   dsimp only;by_cases hge:r ≥ n-a
   .rw[bt hge]
    exact cx ⟨J,l,r,J,a2,a3,a4,λh=>by lia⟩
   .rw[ag hge]
    refine cq<|sE (i:=a+r) o m B (by lia) ?_
    cases f:bd (a+r)
    .exact cx ⟨J,l,r,J,a2,a3,a4,λ_=>f⟩
    .exact cx ⟨J,r,2*r+1,J,by lia,by lia,by lia,f⟩
  .rintro c d ⟨rfl,l,r,rfl,a1,a2,a3,a4⟩
   exact⟨J,l,r,J,a2,a3,a4,λh=>by lia⟩
  .rintro c d ⟨rfl,l,r,rfl,a1,a2,a3,a4⟩
   refine sF (bd:=bd) (lo:=a+l+1) (hi:=a+min r (n-a)) B.mono g (λx l r _ hr D h=>?_) (λk a1 a2 a3=>cx<|q k a1 a2 a3) (by lia) (by lia) (λi hi=>B.mono i (a+l) (by lia) (by lia) a3) λi b1 b2=>g (a+r) _ (by lia) b2<|a4<|by lia
   exact fin (x:=x) hr h λb=>J
section
variable{α:Type}{R:α->α->Prop}{a b o:List α}{i j:Nat}
structure MI(R:α->α->Prop)(a b:List α)(i j:Nat)(o:List α):Prop where
 perm:o.Perm<|a.take i++b.take j
 srt:o.Pairwise R
 la:∀x∈o,∀y∈a.drop i,R x y
 lb:∀x∈o,∀y∈b.drop j,R x y
def MI.symm(m:MI R a b i j o):MI R b a j i o:=⟨m.perm.trans uy,m.srt,m.lb,m.la⟩
def MI.as(m:MI R a b i j o)(sa:a.Pairwise R)(k:Nat)(h:∀x∈(a.drop i).take k,∀y∈b.drop j,R x y):MI R a b (i+k) j<|o++(a.drop i).take k:=by
 have e:a.drop i=(a.drop i).take k++a.drop (i+k):=by rw[<- List.drop_drop,jM]
 have l:((a.drop i).take k++a.drop (i+k)).Pairwise R:=e▸sa.sublist (uz i a);obtain⟨g,_,f⟩:=jl.mp l;refine⟨?_,jl.mpr ⟨m.srt,g,λx c y d=>m.la x c y<|yx d⟩,λx c y d=>?_,λx c y d=>?_⟩
 .rw[LA]
  refine(m.perm.append_right _).trans ?_;rw[b_,b_];exact kK.append_left _ uy
 .rcases ir.mp c with c|c
  .exact m.la x c y (by rw[e];exact jj _ d)
  .exact f x c y d
 .rcases ir.mp c with c|c
  .exact m.lb x c y d
  .exact h x c y d
def MI.fin(m:MI R a b i j o)(sa:a.Pairwise R)(sb:b.Pairwise R)(h:∀x∈a.drop i,∀y∈b.drop j,R x y):(o++a.drop i++b.drop j).Perm (a++b)/\(o++a.drop i++b.drop j).Pairwise R:=by
 constructor
 .refine((m.perm.append_right _).append_right _).trans ?_
  have f:=jM i a;have e:=jM j b;refine kK.trans ?_<|kK.of_eq<|congr (cm _ f) e;rw[b_<|a.take i,b_<|a.take i,b_<|a.take i];refine kK.append_left _ ?_;rw[<- b_];exact uy.append_right _
 .exact jl.mpr ⟨jl.mpr ⟨m.srt,sa.sublist<|uz ..,m.la⟩,sb.sublist<|uz ..,λx c y d=>(ir.mp c).elim (λc=>m.lb x c y d) λc=>h x c y d⟩
def drop_cons{x:α}{l:List α}(h:l[i]?=U x):l.drop i=x::l.drop (i+1):=by
 obtain⟨hi,rfl⟩:=du.mp h;exact jN hi
def MI.a1(m:MI R a b i j o)(sa:a.Pairwise R){x:α}(c:a[i]?=U x)(h:∀y∈b.drop j,R x y):MI R a b (i+1) j<|o++[x]:=by
 have:=m.as sa 1 (by rw[drop_cons c];rintro z d;rw[iw.mp d];exact h)
 rwa [drop_cons c]at this
end
abbrev gf(κ:KeyKind)(p q:ed):Prop:=κ.kle (kx κ p)<|kx κ q
def ck{κ:KeyKind}{l:List ed}(h:l.Pairwise<|gf κ){i j:Nat}{x y:ed}(hi:l[i]?=U x)(hj:l[j]?=U y)(d:i<=j):gf κ x y:=by
 obtain⟨c,rfl⟩:=du.mp hi;obtain⟨b,rfl⟩:=du.mp hj;rcases CN i j with a|a
 .exact uA.mp h i j c b a
 .have:i=j:=by lia
  subst this;exact sq _
def eZ{α:Type}{l:List α}{i:Nat}{y:α}(h:y∈l.drop i):∃j,i<=j/\l[j]?=U y:=by
 obtain⟨k,a,e⟩:=yy.mp h;exact⟨i+k,by lia,by rw[du];rw[LB]at e;exact⟨_,e⟩⟩
def cM{α:Type}{l:List α}{i k:Nat}{y:α}(h:y∈(l.drop i).take k):∃j,j<k/\l[i+j]?=U y:=by
 obtain⟨j,hj,e⟩:=yy.mp h;rw[LC,LB]at e;exact⟨j,by rw[eT]at hj;lia,by rw[du];exact⟨_,e⟩⟩
def cu{a:Array ed}{i:Nat}(h:i<a.size):∃x,a[i]?=U x/\a.toList[i]?=U x:=⟨a[i],by simp[h],by simp[h]⟩
def Gd(κ:KeyKind)(a b m:Array ed):Prop:=m.toList.Perm (a.toList++b.toList)/\m.toList.Pairwise (gf κ)
structure Mg(κ:KeyKind)(a b:Array ed):Prop where
 sa:a.toList.Pairwise<|gf κ
 sb:b.toList.Pairwise<|gf κ
 ka:∀x∈a.toList,Ky κ x
 kb:∀x∈b.toList,Ky κ x
 a0:0<a.size
 b0:0<b.size
 fst:∀x y,a.toList[0]?=U x->b.toList[0]?=U y->κ.blt (kx κ y) (kx κ x)=O
 lst:∀x,a.toList[a.size-1]?=U x->∀y∈b.toList,κ.blt (kx κ y) (kx κ x)=O
def k8{κ:KeyKind}{left:Bool}{b:ed}{arr:Array ed}{base n:Nat}(k:Ky κ b)(m:base+n<=arr.size)(ks:∀x∈arr.toList,Ky κ x)(g:∀i j x y,i<=j->j<n->arr.toList[base+i]?=U x->arr.toList[base+j]?=U y->gf κ x y) :
  Zq κ left b arr base n λi=>(arr.toList[base+i]?).any λx=>sD κ left b x:=by
 refine⟨k,λi hi=>?_,λi j l hj h=>?_⟩
 .obtain⟨x,f,c⟩:=cu (a:=arr) (i:=base+i) (by lia)
  exact⟨x,f,ks x<|dh c,by rw[c];rfl⟩
 .obtain⟨x,f,c⟩:=cu (a:=arr) (i:=base+i) (by lia)
  obtain⟨y,o,e⟩:=cu (a:=arr) (i:=base+j) (by lia)
  have d:=g i j x y l hj c e;rw[e]at h;rw[c];show sD κ left b x=O;have h:sD κ left b y=O:=h;unfold sD at h ⊢;cases left
  .simp only[LU,v3,uE]at h ⊢
   exact eC d h
  .simp only[o_]at h ⊢
   exact KeyOrd.klt_of_kle_of_klt d h
variable{a b out:Array ed}{i j k:Nat}
def aJ{α:Type}{c:Prop}[Decidable c]{x y:StateT eh Sem α}{Q:α->eh->Prop}{st:eh}(b:c->wpS (da prog w) A E s x Q st)(a:¬c->wpS (da prog w) A E s y Q st):wpS (da prog w) A E s (if c then x else y) Q st:=by
 by_cases h:c
 .rw[bt h];exact b h
 .rw[ag h];exact a h
def E5{α a:Type}{c:Prop}{b:Decidable c}{T1:StateT eh Sem a}{F:α->StateT eh Sem a}{y:α}{Q:a->eh->Prop}{st:eh}(x:α)(e:T1=F x)(H:∀z,wpS (da prog w) A E s (F z) Q st) :
  wpS (da prog w) A E s (if c then T1 else F y) Q st:=aJ (λ_=>e▸H x) λ_=>H y
def sG{α γ a:Type}{c:Prop}{e:Decidable c}{T1:StateT eh Sem a}{F:α->γ->StateT eh Sem a}{x:α}{y:γ}{Q:a->eh->Prop}{st:eh}(P:α->γ->Prop)(H:∀x y,P x y->wpS (da prog w) A E s (F x y) Q st)
  (d:¬c->P x y) (b:c->(∀x y,P x y->wpS (da prog w) A E s (F x y) Q st)->wpS (da prog w) A E s T1 Q st):wpS (da prog w) A E s (if c then T1 else F x y) Q st:=aJ (λh=>b h H) λh=>H _ _<|d h
def E6{a:Type}{c:Prop}{e:Decidable c}{T1 R:StateT eh Sem a}{Q:a->eh->Prop}{st:eh}(P:eh->Prop)(H:∀st,P st->wpS (da prog w) A E s R Q st)
  (d:¬c->P st) (b:c->(∀st,P st->wpS (da prog w) A E s R Q st)->wpS (da prog w) A E s T1 Q st):wpS (da prog w) A E s (if c then T1 else R) Q st:=aJ (λh=>b h H) λh=>H _<|d h
def PR{α a:Type}{c:Prop}{e:Decidable c}{T1:StateT eh Sem a}{F:α->StateT eh Sem a}{y:α}{Q:a->eh->Prop}{st:eh}(P:α->eh->Prop)(H:∀x st,P x st->wpS (da prog w) A E s (F x) Q st)
  (d:¬c->P y st) (b:c->(∀x st,P x st->wpS (da prog w) A E s (F x) Q st)->wpS (da prog w) A E s T1 Q st):wpS (da prog w) A E s (if c then T1 else F y) Q st:=aJ (λh=>b h H) λh=>H _ _<|d h
structure SG(st aF:eh):Prop where
 k:kindOf aF=kindOf st
 a:fu aF=fu st
 p:et aF=et st
 f:fC aF=fC st
def SG.rfl(st:eh):SG st st:=⟨Eq.refl _,Eq.refl _,Eq.refl _,Eq.refl _⟩
abbrev MA(κ:KeyKind)(a b:Array ed)(i j:Nat)(out:Array ed):Prop:=MI (gf κ) a.toList b.toList i j out.toList
def ext_toList(a:Array ed)(i:Nat):(a.extract i).toList=a.toList.drop i:=by
 rw[hG,qi,ux<|by simp]
def MA.done(M:Mg κ a b)(m:MA κ a b i j out)(h:j=b.size):Gd κ a b<|out++a.extract i++b.extract j:=by
 have:=m.fin M.sa M.sb (by intro x _ y c;rw[h,List.drop_of_length_le<|by simp]at c;cases c)
 unfold Gd
 rwa [eY,eY,ext_toList,ext_toList]
def Mg.last(M:Mg κ a b){x y:ed}(d:a.toList[a.size-1]?=U x)(c:y∈b.toList):gf κ y x:=fv<|M.lst x d y c
theorem MA.last(M:Mg κ a b)(m:MA κ a b i j out)(h:i+1=a.size):Gd κ a b<|out++b.extract j++a.extract i:=by
 have:=m.symm.fin M.sb M.sa (by
  intro x e y d;obtain⟨l,g,c⟩:=eZ d;have f:l<a.size:=by have:=(du.mp c).1;simpa using this
  have:l=a.size-1:=by lia
  exact M.last (this▸c)<|yz e)
 unfold Gd;have c:=uy (l₁:=b.toList) (l₂:=a.toList);rw[eY,eY,ext_toList,ext_toList];exact⟨this.1.trans c,this.2⟩
def MA.b1(M:Mg κ a b)(m:MA κ a b i j out){x y:ed}(e:a.toList[i]?=U x)(d:b.toList[j]?=U y)(h:κ.blt (kx κ y) (kx κ x)=O):MA κ a b i (j+1)<|out.push y:=by
 have:=(m.symm.a1 M.sb d λz c=>by
  obtain⟨l,g,f⟩:=eZ c;exact eC (fv h)<|ck M.sa e f g).symm
 unfold MA;rwa [h7]
theorem MA.a1(M:Mg κ a b)(m:MA κ a b i j out){x y:ed}(e:a.toList[i]?=U x)(d:b.toList[j]?=U y)(h:κ.blt (kx κ y) (kx κ x)=Zb):MA κ a b (i+1) j<|out.push x:=by
 have:=MI.a1 m M.sa e λz c=>by
  obtain⟨l,g,f⟩:=eZ c;exact eC (show gf κ x y from h)<|ck M.sb d f g
 unfold MA;rwa [h7]
theorem MA.as(M:Mg κ a b)(m:MA κ a b i j out){y:ed}(e:b.toList[j]?=U y)(h:∀l x,l<k->a.toList[i+l]?=U x->κ.blt (kx κ y) (kx κ x)=Zb):MA κ a b (i+k) j<|out++a.extract i (i+k):=by
 have:=MI.as m M.sa k λx f z d=>by
  obtain⟨l,p,o⟩:=eZ d;obtain⟨c,n,g⟩:=cM f;exact eC (show gf κ x y from h c x n g)<|ck M.sb e o p
 unfold MA;simpa[LD]using this
def MA.bs(M:Mg κ a b)(m:MA κ a b i j out){x:ed}(f:a.toList[i]?=U x)(h:∀l y,l<k->b.toList[j+l]?=U y->κ.blt (kx κ y) (kx κ x)=O):MA κ a b i (j+k)<|out++b.extract j (j+k):=by
 have:=(MI.as m.symm M.sb k λy e z d=>by
  obtain⟨l,p,o⟩:=eZ d;obtain⟨c,n,g⟩:=cM e;exact eC (fv<|h c y n g)<|ck M.sa f o p).symm
 unfold MA;simpa[LD]using this
def any_some{o:Option ed}{x:ed}{f:ed->Bool}(h:o=U x):o.any f=f x:=by rw[h];rfl
def Jo{st:eh}{Q:Option Nat->eh->Prop}(r:κ.OneLt)(p:kindOf st=hV)(M:Mg κ a b){y:ed}(c:b.toList[j]?=U y)(hi:i<a.size)
  (q:∀k x,i+k<a.size->a[i+k]?=U x->a.toList[i+k]?=U x->κ.blt (kx κ y) (kx κ x)=O->(∀l x,l<k->a.toList[i+l]?=U x->κ.blt (kx κ y) (kx κ x)=Zb)->Q (U k) st) :
  wpS (da prog w) A E s (km Zb y a i (a.size-i) 0) Q st:=by
 refine fP r p (k8 (arr:=a) (base:=i) (n:=a.size-i) (M.kb _<|dh c) (by lia) M.ka λ_ _ _ _ z _ u t=>ck M.sa u t<|by lia) (by lia) λk B g v=>?_
 have d:∀l x,l<k->a.toList[i+l]?=U x->κ.blt (kx κ y) (kx κ x)=Zb:=λl x o m=>by
  have:=g l o
  rw[any_some m]at this;simpa[sD]using this
 have k2:i+k<a.size:=by
  refine Nat.lt_of_not_le λh=>?_;obtain⟨x,_,e⟩:=cu (a:=a) (i:=a.size-1) (by lia)
  have f:=d (a.size-1-i) x (by lia) (by rw[show i+(a.size-1-i)=a.size-1 by lia];exact e)
  rw[M.lst x e y<|dh c]at f;cases f
 obtain⟨x,a3,a4⟩:=cu k2;refine q k x k2 a3 a4 ?_ d
 have:=v k (bW _) (by lia)
 rw[any_some a4]at this;simpa[sD]using this
def Jp{st:eh}{Q:Option Nat->eh->Prop}(h:κ.OneLt)(g:kindOf st=hV)(M:Mg κ a b){x:ed}(f:a.toList[i]?=U x)(hj:j<b.size)
  (q:∀k,j+k<=b.size->(∀l y,l<k->b.toList[j+l]?=U y->κ.blt (kx κ y) (kx κ x)=O)->(∀y,b.toList[j+k]?=U y->κ.blt (kx κ y) (kx κ x)=Zb)->Q (U k) st) :
  wpS (da prog w) A E s (km O x b j (b.size-j) 0) Q st:=by
 refine fP h g (k8 (arr:=b) (base:=j) (n:=b.size-j) (M.ka _<|dh f) (by lia) M.kb λ_ _ _ _ r _ o m=>ck M.sb o m<|by lia) (by lia) λk t e p=>q k (by lia) (λl y d c=>?_) λy c=>?_
 .have:=e l d
  rw[any_some c]at this;simpa[sD]using this
 .have d:=(du.mp c).1
  have:=p k (bW _) (by rw[eo]at d;lia)
  rw[any_some c]at this;simpa[sD]using this
abbrev Iv(κ:KeyKind)(a b out:Array ed)(i j:Nat):Prop:=MA κ a b i j out/\i+1<a.size/\j<b.size
def xO{st:eh}{Q:Array ed->eh->Prop}(R:κ.OneLt)(P:kindOf st=hV)(M:Mg κ a b)(q:∀m n,SG st n->Gd κ a b m->Q m n) :
  wpS (da prog w) A E s (E3 a b) Q st:=by
 obtain⟨y0,e1,e2⟩:=cu M.b0;obtain⟨x0,e3,e4⟩:=cu M.a0;refine cq<|rr<|p0 ⟨J,?_⟩;refine cq<|bq e1 ?_;have m0:MA κ a b 0 1 #[y0]:=by
  have:=MA.b1 (out:=#[]) M ⟨by simp,by simp,by simp,by simp⟩ e4 e2<|M.fst _ _ e4 e2
  simpa using this
 dsimp only;by_cases h1:1=b.size
 .rw[bt<|by simpa using h1]
  exact cx<|q _ _ (.rfl st)<|m0.done M h1
 rw[ag<|by simpa using h1]
 by_cases h2:0+1=a.size
 .rw[bt<|by simpa using h2]
  exact cx<|q _ _ (.rfl st)<|m0.last M h2
 rw[ag<|by simpa using h2]
 have hb:=M.b0;have ha:=M.a0;refine cq<|oe ?_;refine cq<|hQ (fw (I:=λx c n=>SG st n/\∃o i j g,c=(Y,o,i,j,g)/\Iv κ a b o i j/\x+1<=i+j)
  (Q:=λc n=>SG st n/\∃m,c.1=U m/\Gd κ a b m) ?_ ?_ ⟨.rfl st,_,_,_,_,J,⟨m0,by lia,by lia⟩,by lia⟩) ?_
 rotate_left
 .rintro c n ⟨_,o,i,j,g,_,⟨_,h3,D⟩,r⟩
  lia
 .rintro⟨c,c'⟩ n ⟨g,m,e,h⟩
  cases e;exact cx<|q _ _ g h
 rintro x c Z _ hx ⟨g1,o,i,j,g,rfl,I1,h3⟩
 dsimp only;refine cq<|hQ (fw (I:=λx c n=>n=Z/\∃o d l p q,c=(Y,o,d,l,p,q)/\Iv κ a b o d l/\i+j+x<=d+l)
  (Q:=λc n=>n=Z/\((∃m,c.1=U m/\Gd κ a b m)\/∃o d l p q,c=(Y,o,d,l,p,q)/\Iv κ a b o d l/\i+j+1<=d+l)) ?_ ?_ ⟨J,_,_,_,_,_,J,I1,by lia⟩) ?_
 .rintro x' c n _ W4 ⟨rfl,o,d,l,p,X,rfl,⟨m,c1,c2⟩,D⟩
  obtain⟨x1,a1,a2⟩:=cu (a:=a) (i:=d) (by lia)
  obtain⟨y1,b1,b2⟩:=cu c2;dsimp only;refine cq<|bq b1<|cq<|bq a1<|cq<|vC R (g1.k.trans P) (M.kb _<|dh b2) (M.ka _<|dh a2) ?_;cases hw:κ.blt (kx κ y1) (kx κ x1)
  .refine cq<|bq a1 ?_
   have m2:=m.a1 M a2 b2 hw;by_cases r:d+1+1=a.size
   .rw[bt<|by simpa using r]
    exact cx ⟨J,.inl ⟨_,J,m2.last M r⟩⟩
   .rw[ag<|by simpa using r]
    split
    .exact cx ⟨J,.inr ⟨_,_,_,_,_,J,⟨m2,by lia,c2⟩,by lia⟩⟩
    .exact cx ⟨J,_,_,_,_,_,J,⟨m2,by lia,c2⟩,by lia⟩
  .refine cq<|bq b1 ?_
   have m2:=m.b1 M a2 b2 hw;by_cases r:l+1=b.size
   .rw[bt<|by simpa using r]
    exact cx ⟨J,.inl ⟨_,J,m2.done M r⟩⟩
   .rw[ag<|by simpa using r]
    split
    .exact cx ⟨J,.inr ⟨_,_,_,_,_,J,⟨m2,c1,by lia⟩,by lia⟩⟩
    .exact cx ⟨J,_,_,_,_,_,J,⟨m2,c1,by lia⟩,by lia⟩
 .rintro c n ⟨rfl,o,d,l,p,X,rfl,W,D⟩
  exact⟨J,.inr ⟨_,_,_,_,_,J,W,by lia⟩⟩
 rintro⟨c,c'⟩ lZ ⟨rfl,⟨m,e,h⟩|⟨o2,i2,j2,p2,q2,e,W,D⟩⟩
 .cases e
  exact cx ⟨g1,_,J,h⟩
 cases e;dsimp only;refine cq<|rr<|p0 ⟨J,?_⟩;refine cq<|hQ (fw (I:=λ_ c n=>SG st n/\∃o d l g p q,c=(Y,o,d,l,g,p,q)/\Iv κ a b o d l/\i+j+1<=d+l)
  (Q:=λc n=>SG st n/\((∃m,c.1=U m/\Gd κ a b m)\/∃o d l g p q,c=(Y,o,d,l,g,p,q)/\Iv κ a b o d l/\i+j+1<=d+l)) ?_ ?_ ⟨g1,_,_,_,_,_,_,J,W,D⟩) ?_
 rotate_left
 .rintro c n ⟨g2,o,d,l,g,p,X,rfl,V,r⟩
  exact⟨g2,.inr ⟨_,_,_,_,_,_,J,V,r⟩⟩
 .rintro⟨c,c'⟩ B ⟨g2,⟨m,e,h⟩|⟨o3,N,u,g3,p3,q3,e,V,r⟩⟩
  .cases e
   exact cx ⟨g2,_,J,h⟩
  cases e;dsimp only;refine cq<|ic<|cx ⟨⟨g2.k,g2.a,g2.p,g2.f⟩,_,_,_,_,J,V,by lia⟩
 rintro x3 c B _ hx3 ⟨g2,o3,N,u,S,p3,q3,rfl,⟨m3,c1,c2⟩,r⟩
 obtain⟨y3,b1,b2⟩:=cu c2;have g3:∀g',SG st<|kv (kindOf B) (fu B) (et B) g'<|fC B:=λ_=>⟨g2.k,g2.a,g2.p,g2.f⟩;show wpS _ _ _ _ (if S > 1 then _ else _) _ _
 apply E5 (y:=S)<|S-1
 .rfl
 intro g';refine cq<|ic ?_;refine cq<|bq b1<|cq<|Jo (i:=N) R (by exact g2.k.trans P) M b2 (Nat.lt_of_succ_lt c1) λk G k2 a3 a4 f2 f1=>?_
 show wpS _ _ _ _ (if k > 0 then _ else _) _ _
 apply sG (x:=o3) (y:=N) λK d=>MA κ a b d u K/\d+1<a.size/\a[d]?=U G/\a.toList[d]?=U G/\i+j+1<=d+u
 rotate_left
 .intro h6
  have:k=0:=Lk h6
  subst this;exact⟨m3,c1,a3,a4,r⟩
 .intro h6 H
  have m4:=m3.as M b2 f1;refine aJ (λt=>cx ⟨g3 _,.inl ⟨_,J,m4.last M<|eq_of_beq t⟩⟩) λt=>aJ (λh8=>eD (eq_of_beq h8)<|dP k2) λh8=>?_;exact H _ _ ⟨m4,yr k2 λe=>t<|beq_iff_eq.mpr e,a3,a4,dq r<|uc (cH ..) _⟩
 rintro o4 L ⟨m4,h9,a3,a4,r⟩
 refine cq<|bq b1 ?_;have m5:=m4.b1 M a4 b2 f2;show wpS _ _ _ _ (if(u+1 == b.size)=O then _ else _) _ _
 refine aJ (λF=>cx ⟨g3 _,.inl ⟨_,J,m5.done M<|eq_of_beq F⟩⟩) λF=>?_;have T:u+1<b.size:=yr c2 λe=>F<|beq_iff_eq.mpr e;refine cq<|bq a3<|cq<|Jp (j:=u+1) R (by exact g2.k.trans P) M a4 T λk' k3 f3 C=>?_
 show wpS _ _ _ _ (if k' > 0 then _ else _) _ _
 generalize o4.push y3=o5 at m5 ⊢
 have z:i+j+1<=L+1+(u+1):=dq r (by lia)
 generalize u+1=j5 at m5 T k3 f3 C z ⊢
 apply sG (x:=o5) (y:=j5) λK l=>MA κ a b L l K/\l<b.size/\(∀y,b.toList[l]?=U y->κ.blt (kx κ y) (kx κ G)=Zb)/\i+j+1<=L+1+l
 rotate_left
 .intro Xk
  have:k'=0:=Lk Xk
  subst this;exact⟨m5,T,C,z⟩
 .intro Xk H
  have m6:=m5.bs M a4 f3;refine aJ (λt=>cx ⟨g3 _,.inl ⟨_,J,m6.done M<|eq_of_beq t⟩⟩) λt=>?_;exact H _ _ ⟨m6,yr k3 λe=>t<|beq_iff_eq.mpr e,C,dq z<|Nat.add_le_add_left (cH ..) _⟩
 rintro o6 j6 ⟨m6,v,C,z⟩
 obtain⟨y6,_,b6⟩:=cu v;have m7:=m6.a1 M a4 b6<|C y6 b6;refine cq<|bq a3 ?_;refine aJ (λt=>cx ⟨g3 _,.inl ⟨_,J,m7.last M<|eq_of_beq t⟩⟩) λt=>?_;have Vu:=yr h9 λe=>t<|beq_iff_eq.mpr e;refine aJ (λ_=>cx ⟨g3 _,.inr ⟨_,_,_,_,_,_,J,⟨m7,Vu,v⟩,z⟩⟩) λ_=>cx ⟨g3 _,_,_,_,_,_,_,J,⟨m7,Vu,v⟩,z⟩
abbrev B0(κ:KeyKind)(p q:ed):Prop:=gf κ q p
structure MH(κ:KeyKind)(a b:Array ed)(i j:Nat)(out:Array ed):Prop where
 hi:i<=a.size
 hj:j<=b.size
 m:MI (B0 κ) a.toList.reverse b.toList.reverse (a.size-i) (b.size-j) out.toList
def g_{l:List ed}(h:l.Pairwise<|gf κ):l.reverse.Pairwise<|B0 κ:=uB.mpr h
def c5{a:Array ed}(h:i<=a.size):a.toList.reverse.drop (a.size-i)=(a.toList.take i).reverse:=by
 rw[List.drop_reverse,eo,show a.size-(a.size-i)=i by lia]
def MU{a:Array ed}{x:ed}(h:i+1<=a.size)(b:a.toList[i]?=U x):a.toList.reverse[a.size-(i+1)]?=U x:=by
 rw[C5<|by rw[eo];lia,eo,show a.size-1-(a.size-(i+1))=i by lia];exact b
def cA{α:Type}{l:List α}{y:α}(h:y∈l.take i):∃j,j<i/\l[j]?=U y:=by
 obtain⟨j,hj,e⟩:=yy.mp h;rw[LC]at e;exact⟨j,by rw[eT]at hj;lia,by rw[du];exact⟨_,e⟩⟩
def Jr(a:Array ed)(i:Nat):(a.extract 0 i).toList=a.toList.take i:=by
 rw[hG,qi];rfl
theorem MH.fin(M:Mg κ a b)(m:MH κ a b i j out)(h:∀x∈a.toList.take i,∀y∈b.toList.take j,gf κ x y):Gd κ a b<|a.extract 0 i++b.extract 0 j++out.reverse:=by
 have:=m.m.symm.fin (g_ M.sb) (g_ M.sa) (by
  rw[c5 m.hi,c5 m.hj];intro y c x d;exact h x (lU.mp d) y<|lU.mp c)
 rw[c5 m.hi,c5 m.hj]at this;unfold Gd;have e:(a.extract 0 i++b.extract 0 j++out.reverse).toList=(out.toList++(b.toList.take j).reverse++(a.toList.take i).reverse).reverse:=by
  rw[eY,eY,Jr,Jr,mN,yC,yC,yD,yD,b_]
 rw[e];refine⟨(uq _).trans<|this.1.trans ?_,uB.mpr this.2⟩;exact((uq _).append<|uq _).trans uy
def MH.done(M:Mg κ a b)(m:MH κ a b i j out)(h:i=0\/j=0):Gd κ a b<|a.extract 0 i++b.extract 0 j++out.reverse:=by
 refine m.fin M λx d y c=>?_;rcases h with h|h
 .rw[h]at d;cases d
 .rw[h]at c;cases c
def MH.first(M:Mg κ a b)(m:MH κ a b i j out)(h:j=1):Gd κ a b<|b.extract 0 j++a.extract 0 i++out.reverse:=by
 have:=m.m.fin (g_ M.sa) (g_ M.sb) (by
  rw[c5 m.hi,c5 m.hj];intro x g y f;obtain⟨l,p,n⟩:=cA<|lU.mp f;obtain⟨o,_,k⟩:=cA<|lU.mp g;obtain⟨d,_,c⟩:=cu M.a0
  have:l=0:=by lia
  subst this;exact eC (fv<|M.fst d y c n)<|ck M.sa c k<|gq _)
 rw[c5 m.hi,c5 m.hj]at this;unfold Gd;have e:(b.extract 0 j++a.extract 0 i++out.reverse).toList=(out.toList++(a.toList.take i).reverse++(b.toList.take j).reverse).reverse:=by
  rw[eY,eY,Jr,Jr,mN,yC,yC,yD,yD,b_]
 rw[e];exact⟨(uq _).trans<|this.1.trans<|(uq _).append<|uq _,uB.mpr this.2⟩
theorem MH.a1(M:Mg κ a b)(m:MH κ a b (i+1) (j+1) out){x y:ed}(e:a.toList[i]?=U x)(d:b.toList[j]?=U y)(h:κ.blt (kx κ y) (kx κ x)=O):MH κ a b i (j+1)<|out.push x:=by
 have hi:=m.hi
 have:=MI.a1 m.m (g_ M.sa) (MU m.hi e) (by
  rw[c5 m.hj];intro z c;obtain⟨l,g,f⟩:=cA<|lU.mp c;exact eC (ck M.sb f d<|by lia)<|fv h)
 exact⟨by lia,m.hj,by rw[h7,show a.size-i=a.size-(i+1)+1 by lia];exact this⟩
def MH.b1(M:Mg κ a b)(m:MH κ a b (i+1) (j+1) out){x y:ed}(e:a.toList[i]?=U x)(d:b.toList[j]?=U y)(h:κ.blt (kx κ y) (kx κ x)=Zb):MH κ a b (i+1) j<|out.push y:=by
 have hj:=m.hj
 have:=(MI.a1 m.m.symm (g_ M.sb) (MU m.hj d)<|by
  rw[c5 m.hi];intro z c;obtain⟨l,g,f⟩:=cA<|lU.mp c;exact eC (ck M.sa f e<|by lia) h).symm
 exact⟨m.hi,by lia,by rw[h7,show b.size-j=b.size-(j+1)+1 by lia];exact this⟩
def sH{a:Array ed}(b:k<=i)(h:i<=a.size):(a.toList.reverse.drop<|a.size-i).take (i-k)=(a.extract k i).toList.reverse:=by
 rw[c5 h,List.take_reverse,hG,qi,eT,eo,show min i a.size-(i-k)=k by lia,List.drop_take]
theorem MH.as(M:Mg κ a b)(m:MH κ a b i (j+1) out)(d:k<=i){y:ed}(g:b.toList[j]?=U y)(h:∀l x,k<=l->l<i->a.toList[l]?=U x->κ.blt (kx κ y) (kx κ x)=O):MH κ a b k (j+1)<|out++(a.extract k i).reverse:=by
 have hi:=m.hi
 have:=MI.as m.m (g_ M.sa) (i-k) (by
  rw[sH d m.hi,c5 m.hj];intro x c z f;obtain⟨l,q,o⟩:=cA<|lU.mp f;rw[lU,hG,qi]at c;obtain⟨e,p,n⟩:=cM c;exact eC (ck M.sb o g<|by lia)<|fv<|h (k+e) x (by lia) (by lia) n)
 rw[sH d m.hi]at this;exact⟨by lia,m.hj,by rw[eY,mN,show a.size-k=a.size-i+(i-k) by lia];exact this⟩
def MH.bs(M:Mg κ a b)(m:MH κ a b (i+1) j out)(d:k<=j){x:ed}(g:a.toList[i]?=U x)(h:∀l y,k<=l->l<j->b.toList[l]?=U y->κ.blt (kx κ y) (kx κ x)=Zb):MH κ a b (i+1) k<|out++(b.extract k j).reverse:=by
 have hj:=m.hj
 have:=(MI.as m.m.symm (g_ M.sb) (j-k)<|by
  rw[sH d m.hj,c5 m.hi];intro y c z f;obtain⟨l,q,o⟩:=cA<|lU.mp f;rw[lU,hG,qi]at c;obtain⟨e,p,n⟩:=cM c;exact eC (ck M.sa o g<|by lia)<|h (k+e) y (by lia) (by lia) n).symm
 rw[sH d m.hj]at this;exact⟨m.hi,by lia,by rw[eY,mN,show b.size-k=b.size-j+(j-k) by lia];exact this⟩
def E7{st:eh}{Q:Option Nat->eh->Prop}(o:κ.OneLt)(h:kindOf st=hV)(M:Mg κ a b){y:ed}(g:b.toList[j]?=U y)(hi:0<i)(m:i<=a.size)
  (q:∀k,k<=i->(∀l x,k<=l->l<i->a.toList[l]?=U x->κ.blt (kx κ y) (kx κ x)=O)->(∀x,0<k->a.toList[k-1]?=U x->κ.blt (kx κ y) (kx κ x)=Zb)->Q (U k) st) :
  wpS (da prog w) A E s (km Zb y a 0 i<|i-1) Q st:=by
 refine fP o h (k8 (arr:=a) (base:=0) (n:=i) (M.kb _<|dh g) (by lia) M.ka λ_ _ _ _ e _ d p=>ck M.sa d p<|by lia) (by lia) λk t f r=>q k t (λl x e d c=>?_) λx e c=>?_
 .have:=r l e d
  rw[pK,any_some c]at this;simpa[sD]using this
 .have:=f (k-1) (by lia)
  rw[pK,any_some c]at this;simpa[sD]using this
def E8{st:eh}{Q:Option Nat->eh->Prop}(m:κ.OneLt)(h:kindOf st=hV)(M:Mg κ a b){x:ed}(g:a.toList[i]?=U x)(hj:0<j)(ň:j<=b.size)
  (q:∀k,k<=j->(∀l y,k<=l->l<j->b.toList[l]?=U y->κ.blt (kx κ y) (kx κ x)=Zb)->(∀y,0<k->b.toList[k-1]?=U y->κ.blt (kx κ y) (kx κ x)=O)->Q (U k) st) :
  wpS (da prog w) A E s (km O x b 0 j<|j-1) Q st:=by
 refine fP m h (k8 (arr:=b) (base:=0) (n:=j) (M.ka _<|dh g) (by lia) M.kb λ_ _ _ _ e _ d o=>ck M.sb d o<|by lia) (by lia) λk r f p=>q k r (λl y e d c=>?_) λy e c=>?_
 .have:=p l e d
  rw[pK,any_some c]at this;simpa[sD]using this
 .have:=f (k-1) (by lia)
  rw[pK,any_some c]at this;simpa[sD]using this
abbrev Ih(κ:KeyKind)(a b out:Array ed)(i j:Nat):Prop:=MH κ a b i j out/\1<=i/\2<=j
def xP{st:eh}{Q:Array ed->eh->Prop}(N:κ.OneLt)(L:kindOf st=hV)(M:Mg κ a b)(q:∀m r,SG st r->Gd κ a b m->Q m r) :
  wpS (da prog w) A E s (E4 a b) Q st:=by
 have ha:=M.a0;have hb:=M.b0;obtain⟨X,e3,e4⟩:=cu (a:=a) (i:=a.size-1) (by lia)
 obtain⟨y0,e1,e2⟩:=cu (a:=b) (i:=b.size-1) (by lia)
 refine cq<|rr<|p0 ⟨J,?_⟩;refine cq<|bq e3 ?_;have m0:MH κ a b (a.size-1) b.size #[X]:=by
  have h0:MH κ a b (a.size-1+1) (b.size-1+1) #[]:=⟨by lia,by lia,by rw[show a.size-(a.size-1+1)=0 by lia,show b.size-(b.size-1+1)=0 by lia];exact⟨by simp,by simp,by simp,by simp⟩⟩
  have:=h0.a1 M e4 e2<|M.lst X e4 y0<|dh e2
  rw[show b.size-1+1=b.size by lia]at this
  exact this
 dsimp only;refine aJ (λS=>cx<|q _ _ (.rfl st)<|m0.done M<|.inl<|by simpa using S) λS=>?_
 refine aJ (λR=>cx<|q _ _ (.rfl st)<|m0.first M<|by simpa using R) λR=>?_
 simp only[ix]at S R;refine cq<|oe ?_;refine cq<|hQ (fw (I:=λx c r=>SG st r/\∃i j o g,c=(Y,i,j,o,g)/\Ih κ a b o i j/\x+i+j+1<=a.size+b.size)
  (Q:=λc r=>SG st r/\∃m,c.1=U m/\Gd κ a b m) ?_ ?_ ⟨.rfl st,_,_,_,_,J,⟨m0,by lia,by lia⟩,by lia⟩) ?_
 rotate_left
 .rintro c r ⟨_,i,j,o,g,_,⟨_,h3,F⟩,u⟩
  lia
 .rintro⟨c,c'⟩ r ⟨g,m,e,h⟩
  cases e;exact cx<|q _ _ g h
 rintro x c oz _ hx ⟨g1,i,j,o,g,rfl,I1,h3⟩
 dsimp only;refine cq<|hQ (fw (I:=λx c r=>r=oz/\∃n d o p q,c=(Y,n,d,o,p,q)/\Ih κ a b o n d/\x+n+d<=i+j)
  (Q:=λc r=>r=oz/\((∃m,c.1=U m/\Gd κ a b m)\/∃n d o p q,c=(Y,n,d,o,p,q)/\Ih κ a b o n d/\n+d+1<=i+j)) ?_ ?_ ⟨J,_,_,_,_,_,J,I1,by lia⟩) ?_
 .rintro x' c r _ W4 ⟨rfl,n,d,o,p,Z,rfl,⟨m,c1,c2⟩,F⟩
  obtain⟨n,rfl⟩:∃k,n=k+1:=⟨n-1,by lia⟩
  obtain⟨d,rfl⟩:∃k,d=k+1:=⟨d-1,by lia⟩
  have:=m.hi
  have:=m.hj
  obtain⟨x1,a1,a2⟩:=cu (a:=a) (i:=n) (by lia)
  obtain⟨y1,b1,b2⟩:=cu (a:=b) (i:=d) (by lia)
  dsimp only;refine cq<|bq b1<|cq<|bq a1<|cq<|vC N (g1.k.trans L) (M.kb _<|dh b2) (M.ka _<|dh a2) ?_;cases hw:κ.blt (kx κ y1) (kx κ x1)
  .refine cq<|bq b1 ?_
   have m2:=m.b1 M a2 b2 hw;show wpS _ _ _ _ (if(d == 1)=O then _ else _) _ _
   refine aJ (λu=>cx ⟨J,.inl ⟨_,J,m2.first M<|by simpa using u⟩⟩) λu=>?_
   simp only[ix]at u;refine aJ (λ_=>cx ⟨J,.inr ⟨_,_,_,_,_,J,⟨m2,c1,by first|lia|(dsimp only;lia)⟩,by first|lia|(dsimp only;lia)⟩⟩) λ_=>cx ⟨J,_,_,_,_,_,J,⟨m2,c1,by first|lia|(dsimp only;lia)⟩,by first|lia|(dsimp only;lia)⟩
  .refine cq<|bq a1 ?_
   have m2:=m.a1 M a2 b2 hw;show wpS _ _ _ _ (if(n == 0)=O then _ else _) _ _
   refine aJ (λu=>cx ⟨J,.inl ⟨_,J,m2.done M<|.inl<|by simpa using u⟩⟩) λu=>?_
   simp only[ix]at u;refine aJ (λ_=>cx ⟨J,.inr ⟨_,_,_,_,_,J,⟨m2,by first|lia|(dsimp only;lia),c2⟩,by first|lia|(dsimp only;lia)⟩⟩) λ_=>cx ⟨J,_,_,_,_,_,J,⟨m2,by first|lia|(dsimp only;lia),c2⟩,by first|lia|(dsimp only;lia)⟩
 .rintro c r ⟨rfl,n,d,o,p,Z,rfl,W,F⟩
  exact⟨J,.inr ⟨_,_,_,_,_,J,W,by lia⟩⟩
 rintro⟨c,c'⟩ lZ ⟨rfl,⟨m,e,h⟩|⟨i2,j2,o2,p2,q2,e,W,F⟩⟩
 .cases e
  exact cx ⟨g1,_,J,h⟩
 cases e;dsimp only;refine cq<|rr<|p0 ⟨J,?_⟩;refine cq<|hQ (fw (I:=λ_ c r=>SG st r/\∃n d o g p q,c=(Y,n,d,o,g,p,q)/\Ih κ a b o n d/\n+d+1<=i+j)
  (Q:=λc r=>SG st r/\((∃m,c.1=U m/\Gd κ a b m)\/∃n d o g p q,c=(Y,n,d,o,g,p,q)/\Ih κ a b o n d/\n+d+1<=i+j)) ?_ ?_ ⟨g1,_,_,_,_,_,_,J,W,F⟩) ?_
 rotate_left
 .rintro c r ⟨g2,n,d,o,g,p,Z,rfl,V,u⟩
  exact⟨g2,.inr ⟨_,_,_,_,_,_,J,V,u⟩⟩
 .rintro⟨c,c'⟩ B ⟨g2,⟨m,e,h⟩|⟨C,t,o3,g3,p3,q3,e,V,u⟩⟩
  .cases e
   exact cx ⟨g2,_,J,h⟩
  cases e;dsimp only;refine cq<|ic<|cx ⟨⟨g2.k,g2.a,g2.p,g2.f⟩,_,_,_,_,J,V,by lia⟩
 rintro x3 c B _ hx3 ⟨g2,C,t,o3,T,p3,q3,rfl,⟨m3,c1,c2⟩,u⟩
 obtain⟨t,rfl⟩:∃k,t=k+1:=⟨t-1,by lia⟩
 have c3:=m3.hi;have c4:=m3.hj;obtain⟨y3,b1,b2⟩:=cu (a:=b) (i:=t) (by lia)
 have g3:∀g',SG st<|kv (kindOf B) (fu B) (et B) g'<|fC B:=λ_=>⟨g2.k,g2.a,g2.p,g2.f⟩;show wpS _ _ _ _ (if T > 1 then _ else _) _ _
 apply E5 (y:=T)<|T-1
 .rfl
 intro g';refine cq<|ic ?_;refine cq<|bq b1<|cq<|E7 (i:=C) N (by exact g2.k.trans L) M b2 c1 c3 λk k2 f1 f2=>?_
 dsimp only
 generalize hac:C-k=ac
 show wpS _ _ _ _ (if ac > 0 then _ else _) _ _
 apply sG (x:=C) (y:=o3) λn K=>n=k/\MH κ a b k (t+1) K/\0<k
 rotate_left
 .intro h6
  have:k=C:=by lia
  subst this;exact⟨J,m3,c1⟩
 .intro h6 H
  have m4:=m3.as M k2 b2 f1;refine aJ (λv=>cx ⟨g3 _,.inl ⟨_,J,m4.done M<|.inl<|by simpa using v⟩⟩) λv=>?_
  exact H _ _ ⟨J,m4,Ll<|by simpa using v⟩
 rintro i4 o4 ⟨rfl,m4,h9⟩
 obtain⟨k,rfl⟩:∃l,i4=l+1:=⟨i4-1,by lia⟩
 obtain⟨x4,a3,a4⟩:=cu (a:=a) (i:=k) (by lia)
 refine cq<|bq b1 ?_;have m5:=m4.b1 M a4 b2<|f2 x4 h9 a4;show wpS _ _ _ _ (if(t == 1)=O then _ else _) _ _
 refine aJ (λG=>cx ⟨g3 _,.inl ⟨_,J,m5.first M<|by simpa using G⟩⟩) λG=>?_
 simp only[ix]at G;refine cq<|bq a3<|cq<|E8 (j:=t) N (by exact g2.k.trans L) M a4 (by lia) (by lia) λz k3 f3 f4=>?_
 dsimp only
 generalize hj5:t+1-1=j5
 have ej:t=j5:=by lia
 clear hj5;subst ej
 generalize hbc:t-z=bc
 show wpS _ _ _ _ (if bc > 0 then _ else _) _ _
 generalize o4.push y3=o5 at m5 ⊢
 apply sG (x:=t) (y:=o5) λd K=>d=z/\MH κ a b (k+1) z K/\2<=z
 rotate_left
 .intro Xk
  have:z=t:=by lia
  subst this;exact⟨J,m5,by lia⟩
 .intro Xk H
  have m6:=m5.bs M k3 a4 f3;refine aJ (λv=>cx ⟨g3 _,.inl ⟨_,J,m6.first M<|by simpa using v⟩⟩) λv=>aJ (λP=>cx ⟨g3 _,.inl ⟨_,J,m6.done M<|.inr<|by simpa using P⟩⟩) λP=>?_
  simp only[ix]at v P;exact H _ _ ⟨J,m6,by lia⟩
 rintro j6 o6 ⟨rfl,m6,D⟩
 obtain⟨z,rfl⟩:∃l,j6=l+1:=⟨j6-1,by lia⟩
 obtain⟨y6,_,b6⟩:=cu (a:=b) (i:=z) (by lia)
 have m7:=m6.a1 M a4 b6<|f4 y6 (by lia) b6
 refine cq<|bq a3 ?_;show wpS _ _ _ _ (if(k == 0)=O then _ else _) _ _
 refine aJ (λv=>cx ⟨g3 _,.inl ⟨_,J,m7.done M<|.inl<|by simpa using v⟩⟩) λv=>?_
 simp only[ix]at v;have Vu:1<=k:=by lia
 have Jq:k+(z+1)+1<=i+j:=by lia
 refine aJ (λ_=>cx ⟨g3 _,.inr ⟨_,_,_,_,_,_,J,⟨m7,Vu,D⟩,Jq⟩⟩) λ_=>cx ⟨g3 _,_,_,_,_,_,_,J,⟨m7,Vu,D⟩,Jq⟩
section
variable{P W S X a:List ed}{arr:Array ed}
def z9{i j:Nat}(e:arr.toList=P++W++S)(hi:i=P.length)(hj:j=P.length+W.length):(arr.extract i j).toList=W:=by
 rw[hG,qi,e,hi,hj,b_,List.drop_left,CO,List.take_left]
def hU{b i:Nat}{x:ed}(e:arr.toList=P++W++S)(a:b=P.length)(h:W[i]?=U x):arr.toList[b+i]?=U x:=by
 subst a;obtain⟨hi,_⟩:=du.mp h;rw[e,b_,eF<|cH ..,CO,e_ hi];exact h
def sI{b i:Nat}{x:ed}(e:arr.toList=P++W++S)(a:b=P.length)(hi:i<W.length)(h:arr.toList[b+i]?=U x):W[i]?=U x:=by
 subst a;rw[e,b_,eF<|cH ..,CO,e_ hi]at h;exact h
def sJ{i:Nat}{x:ed}(h:arr.toList[i]?=U x):arr[i]?=U x:=by rw[<- ey];exact h
theorem MV{sa:Nat}:∀(m:List ed)(n:Nat)(arr:Array ed)(P W S:List ed),arr.toList=P++W++S->P.length=sa+n->W.length=m.length ->
  ((m.zipIdx n).foldl (λa (p:ed×Nat)=>a.setIfInBounds (sa+p.2) p.1) arr).toList=P++m++S
 |[],n,arr,P,W,S,e,_,b=>by
  rw[uw.mp b]at e;simpa using e
 |x::m,n,arr,P,[],S,_,_,b=>by simp at b
 |x::m,n,arr,P,y::W,S,e,c,b=>by
  rw[List.zipIdx_cons,uf]
  have:=MV m (n+1) (arr.setIfInBounds (sa+n) x) (P++[x]) W S (by
   rw[tj,e,<- c];simp) (by rw[dg,c];rfl) (by simpa using b)
  rw[this];simp
end
def Js{v:eh}{Q:PUnit->eh->Prop}{st:eh}(h:Q ⟨⟩ v):wpS (da prog w) A E s (set v:StateT eh Sem PUnit) Q st:=by
 unfold wpS;rw[StateT.run_set];exact c7 ⟨J,h⟩
def xQ{st:eh}{i sa na pw sb G V:Nat}{P X q0 S:List ed}{Q:Bool->eh->Prop}(K:κ.OneLt)(F:kindOf st=hV)(hf:fC st=Y)(ks:∀x∈(fu st).toList,Ky κ x)
  (h1:(et st)[i]?=U (sa,na,pw)) (h2:(et st)[i+1]?=U (sb,G,V)) (e:(fu st).toList=P++X++q0++S) (hP:P.length=sa) (hX:X.length=na) (hY:q0.length=G) (Yw:sb=sa+na) (x0:0<na) (y0:0<G)
  (B:X.Pairwise<|gf κ) (v:q0.Pairwise<|gf κ)
  (q:∀b Z,(fu b).toList=P++Z++S->Z.Perm (X++q0)->Z.Pairwise (gf κ)->kindOf b=hV->fC b=Y->et b=((et st).setIfInBounds i (sa,na+G,pw)).eraseIdxIfInBounds (i+1)->Q O b) :
  wpS (da prog w) A E s (mergeAt' i) Q st:=by
 refine cq<|oe ?_;have e1:(et st)[i]?=U (sa,na,pw):=h1;show wpS _ _ _ _ (match((et st)[i]?,(et st)[i+1]?)with|(some (sa,na,W),some (sb,G,snd))=>_|x=>_) _ _
 rw[h1,h2];obtain⟨y1,T⟩:∃y,q0[0]?=U y:=⟨q0[0],by simp[hY,y0]⟩
 subst hP hX hY Yw;have u:(fu st).toList=P++X++(q0++S):=by rw[e,b_]
 have r:(fu st).toList=(P++X)++q0++S:=e;have hl:(fu st).size=P.length+X.length+q0.length+S.length:=by have:=cm Bb e;simp at this;lia
 have o:P.length+X.length=(P++X).length:=dg.symm;have ay:=hU r o T;refine cq<|Js ?_;refine cq<|bq (sJ ay)<|cq<|fP K F (k8 (arr:=fu st) (base:=P.length) (n:=X.length) (ks _<|dh ay) (by lia) ks
  λ_ _ _ _ a1 a2 a3 a4=>ck B (sI u J (by lia) a3) (sI u J a2 a4) a1) x0 λk k1 k2 k3=>?_
 have f1:∀x∈X.take k,gf κ x y1:=λx c=>by
  obtain⟨l,l1,l2⟩:=cA c
  have:=k2 l l1
  rw[any_some<|hU u J l2]at this;unfold gf y4;simpa[sD]using this
 have f2:∀x∈X.drop k,κ.blt (kx κ y1) (kx κ x)=O:=λx c=>by
  obtain⟨l,l1,l2⟩:=eZ c
  have:=k3 l l1 (du.mp l2).1
  rw[any_some<|hU u J l2]at this;simpa[sD]using this
 have L:∀x∈X.take k,∀y∈q0,gf κ x y:=λx c y d=>by
  obtain⟨l,l1⟩:=List.mem_iff_getElem?.mp d;exact eC (f1 x c)<|ck v T l1<|gq _
 show wpS _ _ _ _ (if(X.length-k == 0)=O then _ else _) _ _
 refine aJ (λh3=>?_) λh3=>?_
 .simp only[ix]at h3
  have:X.take k=X:=ux (by lia)
  rw[this]at L;exact cx<|q _ (X++q0) (by rw[<- b_];exact e) (.refl _) (jl.mpr ⟨B,v,L⟩) F hf J
 simp only[ix]at h3;obtain⟨I,R⟩:∃x,X[X.length-1]?=U x:=⟨X[X.length-1],by simp⟩
 have ax:=hU u J R;refine cq<|bq (sJ<|by rw[show P.length+k+(X.length-k)-1=P.length+(X.length-1) by lia];exact ax)<|cq<|fP K F (k8 (arr:=fu st) (base:=P.length+X.length) (n:=q0.length) (ks _<|dh ax) (by lia) ks
  λ_ _ _ _ a1 a2 a3 a4=>ck v (sI r o (by lia) a3) (sI r o a2 a4) a1) (by lia) λj j1 j2 j3=>?_
 have f3:∀y∈q0.take j,κ.blt (kx κ y) (kx κ I)=O:=λy d=>by
  obtain⟨l,l1,l2⟩:=cA d
  have:=j2 l l1
  rw[any_some<|hU r o l2]at this;simpa[sD]using this
 have f4:∀y∈q0.drop j,gf κ I y:=λy d=>by
  obtain⟨l,l1,l2⟩:=eZ d
  have:=j3 l l1 (du.mp l2).1
  rw[any_some<|hU r o l2]at this;unfold gf y4;simpa[sD]using this
 have hxm:I∈X.drop k:=dh (i:=X.length-1-k) (by rw[yE,show k+(X.length-1-k)=X.length-1 by lia];exact R)
 have j0:0<j:=Ll λh=>by
  have:=j3 0 (by lia) y0
  rw[any_some<|hU r o T]at this;have h4:=f2 I hxm;simp[sD,h4]at this
 show wpS _ _ _ _ (if(j == 0)=O then _ else _) _ _
 refine aJ (λh4=>?_) λ_=>?_
 .simp only[ix]at h4;lia
 have Zs:X.take k++X.drop k=X:=jM ..;have N:q0.take j++q0.drop j=q0:=jM ..;have lx:(X.take k).length=k:=by rw[eT];lia
 have ly:(q0.take j).length=j:=by rw[eT];lia
 have e2:(fu st).toList=(P++X.take k)++X.drop k++(q0++S):=by
  rw[b_ P<|X.take k,Zs];exact u
 have e3:(fu st).toList=(P++X)++q0.take j++(q0.drop j++S):=by
  rw[b_ (P++X)<|q0.take j,<- b_ (q0.take j) (q0.drop j) S,N,<- b_ (P++X) q0 S];exact r
 have D:((fu st).extract (P.length+k)<|P.length+X.length).toList=X.drop k:=z9 e2 (by rw[dg,lx]) (by rw[dg,lx,jL];lia)
 have C:((fu st).extract (P.length+X.length)<|P.length+X.length+j).toList=q0.take j:=z9 e3 o (by rw[ly,o])
 have M:Mg κ ((fu st).extract (P.length+k)<|P.length+X.length)<|(fu st).extract (P.length+X.length)<|P.length+X.length+j:=by
  have z1:((fu st).extract (P.length+k)<|P.length+X.length).size=X.length-k:=by rw[<- eo,D,jL]
  refine⟨by rw[D];exact B.sublist<|uz ..,by rw[C];exact v.sublist<|CU ..,λx c=>?_,λx c=>?_,by lia,by rw[<- eo,C,ly];exact j0,λx y c d=>?_,λx c y d=>?_⟩
  .rw[D]at c;exact ks x (by rw[u];exact Ba _<|jj _<|yz c)
  .rw[C]at c;exact ks x (by rw[r];exact Ba _<|jj _<|yx c)
  .rw[D]at c;rw[C]at d
   have:q0[0]?=U y:=by rw[yF]at d;rw[bt j0]at d;exact d
   rw[T]at this;cases this;exact f2 x<|dh c
  .rw[z1,D,yE,show k+(X.length-k-1)=X.length-1 by lia,R]at c
   cases c;rw[C]at d;exact f3 y d
 have fin:∀m b,SG (kv (kindOf st) (fu st) (((et st).setIfInBounds i (P.length,X.length+q0.length,pw)).eraseIdxIfInBounds<|i+1) (gallopOf st)<|fC st) b->Gd κ ((fu st).extract (P.length+k)<|P.length+X.length) ((fu st).extract (P.length+X.length)<|P.length+X.length+j) m ->
   ∀t,kindOf t=kindOf b->fC t=fC b->et t=et b->fu t=m.toList.zipIdx.foldl (λa (p:ed×Nat)=>a.setIfInBounds (P.length+k+p.2) p.1) (fu b)->Q O t:=λm b g ⟨g1,g2⟩ t a1 a2 a3 a4=>by
  rw[D,C]at g1;have e4:(fu b).toList=(P++X.take k)++(X.drop k++q0.take j)++(q0.drop j++S):=by
   rw[g.a];show(fu st).toList=_;rw[e2,show q0++S=q0.take j++(q0.drop j++S) by rw[<- b_,N]];simp only[b_]
  have e5:=MV (sa:=P.length+k) m.toList 0 (fu b) _ _ _ e4 (by rw[dg,lx];rfl) g1.length_eq.symm
  refine q t (X.take k++m.toList++q0.drop j) (by rw[a4,e5];simp) ?_ ?_ (a1.trans<|g.k.trans F) (a2.trans<|g.f.trans hf)<|a3.trans g.p
  .have:(X++q0)=X.take k++(X.drop k++q0.take j)++q0.drop j:=by
    rw[b_,b_,N,<- b_,Zs]
   rw[this];exact(g1.append_left _).append_right _
  .refine jl.mpr ⟨jl.mpr ⟨B.sublist<|CU ..,g2,λx c z H=>?_⟩,v.sublist<|uz ..,λx c y d=>?_⟩
   .rcases ir.mp (g1.mem_iff.mp H)with H|H
    .have:=B;rw[<- Zs]at this
     exact(jl.mp this).2.2 x c z H
    .exact L x c z<|yx H
   .rcases ir.mp c with c|c
    .exact L x c y<|yz d
    .rcases ir.mp (g1.mem_iff.mp c)with c|c
     .obtain⟨l,l1,l2⟩:=eZ c
      have:=(du.mp l2).1
      exact eC (ck B l2 R<|by lia)<|f4 y d
     .have:=v;rw[<- N]at this
      exact(jl.mp this).2.2 x c y d
 show wpS _ _ _ _ (if X.length-k<=j then _ else _) _ _
 have hi:∀b,SG (kv (kindOf st) (fu st) (((et st).setIfInBounds i (P.length,X.length+q0.length,pw)).eraseIdxIfInBounds<|i+1) (gallopOf st)<|fC st) b->fC b=Y:=λb g=>g.f.trans hf;refine aJ (λ_=>?_) λ_=>?_
 .refine cq<|xO K F M λm b g h=>?_
  refine cq<|ic<|cq<|oe<|cx ?_
  have:=fin m b g h (kv (kindOf b) (m.toList.zipIdx.foldl (λa (p:ed×Nat)=>a.setIfInBounds (P.length+k+p.2) p.1)<|fu b) (et b) (gallopOf b)<|fC b) J J J J
  show Q (fC b).isNone _;rw[hi b g];exact this
 .refine cq<|xP K F M λm b g h=>?_
  refine cq<|ic<|cq<|oe<|cx ?_
  have:=fin m b g h (kv (kindOf b) (m.toList.zipIdx.foldl (λa (p:ed×Nat)=>a.setIfInBounds (P.length+k+p.2) p.1)<|fu b) (et b) (gallopOf b)<|fC b) J J J J
  show Q (fC b).isNone _;rw[hi b g];exact this
def PV{α:Type}(L W R:List α)(n:Nat):(L++W++R)[n]?=if n<L.length then L[n]? else if n<L.length+W.length then W[n-L.length]? else R[n-(L.length+W.length)]?:=by
 rw[b_];by_cases h:n<L.length
 .rw[bt h,e_ h]
 .rw[ag h,eF<|by lia]
  by_cases h2:n<L.length+W.length
  .rw[bt h2,e_<|by lia]
  .rw[ag h2,eF<|by lia,show n-L.length-W.length=n-(L.length+W.length) by lia]
def vD{arr:Array ed}{L B R:List ed}{x:ed}(e:arr.toList=L++(B++[x])++R){src d:Nat}(c:src=L.length+B.length)(hd:d=B.length):(bubble arr src d).toList=L++(x::B)++R:=by
 have b:=cm Bb e;simp at b;refine ug λn=>?_;rw[ey,getElem?_bubble (by lia) d<|by lia,<- ey,<- ey,<- ey,e]
 rw[PV,PV,PV,PV];simp only[dg,bI,uv];by_cases h1:n=src-d
 .rw[bt h1,ag<|by lia,bt<|by lia,ag<|by lia,bt<|by lia,show n-L.length=0 by lia,show src-L.length=B.length by lia]
  simp
 .rw[ag h1]
  by_cases h2:src-d<n/\n<=src
  .rw[bt h2,ag<|by lia,bt<|by lia,ag<|by lia,bt<|by lia]
   obtain⟨m,a⟩:∃m,n-L.length=m+1:=⟨n-L.length-1,by lia⟩
   rw[a,show n-1-L.length=m by lia,e_<|by lia];rfl
  .rw[ag h2]
   by_cases h3:n<L.length
   .rw[bt h3,bt h3]
   .rw[ag h3,ag<|by lia,ag h3,ag<|by lia]
def vE{arr:Array ed}{L W R:List ed}(e:arr.toList=L++W++R){i j:Nat}(hi:i=L.length)(hj:j=L.length+W.length):(mirror arr i j<|(j-i)/2).toList=L++W.reverse++R:=by
 have a:=cm Bb e;simp at a;refine ug λn=>?_;rw[ey,getElem?_mirror_all<|by lia,<- ey,<- ey,e,PV,PV,PV]
 rw[wN];by_cases h1:i<=n/\n<j
 .rw[bt h1,ag<|by lia,bt<|by lia,ag<|by lia,bt<|by lia,C5<|by lia]
  congr 1;lia
 .rw[ag h1]
  by_cases h3:n<L.length
  .rw[bt h3,bt h3]
  .rw[ag h3,ag<|by lia,ag h3,ag<|by lia]
structure SS(κ:KeyKind)(pd:Array<|Nat×Nat×Nat)(P S T0:List ed)(st:eh)(T:List ed):Prop where
 k:kindOf st=hV
 f:fC st=Y
 p:et st=pd
 e:(fu st).toList=P++T++S
 m:T.Perm T0
 y:∀x∈T0,Ky κ x
variable{pd:Array<|Nat×Nat×Nat}{P S T0 T:List ed}{st:eh}
def SS.len(h:SS κ pd P S T0 st T):T.length=T0.length:=h.m.length_eq
def SS.ky(h:SS κ pd P S T0 st T){x:ed}(a:x∈T):Ky κ x:=h.y x<|h.m.mem_iff.mp a
def SS.lt(h:SS κ pd P S T0 st T)(l:κ.OneLt){i j a b:Nat}{x y:ed}{Q:Option Bool->eh->Prop}(g:a=P.length+i)(f:b=P.length+j)(d:T[i]?=U x)(c:T[j]?=U y)(q:Q (U<|κ.blt (kx κ x)<|kx κ y) st) :
  wpS (da prog w) A E s (ltAt' a b) Q st:=by
 subst g f;rw[ltAt'_eq];refine cq<|oe<|cq<|bq (sJ<|hU h.e J d)<|cq<|bq (sJ<|hU h.e J c) ?_;exact vC l h.k (h.ky<|dh d) (h.ky<|dh c) q
def SS.set(h:SS κ pd P S T0 st T){xs:Array ed}{a:List ed}(e:xs.toList=P++a++S)(m:a.Perm T):SS κ pd P S T0 (setArr st xs) a:=⟨h.k,h.f,h.p,e,m.trans h.m,h.y⟩
def PX{α:Type}{l:List α}{k:Nat}{x:α}(h:l[k]?=U x):l=l.take k++x::l.drop (k+1):=by rw[<- drop_cons h,jM]
def qb{lo n ok:Nat}{Q:Bool->eh->Prop}(hO:κ.OneLt)(h:SS κ pd P S T0 st T)(Xo:lo=P.length)(hn:n<=T0.length)(aZ:ok<=n)(hs:(T.take ok).Pairwise<|gf κ)
  (q:∀g f,SS κ pd P S T0 g f->(f.take n).Pairwise (gf κ)->Q O g):wpS (da prog w) A E s (binarySort' lo n ok) Q st:=by
 subst Xo;rw[binarySort'_eq];refine cq<|hQ (fw (I:=λk c g=>c=(Y,())/\∃f,SS κ pd P S T0 g f/\(f.take<|min k n).Pairwise (gf κ))
  (Q:=λc g=>c=(Y,())/\∃f,SS κ pd P S T0 g f/\(f.take n).Pairwise (gf κ)) ?_ ?_ ?_) ?_
 rotate_left
 .rintro c g ⟨hc,f,D,z⟩
  rw[show min (max (max ok 1) n) n=n by lia]at z
  exact⟨hc,f,D,z⟩
 .refine⟨J,T,h,?_⟩
  by_cases p:ok=0
  .subst p
   match T with
   |[]=>simp
   |x::T=>
    match hm:min (max 0 1) n with
    |0=>simp
    |1=>simp
    |m+2=>lia
  .rw[show min (max ok 1) n=ok by lia];exact hs
 .rintro c g ⟨rfl,f,D,z⟩
  exact cx<|q _ _ D z
 rintro k c oz MT xN ⟨rfl,T1,p,F⟩
 rw[show min k n=k by lia]at F
 have hl:=p.len;obtain⟨x,R⟩:∃x,T1[k]?=U x:=⟨T1[k],by simp⟩
 have mono:∀i j,i<=j->j<k->((T1[j]?).any λy=>!κ.blt (kx κ x) (kx κ y))=O->((T1[i]?).any λy=>!κ.blt (kx κ x) (kx κ y))=O:=λi j L hj a=>by
  obtain⟨u,t⟩:∃u,T1[i]?=U u:=⟨T1[i],by simp⟩
  obtain⟨v,o⟩:∃v,T1[j]?=U v:=⟨T1[j],by simp⟩
  rw[any_some t];rw[any_some o]at a;simp only[uE]at a ⊢;exact eC (ck (i:=i) (j:=j) F (by rw[yF,bt<|by lia];exact t) (by rw[yF,bt hj];exact o) L) a
 have lJ:∀i j,i<=j->j<k->((T1[i]?).any λy=>!κ.blt (kx κ x) (kx κ y))=Zb->((T1[j]?).any λy=>!κ.blt (kx κ x) (kx κ y))=Zb:=λi j L hj a=>by
  cases C:(T1[j]?).any λy=>!κ.blt (kx κ x) (kx κ y)
  .rfl
  .rw[mono i j L hj C]at a;cases a
 refine sF (bd:=λi=>(T1[i]?).any λy=>!κ.blt (kx κ x) (kx κ y)) (n:=k) mono lJ (λx' l r hlr hr Q' a=>?_) (λl a1 a2 a3=>?_) (gq _) (bW _) (λ_ h=>by lia) λ_ h D=>by lia
 .show wpS _ _ _ _ (if l ≥ r then _ else _) _ _
  refine aJ (λb=>?_) λb=>?_
  .rw[bt b]at a;exact cx a
  rw[ag b,show l+(r-l)/2=(l+r)/2 by lia]at a
  obtain⟨y,B⟩:∃y,T1[(l+r)/2]?=U y:=⟨T1[(l+r)/2],by simp⟩
  refine cq<|p.lt hO J J R B ?_;rw[any_some B]at a;cases C:κ.blt (kx κ x) (kx κ y)
  .rw[C]at a;exact cx a
  .rw[C]at a;exact cx a
 .show wpS _ _ _ _ (moveDown' (P.length+k) (P.length+l) >>= _) _ _
  rw[moveDown'_eq];have V:=PX R;have H:T1.take k=T1.take l++(T1.drop l).take (k-l):=by
   rw[List.take_drop,show l+(k-l)=k by lia]
   conv=>lhs;rw[<- jM l<|T1.take k]
   rw[List.take_take,show min l k=l by lia]
  have ś:(T1.take l).length=l:=by rw[eT];lia
  have K:((T1.drop l).take<|k-l).length=k-l:=by rw[eT,jL];lia
  have e1:(fu oz).toList=(P++T1.take l)++((T1.drop l).take (k-l)++[x])++(T1.drop (k+1)++S):=by
   rw[p.e]
   conv=>lhs;rw[V,H]
   simp only[b_,uo,lT]
  refine cq<|ic<|cx ⟨J,T1.take l++(x::(T1.drop l).take (k-l))++T1.drop (k+1),p.set ?_ ?_,?_⟩
  .have:=vD e1 (src:=P.length+k) (d:=P.length+k-(P.length+l)) (by rw[dg,ś,K];lia) (by rw[K];lia)
   rw[this];simp only[b_,uo,lT]
  .conv=>rhs;rw[V,H]
   simp only[b_,uo,lT];exact kK.append_left _ List.perm_middle.symm
  .rw[show min (k+1) n=k+1 by lia,qj<|by rw[dg,bI,ś,K];lia]
   have M:=F;rw[H]at M;obtain⟨Z,X,W⟩:=jl.mp M;refine jl.mpr ⟨Z,C6.mpr ⟨λy B=>?_,X⟩,λu t v o=>?_⟩
   .obtain⟨i,N,G⟩:=cM B
    have:=a3 (l+i) (by lia) (by lia)
    rw[any_some G]at this;exact fv (by unfold KeyOrd.klt;simpa using this)
   .rcases bK.mp o with rfl|o
    .obtain⟨i,N,G⟩:=cA t
     have:=a2 i N
     rw[any_some G]at this;unfold gf y4;simpa using this
    .exact W u t v o
def take_snoc{α:Type}{l:List α}{n:Nat}{u:α}(h:l[n]?=U u):l.take (n+1)=l.take n++[u]:=by rw[List.take_add_one,h];rfl
def iX{α:Type}{l:List α}{i n:Nat}{u:α}(h:l[i]?=U u)(hi:i<n):(l.take n)[i]?=U u:=by rw[yF,bt hi];exact h
def asc{l:Type}{n a:Nat}{Q:l->eh->Prop}{f:Nat->Option (Option Nat)×Nat->StateT eh Sem (ForInStep<|Option (Option Nat)×Nat)}{K:Option (Option Nat)×Nat->StateT eh Sem l}
  (H:n<=T.length) (L:1<=a) (h:a<=n) (C:(T.take a).Pairwise<|gf κ)
  (D:∀x m u v,T[m]?=U u->T[m-1]?=U v->1<=m->∀k,(if κ.blt (kx κ u) (kx κ v)=O then k (.done (Y,m)) st else k (.yield (Y,m+1)) st)->wpS (da prog w) A E s (f x (Y,m)) k st)
  (q:∀m,a<=m->m<=n->(T.take m).Pairwise (gf κ)->(m=n\/∃u v,T[m]?=U u/\T[m-1]?=U v/\κ.blt (kx κ u) (kx κ v)=O)->wpS (da prog w) A E s (K (Y,m)) Q st) :
  wpS (da prog w) A E s (forIn [a:n] ((Y,a):Option (Option Nat)×Nat) f >>= K) Q st:=by
 refine cq<|hQ (fw (I:=λx c d=>d=st/\c=(Y,x)/\(T.take x).Pairwise (gf κ))
  (Q:=λc d=>d=st/\∃m,c=(Y,m)/\a<=m/\m<=n/\(T.take m).Pairwise (gf κ)/\(m=n\/∃u v,T[m]?=U u/\T[m-1]?=U v/\κ.blt (kx κ u) (kx κ v)=O)) ?_ ?_ ⟨J,J,C⟩) ?_
 .rintro x c d j o ⟨rfl,rfl,b⟩
  obtain⟨u,g⟩:∃u,T[x]?=U u:=⟨T[x],by simp⟩
  obtain⟨v,e⟩:∃v,T[x-1]?=U v:=⟨T[x-1],by simp⟩
  refine D x x u v g e (by lia) _ ?_
  split
  .exact⟨J,x,J,j,by lia,b,.inr ⟨u,v,g,e,by assumption⟩⟩
  .rename_i F
   refine⟨J,J,?_⟩;rw[take_snoc g];refine jl.mpr ⟨b,C7 ..,λy B z t=>?_⟩;rw[iw.mp t];obtain⟨i,r,p⟩:=cA B;exact eC (ck b (iX p r) (iX e<|by lia)<|by lia)<|me F
 .rintro c d ⟨rfl,rfl,b⟩
  rw[show max a n=n by lia]at b ⊢
  exact⟨J,n,J,h,bW _,b,.inl J⟩
 .rintro c d ⟨rfl,m,rfl,j,o,b,G⟩
  exact q m j o b G
def z_{n:Nat}{v:ed}(h:(T.take n).Pairwise<|B0 κ)(k:1<=n)(c:T[n-1]?=U v){a:ed}(j:a∈T.take n):gf κ v a:=by
 obtain⟨i,g,b⟩:=cA j;rcases CN i (n-1)with d|d
 .obtain⟨f,rfl⟩:=du.mp<|iX b g
  obtain⟨e,rfl⟩:=du.mp<|iX c<|show n-1<n by lia
  exact uA.mp h i (n-1) f e d
 .have:i=n-1:=by lia
  subst this;rw[c]at b;cases b;exact sq _
def ko{n:Nat}{u:ed}(h:(T.take n).Pairwise<|B0 κ)(d:T[n]?=U u)(e:∀a∈T.take n,gf κ u a):(T.take<|n+1).Pairwise<|B0 κ:=by
 rw[take_snoc d];exact jl.mpr ⟨h,C7 ..,λy c z b=>by rw[iw.mp b];exact e y c⟩
def RE(κ:KeyKind)(T:List ed)(n q:Nat):Prop:=∀i u v,n-(q+1)<=i->i<n->T[i]?=U u->T[n-1]?=U v->kx κ u=kx κ v
def RE.zero(x:Nat):RE κ T (x+1) 0:=λi u v d c b a=>by
 have:i=x:=by lia
 subst this;have a:T[i]?=U v:=a;rw[b]at a;cases a;rfl
def E9{n q:Nat}(t:n<=T.length)(s:q+1<=n)(h:(T.take n).Pairwise<|B0 κ)(he:RE κ T n q) :
  ∃a,a=T.take (n-(q+1))++((T.drop<|n-(q+1)).take<|q+1).reverse++T.drop n/\a.Perm T/\(a.take n).Pairwise (B0 κ)/\(a.take n).Perm (T.take n)/\(∀m,n<=m->a[m]?=T[m]?)/\T=T.take (n-(q+1))++(T.drop<|n-(q+1)).take (q+1)++T.drop n:=by
 have d:T.take n=T.take (n-(q+1))++(T.drop<|n-(q+1)).take (q+1):=by
  have:=LA (l:=T) (i:=n-(q+1)) (j:=q+1)
  rw[show n-(q+1)+(q+1)=n by lia]at this
  exact this
 have o:T=T.take (n-(q+1))++(T.drop<|n-(q+1)).take (q+1)++T.drop n:=by rw[<- d,jM]
 have l1:(T.take (n-(q+1))++((T.drop<|n-(q+1)).take<|q+1).reverse).length=n:=by
  rw[dg,wN,<- dg,<- d,eT];lia
 have e:(T.take (n-(q+1))++((T.drop<|n-(q+1)).take<|q+1).reverse).Perm<|T.take n:=by
  rw[d];exact kK.append_left _<|uq _
 refine⟨_,J,?_,?_,?_,λm u=>?_,o⟩
 .refine kK.trans (e.append_right _) ?_
  rw[jM]
 .rw[qj l1]
  rw[d]at h;obtain⟨a1,a2,a3⟩:=jl.mp h;refine jl.mpr ⟨a1,?_,λx c y b=>a3 x c y<|lU.mp b⟩;refine uB.mpr<|uA.mpr λi j hi hj _=>?_;have c:=wQ hi;have b:=wQ hj
  generalize ((T.drop<|n-(q+1)).take<|q+1)[i]=x at c
  generalize ((T.drop<|n-(q+1)).take<|q+1)[j]=y at b
  obtain⟨v,f⟩:∃v,T[n-1]?=U v:=⟨T[n-1],by simp⟩
  obtain⟨i,r,k⟩:=cM c;obtain⟨j,p,g⟩:=cM b;have b1:=he _ _ _ (by lia) (by lia) k f
  have b2:=he _ _ _ (by lia) (by lia) g f
  unfold B0 gf;rw[b1,b2];exact sq _
 .rw[qj l1];exact e
 .rw[eF<|by lia,l1,yE,show n+(m-n)=m by lia]
def SS.rev(h:SS κ pd P S T0 st T){L W R:List ed}{a b:Nat}{Q:Unit->eh->Prop}(e:T=L++W++R)(f:a=P.length+L.length)(d:b=P.length+L.length+W.length)
  (q:∀c,SS κ pd P S T0 c (L++W.reverse++R)->Q () c):wpS (da prog w) A E s (reverseSlice' a b) Q st:=by
 rw[reverseSlice'_eq];refine ic<|q _<|h.set ?_ ?_
 .have:=vE (arr:=fu st) (L:=P++L) (W:=W) (R:=R++S) (by rw[h.e,e];simp only[b_]) (i:=a) (j:=b) (by rw[dg];exact f) (by rw[dg];exact d)
  rw[this];simp only[b_]
 .rw[e];exact((uq _).append_left _).append_right _
def Jt{x:Nat}(h:(T.take x).Pairwise<|B0 κ)(a:x<=T.length):(((T.take x).reverse++T.drop x).take x).Pairwise<|gf κ:=by
 rw[qj<|by rw[wN,eT];lia]
 exact uB.mpr h
def vG{lo n:Nat}{Q:Option Nat->eh->Prop}(F:κ.OneLt)(h:SS κ pd P S T0 st T)(Xo:lo=P.length)(hn:n=T0.length)(h1:1<=n)
  (q:∀m o f,SS κ pd P S T0 o f->1<=m->m<=n->(f.take m).Pairwise (gf κ)->Q (U m) o):wpS (da prog w) A E s (countRun' lo n) Q st:=by
 subst Xo;have hl:=h.len;refine asc (T:=T) (κ:=κ) (by lia) (bW 1) h1 ?_ (λx m u v k p m1 Q' a=>?_) λm m1 m2 m3 m4=>?_
 .cases T<;>simp
 .refine cq<|h.lt F J (by lia) k p ?_
  cases D:κ.blt (kx κ u) (kx κ v)
  .rw[D]at a;exact cx a
  .rw[D]at a;exact cx a
 show wpS _ _ _ _ (if(m == n)=O then _ else _) _ _
 refine aJ (λe=>cx<|q m st T h m1 m2 m3) λe=>?_;have e:m≠n:=by simpa using e
 obtain⟨u0,v0,II,Ŝ,ŝ⟩:=m4.resolve_left e;show wpS _ _ _ _ (if m > 1 then _ else _) _ _
 apply E6 λo=>∃f,SS κ pd P S T0 o f/\(f.take<|m+1).Pairwise (B0 κ)
 rotate_left
 .intro g
  have:m=1:=by lia
  subst this;refine⟨T,h,ko (u:=u0) ?_ II λa l=>?_⟩
  .exact uA.mpr λi j hi hj _=>by rw[eT]at hi hj;lia
  .obtain⟨i,i1,C⟩:=cA l
   have:i=0:=by lia
   subst this;rw[Ŝ]at C;cases C;exact fv ŝ
 .intro g H
  obtain⟨z,hz⟩:∃z,T[0]?=U z:=⟨T[0],by simp⟩
  refine cq<|h.lt F J (by lia) hz Ŝ ?_
  show wpS _ _ _ _ (if κ.blt (kx κ z) (kx κ v0)=O then _ else _) _ _
  refine aJ (λ_=>cx<|q m st T h m1 m2 m3) λr=>?_;refine cq<|h.rev (L:=[]) (W:=T.take m) (R:=T.drop m) (by rw[lT,jM]) J (by rw[eT];simp;lia) λoz M=>?_
  rw[lT]at M;have V:(T.take m).reverse.length=m:=by rw[wN,eT];lia
  refine H oz ⟨_,M,ko (u:=u0) ?_ ?_ λa l=>?_⟩
  .rw[qj V];exact g_ m3
  .rw[eF<|by lia,V,kH,yE];exact II
  .rw[qj V,lU]at l
   obtain⟨i,i1,C⟩:=cA l;exact eC (fv ŝ)<|eC (me r)<|ck m3 (iX hz<|by lia) (iX C i1)<|gq _
 rintro oz ⟨T1,M,hg⟩
 refine cq<|rr<|p0 ⟨J,?_⟩;refine cq<|hQ (fw (I:=λx c o=>∃f r,c=(Y,x,r)/\SS κ pd P S T0 o f/\(f.take x).Pairwise (B0 κ)/\r+1<=x/\RE κ f x r)
  (Q:=λc o=>∃x f r,c=(Y,x,r)/\1<=x/\x<=n/\SS κ pd P S T0 o f/\(f.take x).Pairwise (B0 κ)/\r+1<=x/\RE κ f x r) ?_ ?_ ⟨_,0,J,M,hg,by lia,RE.zero m⟩) ?_
 .rintro x c lZ MW Ş ⟨T2,r,rfl,d,g2,g3,g4⟩
  have l2:=d.len;obtain⟨u,k⟩:∃u,T2[x]?=U u:=⟨T2[x],by simp⟩
  obtain⟨v,p⟩:∃v,T2[x-1]?=U v:=⟨T2[x-1],by simp⟩
  refine cq<|d.lt F J (by dsimp only;lia) k p ?_
  show wpS _ _ _ _ (if κ.blt (kx κ u) (kx κ v)=O then _ else _) _ _
  refine aJ (λb=>?_) λb=>?_
  .have Vv:∀a∈T2.take x,gf κ u a:=λa l=>eC (fv b)<|z_ g2 (by lia) p l
   show wpS _ _ _ _ (if r > 0 then _ else _) _ _
   refine aJ (λ_=>?_) λ_=>?_
   .obtain⟨T3,e3,p3,B,q3,k3,e4⟩:=E9 (by lia) g3 g2 g4
    have G:(T2.take<|x-(r+1)).length=x-(r+1):=by rw[eT];lia
    refine cq<|d.rev e4 (by rw[G];dsimp only;lia) (by rw[G,eT,jL];dsimp only;lia) λX t=>?_
    rw[<- e3]at t;exact cx ⟨T3,0,J,t,ko B (by rw[k3 x<|bW _];exact k) λa l=>Vv a<|q3.mem_iff.mp l,by lia,.zero x⟩
   .exact cx ⟨T2,0,J,d,ko g2 k Vv,by lia,.zero x⟩
  .refine cq<|d.lt F (by dsimp only;lia) J p k ?_
   show wpS _ _ _ _ (if κ.blt (kx κ v) (kx κ u)=O then _ else _) _ _
   refine aJ (λb'=>cx ⟨x,T2,r,J,by lia,by lia,d,g2,g3,g4⟩) λb'=>?_
   have ş:kx κ u=kx κ v:=KeyOrd.kle_antisymm (me b')<|me b;refine cx ⟨T2,r+1,J,d,ko g2 k λa l=>?_,by lia,λi y z i1 C Z i4=>?_⟩
   .have:=z_ g2 (by lia) p l
    unfold gf;rw[ş];exact this
   .rw[Nat.add_sub_cancel,k]at i4
    cases i4;rcases CN i x with i5|i5
    .rw[ş];exact g4 i y v (by lia) i5 Z p
    .have:i=x:=by lia
     subst this;rw[k]at Z;cases Z;rfl
 .rintro c lZ ⟨T2,r,rfl,d,g2,g3,g4⟩
  rw[show max (m+1) n=n by lia]at g2 g3 g4 ⊢
  exact⟨n,T2,r,J,h1,bW _,d,g2,g3,g4⟩
 rintro c lZ ⟨x,T2,r,rfl,MW,Ş,d,g2,g3,g4⟩
 have l2:=d.len;show wpS _ _ _ _ (if r > 0 then _ else _) _ _
 apply E6 λo=>∃T3,SS κ pd P S T0 o T3/\(T3.take x).Pairwise (B0 κ)
 rotate_left
 .exact λ_=>⟨T2,d,g2⟩
 .intro g H
  obtain⟨T3,e3,p3,B,q3,k3,e4⟩:=E9 (by lia) g3 g2 g4
  have G:(T2.take<|x-(r+1)).length=x-(r+1):=by rw[eT];lia
  refine cq<|d.rev e4 (by rw[G];dsimp only;lia) (by rw[G,eT,jL];dsimp only;lia) λX t=>?_
  rw[<- e3]at t;exact H X ⟨T3,t,B⟩
 rintro X ⟨T3,t,B⟩
 have l3:=t.len;refine cq<|t.rev (L:=[]) (W:=List.take x _) (R:=List.drop x _) (by rw[lT,jM]) J (by rw[eT];simp;lia) λpC K=>?_
 rw[lT]at K;have l4:=K.len;have hs4:=Jt B (by lia)
 refine asc (κ:=κ) (by lia) MW Ş hs4 (λx' m' u v k p Š Q' a=>?_) λm' Š N Hy _=>cx<|q m' pC _ K (dq MW Š) N Hy
 refine cq<|K.lt F J (by dsimp only;lia) k p ?_
 cases D:κ.blt (kx κ u) (kx κ v)
 .rw[D]at a;exact cx a
 .rw[D]at a;exact cx a
abbrev Pe:=Nat×Nat×Nat
inductive Pn:List Pe->List (List ed)->Nat->Prop
 |nil (o:Nat):Pn [] [] o
 |cons {o p:Nat} {R:List ed} {ps:List Pe} {Rs:List<|List ed}:Pn ps Rs (o+R.length)->Pn ((o,R.length,p)::ps) (R::Rs) o
theorem Pn.len:∀{ps:List Pe}{a:List<|List ed}{o:Nat},Pn ps a o->ps.length=a.length
 |_,_,_,.nil _=>J
 |_,_,_,.cons h=>by rw[bI,bI,h.len]
theorem Pn.merge:∀{ps:List Pe}{L R:List<|List ed}{X g:List ed}{o:Nat},Pn ps (L++X::g::R) o ->
  ∃p a,ps[L.length]?=U (o+L.flatten.length,X.length,p)/\ps[L.length+1]?=U (o+L.flatten.length+X.length,g.length,a) /\
   ∀Z:List ed,Z.length=X.length+g.length->Pn ((ps.set L.length (o+L.flatten.length,X.length+g.length,p)).eraseIdx<|L.length+1) (L++Z::R) o
 |_,[],R,X,g,o,.cons (p:=p)<|.cons (p:=a) h=>⟨p,a,J,J,λZ b=>by
   rw[<- b];exact .cons<|by rw[b,<- CP];exact h⟩
 |_,W::L,R,X,g,o,.cons (p:=q) h=>by
  obtain⟨p,a,f,d,c⟩:=Pn.merge (L:=L) h;have e:o+(W::L).flatten.length=o+W.length+L.flatten.length:=by rw[kJ,dg,CP]
  rw[e];exact⟨p,a,f,d,λZ b=>.cons<|c Z b⟩
theorem Pn.snoc:∀{ps:List Pe}{a:List<|List ed}{o:Nat},Pn ps a o->∀(R:List ed)(p:Nat),Pn (ps++[(o+a.flatten.length,R.length,p)]) (a++[R]) o
 |_,_,_,.nil o,R,p=>.cons<|.nil _
 |_,W::a,o,.cons h,R,p=>by
  have:=h.snoc R p
  rw[kJ,dg,<- CP];exact .cons this
theorem Pn.pow{f:Pe->Pe}(b:∀x,(f x).1=x.1/\(f x).2.1=x.2.1):∀{ps:List Pe}{a:List<|List ed}{o:Nat},Pn ps a o->∀i,Pn (ps.modify i f) a o
 |_,_,_,.nil o,i=>by cases i<;>exact .nil o
 |_,R::a,o,.cons (p:=p) h,0=>by
  rw[List.modify_zero_cons]
  have:=b (o,R.length,p)
  rw[show f (o,R.length,p)=(o,R.length,(f (o,R.length,p)).2.2)from Prod.ext this.1<|Prod.ext this.2 J];exact .cons h
 |_,R::a,o,.cons h,i+1=>by rw[List.modify_succ_cons];exact .cons<|h.pow b i
structure RS(κ:KeyKind)(a₀:Array ed)(st:eh)(Rs:List<|List ed)(rest:List ed):Prop where
 k:kindOf st=hV
 f:fC st=Y
 e:(fu st).toList=Rs.flatten++rest
 pn:Pn (et st).toList Rs 0
 so:∀R∈Rs,0<R.length/\R.Pairwise (gf κ)
 m:(fu st).toList.Perm a₀.toList
 y:∀x∈a₀.toList,Ky κ x
variable{a₀:Array ed}{Rs:List<|List ed}{rest:List ed}
def RS.many(h:RS κ a₀ st Rs rest):Rs.length<=Rs.flatten.length:=by
 have:=h.so
 clear h
 induction Rs with
 |nil=>exact bW _
 |cons R Rs a=>
  rw[kJ,dg,bI];have d:=(this R<|bC ..).1;have c:=a λR b=>this R<|eE _ b
  lia
theorem RS.merge{i:Nat}{Q:Bool->eh->Prop}(z:κ.OneLt)(h:RS κ a₀ st Rs rest)(hi:i+1<Rs.length)(q:∀c b,RS κ a₀ c b rest->b.length+1=Rs.length->b.flatten.length=Rs.flatten.length->Q O c) :
  wpS (da prog w) A E s (mergeAt' i) Q st:=by
 obtain⟨L,X,F,R,rfl,B⟩:∃L X F R,Rs=L++X::F::R/\L.length=i:=by
  refine⟨Rs.take i,Rs[i],Rs[i+1],Rs.drop<|i+2,?_,by rw[eT];lia⟩
  rw[<- jN,<- jN,jM]
 subst B;obtain⟨p,D,o,n,l⟩:=Pn.merge h.pn;rw[pK]at o n l;have e:(fu st).toList=L.flatten++X++F++(R.flatten++rest):=by rw[h.e];simp
 have g:=h.so X (by simp)
 have d:=h.so F (by simp)
 refine xQ z h.k h.f (λx v=>h.y x<|h.m.mem_iff.mp v) (by rw[<- ey];exact o) (by rw[<- ey];exact n) e J J J J g.1 d.1 g.2 d.2 λc Z r j sz u C t=>?_
 have lz:Z.length=X.length+F.length:=by rw[j.length_eq,dg]
 refine q c (L++Z::R) ⟨u,C,by rw[r,uC,kJ];simp only[b_],?_,λW a=>?_,?_,h.y⟩ (by simp;lia) (by simp only[uC,kJ,dg,lz];lia)
 .rw[t,Array.toList_eraseIdxIfInBounds,tj];exact l Z lz
 .rcases ir.mp a with a|a
  .exact h.so W<|Ba _ a
  .rcases bK.mp a with rfl|a
   .exact⟨by lia,sz⟩
   .exact h.so W<|jj _<|eE _<|eE _ a
 .refine kK.trans ?_ h.m
  rw[r,e];refine kK.append_right _ ?_;rw[b_];exact kK.append_left _ j
def vH{Q:Unit->eh->Prop}(V:κ.OneLt)(hk:kindOf st=hV)(hf:fC st=Y)(hp:et st=#[])(ha:fu st=a₀)(y:∀x∈a₀.toList,Ky κ x)(h2:2<=a₀.size)
  (q:∀d,(fu d).toList.Perm a₀.toList->fC d=Y->(fu d).toList.Pairwise (gf κ)->Q () d):wpS (da prog w) A E s sortRuns' Q st:=by
 have R0:RS κ a₀ st [] a₀.toList:=⟨hk,hf,by rw[ha];rfl,by rw[hp];exact .nil 0,λR K=>(nomatch K),by rw[ha],y⟩
 have hz:(fu st).size=a₀.size:=by rw[ha]
 refine cq<|oe ?_;show wpS _ _ _ _ (forIn [:(fu st).size] ((Y,0):Option Unit×Nat) _ >>= _) Q st;rw[hz];refine cq<|hQ (fw (I:=λx c d=>∃Rs rest,c=(Y,Rs.flatten.length)/\RS κ a₀ d Rs rest/\Rs.flatten.length+rest.length=a₀.size/\(x<=Rs.flatten.length))
  (Q:=λc d=>∃Rs,c.1=Y/\RS κ a₀ d Rs []/\Rs.flatten.length=a₀.size) ?_ ?_ ⟨[],a₀.toList,J,R0,by simp,gq _⟩) ?_
 rotate_left
 .rintro c d ⟨Rs,rest,rfl,h,T,C⟩
  have:rest=[]:=uw.mp (by lia)
  subst this;exact⟨Rs,J,h,by simpa using T⟩
 .rintro⟨c,lo⟩ L ⟨Rs,e,h,T⟩
  cases e;refine cq<|hQ (fw (I:=λx c d=>∃Rs,c=(Y,())/\RS κ a₀ d Rs []/\Rs.flatten.length=a₀.size/\(Rs.length+x<=a₀.size\/Rs.length<=1))
   (Q:=λc d=>∃Rs,c=(Y,())/\RS κ a₀ d Rs []/\Rs.flatten.length=a₀.size/\Rs.length<=1) ?_ ?_ ⟨Rs,J,h,T,.inl<|by have:=h.many;lia⟩) ?_
  .rintro x c N _ Z ⟨r,rfl,t,C,o⟩
   have lp:(et N).size=r.length:=by rw[<- eo];exact t.pn.len
   refine cq<|oe ?_;show wpS _ _ _ _ (if(et N).size<=1 then _ else _) _ _
   refine aJ (λb=>cx ⟨r,J,t,C,by lia⟩) λb=>?_
   refine cq<|t.merge V ?_ λu Rs3 z S h8=>?_
   .refine(show ∀i,i<=(et N).size-2->i+1<r.length from λi hi=>by lia) _ ?_
    (repeat' split)<;>first|exact bW _|exact Nat.sub_le _ _
   .exact cx ⟨Rs3,J,z,by lia,by lia⟩
  .rintro c N ⟨r,rfl,t,C,o⟩
   exact⟨r,J,t,C,by lia⟩
  .rintro c N ⟨r,rfl,t,C,o⟩
   refine cx<|q N t.m t.f ?_
   match r,t,C,o with
   |[],_,C,_=>simp at C;lia
   |[R],t,_,_=>rw[t.e];simpa using(t.so R<|bC ..).2
   |_::_::_,_,_,o=>simp at o
 rintro x c L _ Z ⟨Rs,rest,rfl,h,T,C⟩
 show wpS _ _ _ _ (if Rs.flatten.length ≥ a₀.size then _ else _) _ _
 refine aJ (λb=>?_) λb=>?_
 .have:rest=[]:=uw.mp (by lia)
  subst this;exact cx ⟨Rs,J,h,by simpa using T⟩
 have s0:SS κ (et L) Rs.flatten [] rest L rest:=⟨h.k,h.f,J,by rw[dw];exact h.e,.refl _,λx Z=>h.y x<|h.m.mem_iff.mp<|by rw[h.e];exact jj _ Z⟩
 refine cq<|vG V s0 J (by lia) (by lia) λm u T3 a m1 m2 F=>?_
 have fin:∀{u:eh}{T3:List ed}{n:Nat},SS κ (et L) Rs.flatten [] rest u T3->1<=n->n<=rest.length->(T3.take n).Pairwise (gf κ)->∀{l:eh}{j:List<|List ed},RS κ a₀ l j T3->j.flatten.length=Rs.flatten.length ->
   ∀{G:eh},kindOf G=kindOf l->fC G=fC l->fu G=fu l->(∃ps,Pn ps j 0/\(et G).toList=ps++[(Rs.flatten.length,n,0)]) ->
   ∃D B,((Y,Rs.flatten.length+n):Option Unit×Nat)=(Y,D.flatten.length)/\RS κ a₀ G D B/\D.flatten.length+B.length=a₀.size/\x+1<=D.flatten.length:=λ{u T3 n} a M P n3 {l j} o z {G} a1 a2 a3 a4=>by
  have lt:(T3.take n).length=n:=by rw[eT,a.len];lia
  have e1:(j++[T3.take n]).flatten.length=Rs.flatten.length+n:=by rw[uC,dg,z];simp[lt]
  refine⟨j++[T3.take n],T3.drop n,by rw[e1],⟨a1.trans o.k,a2.trans o.f,?_,?_,λR K=>?_,by rw[a3];exact o.m,o.y⟩,?_,by lia⟩
  .rw[a3,o.e,uC,b_];simp
  .obtain⟨ps,b1,b2⟩:=a4
   have:=b1.snoc (T3.take n) 0
   rw[pK,z,lt]at this;rw[b2];exact this
  .rcases ir.mp K with K|K
   .exact o.so R K
   .rw[iw.mp K];exact⟨by lia,n3⟩
  .rw[e1,jL,a.len];lia
 have X:∀{u:eh}{T3:List ed},SS κ (et L) Rs.flatten [] rest u T3->RS κ a₀ u Rs T3:=λ{u T3} a=>
  ⟨a.k,a.f,by rw[a.e,dw],by rw[a.p];exact h.pn,h.so,by
   refine kK.trans ?_ h.m;rw[a.e,h.e,dw];exact kK.append_left _ a.m,h.y⟩
 show wpS _ _ _ _ (if m<minRun' a₀.size a₀.size 0 then _ else _) _ _
 apply PR (y:=m) λn d=>∃T3,SS κ (et L) Rs.flatten [] rest d T3/\1<=n/\n<=rest.length/\(T3.take n).Pairwise (gf κ)
 rotate_left
 .exact λ_=>⟨T3,a,m1,by lia,F⟩
 .intro g H
  refine cq<|rr<|p0 ⟨J,?_⟩;refine cq<|qb (n:=min (a₀.size-Rs.flatten.length)<|minRun' a₀.size a₀.size 0) V a J (by lia) (by lia) F λu T3 a F=>?_
  have M:1<=min (a₀.size-Rs.flatten.length) (minRun' a₀.size a₀.size 0):=by lia
  have P:min (a₀.size-Rs.flatten.length) (minRun' a₀.size a₀.size 0)<=rest.length:=by lia
  exact H _ _ ⟨T3,a,M,P,F⟩
 clear m1 m2 F a
 rintro n u ⟨T3,a,M,P,F⟩
 have o:=X a;refine cq<|oe ?_;show wpS _ _ _ _ (match(et u).back? with|some (s1,M,snd)=>_|x=>_) _ _
 cases hb:(et u).back?
 .exact cq<|ic<|cx<|fin a M P F o J J J J ⟨_,o.pn,h7 ..⟩
 .refine cq<|hQ (fw (I:=λ_ c d=>∃j,c=(Y,())/\RS κ a₀ d j T3/\j.flatten.length=Rs.flatten.length)
   (Q:=λc d=>∃j,c=(Y,())/\RS κ a₀ d j T3/\j.flatten.length=Rs.flatten.length) ?_ (λ_ _ h=>h) ⟨Rs,J,o,J⟩) ?_
  .rintro x' c l _ _ ⟨j,rfl,z,S⟩
   have lp:(et l).size=j.length:=by rw[<- eo];exact z.pn.len
   refine cq<|oe ?_;show wpS _ _ _ _ (match if(et l).size > 1 then(et l)[(et l).size-2]? else Y with|some (fst,fst_1,W)=>_|x=>_) _ _
   by_cases hs:(et l).size > 1
   .rw[bt hs]
    obtain⟨⟨p1,p2,p3⟩,hp1⟩:∃v,(et l)[(et l).size-2]?=U v:=⟨(et l)[(et l).size-2],by simp⟩
    rw[hp1];refine aJ (λ_=>cx ⟨j,J,z,S⟩) λ_=>?_;refine cq<|z.merge V (show(et l).size-2+1<j.length by lia) λG Rs5 h8 h9 z8=>?_
    exact cx ⟨Rs5,J,h8,by lia⟩
   .rw[ag hs]
    exact cx ⟨j,J,z,S⟩
  .rintro c l ⟨j,rfl,z,S⟩
   refine cq<|ic<|cq<|ic<|cx<|fin a M P F z S J J J ⟨_,?_,(h7 ..).trans<|cm (·++_) Array.toList_modify⟩
   refine Pn.pow ?_ z.pn _;exact λx=>⟨J,J⟩
def Vx{κ:KeyKind}{xs:Array ed}{n:Nat}(h:xs.toList.Pairwise<|gf κ)(f:n=xs.size):SortedToK κ xs n:=λi j e hj=>by
 obtain⟨x,d,c⟩:=cu (a:=xs) (i:=i) (by lia)
 obtain⟨y,b,e4⟩:=cu (a:=xs) (i:=j) (by lia)
 have:=ck h c e4 e
 unfold KK;rw[d,b];exact this
def oG{a:cw}{vs:B2}{t:Bi}{n:Nat}{P:Fin->bh->Prop}(k:s.heap.get? a=U (pk "list" vs.toArray n))(g:xa vs t)(u:vs.length<=16777216)
  (h:∀(o:Array ar)(f:Bi),xa o.toList f->f.Perm t->sortedS f=O->P (.done<|.ret .none) {s with heap:=sortedHeap s.heap a vs o}) :
  eg (da prog w) A (Builtin.«list.sort» ⟨[.ref a],[]⟩) P E s:=by
 rw[list_sort_plain];have v:a<s.heap.objs.size:=dk k;obtain⟨l,š⟩:∃l,(s.heap.update a<|ll λ_=>#[]).get? a=U (pk "list" #[] l):=⟨_,get?_update_seq k λ_=>#[]⟩;have Ţ:(((s.heap.update a<|ll λ_=>#[]).push<|pk "tuple" vs.toArray 0).push<|pk "list" #[] 0).get? a=U (pk "list" #[] l):=by
  rw[Hf _ _ _<|by rw[size_push',Hu];exact dP<|ue v,Hf _ _ _<|by rw[Hu];exact dP v]
  exact š
 refine ab<|listItems_at k J<|ab<|listUpdate_at k J (ab<|seqEpoch_at š J<|ab<|wpAny_newTuple ?_<|by rw[ew];simpa using u)<|by rw[ew];simpa using u
 refine ab<|wpAny_newList<|nO ?_;show eg (da prog w) A _ P E {s with heap:=((s.heap.update a<|ll λ_=>#[]).push<|pk "tuple" vs.toArray 0).push (pk "list" #[] 0)}
 have fin:∀b:eh,(fu b).toList.Perm (pairsOf vs).toList->(fu b).toList.Pairwise (gf strKind)->fC b=Y ->
   eg (da prog w) A (do
    let c:=(<- seqEpoch a) != l
    Builtin.List.listUpdate (.ref a) λ_=>(fu b).map (·.2)
    if let U e:=fC b then rule "list.sort.comparison-raised";throw e
    if c then rule "list.sort.modified";raiseError "ValueError" "list modified during sort"
    ret .none) P E {s with heap:=((s.heap.update a<|ll λ_=>#[]).push<|pk "tuple" vs.toArray 0).push (pk "list" #[] 0)}:=λb p m q=>by
  have r:(fu b).Perm<|pairsOf vs:=Array.perm_iff_toList_perm.mpr p;obtain⟨f,a1,a2,a3⟩:=sorted_out_str g r<|Vx m r.size_eq.symm;refine ab<|seqEpoch_at Ţ J ?_;refine ab<|listUpdate_at Ţ J ?_ (hsz2:=by rw[Array.size_map,r.size_eq,pairsOf_size,ew];lia)
  rw[q];simp only[bne_self_eq_false,LU,v3];exact c7<|h _ f a1 a2 a3
 have B:vs.toArray.size=vs.length:=by simp
 dsimp only;by_cases d:vs.toArray.size<2
 .rw[bt d,bt d]
  refine ab<|c7 ?_;rw[StateT.run_pure];refine ab<|c7<|fin (kv general' (vs.toArray.zip vs.toArray) #[] 7 Y) (.refl _) ?_ J;refine uA.mpr λi j hi hj C=>?_
  have:(vs.toArray.zip vs.toArray).toList.length=vs.length:=by simp
  rw[show(fu<|kv general' (vs.toArray.zip vs.toArray) #[] 7 Y).toList=(vs.toArray.zip vs.toArray).toList from J]at hi hj
  lia
 .rw[ag d,ag d]
  match vs,g,d,fin with
  |v₁::v₂::rest,g,d,fin=>
   rw[keyKind_strs g];refine ab<|c7 ?_;refine ab<|f6 (vH (κ:=strKind) (a₀:=pairsOf<|v₁::v₂::rest) (st:=kv hV ((v₁::v₂::rest).toArray.zip (v₁::v₂::rest).toArray) #[] 7 Y)
    (Q:=λ_ b=>(fu b).toList.Perm (pairsOf<|v₁::v₂::rest).toList/\fC b=Y/\(fu b).toList.Pairwise (gf strKind))
    strKind_oneLt J J J J (λx y=>g.keysOf x y) (by rw[pairsOf_size];simp) λb b1 b2 b3=>⟨b1,b2,b3⟩) ?_ λ_ _ e=>e
   rintro⟨⟨⟩,b⟩ z ⟨rfl,p,q,m⟩
   exact fin b p m q
  |[],_,d,_=>simp at d
  |[_],_,d,_=>simp at d
end Ts
namespace L2
open PySem PySem.Spec PyProof.Rows PySem.W
def jd(l:Ap):Ap:=l.mergeSort λa b=>!decide (b<a)
def eM(l:Ap):(jd l).Perm l:=List.mergeSort_perm ..
def qR{a b c:B1}(e:¬ b<a)(d:¬ c<b):¬ c<a:=λh=>by
 have e:a<=b:=e;have d:b<=c:=d;exact eD h<|show ¬ c<a from List.le_trans e d
def E_(l:Ap):(jd l).Pairwise λa b=>¬ b<a:=by
 have:=List.pairwise_mergeSort (le:=λa b:B1=>!decide (b<a)) (λa b c e d=>by
  simp only[uE,gs]at e d ⊢;exact qR e d) (λa b=>by
  simp only[Bd,uE,gs];exact List.le_total a b) l
 exact this.imp λh=>by simpa using h
theorem Fb:∀{l:Bi}{p:Str},risingS p l=O->((p::l).map λx=>x.cps.toList).Pairwise λa b=>¬ b<a
 |[],p,_=>C7 ..
 |x::l,p,h=>by
  have h:(!ltCps x.cps.toList p.cps.toList&&risingS x l)=O:=h;rw[dj,ltCps_eq]at h;have d:=Fb h.2;refine C6.mpr ⟨λy c=>?_,d⟩;have e:¬ x.cps.toList<p.cps.toList:=by simpa using h.1
  rcases bK.mp c with rfl|c
  .exact e
  .exact qR e<|(C6.mp d).1 y c
def Fc{d c:Bi}(p:c.Perm d)(h:sortedS c=O):(c.map λx=>x.cps.toList)=jd (d.map λx=>x.cps.toList):=by
 refine kK.eq_of_pairwise (le:=λa b=>¬ b<a) (λa b _ _ f e=>List.le_antisymm f e) ?_ (E_ _)<|(p.map _).trans (eM _).symm;cases c with
 |nil=>exact C8.nil
 |cons x l=>exact Fb h
theorem iY:∀{vs:B2}{a:Bi},xa vs a->Vals (a.map V.str) vs
 |_,_,.nil=>.nil
 |_,_,.cons x t h=>.cons ⟨t,J⟩<|iY h
variable{X:Cx}{S:dm}{R:St}{H:Hp}{s:bh}{A:eL}{E:ar->bh->Prop}{Q:VK}{T:String}{r d:cw}{n:Nat}{P:Nat->ar->Prop}{W:fA->Prop}
def mW{a:Bi}:∀{vs:B2},vs.length=a.length->(∀(j:Nat)(v:ar),vs[j]?=U v->∃x t,a[j]?=U x/\v=Value.str x t)->xa vs a:=by
 induction a with
 |nil=>intro vs b _;cases vs with
  |nil=>exact .nil
  |cons _ _=>simp at b
 |cons x a c=>
  intro vs b h;cases vs with
  |nil=>simp at b
  |cons v vs=>
   obtain⟨y,t,e,rfl⟩:=h 0 v J;cases e;exact .cons x t<|c (by simpa using b) λj u d=>h (j+1) u d
def oH{g:Bi}(K:KdlSrc X.prog X.w T r d n P W)(D:A.handled=Y)(I:Inv X S R H s)(aZ:W s.heap)(h:n<=16777216)(y:g.length=n)(L:∀(i:Nat)(v:ar),P i v->∃x t,g[i]?=U x/\v=Value.str x t)
  (q:∀(l:cw)(f:Bi),H l=Y->(f.map λx=>x.cps.toList)=jd (g.map λx=>x.cps.toList)->Q (.ref l) (upd H l<|.lst<|f.map V.str)):eg (da X.prog X.w) A (call (.builtin "sorted") [.ref r]) (EP X S R Q) E s:=by
 refine Calls.call_function_entry kind_sorted plain_sorted entry_sorted (args_sorted1 _) ?_;unfold Builtin.«sorted»;refine ab (m:=checkCount "sorted" 1 1 _)<|c7 ?_;refine ab<|kdu_collect (A:=A.in1) K D aZ (by rw[ew];exact h) λa tk c C Vy=>?_
 have la:c.toList.length=n:=by rw[eo];exact Vy.1
 have G:xa c.toList g:=mW (la.trans y.symm) λj v e=>L j v<|Vy.2 j v<|by rw[<- ey];exact e
 refine ab<|wpAny_newList ?_<|by rw[la,ew];exact h
 have k:(a.push<|pk "list" c.toList.toArray 0).get? a.objs.size=U (pk "list" c.toList.toArray 0):=c8 _ J;refine ab<|nO<|pv slot_list_sort ⟨_,k,J⟩ entry_list_sort (Ts.oG k G (by rw[la];exact h) λout f a1 a2 a3=>⟨_,J,?_⟩)<|args_list_sort _
 obtain⟨e,F⟩:=sortedHeap_at (out:=out) k;have B:Inv X S R H {s with heap:=a,toks:=tk}:=I.kept (t':=tk) C
 have kp:∀b u,a.get? b=U u->(sortedHeap (a.push<|pk "list" c.toList.toArray 0) a.objs.size c.toList out).get? b=U u:=λb u z=>by
  have p:=dk z;rw[sortedHeap_old (dP p)<|by rw[size_push'];exact ue p]
  exact bp _ z
 have lo:out.toList.length=n:=by
  rw[<- (iY a1).length,bX,a2.length_eq];exact y
 refine c7 ⟨_,J,⟨.ref a.objs.size,_,B.laid (t':=tk) kp (bW _) (o:=.lst<|f.map V.str) ⟨?_,out.toList,e,iY a1,?_⟩,J,q _ f ?_<|Fc a2 a3⟩⟩
 .rw[(iY a1).length,lo,ew];exact h
 .rw[nr];exact F
 .exact B.aZ.fresh<|bW _
def RH(kvs:List<|Key×V)(a:Bi):Prop:=kvs.map (·.1)=a.map λx=>(.inr x:Key)
def RH.at_{kvs:List<|Key×V}{a:Bi}(h:RH kvs a){vs:List<|Key×ar}(r:KV kvs vs){i:Nat}{k:Key}{x u:ar}(e:vs[i]?=U (k,x))(b:(bj X.prog X.w).is k u=O):∃y t,a[i]?=U y/\u=Value.str y t:=by
 have c:(vs.map (·.1))[i]?=U k:=by rw[dH,e];rfl
 rw[<- r.keys,h,dH]at c;obtain⟨y,d,rfl⟩:=bD.mp c;rw[wR]at b;obtain⟨t,rfl⟩:=yA<|show uk y u=O from b;exact⟨y,t,d,J⟩
def sL(m:X.calm=O):dW X (.builtin "sorted") λxs H Q=>∃d kvs a,xs=[.ref d]/\Rd H d (.dK kvs)/\RH kvs a/\∀(l:cw)(c:Bi),H l=Y->(c.map λx=>x.cps.toList)=jd (a.map λx=>x.cps.toList)->Q (.ref l) (upd H l<|.lst<|c.map V.str):=by
 intro S s R H xs y Q I r h;obtain⟨d,kvs,a,rfl,hd,e,q⟩:=h;obtain⟨u,rfl,f⟩:=vals1 r;cases f;obtain⟨z,lo,vs,b,p⟩:=gG I.aZ hd;obtain⟨ep,t⟩:=p.dictAt;have j:a.length=vs.length:=by have:=cm Bb e;simp only[bX]at this;rw[<- this,b.length]
 refine oH (kdl_dict (knd:=bj X.prog X.w) (kvs:=vs) (ep:=ep) lo) (I.ok.hd m) I t (by rw[<- b.length,<- ew];exact z) j (λi v g=>?_) q
 obtain⟨k,x,o,n⟩:=g;exact e.at_ b o n
def VA(v d:cw):HO:=.ext λh=>KdlKeysView h v d
def sM(m:X.calm=O):dW X (.builtin "sorted") λxs H Q=>∃v d kvs a,xs=[.ref v]/\H v=U (VA v d)/\Rd H d (.dK kvs)/\RH kvs a/\∀(l:cw)(e:Bi),H l=Y->(e.map λx=>x.cps.toList)=jd (a.map λx=>x.cps.toList)->Q (.ref l) (upd H l<|.lst<|e.map V.str):=by
 intro S s R H xs y Q I r h;obtain⟨v,d,kvs,a,rfl,c,hd,f,q⟩:=h;obtain⟨u,rfl,g⟩:=vals1 r;cases g;obtain⟨z,lo,vs,b,p⟩:=gG I.aZ hd;obtain⟨ep,t⟩:=p.dictAt;have j:a.length=vs.length:=by have:=cm Bb f;simp only[bX]at this;rw[<- this,b.length]
 have vw:KdlKeysView s.heap v d:=(show bP X.prog X.w H s.heap v (VA v d)from I.aZ v _ c).1;refine oH (kdl_keys (knd:=bj X.prog X.w) (kvs:=vs) (ep:=ep)) (I.ok.hd m) I ⟨vw,t⟩ (by rw[<- b.length,<- ew];exact z) j (λi v c=>?_) q
 obtain⟨k,x,o,n⟩:=c;exact f.at_ b o n
section
variable{o:de}{B:TE}{y C pos p:Pos}
def Ju(j:PE X o B)(i:gL o "keys" X.env (e6 o X.env)=e6 o X.env)(l:(y.endLine == C.line)=O) :
  PE X (.Call (.Attribute o "keys" y) [] [] C) λR H Q=>B R H λx H1=>∃d kvs,x=.ref d/\Rd H1 d (.dK kvs)/\∀v,H1 v=Y->Q (.ref v) (upd H1 v<|VA v d):=by
 intro S s R H Q I h;refine z3 i l<|bV (j S s R H _ I h) λv a f=>?_;obtain⟨x,H1,I1,g,q1⟩:=f;obtain⟨d,kvs,ex,e,q⟩:=q1;subst ex;cases g;obtain⟨z,lo,vs,m,hd⟩:=gG I1.aZ e;obtain⟨ob,t,u,r⟩:=id hd;have c:a.TypeIs (.ref d) "dict" := hd.typeIs;refine⟨"dict","dict.keys",oC,u9,PySem.F.type_dict_keys,c,λb q=>by cases q;exact⟨ob,r.1,r.2.1.2.1⟩,lr J<|yB ?_⟩
 refine tb u9 c PySem.F.entry_dict_keys (PySem.F.args_dict_keys_1 _) (kdl_meets_keys (bj X.prog X.w) d lo) ⟨⟨_,hd⟩,?_⟩;refine⟨.ref a.heap.objs.size,_,I1.laid (t':=a.toks) (o:=VA a.heap.objs.size d) (λb o e=>bp _ e) (bW _) ⟨⟨_,c8 _ J,J,J⟩,⟨_,c8 _ J⟩,λp n w k=>?_⟩,J,q _<|I1.aZ.fresh<|bW _⟩;obtain⟨ov,w1,w2⟩:=w;exact⟨ov,k _ w1,w2⟩
end
theorem Aa{A:eL}:∀{ka:List<|Key×ar}{kb:List<|Key×ar}{is js:Dx},(∀(i:Nat)(k:Key)(v:ar),ka[i]?=U (k,v)->∃y,qd kb k=U y/\∃a b t u,is[i]?=U a/\js[i]?=U b/\v=Value.int a t/\y=Value.int b u)->ka.length=is.length->ka.length=js.length->KeqHits A s kb ka (decide<|is=js)
 |[],kb,[],[],_,_,_=>.nil
 |(k,v)::ka,kb,a::is,b::js,h,f,d=>by
  obtain⟨y,e,m,l,t,u,j,g,rfl,rfl⟩:=h 0 k v J;cases j;cases g;have c:=Aa (A:=A) (ka:=ka) (kb:=kb) (is:=is) (js:=js) (λi k v e=>h (i+1) k v e) (by simpa using f) (by simpa using d)
  have:=KeqHits.hit (A:=A) (s:=s) e (keq_flat (PyProof.V.Flat.int a t)<|PyProof.V.Flat.int b u) c
  have e:(PyData.eqv (.int a) (.int b)&&decide (is=js))=decide (a::is=b::js):=by
   have:PyData.eqv (.int a) (.int b)=decide (a=b):=J
   rw[this];by_cases h3:a=b<;>by_cases h4:is=js<;>simp[h3,h4]
  rw[<- e];exact this
theorem vI{k:Key}{v:V}:∀{ks:List Key}{vs:List V}{i:Nat},ks.Nodup->ks[i]?=U k->vs[i]?=U v->i_ (ks.zip vs) k=U v
 |k'::ks,w::vs,0,_,a,b=>by
  cases a;cases b;exact gD J
 |k'::ks,w::vs,i+1,c,a,b=>by
  have c:=lS.mp c;rw[nj,gE λe=>c.1<|by rw[show k'=k from e];exact dh (i:=i) a]
  exact vI c.2 a b
 |[],_,_,_,a,_=>by simp at a
 |_::_,[],_,_,_,b=>by simp at b
def Fd{α a:Type}{as:List α}{bs:List a}{i:Nat}{x:α×a}(h:(as.zip bs)[i]?=U x):as[i]?=U x.1/\bs[i]?=U x.2:=by
 rw[List.getElem?_zip_eq_some]at h;exact h
def KV.at_{kvs:List<|Key×V}{vs:List<|Key×ar}(r:KV kvs vs){i:Nat}{k:Key}{u:ar}(h:vs[i]?=U (k,u)):∃v,kvs[i]?=U (k,v)/\RelV v u:=by
 have:∀{kvs:List<|Key×V}{vs:List<|Key×ar}{i:Nat},xI (λ(p:Key×V) (q:Key×ar)=>p.1=q.1/\RelV p.2 q.2) kvs vs->vs[i]?=U (k,u)->∃v,kvs[i]?=U (k,v)/\RelV v u:=by
  intro kvs vs i r
  induction r generalizing i with
  |nil=>intro h;simp at h
  |cons p r a=>
   intro h;cases i with
   |zero=>
    cases h;exact⟨_,cm U<|Prod.ext p.1 J,p.2⟩
   |succ i=>exact a h
 exact this r h
def Ab(C:X.A.units<kd):fW X (eJ .Eq) λx y H Q=>∃(a b:cw)(ks:List Key)(is js:Dx),x=.ref a/\y=.ref b/\Rd H a (.dK<|ks.zip<|is.map V.int)/\Rd H b (.dK<|ks.zip<|js.map V.int)/\ks.length=is.length/\ks.length=js.length/\Q (.bl<|decide<|is=js) H:=by
 intro S s R H x y v u Q I z t h;obtain⟨a,b,ks,is,js,rfl,rfl,E,D,l1,l2,q⟩:=h;cases z;cases t;obtain⟨L,lo1,p,ţ,G⟩:=gG I.aZ E;obtain⟨K,c,f,d,o⟩:=gG I.aZ D;have la:p.length=ks.length:=by rw[<- ţ.length,nk,bX];lia
 have lb:f.length=ks.length:=by rw[<- d.length,nk,bX];lia
 have nd:ks.Nodup:=by
  obtain⟨ob,M,N,r⟩:=id o
  have:=d.keys
  rw[LF<|by rw[bX];lia]at this
  rw[this];exact r.2.2.2.2.2
 refine keq_eq (knd:=bj X.prog X.w) lo1 c G o C (r:=decide<|is=js) (λ_=>Aa (λi k w e=>?_) (la.trans l1)<|la.trans l2) ⟨_,H,I,?_,q⟩
 .obtain⟨w1,F,B⟩:=ţ.at_ e
  obtain⟨n,m⟩:=Fd F;rw[dH]at m;obtain⟨j,g1,g2⟩:=bD.mp m;have hi:i<js.length:=by rw[<- l2];exact(du.mp n).1
  have g:js[i]?=U js[i]:=cD hi
  have:=d.val k
  rw[vI (v:=.int js[i]) nd n<|by rw[dH,g];rfl]at this
  cases l:qd f k with
  |none=>rw[l]at this;cases this
  |some y=>
   rw[l]at this;have this:RelV (.int js[i]) y:=this;obtain⟨t2,rfl⟩:=this;have g2:V.int j=w1:=g2;subst g2;obtain⟨t1,rfl⟩:=B;exact⟨_,J,j,js[i],t1,t2,g1,g,J,J⟩
 .show pb _=_
  rw[la,lb,n6,yJ]
end L2
namespace D
open PySem L2
def vJ:List Ky->Option Ap
 |[]=>U []
 |.s x::r=>(vJ r).map (x::·)
 |_::_=>Y
theorem qS:∀{ks:List Ky}{xs:Ap},vJ ks=U xs->ks=xs.map Ky.s
 |[],_,h=>by cases h;rfl
 |.s x::r,_,h=>by
  obtain⟨y,a,rfl⟩:=bD.mp h;rw[dG,<- qS a]
 |.i _::_,_,h=>by cases h
def xR(ks:List Ky):FK:=(vJ ks).bind λa=>gd (a.all λx=>decide<|x.length<=1000000)<|.lst<|(jd a).map T.str
def Ff(n:Nat)(o:FE):FE:=λs=>(o s).bind λp=>(aW<|jc n p.2.m p.1).bind λz=>(aW<|xR z.2.1).bind λt=>.ok (t,p.2)
def Zv:T->Option (List Ky)
 |.cC ks _=>U ks
 |_=>Y
def B3(o:FE):FE:=λs=>(o s).bind λp=>(aW<|(Zv p.1).bind xR).bind λt=>.ok (t,p.2)
section
variable{B:KT}{X:Cx}{a b o:de}{pos p bo bF:Pos}{fo j u:FE}{n i:Nat}{g:G}{H:Hp}{W:St}{s:S}
def Jv{xs:Ap}{a:Bi}(h:(a.map λx=>x.cps.toList)=xs):a.map V.str=xs.map SV:=by
 subst h;rw[iu];apply uh;intro x _;show V.str x=V.str ⟨x.cps.toList.toArray⟩;rw[nr]
theorem Ac{al:BM}{HF:Hp}:∀{l:Ap},(∀x∈l,x.length<=1000000)->au B al HF (l.map T.str) (l.map SV)
 |[],_=>J
 |x::l,h=>⟨SV x,_,J,⟨J,h x<|bC ..⟩,Ac λy a=>h y<|eE _ a⟩
def Ae{ks:List Ky}{vs:List V}{t:T}(h:xR ks=U t)(m:ks.length=vs.length)(x:SR B g H W s){Q:VK}
  (k:∀v g' H',eQ g H g' H'->SR B g' H' W s->Rep B g'.al g'.HF t v->Q v H') :
  ∃c:Bi,RH ((ks.map jb).zip vs) c/\∀(l:cw)(b:Bi),H l=Y->(b.map λx=>x.cps.toList)=jd (c.map λx=>x.cps.toList)->Q (.ref l) (upd H l<|.lst<|b.map V.str):=by
 revert h;refine aak λa n=>λh=>?_;obtain⟨j,rfl⟩:=aX h;have e:=qS n;refine⟨a.map λx=>⟨x.toArray⟩,?_,λl b p d=>?_⟩
 .unfold RH
  rw[LF<|by rw[bX,m];exact bW _,e,iu,iu]
  rfl
 .rw[iu,show((λx:Str=>x.cps.toList)∘λx:B1=>(⟨x.toArray⟩:Str))=id from He λx=>by simp,Ls]at d
  rw[Jv d];have f:=Gr.new (o:=.lst<|(jd a).map SV) x.sub p;refine k _ _ _ (x.gb f) (x.grow f) ⟨l,_,J,ah,Ac λy i=>?_⟩;exact dc<|iD.mp j y<|(eM a).mem_iff.mp i
def VB(I:X.calm=O)(A:B.cn[n]?=Y)(m:PE X o<|tE B fo)(b:noStar o=O)(y:Gl X "sorted")(q:X.mg "sorted" = Y):PE X (.Call (.Name "sorted" p) [o] [] pos)<|tE B<|Ff n fo:=by
 refine aM (dX (sL I) y q L_ (aR m bU<|ao b) (he:=ao b) (hpl:=J)) λW H Q z=>?_;obtain⟨g,s,t,M,x,h,k⟩:=z;revert h;refine aao λL e F=>aan λz E=>aan λt D=>λh=>?_;cases h;obtain⟨c,m1⟩:=gK<|ai E;dsimp only at c;subst c;refine⟨g,s,_,e,x,F,λv g1 H1 j a f=>?_⟩;obtain⟨l,rfl,C⟩:=f;obtain⟨Z,l1,vs,q1,o1,w,u,N⟩:=a.k7 A m1 C;cases q1;obtain⟨d,q2,i⟩:=Ae (ai D) u a λv G K p x r=>k v G K (j.trans p) x r;exact⟨_,_,d,J,.inl w,q2,i⟩
def VC(M:X.calm=O)(D:Gl X "sorted")(A:X.mg "sorted" = Y)(y:PE X o<|tE B fo)(E:aT o=O)(L:(bo.endLine == bF.line)=O) :
  PE X (.Call (.Name "sorted" p) [.Call (.Attribute o "keys" bo) [] [] bF] [] pos)<|tE B<|B3 fo:=by
 refine aM (dX (sM M) D A L_ (aR (Ju y (ee E) L) bU<|ao J) (he:=ao J) (hpl:=J)) λW H Q z=>?_;obtain⟨g,s,t,P,x,h,k⟩:=z;revert h;refine aao λf j I=>aan λt G=>λh=>?_;cases h;obtain⟨ks,c,F⟩:=dI.mp<|ai G;cases f<;>try(cases c;done)
 cases c;refine⟨g,s,_,j,x,I,λv g1 H1 n a l=>?_⟩;obtain⟨d,vs,rfl,hd,C,R⟩:=l;refine⟨d,_,J,(hd.same a.sub).rd,λw q=>?_⟩;obtain⟨e,T,S⟩:=nT (u:=VA w d) a q;have b:=a.grow e;obtain⟨i,q2,m⟩:=Ae F C b λv K N p x r=>k v K N ((n.trans<|a.gb e).trans p) x r;exact⟨w,d,_,i,J,ah,(hd.same b.sub).rd,q2,m⟩
def Jw(n i:Nat)(s:S):Option S:=match s.r[i]? with
 |U<|U<|.val t=>(p_ n s.m t).bind λz=>(Ji z.2).map λu=>kG {s with m:=s.m.set z.1 ⟨n,[]⟩} i<|.val u
 |_=>Y
def B4(n i:Nat)(F:FS):FS:=λs=>(aW<|Jw n i s).bind F
def Jx{s2:S}(y:B.cn[n]?=Y)(x:SR B g H W s)(h:Jw n i s=U s2):Rl H λH'=>∃g',eQ g H g' H'/\SR B g' H' W s2:=by
 unfold Jw at h;split at h
 case h_2=>cases h
 rename_i t hr;revert h;refine aak λz C=>λh=>?_;obtain⟨u,d,rfl⟩:=bD.mp h;obtain⟨rfl,m1⟩:=kj C;obtain⟨v,D,l,rfl,A⟩:=x.lc.at_ i _ hr;obtain⟨F,b⟩:=x.k7 y m1 A;obtain⟨E,_⟩:g.o l=U (.ob z.1)/\True:=by
  cases r:z.2<;>rw[r]at d b<;>try(cases d;done)
  .obtain⟨p,_,e,a,_⟩:=b;cases e;exact⟨a,trivial⟩
  .obtain⟨p,_,e,a,_⟩:=b;cases e;exact⟨a,trivial⟩
 obtain⟨a,rl⟩:=z7 d b (x.st.live l _ E).1;refine rl.imp λG j=>?_;obtain⟨w,rfl,k⟩:=j;obtain⟨m,f⟩:=x.Vk (u:=w) F m1 a;have q:=f.lc.set (i:=i) (v:=.ref l) (c:=.val u) k λ_ _ _ _ h=>h;rw[set_same D]at q;exact⟨_,m,f.st,q⟩
def VD{st:mB}{F:FS}(f:B.cn[n]?=Y)(h:PS X st<|tS B F):PS X st<|tS B<|B4 n i F:=c_ (Ua h) λD W H z=>by
 obtain⟨g,s,e,c,x,h,k⟩:=z;revert h;refine aan λb j=>λh=>?_;exact(Jx f x<|ai j).imp λl ⟨g2,d,a⟩=>⟨g2,b,e,c,a,h,k.mv d⟩
theorem au.sN{al:BM}{HF:Hp}:∀{is:Dx}{vs:List V},au B al HF (is.map T.int) vs->vs=is.map V.int
 |[],_,h=>h
 |i::is,_,h=>by
  obtain⟨v,r,rfl,e,h⟩:=h;have e:v=.int i:=e;rw[e,au.sN h];rfl
def qT:FC->Option Dx
 |[]=>U []
 |.int i::r=>(qT r).map (i::·)
 |_::_=>Y
theorem k9:∀{ts:FC}{is:Dx},qT ts=U is->ts=is.map T.int
 |[],_,h=>by cases h;rfl
 |.int i::r,_,h=>by
  obtain⟨y,a,rfl⟩:=bD.mp h;rw[dG,<- k9 a]
def B5:T->T->FK
 |.cC ks a,.cC c b=>if ks=c then(qT a).bind λis=>(qT b).map λd=>.bl (decide<|is=d)else Y
 |_,_=>Y
def MX:pD X B5 λx y H Q=>∃(a b:cw)(ks:List Key)(is js:Dx),x=.ref a/\y=.ref b/\Rd H a (.dK<|ks.zip<|is.map V.int)/\Rd H b (.dK<|ks.zip<|js.map V.int)/\ks.length=is.length/\ks.length=js.length/\Q (.bl<|decide<|is=js) H:=λB v al HF H x y t l ty Q c n m h k=>by
 cases l<;>try(cases h;done)
 cases ty<;>try(cases h;done)
 rename_i ks a p b
 replace h:(if ks=p then _ else Y)=U t:=h
 split at h
 case isFalse=>cases h
 rename_i e;subst e;revert h;refine aak λis r=>λh=>?_;obtain⟨js,q,rfl⟩:=bD.mp h;cases k9 r;cases k9 q;obtain⟨d,vs,rfl,hd,i,o⟩:=n;obtain⟨d2,w,rfl,g,j,f⟩:=m;have u:=o.sN;have s:=f.sN;subst u s;rw[bX]at i j;exact⟨d,d2,ks.map jb,is,js,J,J,(hd.same c).rd,(g.same c).rd,by rw[bX];exact i,by rw[bX];exact j,k _ _ _ (.refl c) J⟩
def VE(g:B.K=X.K)(c:X.A.units<kd)(f:PE X a<|tE B j)(e:PE X b<|tE B u)(d:ff .Eq b=Zb):PE X (.Compare a [.Eq] [b] pos)<|tE B<|a_ B5 j u:=aM (mP (Ab c) f e d)<|iM g MX
def PY(g:B.K=X.K)(c:X.A.units<kd)(f:PE X a<|tE B j)(e:PE X b<|tE B u)(d:ff .Eq b=Zb):PT X (.Compare a [.Eq] [b] pos)<|tT B<|b9<|a_ B5 j u:=vf (mQ (Ab c) f e d) λW H Q q=>iM g MX W H _<|zx q
end
end D
namespace PySem
open Sem (wp)
def mG(h:fA)(d:cw)(a:Array iq)(ep:Nat):Prop:=∃o,h.get? d=U o/\o.ExactDict/\o.data=.dict a ep
def mG.at{h h':fA}{d:cw}{a:Array iq}{ep:Nat}(x:mG h d a ep)(e:∀o,h.get? d=U o->h'.get? d=U o):mG h' d a ep:=let⟨o,ho,r⟩:=x;⟨o,e _ ho,r⟩
def mG.ty{s:bh}{d:cw}{a:Array iq}{ep:Nat}(x:mG s.heap d a ep):s.TypeIs (.ref d) "dict" := let⟨o,ho,hc,_⟩:=x;⟨o,ho,hc.1⟩
def mG.lt{h:fA}{d:cw}{a:Array iq}{ep:Nat}(x:mG h d a ep):d<h.objs.size:=let⟨_,ho,_⟩:=x;dk ho
section
variable{prog:ef}{w:dA}{A:eL}{E:ar->bh->Prop}{s:bh}
def B6(d:cw)(lo:(d == hA)=Zb):MeetsIn prog w (Builtin.«dict.items» ⟨[.ref d],[]⟩) λ_ R s=>(∃a ep,mG s.heap d a ep)/\R (.ok<|.ret<|.ref s.heap.objs.size) {s with heap:=s.heap.push {cls:=.type "dict_items",data:=.fields #[.ref d]}}:=
 .of_wp λA R s ⟨⟨a,ep,b⟩,c⟩=>by
  refine ab ?_;unfold Builtin.Dict.noArgs;refine ab<|wpAny_notOrdered_dict b.ty ?_;show eg _ _ (pure d) _ _ s;refine c7 ?_;show eg _ _ (sy d >>= _) _ _ s;unfold sy;rw[ag<|by rw[lo];exact cK]
  exact ab<|c7<|ab<|mI<|c7 ⟨_,J,c⟩
def oJ{v d:cw}{f:Array iq}{ep:Nat}{Q:ar->bh->Prop}(a:s.heap.IsItemsView v d)(h:mG s.heap d f ep)
  (i:Q (.ref s.heap.objs.size) {s with heap:=s.heap.push {cls:=.type "dict_itemiterator",data:=.fields #[.none,.bool Zb,.ref d,.int 0 0,.int f.size 0,.int ep 0,.none,.none]}}):eg (da prog w) A (pyIter<|.ref v) Q E s:=by
 obtain⟨ov,b,Ť,c⟩:=id a;obtain⟨o,e,j,g⟩:=id h;refine wpAny_pyIter_slot a.typeIs F.slot_dict_items_iter<|pv F.slot_dict_items_iter a.typeIs F.entry_dict_items_iter ?_<|F.args_dict_items_iter_1 _;unfold Builtin.«dict_items.__iter__»;refine ab<|c7<|ab ?_;unfold HI;refine ab<|vk b c (x:=.ref d) J<|c7<|ab ?_;unfold Hw;refine ab<|sY e g<|ab<|vy e g ?_;simp only[show kz "dict_itemiterator" = O by decide,o_]
 refine mI (c7 ⟨_,J,"dict_itemiterator",_,⟨_,c8 _ J,J⟩,F.slot_dict_itemiterator_next.lookup,?_⟩) ?_
 .simpa[xr,n9]using i
 .simp only[sizeOk,n9,bT,dg,bI,uv,ew]
  omega
def qc{it d:cw}{i ep:Nat}{a:Array iq}{ok ov:ar}{Q:D1->bh->Prop}(f:nL s.heap it d i a.size ep ok ov)(L:mG s.heap d a ep)(hi:i<a.size)
  (M:∀h',zv h' it d (i+1) a.size ep a[i].key a[i].val s.heap.objs.size->h'.get? s.heap.objs.size=U {cls:=.type "tuple",data:=.seq #[a[i].key,a[i].val]} ->
   (∀b o,b≠it->s.heap.get? b=U o->h'.get? b=U o)->Q (U<|.ref s.heap.objs.size) {s with heap:=h'}):eg (da prog w) A (xt<|.ref it) Q E s:=by
 obtain⟨c,g,m,tk,os⟩:=s;obtain⟨od,C,S,B⟩:=id L;have j:Shared.TypeIs ⟨c,g,m,tk,os⟩ (.ref it) "dict_itemiterator" := ⟨_,f,J⟩;unfold xt;refine ab<|y8<|zH (name:=f5 "__next__") j F.slot_dict_itemiterator_next<|pv F.slot_dict_itemiterator_next j F.entry_dict_itemiterator_next (ab<|c7<|ab<|ab ?_)<|F.args_dict_itemiterator_next_1 _
 first|refine ab<|hR j<|c7 ?_|refine ab<|k4 j<|c7 ?_
 refine ab<|wpAny_fieldsOf f J ?_;simp only[show kz "dict_itemiterator" = O by decide,o_]
 show eg _ _ (if(Value.ref d == kS)=O then _ else _) _ _ _
 rw[ag<|show ¬ ((Value.ref d == kS)=O)from cK];refine ab<|c7<|ab<|sY C B ?_;rw[ag<|by simp]
 refine ab<|c7<|ab<|vy C B ?_;rw[ag<|by simp]
 refine c7 ?_;simp only[show ¬ ((i:Int)<0)from by omega,v3,qm,tR hi]
 refine ab ?_
 first|refine ab<|hR j<|c7 ?_|refine ab<|k4 j<|c7 ?_
 refine ab<|p5 j ?_;show eg _ _ (setField (.ref it) 3 (xr<|(i:Int)+1) >>= _) _ _ ⟨c,g,m,tk,os⟩;refine ab<|lY f (by simp) λl q n=>?_
 have n:ph it c l:=n;have q:nL l it d (i+1) a.size ep ok ov:=by
  unfold nL;rw[show((i+1:Nat):Int)=(i:Int)+1 by omega]
  simpa[xr]using q
 have T1:Shared.TypeIs ⟨l,g,m,tk,os⟩ (.ref it) "dict_itemiterator" := ⟨_,q,J⟩;refine ab<|nO<|ab<|p5 T1<|ab<|p5 T1 ?_;show eg _ _ (oP (.ref it) 6 a[i].key a[i].val) _ _ ⟨l,g,m,tk,os⟩;unfold oP;refine ab<|wpAny_newTuple ?_;have K:it<c.objs.size:=dk f;have y:l.objs.size=c.objs.size:=n.1;obtain⟨k,q2⟩:∃k,k=l.push {cls:=.type "tuple",data:=.seq #[a[i].key,a[i].val]}:=⟨_,J⟩;have p:nL k it d (i+1) a.size ep ok ov:=by rw[q2];exact bp _ q
 have t2:k.get? c.objs.size=U {cls:=.type "tuple",data:=.seq #[a[i].key,a[i].val]}:=by rw[q2,<- y];exact c8 _ J
 have k2:∀b o,b≠it->c.get? b=U o->k.get? b=U o:=λb o h e=>by rw[q2];exact bp _<|n.extBut b o h e
 rw[<- q2,y];show eg _ _ (n8 (.ref it) >>= _) _ _ ⟨k,g,m,tk,os⟩;refine ab ?_;unfold n8;refine ab<|vk p J (x:=.none) J<|c7 ?_;simp only[o_];refine ab<|vk p J (x:=ok) J<|ab<|vk p J (x:=ov) J ?_;refine ab<|lY p (by simp) λR v I=>?_
 have v:nL R it d (i+1) a.size ep a[i].key ov:=v;refine ab<|lY v (by simp) λP e4 H=>?_
 have e4:nL P it d (i+1) a.size ep a[i].key a[i].val:=e4;refine ab<|lY e4 (by simp) λN u G=>?_
 have u:zv N it d (i+1) a.size ep a[i].key a[i].val c.objs.size:=u;refine ab<|lY u (by simp) λr t D=>?_
 have t:zv r it d (i+1) a.size ep a[i].key a[i].val c.objs.size:=t;have z:∀b o,b≠it->k.get? b=U o->r.get? b=U o:=λb o h e=>mr D b o h<|mr G b o h<|mr H b o h<|mr I b o h e;exact ab<|wpAny_letGo<|c7<|c7 ⟨_,J,c7<|M r t (z _ _ (A_ K) t2) λb o h e=>z b o h<|k2 b o h e⟩
def sO{it d:cw}{i ep:Nat}{f:Array iq}{ok ov:ar}{Q:D1->bh->Prop}(k:A.handled=Y)(c:nL s.heap it d i f.size ep ok ov)(j:mG s.heap d f ep)(hi:f.size<=i)
  (l:∀h',Heap.ExtBut it s.heap h'->Q Y {s with heap:=h'}):eg (da prog w) A (xt<|.ref it) Q E s:=by
 obtain⟨od,h,n,g⟩:=id j;have e:s.TypeIs (.ref it) "dict_itemiterator" := ⟨_,c,J⟩;unfold xt;refine ab<|y8<|zH (name:=f5 "__next__") e F.slot_dict_itemiterator_next<|pv F.slot_dict_itemiterator_next e F.entry_dict_itemiterator_next (ab<|c7<|ab<|ab ?_)<|F.args_dict_itemiterator_next_1 _
 first|refine ab<|hR e<|c7 ?_|refine ab<|k4 e<|c7 ?_
 refine ab<|wpAny_fieldsOf c J ?_;simp only[show kz "dict_itemiterator" = O by decide,o_]
 show eg _ _ (if(Value.ref d == kS)=O then _ else _) _ _ s
 rw[ag<|show ¬ ((Value.ref d == kS)=O)from cK];refine ab<|c7<|ab<|sY h g ?_;rw[ag<|by simp]
 refine ab<|c7<|ab<|vy h g ?_;rw[ag<|by simp]
 refine c7 ?_;simp only[show ¬ ((i:Int)<0)from by omega,v3,qm,Array.getElem?_eq_none hi]
 refine ab ?_
 first|refine ab<|hR e<|c7 ?_|refine ab<|k4 e<|c7 ?_
 show eg _ _ (setField (.ref it) 2 .none >>= _) _ _ s;refine ab<|wpAny_setField c J (by simp) ?_
 show eg _ _ (newExc (.type "StopIteration") [] >>= _) _ _ _;refine ab ?_;simp only[newExc,newTuple];refine ab<|mI ?_<|by size_fits
 refine ab (m:=firstArgMember _ _)<|wpAny_of_eq (a:=kS) (by first|rfl|(simp only[firstArgMember];rfl))<|mI ?_<|by size_fits
 simp only[raiseNew];refine ab<|wpAny_handled ?_;rw[show A.in1.handled=Y from k];refine ab<|c7<|wpAny_throw ?_;refine ab<|wpAny_isInstance (T := "StopIteration") (b:=O) ⟨_,c8 _ J,J⟩ isSubtype_stop ?_;exact c7<|l _<|((Heap.SameBut.update ..).extBut.push _).push _
end
end PySem
namespace L2
open PySem PySem.Spec PyProof.Rows
section
variable{P:ef}{w:dA}
def pairs_at{a:List iq}{kvs:List<|Key×ar}(h:Pairs (bj P w) a kvs):∀{i:Nat}{e:iq},a[i]?=U e->∃k,kvs[i]?=U (k,e.val)/\jO k e.key=O:=by
 induction h with
 |nil=>intro i e h;simp at h
 | @cons g b a kvs f d _ c=>
  intro i e h;cases i with
  |zero=>cases h;exact⟨b.1,by rw[d];rfl,f⟩
  |succ i=>exact c h
def Fg{k:Key}{u:ar}(h:jO k u=O):RelV (kV k) u:=by
 rcases bJ h with⟨i,t,rfl,rfl⟩|⟨x,t,rfl,rfl⟩
 .exact⟨t,J⟩
 .exact⟨t,J⟩
def xS{X:Cx}{q:dm}{h:St}{H:Hp}{s:bh}{d:cw}{kvs:List<|Key×V}{o:Obj}(I:Inv X q h H s)(e:H d=U (.f9 o<|.dK kvs)) :
  s.heap.get? d=U o/\(d == hA)=Zb/\∃a ep,o.ExactDict/\o.data=.dict a ep/\a.size=kvs.length/\∀i(hi:i<a.size),∃x,kvs[i]?=U x/\RelV (kV x.1) a[i].key/\RelV x.2 a[i].val:=by
 obtain⟨c,z,lo,vs,b,ob,a,ep,g,l,j,_,f,_⟩:=(show _/\bP X.prog X.w H s.heap d (.dK kvs)from I.aZ d _ e);rw[c]at g;cases g;refine⟨c,lo,a,ep,l,j,by rw[b.length,<- f.length,eo],λi hi=>?_⟩
 obtain⟨k,p,n⟩:=pairs_at f (i:=i) (e:=a[i]) (by rw[ey];exact tR hi)
 obtain⟨v,m,e4⟩:=b.at_ p;exact⟨_,m,Fg n,e4⟩
def VI(o:Obj)(d:cw)(kvs:List<|Key×V):It:=
 ⟨λi H=>i<kvs.length/\H d=U (.f9 o<|.dK kvs),λi H v a=>∃p x,H p=Y/\kvs[i]?=U x/\v=.ref p/\a=upd H p (.tup [kV x.1,x.2]),λi H=>i=kvs.length/\H d=U (.f9 o<|.dK kvs)⟩
def xT{K:bG}{z:Bz}{x1:Nat}{pos:Pos}{d it:cw}{o:Obj}{kvs:List<|Key×V}{g:Array iq}{ep:Nat}(ť:o.ExactDict)(Q:o.data=.dict g ep)(C:g.size=kvs.length)(hdi:d≠it) :
  Turn P w K (.Tuple z x1 pos) (VI o d kvs) [it] it λi h=>∃ok ov,nL h it d i g.size ep ok ov where
 mem:=by simp
 obj:=λi h st b a=>by
  obtain⟨ok,ov,j⟩:=st;simp only[bK,iC,hH]at a;subst a;exact⟨_,j,λv q=>by cases q⟩
 keep:=λi h t st k=>by
  obtain⟨ok,ov,j⟩:=st;exact⟨ok,ov,k it (by simp) _ j⟩
 item:=by
  intro X M D N l i S s R H E I f st L;subst M D N;obtain⟨hi,F⟩:=L;obtain⟨ok,ov,j⟩:=st;obtain⟨p,lo,WD,WE,_,Z,hsz,Vz⟩:=xS I F;rw[Q]at Z;injection Z with a1 a2
  subst a1;subst a2;have T:i<g.size:=by rw[C];exact hi
  obtain⟨x,hx,rk,rv⟩:=Vz i T;refine qc j ⟨o,p,ť,Q⟩ T λt b1 b2 y=>?_;refine⟨.ref s.heap.objs.size,J,?_⟩;refine wpAny_letOwnedTupleGo_items (s:={s with heap:=t}) b1 λB c1 c2=>?_
  have lt:∀{d o},s.heap.get? d=U o->s.heap.objs.size≠d:=λe=>A_<|dk e;have keep:∀b o,b∉[it]->s.heap.get? b=U o->B.get? b=U o:=λb o a q=>by
   simp only[bK,iC,hH]at a;exact(c2.2 b a).trans<|y b o a q
  have u:H s.heap.objs.size=Y:=I.aZ.fresh<|bW _;have hT:B.get? s.heap.objs.size=U {cls:=.type "tuple",data:=.seq #[g[i].key,g[i].val]}:=(c2.2 _<|lt j).trans b2;have DZ:IsTup B s.heap.objs.size ([g[i].key,g[i].val]:B2).toArray:=⟨_,hT,J,0,J⟩;have A:∀b v,H b=U v->b∉[it]:=λb v q a=>by rw[(f b a).1]at q;cases q
  have I1:Inv X S R (upd H s.heap.objs.size<|.tup [kV x.1,x.2]) {s with heap:=B}:=by
   refine I.step (g':=s.gens) (d':=s.drawn) (t':=s.toks) (ch:=[it]) (λb a=>⟨(f b a).2.2.2.1,(f b a).2.1,(f b a).2.2.2.2.1,(f b a).2.2.2.2.2⟩) (λb o _ _ a e _=>keep b o a e) (λb o _ _ a e _=>⟨o.slots,keep b o a e⟩)
    (λb o a e n=>by rw[ak<|Ne.symm<|lt e];exact n) (λb o a e=>⟨o,keep b o a e⟩) (λb ys e=>by rw[ak<|aA e u];exact e) (λb o v e=>by rw[ak<|aA e u];exact e)
    (λb ps e=>⟨#[],by rw[ak<|aA e u,e];simp⟩) (λm G=>?_) ?_ I.bare
   .obtain⟨o,g,ep,p,r⟩:=G
    exact⟨o,g,ep,keep _ o (λa=>(f _ a).2.1 J) p,r⟩
   .intro b v e
    by_cases a:b=s.heap.objs.size
    .subst a
     rw[ah]at e;cases e;exact⟨by show 2<=dv;decide,_,.cons rk<|.cons rv .nil,DZ⟩
    .rw[ak a]at e
     refine(I.aZ b v e).pM (λc o l q=>keep c o ?_ q) (λc q=>by rw[ak<|aA q u];exact q) λc ys q=>by rw[ak<|aA q u];exact q
     rcases l with rfl|l
     .exact A c v e
     .exact A c _ l
  refine⟨.ref s.heap.objs.size,_,I1,J,⟨_,x,u,hx,J,J⟩,⟨_,_,c1⟩,λb a=>?_⟩;simp only[bK,iC,hH]at a;subst a;rw[ak<|Ne.symm<|lt j];exact(f b<|by simp).1
 done:=by
  intro X M D N l i S s R H E I f st L;subst M D N;obtain⟨hi,F⟩:=L;obtain⟨ok,ov,j⟩:=st;obtain⟨p,lo,_⟩:=xS I F;have keep:∀{t},Heap.ExtBut it s.heap t->∀b o,b∉[it]->s.heap.get? b=U o->t.get? b=U o:=λy b o a q=>by
   simp only[bK,iC,hH]at a;exact y b o a q
  refine sO (I.ok.hd l) j ⟨o,p,ť,Q⟩ (by lia) λt y=>⟨J,?_⟩
  have A:∀b v,H b=U v->b∉[it]:=λb v q a=>by rw[(f b a).1]at q;cases q
  have keep:=@keep t y;refine I.step (g':=s.gens) (d':=s.drawn) (t':=s.toks) (ch:=[it]) (λb a=>⟨(f b a).2.2.2.1,(f b a).2.1,(f b a).2.2.2.2.1,(f b a).2.2.2.2.2⟩) (λb o _ _ a e _=>keep b o a e) (λb o _ _ a e _=>⟨o.slots,keep b o a e⟩)
   (λb o a e n=>n) (λb o a e=>⟨o,keep b o a e⟩) (λ_ _ e=>e) (λ_ _ _ e=>e) (λb ps e=>⟨#[],by rw[e];simp⟩) (λm G=>?_) (λb v e=>?_) I.bare
  .obtain⟨o,g,ep,p,r⟩:=G
   exact⟨o,g,ep,keep _ o (λa=>(f _ a).2.1 J) p,r⟩
  .refine(I.aZ b v e).pM (λc o l q=>keep c o ?_ q) (λ_ q=>q) λ_ _ q=>q
   rcases l with rfl|l
   .exact A c v e
   .exact A c _ l
 self:=λ_ _ _ _ _ st h=>by
  obtain⟨ok,ov,j⟩:=st;exact PySem.W.kcp_self j h
end
section
variable{X:Cx}{o:de}{B:TE}{Q C:Pos}
def Fi{c:Bz}{p:Nat}{u:Pos}(y:PE X o B)(t:gL o "items" X.env (e6 o X.env)=e6 o X.env)(z:(Q.endLine == C.line)=O) :
  PI X (.Tuple c p u) (.Call (.Attribute o "items" Q) [] [] C) λe H R=>B e H λx H1=>∃ob d kvs,x=.ref d/\H1 d=U (.f9 ob<|.dK kvs)/\R (VI ob d kvs) H1:=by
 intro A s e H R I h;refine z3 t z<|bV (y A s e H _ I h) λv a n=>?_;obtain⟨x,H1,I1,r,q1⟩:=n;obtain⟨ob,d,kvs,ex,g,q⟩:=q1;subst ex;cases r;obtain⟨Ŧ,lo,k,l,i,hd,f,_⟩:=xS I1 g;have rd:mG a.heap d k l:=⟨ob,Ŧ,i,hd⟩;refine⟨"dict","dict.items",oC,tq,PySem.F.type_dict_items,rd.ty,λb q=>by cases q;exact⟨ob,Ŧ,i.2.1⟩,lr J<|yB ?_⟩
 refine tb tq rd.ty PySem.F.entry_dict_items (PySem.F.args_dict_items_1 _) (B6 d lo) ⟨⟨k,l,rd⟩,?_⟩;have dl:d<a.heap.objs.size:=rd.lt;refine oJ (s:={a with heap:=a.heap.push {cls:=.type "dict_items",data:=.fields #[.ref d]}}) ⟨_,c8 _ J,J,J⟩ (rd.at λ_ q=>bp _ q) ?_
 have sz:(a.heap.push {cls:=.type "dict_items",data:=.fields #[.ref d]}).objs.size=a.heap.objs.size+1:=lK ..;refine⟨_,[_],_,_,H1,J,I1.kept (t':=a.toks) λb o q=>bp _<|bp _ q,xT (P:=X.prog) (w:=X.w) (K:=X.K) i hd f<|by rw[sz];exact dP<|ue dl,⟨_,_,c8 _ J⟩,λb j=>?_,q⟩
 simp only[bK,iC,hH]at j;have m:a.heap.objs.size<=b:=by rw[j,sz];exact yq _
 exact I1.pO m<|I1.aZ.fresh m
end
end L2
namespace D
open PySem L2
def VJ:Ky->FK
 |.i n=>U<|.int n
 |.s l=>gd (decide<|l.length<=1000000)<|.str l
def vK:List Ky->FC->Fs
 |[],[]=>U []
 |k::ks,t::ts=>(VJ k).bind λu=>(vK ks ts).map λr=>.tup [u,t]::r
 |_,_=>Y
def Zy:T->Fs
 |.cC ks ts=>vK ks ts
 |_=>Y
def PZ(a:FE):FL:=λs=>(a s).bind λp=>(aW<|Zy p.1).bind λts=>.ok (ts,p.2)
theorem Af:∀{ks:List Ky}{ts us:FC},vK ks ts=U us->us.length=ts.length
 |[],[],_,h=>by cases h;rfl
 |k::ks,t::ts,_,h=>by
  revert h;refine aak λu _=>λh=>?_;obtain⟨r,a,rfl⟩:=bD.mp h;exact cm (· + 1)<|Af a
 |[],_::_,_,h=>by cases h
 |_::_,[],_,h=>by cases h
theorem Fj:∀{ks:List Ky}{ts us:FC}{i:Nat}{k:Ky}{t:T},vK ks ts=U us->ks[i]?=U k->ts[i]?=U t->∃u,VJ k=U u/\us[i]?=U (.tup [u,t])
 |[],_,_,_,_,_,_,a,_=>by simp at a
 |_::_,[],_,_,_,_,h,_,_=>by cases h
 |k::ks,t::ts,_,i,f,e,h,a,b=>by
  revert h;refine aak λu c=>λh=>?_;obtain⟨r,d,rfl⟩:=bD.mp h;cases i with
  |zero=>cases a;cases b;exact⟨u,c,J⟩
  |succ i=>exact Fj (i:=i) d a b
section
variable{B:KT}{X:Cx}{o:de}{bo bF:Pos}{fo:FE}
def P0{k:Ky}{u:T}{al:BM}{H:Hp}(h:VJ k=U u):Rep B al H u<|kV<|jb k:=by
 cases k with
 |i n=>cases h;rfl
 |s l=>obtain⟨a,rfl⟩:=aX h;exact⟨J,dc a⟩
def VL{c:Bz}{e:Nat}{E:Pos}(F:PE X o<|tE B fo)(I:aT o=O)(V:(bo.endLine == bF.line)=O) :
  PI X (.Tuple c e E) (.Call (.Attribute o "items" bo) [] [] bF)<|tI B<|PZ fo:=by
 refine jW (Fi F (ee I) V) λZ H R z=>?_;obtain⟨g,s,ts,s',x,h,k⟩:=z;obtain⟨⟨r,s1⟩,K,h⟩:=aa h;obtain⟨us,a,h⟩:=aa h;cases h
 replace a:=ai a
 cases r<;>try(cases a;done)
 rename_i ks W _;have a:vK ks W=U ts:=a;refine⟨g,s,_,_,x,K,λv g1 H1 D e C=>?_⟩;obtain⟨d,vs,rfl,⟨ob,hd⟩,G,m⟩:=C;have ŧ:((ks.map jb).zip vs).length=ts.length:=by rw[nk,bX,Af a,m.len,G];lia
 refine⟨ob,d,_,J,e.sub _ _ hd,k _ g1 H1 D e ⟨λi q f hi=>⟨by rw[ŧ];exact hi,f _ _ hd⟩,λi q x H4 f hi y=>?_,λi q f hi=>⟨by rw[ŧ];exact hi,f _ _ hd⟩⟩⟩
 obtain⟨p,b,n,T,rfl,rfl⟩:=y;obtain⟨j,S⟩:=Fd T;rw[dH]at j;obtain⟨ky,j,Q⟩:=bD.mp j;obtain⟨t1,P,N⟩:=m.vd S;obtain⟨u,M,L⟩:=Fj a j P;refine⟨_,L,λA w l=>⟨upd A p<|.tup [kV b.1,b.2],.new l n,p,[kV b.1,b.2],J,kM.of ah,?_⟩⟩;have t:=w.trans<|aY (o:=.tup [kV b.1,b.2])<|l.free n;exact⟨_,_,J,by rw[<- Q];exact P0 M,.one<|N.same t⟩
end
end D
namespace L2
open PySem PySem.Spec PyProof.Rows
section
variable{X:Cx}{o:de}{n:TE}{u z:Pos}
def Fl(f:PE X o n)(d:gL o "strip" X.env (e6 o X.env)=e6 o X.env)(g:(u.endLine == z.line)=O) :
  PE X (.Call (.Attribute o "strip" u) [] [] z) λa H Q=>n a H λx H1=>∃y:Str,x=.str y/\y.length<=dv/\Q (.str<|mM y) H1:=λi s a H Q I h=>by
 refine Call_method0 d g<|bV (f i s a H _ I h) λv m b=>?_;obtain⟨x,H1,j,c,y,ex,e,q⟩:=b;subst ex;obtain⟨t,rfl⟩:=c;exact SB.strip (λl k=>⟨.str _,H1,j.tok _,⟨_,J⟩,q⟩) e
def Fo:dW X (.builtin "isinstance") λxs H Q=>∃d kvs,xs=[.ref d,.ty "dict"]/\Rd H d (.dK kvs)/\Q (.bl O) H:=by
 intro m s g H xs i Q I r h;obtain⟨d,kvs,rfl,hd,q⟩:=h;obtain⟨u,j,rfl,a,f⟩:=vals2 r;cases a;cases f;obtain⟨_,_,vs,_,ob,k,l,e,c,_⟩:=gG I.aZ hd;exact lQ CF I.jJ ⟨ob,e,c.1⟩ (D.jx X.K (tn := "dict") (T := "dict") (b:=O)<|by decide +kernel) (λz=>nomatch z) λtk=>⟨.bl O,H,I.tok _,J,q⟩
end
end L2
namespace D
open PySem L2
def Ag:T->FK
 |.str l=>gd (decide<|(mM ⟨l.toArray⟩).length<=1000000)<|.str (mM ⟨l.toArray⟩).cps.toList
 |_=>Y
def P1:T->FK
 |.cC _ _=>U<|.bl O
 |_=>Y
section
variable{B:KT}{X:Cx}{a o:de}{pos p F G:Pos}{I K:FE}
def P4(j:PE X o<|tE B I)(l:aT o=O)(p:(F.endLine == G.line)=O):PE X (.Call (.Attribute o "strip" F) [] [] G)<|tE B<|dF Ag I:=by
 refine aM (Fl j (ee l) p) λq H Q z=>?_;obtain⟨g,s,t,u,x,h,k⟩:=z;revert h;refine aao λc d n=>aan λr a=>λh=>?_;cases h
 replace a:=ai a
 cases c<;>try(cases a;done)
 obtain⟨m,rfl⟩:=aX a;refine⟨g,s,_,d,x,n,λv g1 H1 i b f=>?_⟩;obtain⟨rfl,e⟩:=f;refine⟨_,J,by rw[fK,ew];exact dq e<|by decide,k _ g1 H1 i b ⟨?_,dc m⟩⟩
 show V.str (mM _)=V.str ⟨_⟩;rw[nr]
def VM{c:Pos}(o:X.mg "isinstance" = Y)(w:X.mg "dict" = Y)(r:PE X a<|tE B K)(q:Gl X "isinstance")(y:Gl X "dict")(f:noStar a=O) :
  PE X (.Call (.Name "isinstance" p) [a,.Name "dict" c] [] pos)<|tE B<|dF P1 K:=by
 have j:dy [Hv "dict" c] X.env=(Zb,e6 (.Name "dict" c) X.env)::dy [] X.env:=J;refine aM (dX Fo q o yN (aR r (aR (yR y w PyProof.Rows.boot_dict (v:=.ty "dict") J (by decide)<|by decide) bU j)<|ao f) (he:=ao f) (hpl:=J)) λA H Q z=>?_
 obtain⟨g,s,t,D,x,h,k⟩:=z;revert h;refine aao λi l u=>aan λC b=>λh=>?_;cases h
 replace b:=ai b
 cases i<;>try(cases b;done)
 cases b;refine⟨g,s,_,l,x,u,λv g1 H1 n e m=>?_⟩;obtain⟨d,vs,rfl,hd,F,E⟩:=m;exact⟨d,_,J,(hd.same e.sub).rd,k _ g1 H1 n e J⟩
end
end D
namespace D
open PySem
structure Lc where
 N:Bi
 sc:hB
 mu:Bi
inductive Ck where
 |fz (c n:Nat)|z0 (c:Nat)|cp (c:Nat)|nw (c i:Nat)
structure Gm where
 P:Pg
 cs:List<|Str×T
 fs:List<|Str×FC×Nat
 cl:List<|Str×Ck
 ms:List<|Str×List (Nat×Nat)
 bl:Bi
 bf:Bi:=[]
 bn:Bi:=[]
 dn:Bi:=[]
 fy:List<|Str×B1:=[]
def Gm.bc(M:Gm):Nat:=M.P.cn.length+M.P.tab.length
def Gm.je(M:Gm):M.P.cn[M.bc]?=Y:=yG<|cH _ _
def Gm.Jy(M:Gm):M.P.fn[M.bc]?=Y:=yG (by unfold Pg.fn;rw[bX];exact Lh _ _)
def lL(N:Bi)(x:Str):Option Nat:=N.idxOf? x
def qU(x:Str):Bool:=x == ("__debug__" : Str) ||x == ("__classdict__" : Str)
def k_(L:Lc)(x:Str):Bool:=match L.sc.names.lookup x with
 |some .local=>!qU x
 |some .cell=>!qU x
 |_=>Zb
def Fp(L:Lc)(x:Str):Bool:=decide (L.sc.names.lookup x=U .globalImplicit)&&!qU x
structure Rc where
 E:Lc->de->FE
 T:Lc->de->FT
 I:Lc->de->de->FL
 O:Lc->de->FL
def gh:List FE->FL
 |[]=>cj
 |a::r=>bH a<|gh r
def Fq:List FE->FE
 |[]=>aV
 |[a]=>a
 |a::r=>pZ a<|Fq r
def P5:List FT->FT
 |[]=>pX
 |[a]=>a
 |a::r=>kT a<|P5 r
def Fv:List FT->FT
 |[]=>pX
 |[a]=>a
 |a::r=>pY a<|Fv r
def Fw(sc outer:hB):hB:={sc with names:=sc.names.map λ(n,k)=>if(k == NameKind.free&&outer.kind == .function&&outer.names.lookup n == U .cell)then(n,NameKind.cell)else(n,k)}
def locals(sc:hB):Bi:=sc.names.filterMap λp=>if p.2=.local then U p.1 else Y
def frees(sc:hB):Bi:=sc.names.filterMap λp=>if p.2=.free then U p.1 else Y
def idxs(N:Bi):Bi->Option B1
 |[]=>U []
 |x::xs=>(lL N x).bind λi=>(idxs N xs).map (i::·)
def P6(L:Lc)(sc:hB):Bool:=decide (sc.kind=.function)&&sc.names.all (λp=>decide (p.2≠.cell)&&(decide (p.2=.local)->decide (sc.names.lookup p.1=U .local))&&(decide (p.2=.free)->(decide (sc.names.lookup p.1=U .free)&&decide (L.sc.names.lookup p.1=U .cell))))&&decide (L.sc.kind=.function)
def RI(N:Bi)(ok:Str->Bool):de->Option (FG×B1)
 |.Name x _=>if ok x then(lL N x).map λi=>(setG i,[i])else Y
 |.Tuple b _ _=>(namesOf b).bind λa=>if a.all ok then(idxs N a).map λis=>(eV is,is)else Y
 |_=>Y
def isSet:de->Bool
 |.Set _ _ _=>O
 |_=>Zb
def MY(r:Rc)(L:Lc):Bz->FT
 |[]=>dM
 |[c]=>r.T L c
 |_=>pX
def Fx(L:Lc)(sc:hB):Lc:=⟨locals sc++frees sc,Fw sc L.sc,[]⟩
def oK(r:Rc)(L:Lc)(elt:de)(q:Comprehension)(sc:hB):FL:=if q.is_async=0/\(P6 L sc&&decide ((locals sc++frees sc).Nodup)&&!isSet q.iter&&decide (q.ifs.length<=1))=O then(match idxs L.N (frees sc),RI (locals sc) (λx=>decide<|sc.names.lookup x=U .local) q.target with
  |some a,some (g,_)=>bQ (r.I L q.target q.iter) (locals sc).length a g (MY r (Fx L sc) q.ifs)<|r.E (Fx L sc) elt
  |_,_=>fH)else fH
def qV(r:Rc)(L:Lc):de->FL
 |.ListComp a b sc _=>(match b with
  |[g]=>oK r L a g sc
  |_=>fH)
 |_=>fH
def Fy(r:Rc)(L:Lc):Option de->FO
 |none=>rP
 |some e=>jh<|r.E L e
def vL(M:Gm)(L:Lc):Bi->Option B1
 |[]=>U []
 |y::ys=>if Fp L y&&((lL M.P.cn y).bind λd=>M.P.fn[d]?).isSome then(lL M.P.cn y).bind λd=>(vL M L ys).map (d::·)else Y
def blt(M:Gm)(L:Lc)(x:Str):Bool:=M.bl.contains x&&Fp L x
def VN(M:Gm)(r:Rc)(L:Lc)(a:de):de->FE
 |.Name y _=>(match vn.lookup y with
  |some ty=>if M.bl.contains y&&Fp L y then dF (IY ty) (r.E L a)else aV
  |none=>(match vL M L [y]with
   |some ds=>dF (iV M.P.sub ds)<|r.E L a
   |none=>aV))
 |.Tuple b _ _=>if b.length<=100 then(match(namesOf b).bind (vL M L)with
  |some ds=>dF (iV M.P.sub ds)<|r.E L a
  |none=>aV)else aV
 |_=>aV
def Zz(M:Gm)(r:Rc)(L:Lc)(a q:de):FE:=if asName q=U ("dict" : Str)/\blt M L ("dict" : Str)=O then dF P1 (r.E L a)else VN M r L a q
def aw(l:List<|Nat×Nat)(aj:Nat->Fn)(c:Nat):Option Fn:=(l.lookup c).map aj
def ZA(M:Gm)(r:Rc)(L:Lc)(o:de):Option FE:=(gY o).bind λq=>if M.bf.contains q.2.1&&aT q.1 then(lL M.P.an q.2.1).map λj=>aB M.P.tab j (r.E L q.1)else Y
def nmB(M:Gm)(L:Lc)(o:de):Option FE:=(asName o).bind λy=>if(M.bn.contains y&&L.mu.contains ("boxes" : Str))&&k_ L y then(lL L.N y).map vF else Y
def xU(M:Gm)(r:Rc)(L:Lc)(o:de):Option FE:=(ZA M r L o).or<|nmB M L o
def Ũ(M:Gm)(o:de):Bool:=match asName o with
 |some y=>M.dn.contains y
 |none=>Zb
def P7(L:Lc):de->Option Nat
 |.Name y _=>if L.mu.contains y&&k_ L y then lL L.N y else Y
 |_=>Y
def vM(M:Gm)(r:Rc)(L:Lc)(a:de)(op:oa)(b:de):FE:=match qO op,xU M r L b with
 |some c,some f=>sA M.bc c (r.E L a) f
 |_,_=>(match qO op,P7 L b with
  |some c,some i=>EN c i<|r.E L a
  |_,_=>if op=.Eq/\Ũ M b=O then a_ B5 (r.E L a) (r.E L b)else a_ (aP op) (r.E L a) (r.E L b))
def xV(M:Gm)(L:Lc)(f:Str)(a:Bz):Option de:=(Je a ([]:B1)).bind λe=>(Zd e).bind λq=>if f=("list" : Str)/\q.1=("range" : Str)/\blt M L ("range" : Str)=O/\noStar q.2=O then U q.2 else Y
def ZC(e:de):Option de:=(kY e).bind λq=>(gY q.1).bind λw=>if q.2.1.isEmpty=O/\q.2.2.1.isEmpty=O/\w.2.1=("keys" : Str)/\aT w.1=O/\(w.2.2.endLine == q.2.2.2.line)=O then U w.1 else Y
def P8(M:Gm)(r:Rc)(L:Lc)(f:Str)(b:Bz):Option FE:=match b with
 |[a]=>if f=("len" : Str)then((xU M r L a).map λg=>MS M.bc g).or ((P7 L a).map BZ)else if f=("sorted" : Str)then((xU M r L a).map λg=>Ff M.bc g).or ((ZC a).map λo=>B3<|r.E L o)else Y
 |_=>Y
def VO:List<|Str×(FC->FK):=("max",E2)::xE
def xW(M:Gm)(aj:Nat->Fn)(r:Rc)(L:Lc)(f:Str)(b:Bz):FE:=
 if b.all noStar then(match M.fs.lookup f with
  |some (ds,i)=>if Fp L f then aq (aj i) ds (gh<|b.map<|r.E L)else aV
  |none=>(match M.cl.lookup f with
   |U<|.fz c n=>if Fp L f&&!b.isEmpty then iK c n (gh<|b.map<|r.E L)else aV
   |U<|.z0 c=>if Fp L f&&b.isEmpty then iK c 0 cj else aV
   |U<|.cp c=>(match b with
    |[a]=>if Fp L f then dF (OE c) (r.E L a)else aV
    |_=>aV)
   |U<|.nw c i=>if Fp L f&&!b.isEmpty then jr c (aj i) (gh<|b.map<|r.E L)else aV
   |none=>if blt M L f then(match P8 M r L f b with
    |some g=>g
    |none=>match f == ("isinstance" : Str),b with
     |true,[a,q]=>Zz M r L a q
     |_,_=>(match xV M L f b with
        |some a=>dB<|o1 BW<|r.E L a
        |none=>(match VO.lookup f,b with
         |some g,_::_=>bA g<|gh<|b.map<|r.E L
         |_,_=>aV)))else aV))else aV
def FA:Const->FE
 |.int i=>cF<|.int i
 |.bool b=>cF<|.bl b
 |.none=>cF .non
 |.str s=>if s.length<=1000000 then cF (.str s.cps.toList)else aV
 |_=>aV
def FF(M:Gm)(L:Lc)(x:Str):FE:=match lL L.N x with
 |some i=>if k_ L x then vF i else aV
 |none=>(match M.cs.lookup x with
  |some t=>if Fp L x then cF t else aV
  |none=>aV)
def unE(a:FE):UnaryOp->FE
 |.USub=>dF pW a
 |.Not=>BJ a
 |_=>aV
def boE(l:List FE):BoolOp->FE
 |.And=>Fq l
 |.Or=>aV
def ZD(M:Gm)(r:Rc)(L:Lc)(a:de):List oa->Bz->FE
 |[op],[b]=>if ff op b then aV else vM M r L a op b
 |_,_=>aV
def ZE:de->Bool
 |.Attribute _ _ _=>O
 |.Dict _ _ _=>O
 |_=>Zb
def Xp(M:Gm)(r:Rc)(L:Lc)(o i:de):FE:=match xU M r L o with
 |some f=>BU M.bc f<|r.E L i
 |none=>if ZE o ||Ũ M o then a_ u7 (r.E L o) (r.E L i)else match(asName o).bind λy=>(lL L.N y).map λk=>(y,k)with
 |some (y,k)=>if L.mu.contains y&&k_ L y then vc k (r.E L i)else a_ jw (r.E L o) (r.E L i)
 |none=>a_ jw (r.E L o)<|r.E L i
def P9(M:Gm)(r:Rc)(L:Lc)(o:de):de->FE
 |.Slice lo hi st _=>(match st with
  |none=>(match xU M r L o with
   |some f=>Vr M.bc f (Fy r L lo)<|Fy r L hi
   |none=>lH (r.E L o) (Fy r L lo)<|Fy r L hi)
  |some _=>aV)
 |i=>Xp M r L o i
def ZF(M:Gm)(r:Rc)(L:Lc)(o:de)(f:Str):FE:=if aT o then(match lL M.P.an f with
  |some j=>if M.bf.contains f then jB M.bc M.P.tab j (r.E L o)else aB M.P.tab j (r.E L o)
  |none=>aV)else aV
def P_(M:Gm)(r:Rc)(L:Lc)(o:de)(m:Str)(a:Bz):Option FE:=match a with
 |[b]=>(match mV b with
  |U<|.int 0=>if m=("pop" : Str)then(xU M r L o).map λf=>E1 M.bc f else Y
  |_=>Y)
 |_=>Y
def Qa(M:Gm)(r:Rc)(L:Lc)(o:de)(m:Str)(a:Bz):Option FE:=match a with
 |[b,d]=>if m=("get" : Str)then(xU M r L o).map λf=>sC M.bc f (r.E L b) (r.E L d)else Y
 |_=>Y
def Qc(M:Gm)(aj:Nat->Fn)(r:Rc)(L:Lc)(o:de)(m:Str)(b:Pos)(a:Bz)(cp:Pos):FE:=if aT o&&a.all noStar&&decide (a.length<29)&&b.endLine == cp.line then(match P_ M r L o m a with
   |some f=>f
   |none=>match Qa M r L o m a with
   |some f=>f
   |none=>match M.ms.lookup m with
   |some l=>aD (aw l aj) (r.E L o)<|gh<|a.map<|r.E L
   |none=>(match xD.lookup m,a with
    |some g,_::_=>j9 g (r.E L o)<|gh<|a.map<|r.E L
    |_,_=>if m=("strip" : Str)/\a.isEmpty=O then dF Ag (r.E L o)else aV))else aV
def ZG(M:Gm)(aj:Nat->Fn)(r:Rc)(L:Lc)(a:Bz)(cp:Pos):de->FE
 |.Name f _=>xW M aj r L f a
 |.Attribute o m b=>Qc M aj r L o m b a cp
 |_=>aV
def MZ(M:Gm)(aj:Nat->Fn)(r:Rc)(L:Lc):de->FE
 |.Constant c _ _=>FA c
 |.Name x _=>FF M L x
 |.BinOp a e b _=>a_ (bO e) (r.E L a)<|r.E L b
 |.UnaryOp e a _=>unE (r.E L a) e
 |.BoolOp e d _=>boE (d.map<|r.E L) e
 |.Compare a h bs _=>ZD M r L a h bs
 |.IfExp c a b _=>u_ (r.T L c) (r.E L a)<|r.E L b
 |.Tuple d _ _=>if d.all noStar then bA fX (gh<|d.map<|r.E L)else aV
 |.List d _=>if d.all noStar then bA jq (gh<|d.map<|r.E L)else aV
 |.Subscript o i _=>P9 M r L o i
 |.Attribute o f _=>ZF M r L o f
 |.ListComp j k sc p=>dB<|qV r L<|.ListComp j k sc p
 |.Call f g ks cp=>(match ks with
  |[]=>ZG M aj r L g cp f
  |_::_=>aV)
 |_=>aV
def boT(l:List FT):BoolOp->FT
 |.And=>Fv l
 |.Or=>P5 l
def ZH(M:Gm)(r:Rc)(L:Lc)(a:de):List oa->Bz->FT
 |[op],[b]=>if ff op b then pX else b9 (vM M r L a op b)
 |_,_=>pX
def stepT(M:Gm)(r:Rc)(L:Lc)(e:de):FT:=match e with
 |.BoolOp c d _=>boT (d.map<|r.T L) c
 |.UnaryOp c a _=>(match c with
  |.Not=>dS<|r.T L a
  |_=>tB<|r.E L e)
 |.Compare a b bs _=>ZH M r L a b bs
 |.IfExp _ _ _ _=>pX
 |_=>tB<|r.E L e
def Ah(e:de):Option Bz:=(oq e).bind λq=>if q.1=("range" : Str)/\q.2.2.isEmpty=O then U q.2.1 else Y
def vN(e:de):Option<|de×Int:=(oq e).bind λq=>if q.1=("enumerate" : Str)then(match q.2.1 with
 |[a]=>(match q.2.2 with
  |[]=>U (a,0)
  |[w]=>(match mV w.value with
   |U<|.int n=>if w.arg=U ("start" : Str)/\n=1 then U (a,n)else Y
   |_=>Y)
  |_=>Y)
 |_=>Y)else Y
def FH:de->Bool
 |.Tuple _ _ _=>O
 |_=>Zb
def Jz:de->Bool
 |.Name _ _=>O
 |_=>Zb
def FI(e:de):Option de:=(Zd e).bind λq=>if q.1=("reversed" : Str)/\noStar q.2=O then U q.2 else Y
def ZI(e:de):Option de:=(kY e).bind λq=>(gY q.1).bind λw=>if q.2.1.isEmpty=O/\q.2.2.1.isEmpty=O/\w.2.1=("items" : Str)/\aT w.1=O/\(w.2.2.endLine == q.2.2.2.line)=O then U w.1 else Y
def stepI(M:Gm)(r:Rc)(L:Lc)(tg e:de):FL:=match Ah e with
 |some d=>if blt M L ("range" : Str)&&d.all noStar then(match d with
   |[a]=>ze mj<|gh [r.E L a]
   |[a,b]=>ze mj<|gh [r.E L a,r.E L b]
   |[a,b,c]=>ze BY<|gh [r.E L a,r.E L b,r.E L c]
   |_=>fH)else fH
 |none=>(match vN e with
  |some (a,n)=>if blt M L ("enumerate" : Str)&&FH tg&&noStar a then gI n (r.E L a)else fH
  |none=>match FI e with
  |some a=>if blt M L ("reversed" : Str)then o1 PJ (r.E L a)else fH
  |none=>match ZI e with
  |some o=>if FH tg then PZ (r.E L o)else fH
  |none=>if Jz tg then iL (r.E L e)else I_ (r.E L e))
def Qd(M:Gm)(r:Rc)(L:Lc)(f:Str)(b:Bz):FL:=if blt M L f then match xV M L f b with
 |some a=>o1 BW<|r.E L a
 |none=>(match b with
  |[a]=>if f=("list" : Str)/\noStar a=O then o1 Zn (r.E L a)else fH
  |_=>fH)else fH
def M0(M:Gm)(r:Rc)(L:Lc):de->FL
 |.IfExp c a b _=>Xi (r.T L c) (r.O L a)<|r.O L b
 |.BinOp a h b _=>(match h with
  |.Mult=>o2 EZ (r.E L a)<|r.E L b
  |_=>fH)
 |.Call f d ks _=>(match ks with
  |[]=>(match asName f with
   |some y=>Qd M r L y d
   |none=>fH)
  |_::_=>fH)
 |.List g _=>if g.all noStar then nX (gh<|g.map<|r.E L)else fH
 |.ListComp e i sc p=>qV r L<|.ListComp e i sc p
 |_=>fH
def comp(M:Gm)(aj:Nat->Fn):Nat->Rc
 |0=>⟨λ_ _=>aV,λ_ _=>pX,λ_ _ _=>fH,λ_ _=>fH⟩
 |n+1=>⟨MZ M aj<|comp M aj n,stepT M<|comp M aj n,stepI M<|comp M aj n,M0 M<|comp M aj n⟩
def FJ(L:Lc)(t:Str)(tp:Pos):de->Bool
 |.ListComp _ _ sc p=>(if L.sc.kind.isAnnotationScope then ScopeKind.function else L.sc.kind) == .function&&L.sc.names.lookup t == U .local&&tp.line == p.line&&!(sc.names.any λ(n,k)=>n == t&&(k == .local ||k == .cell))
 |_=>Zb
def sP:de->Bool
 |.ListComp _ _ _ _=>O
 |.SetComp _ _ _ _=>O
 |.DictComp _ _ _ _ _=>O
 |_=>Zb
def Ai(a:Str)(mu:Bi)(e:de):Option<|Str×de:=(Ze e).bind λw=>(asName w.1).bind λy=>if w.2.1=a/\mu.contains y=O then U (y,w.2.2)else Y
def vO:de->Bool
 |.Dict [] [] _=>O
 |_=>Zb
def Qe(M:Gm)(aj:Nat->Fn)(n:Nat)(L:Lc)(e:de):FE:=if vO e then ki M.bc else nS M.bc ((comp M aj n).O L e)
def FN(M:Gm)(aj:Nat->Fn)(n:Nat)(L:Lc)(x:Str)(e:de):FS:=match lL L.N x with
 |some i=>if k_ L x then(if L.mu.contains x then(if vO e then vv i else mq i ((comp M aj n).O L e))else if(M.bn.contains x&&L.mu.contains ("boxes" : Str))&&!sP e then aN i (Qe M aj n L e)else aN i ((comp M aj n).E L e))else cY
 |none=>cY
def M1:de->Bool
 |.Tuple vs _ _=>vs.all<|foldedForSure 8
 |_=>O
abbrev many:Nat:=1000000
def tupS(M:Gm)(aj:Nat->Fn)(n:Nat)(L:Lc)(a:Bz)(e:de):FS:=if sP e || !M1 e || !a.all noStar then cY else(match RI L.N (k_ L) (.Tuple a 0 ⟨0,0,0,0⟩)with
  |some (g,_)=>T_ g<|(comp M aj n).E L e
  |none=>cY)
def Qf(M:Gm)(aj:Nat->Fn)(n:Nat)(L:Lc)(f:Str)(e:de):FE:=if M.bf.contains f then(if vO e then ki M.bc else nS M.bc ((comp M aj n).O L e))else(comp M aj n).E L e
def Qg(M:Gm)(aj:Nat->Fn)(n:Nat)(L:Lc)(o:de)(f:Str)(e:de):FS:=match lL M.P.an f with
  |some j=>aL M.P.tab j ((comp M aj n).E L o)<|Qf M aj n L f e
  |none=>cY
def h_(M:Gm)(aj:Nat->Fn)(n:Nat)(L:Lc)(o b e:de):FS:=if sP e then cY else match xU M (comp M aj n) L o with
 |some f=>qa M.bc f ((comp M aj n).E L b)<|(comp M aj n).E L e
 |none=>match(asName o).bind λy=>if k_ L y then lL L.N y else Y with
  |some i=>if isSlice b then cY else MP i ((comp M aj n).E L b) ((comp M aj n).E L e)
  |none=>cY
def ũ(M:Gm)(aj:Nat->Fn)(n:Nat)(L:Lc)(e:de):de->FS
 |.Name x _=>FN M aj n L x e
 |.Tuple a _ _=>tupS M aj n L a e
 |.Attribute o f _=>Qg M aj n L o f e
 |.Subscript o b _=>h_ M aj n L o b e
 |_=>cY
def Qh(M:Gm)(aj:Nat->Fn)(n:Nat)(L:Lc)(t:de)(op:o7)(e:de):FS:=match(gY t).bind λq=>(lL M.P.an q.2.1).map λj=>(q.1,j)with
  |some (o,j)=>if op=.Add then vB M.P.tab j iN ((comp M aj n).E L o) ((comp M aj n).E L e)else cY
  |none=>match(asName t).bind λx=>(lL L.N x).map λi=>(x,i)with
  |some (x,i)=>if op=.Add/\k_ L x=O then IB iN i ((comp M aj n).E L e)else cY
  |none=>cY
def VP(M:Gm)(r:Rc)(L:Lc)(e:de):Option<|FE×de:=(Ze e).bind λw=>(xU M r L w.1).bind λf=>if w.2.1=("append" : Str)then U (f,w.2.2)else Y
def ZJ(M:Gm)(aj:Nat->Fn)(n:Nat)(L:Lc)(e:de):FS:=match VP M (comp M aj n) L e with
  |some (f,a)=>fF M.bc f<|(comp M aj n).E L a
  |none=>match Ai "append" L.mu e with
  |some (y,a)=>(match lL L.N y with
   |some i=>if k_ L y then mw i ((comp M aj n).E L a)else cY
   |none=>cY)
  |none=>if sP e then cY else aQ ((comp M aj n).E L e)
def retS(M:Gm)(aj:Nat->Fn)(n:Nat)(L:Lc):Option de->FS
 |some e=>az<|(comp M aj n).E L e
 |none=>az<|cF .non
def Qi(M:Gm)(aj:Nat->Fn)(n:Nat)(L:Lc)(b:FS)(tg it:de):FS:=if isSet it then cY else(match RI L.N (k_ L) tg with
  |some (g,_)=>fq ((comp M aj n).I L tg it) g b
  |none=>cY)
def Qj(n:Nat):B1->FS->FS
 |[],F=>F
 |i::is,F=>B4 n i<|Qj n is F
def Qk(M:Gm)(t:de)(F:FS):FS:=match(asName t).bind λy=>M.fy.lookup y with
 |some is=>Qj M.bc is F
 |none=>F
def ZK(M:Gm)(aj:Nat->Fn)(n:Nat)(f:Lc->DD->FS)(L:Lc):mB->FS
 |.Assign ts e _=>(match ts with
  |[t]=>Qk M t<|ũ M aj n L e t
  |_=>cY)
 |.AugAssign t i e _=>Qh M aj n L t i e
 |.Expr e _=>ZJ M aj n L e
 |.Return o _=>retS M aj n L o
 |.If c a b _=>bB ((comp M aj n).T L c) (f L a)<|f L b
 |.For h it d g _=>(match g with
  |[]=>Qi M aj n L (f L d) h it
  |_::_=>cY)
 |.While c d g _=>(match g with
  |[]=>kW many ((comp M aj n).T L c)<|f L d
  |_::_=>cY)
 |.Try d j g k _=>(match j,g,k with
  |_::_,[],[]=>f L d
  |_,_,_=>cY)
 |.Pass _=>aI
 |_=>cY
def oN(M:Gm)(aj:Nat->Fn)(n:Nat):Nat->Lc->DD->FS
 |0,_,_=>cY
 |_+1,_,[]=>aI
 |k+1,L,[st]=>ZK M aj n (oN M aj n k) L st
 |k+1,L,st::rest=>af (ZK M aj n (oN M aj n k) L st)<|oN M aj n k L rest
end D
namespace D
open PySem L2
structure FP(M:Gm)(Pr:ef)(w:dA)(K:bG)(mg:Str->D1)(base:fA)(aj:Nat->Fn)(k:Nat):Prop where
 pg:mC K mg M.P
 cst:∀x t,M.cs.lookup x=U t->zX K mg x t
 fns:∀x ds i,M.fs.lookup x=U (ds,i)->Y7 M.P Pr w K mg base k x ds (aj i)
 fz:∀x c n,M.cl.lookup x=U (.fz c n)->ō M.P Pr w K mg base k c n x
 z0:∀x c,M.cl.lookup x=U (.z0 c)->UP M.P Pr w K mg c x
 cp:∀x c,M.cl.lookup x=U (.cp c)->ŗ M.P Pr w K mg base k c x
 nw:∀x c i,M.cl.lookup x=U (.nw c i)->ŕ M.P Pr w K mg base k c x (aj i)
 mts:∀m l c i,M.ms.lookup m=U l->l.lookup c=U i->Xe M.P Pr w K mg base k c m (aj i)
 bl:∀x,x∈M.bl->mg x=Y
structure CxOk(M:Gm)(aj:Nat->Fn)(k:Nat)(L:Lc)(X:Cx):Prop where
 gm:FP M X.prog X.w X.K X.mg X.base aj k
 N:X.N=L.N
 sc:X.env.scope=L.sc
 calm:X.calm=O
 room:∃j,k+1<=j/\bL j X.A
variable{X:Cx}{a b c e o:de}{M:Gm}{L:Lc}{es:Bz}{i k:Nat}{aj:Nat->Fn}{g j p pos F:Pos}{K:bG}{r:Rc}{x y:Str}{mg:Str->D1}
def iA{N:Bi}{x:Str}{i:Nat}(h:lL N x=U i):N[i]?=U x:=by
 unfold lL at h;rw[Lu,Lv]at h;obtain⟨hj,a,_⟩:=h;rw[cD hj,eq_of_beq a]
def Xq(h:qU x=Zb):cy x/\i7 x:=by
 unfold qU at h;exact uF.mp h
def ia(C:CxOk M aj k L X)(h:k_ L x=O):Loc X.env.scope x/\uM X.env.scope x/\cy x/\i7 x:=by
 rw[C.sc];unfold k_ at h;split at h
 .rename_i e
  obtain⟨b,a⟩:=Xq (by simpa using h)
  exact⟨.inl e,.inl e,b,a⟩
 .rename_i e
  obtain⟨b,a⟩:=Xq (by simpa using h)
  exact⟨.inr e,.inr<|.inl e,b,a⟩
 .cases h
def kq(C:CxOk M aj k L X)(h:Fp L x=O):Gl X x/\cy x:=by
 unfold Fp at h;rw[dj]at h;obtain⟨b,a⟩:=h;refine⟨?_,(Xq<|by simpa using a).1⟩
 show X.env.scope.names.lookup x=_;rw[C.sc];exact dc b
def Aj(M:Gm)(X:Cx)(r:Rc)(L:Lc):Prop:=∀e,PE X e<|tE (M.P.kt X)<|r.E L e
def ZL(M:Gm)(X:Cx)(r:Rc)(L:Lc):Prop:=∀e,PT X e<|tT (M.P.kt X)<|r.T L e
def OkI(M:Gm)(X:Cx)(r:Rc)(L:Lc):Prop:=∀a e,PI X a e<|tI (M.P.kt X)<|r.I L a e
def OkO(M:Gm)(X:Cx)(r:Rc)(L:Lc):Prop:=∀e,PE X e<|tO (M.P.kt X)<|r.O L e
def xX(M:Gm)(aj:Nat->Fn)(k:Nat)(r:Rc):Prop:=∀L X,CxOk M aj k L X->Aj M X r L/\ZL M X r L/\OkI M X r L/\OkO M X r L
theorem iZ(a:Aj M X r L):∀es:Bz,es.all noStar=O->PA X es (tA (M.P.kt X)<|gh<|es.map<|r.E L)
 |[],_=>xw
 |e::es,h=>by
  rw[fG,dj]at h;exact rT (a e) (iZ a es h.2)<|ao h.1
theorem vP(c:Aj M X r L):∀es:Bz,PE X (.BoolOp .And es pos)<|tE (M.P.kt X)<|Fq<|es.map<|r.E L
 |[]=>bw
 |[a]=>OI<|c a
 |a::b::es=>OJ (c a)<|vP c<|b::es
def VQ:PW X e<|tT (M.P.kt X) pX:=λ_ _ _ _ _ _ _ a=>by obtain⟨_,_,_,_,_,h,_⟩:=a;cases h
theorem vQ(c:ZL M X r L):∀es:Bz,PW X (.BoolOp .And es pos)<|tT (M.P.kt X)<|Fv<|es.map<|r.T L
 |[]=>VQ
 |[a]=>OH<|c a
 |a::b::es=>Uh (c a)<|vQ c<|b::es
theorem Ak(c:ZL M X r L):∀es:Bz,PW X (.BoolOp .Or es pos)<|tT (M.P.kt X)<|P5<|es.map<|r.T L
 |[]=>VQ
 |[a]=>Ug<|c a
 |a::b::es=>YN (c a)<|Ak c<|b::es
def dD{α:Type}{l:List<|Str×α}{x:Str}{a:α}(h:l.lookup x=U a):(x,a)∈l:=by
 induction l with
 |nil=>simp at h
 |cons p l c=>
  obtain⟨q,b⟩:=p;rw[jk]at h;split at h
  .rename_i e
   cases h;rw[eq_of_beq e];exact bC ..
  .exact eE _<|c h
theorem xY(C:CxOk M aj k L X):∀{ys:Bi}{ds:B1},vL M L ys=U ds->ys.length=ds.length/\∀(i d:Nat)(y:Str),ds[i]?=U d->ys[i]?=U y->M.P.cn[d]?=U y/\(M.P.fn[d]?).isSome=O/\Gl X y/\cy y
 |[],ds,h=>by
  cases h;exact⟨J,λi d y h=>by simp at h⟩
 |y::ys,ds,h=>by
  unfold vL at h;split at h
  .rename_i q
   rw[dj]at q;obtain⟨d,c,l⟩:=dI.mp h;obtain⟨m,j,rfl⟩:=bD.mp l;obtain⟨g,f⟩:=xY C j;obtain⟨g1,g2⟩:=kq C q.1;refine⟨by simp[g],λi n e b a=>?_⟩
   cases i with
   |zero=>
    simp at b a;subst b a;refine⟨iA c,?_,g1,g2⟩;have q2:=q.2;rw[c]at q2;exact q2
   |succ i=>exact f i n e (by simpa using b) (by simpa using a)
  .cases h
def eS(C:CxOk M aj k L X)(h:blt M L x=O):Gl X x/\X.mg x=Y/\cy x:=by
 unfold blt at h;rw[dj]at h;obtain⟨g1,g2⟩:=kq C h.2;exact⟨g1,C.gm.bl x<|C9.mp h.1,g2⟩
def Ql(C:CxOk M aj k L X)(h:Aj M X r L){q:de}(l:blt M L ("isinstance" : Str)=O)(e:noStar a=O):PE X (.Call (.Name "isinstance" p) [a,q] [] pos)<|tE (M.P.kt X)<|VN M r L a q:=by
 obtain⟨g,f,_⟩:=eS C l;cases q with
 |Name y z=>
  show PE X _<|tE (M.P.kt X)<|match vn.lookup y with|some ty=>_|none=>_
  split
  .rename_i ty u
   split
   .rename_i q
    rw[dj]at q;obtain⟨g1,g2⟩:=kq C q.2;exact O3 J (dD u) f (C.gm.bl _<|C9.mp q.1) (h a) g g1 e
   .exact bw
  .split
   .rename_i ds b
    obtain⟨i,c⟩:=xY C b
    match ds,i,c with
    |[d],_,c=>
     obtain⟨t,s,o,n⟩:=c 0 d y J J;exact UN C.gm.pg t f (h a) g o e n s
   .exact bw
 |Tuple es w x=>
  show PE X _<|tE (M.P.kt X)<|if es.length<=100 then _ else aV
  split
  .rename_i j
   split
   .rename_i ds b
    revert b;refine aak λv m=>λb=>?_;obtain⟨i,c⟩:=xY C b;exact Vb C.gm.pg m i c j f (h a) g e
   .exact bw
  .exact bw
 |_=>exact bw
def VR(C:CxOk M aj k L X)(d:Aj M X r L){q:de}(c:blt M L ("isinstance" : Str)=O)(b:noStar a=O):PE X (.Call (.Name "isinstance" p) [a,q] [] pos)<|tE (M.P.kt X)<|Zz M r L a q:=by
 unfold Zz;split
 .rename_i z
  obtain⟨g,rfl⟩:=dC z.1;obtain⟨f,e,_⟩:=eS C c;obtain⟨k1,k2,_⟩:=eS C z.2;exact VM e k2 (d a) f k1 b
 .exact Ql C d c b
def vR{f:Str}{c:Bz}(h:xV M L f c=U a):f=("list" : Str)/\blt M L ("range" : Str)=O/\noStar a=O/\∃i d,c=[.Call (.Name "range" i) [a] [] d]:=by
 revert h;refine aak λe l=>aal λg b k=>λh=>?_;obtain⟨⟨q1,q2,j,q4⟩,h⟩:=ql.mp h;cases h;obtain⟨i,d,m⟩:=zQ k;exact⟨q1,j,q4,i,d,by rw[(ou l).1,m,q2]⟩
def gz(C:CxOk M aj k L X)(d:Aj M X r L){f:FE}(h:xU M r L o=U f):PE X o (tE (M.P.kt X) f)/\aT o=O:=by
 rcases Di.mp h with h|⟨_,h⟩
 .revert h;refine aak λq c=>λh=>?_
  rw[kg c];split at h
  .rename_i z
   rw[dj]at z;obtain⟨j,b,rfl⟩:=bD.mp h;exact⟨MD C.gm.pg (iA b) (d _) z.2,J⟩
  .cases h
 .obtain⟨y,c,a⟩:=dI.mp h
  clear h;obtain⟨e,rfl⟩:=dC c;split at a
  .rename_i z
   rw[dj]at z;obtain⟨i,b,rfl⟩:=bD.mp a;obtain⟨l1,l2,l3,l4⟩:=ia C z.2;exact⟨Mu (by rw[C.N];exact iA b) l2 l3 l4,J⟩
  .cases a
def xZ(C:CxOk M aj k L X){i:Nat}(h:P7 L b=U i):∃y a,b=.Name y a/\X.N[i]?=U y/\uM X.env.scope y/\cy y/\i7 y:=by
 cases b<;>try(cases h;done)
 replace h:(if _ then _ else Y)=U i:=h
 split at h
 .rename_i q
  rw[dj]at q;obtain⟨l1,l2,l3,l4⟩:=ia C q.2;exact⟨_,_,J,by rw[C.N];exact iA h,l2,l3,l4⟩
 .cases h
def JA(C:CxOk M aj k L X)(c:Aj M X r L){op:oa}(h:ff op b=Zb):PE X (.Compare a [op] [b] pos)<|tE (M.P.kt X)<|vM M r L a op b:=by
 obtain⟨j,hj,hr⟩:=C.room;unfold vM;split
 .rename_i d f g e
  exact PD M.je hr g (c a) (gz C c e).1 h
 split
 .rename_i d i g e
  obtain⟨y,m,rfl,q1,q2,l,q4⟩:=xZ C e;exact(ET hr g (c a) q1 q2 l q4).1
 split
 .rename_i z
  rw[z.1];exact VE J (by have:=hr.units;lia) (c a) (c b) (by rw[<- z.1];exact h)
 .exact Px J hr (c a) (c b) h
def FQ(C:CxOk M aj k L X)(c:Aj M X r L){op:oa}(h:ff op b=Zb):PT X (.Compare a [op] [b] pos)<|tT (M.P.kt X)<|b9<|vM M r L a op b:=by
 obtain⟨j,hj,hr⟩:=C.room;unfold vM;split
 .rename_i d f g e
  exact PF M.je hr g (c a) (gz C c e).1 h
 split
 .rename_i d i g e
  obtain⟨y,m,rfl,q1,q2,l,q4⟩:=xZ C e;exact(ET hr g (c a) q1 q2 l q4).2
 split
 .rename_i z
  rw[z.1];exact PY J (by have:=hr.units;lia) (c a) (c b) (by rw[<- z.1];exact h)
 .exact Jh J hr (c a) (c b) h
def Al{a:Str}{e:de}(h:((kY e).bind λq=>(gY q.1).bind λw=>if q.2.1.isEmpty=O/\q.2.2.1.isEmpty=O/\w.2.1=a/\aT w.1=O/\(w.2.2.endLine == q.2.2.2.line)=O then U w.1 else Y)=U o):∃b cp,e=.Call (.Attribute o a b) [] [] cp/\aT o=O/\(b.endLine == cp.line)=O:=by
 revert h;refine aak λq f=>aak λw d=>λh=>?_;obtain⟨⟨q1,q2,c,q4,q5⟩,h⟩:=ql.mp h;cases h;exact⟨_,_,by rw[kZ f,kg d,c,qk.mp q1,qk.mp q2],q4,q5⟩
def JB(C:CxOk M aj k L X)(j:Aj M X r L){f:Str}{b:Bz}{g:FE}(g1:Gl X f)(g2:X.mg f=Y)(d:b.all noStar=O)(h:P8 M r L f b=U g):PE X (.Call (.Name f p) b [] pos)<|tE (M.P.kt X) g:=by
 unfold P8 at h;split at h
 case h_2=>cases h
 rename_i a;have d:noStar a=O:=by simpa using d
 split at h
 .rename_i e
  subst e;rcases Di.mp h with h|⟨_,h⟩
  .obtain⟨m,c,rfl⟩:=bD.mp h
   exact PN M.je (gz C j c).1 d g1 g2
  .obtain⟨i,c,rfl⟩:=bD.mp h
   obtain⟨y,n,rfl,q1,q2,l,q4⟩:=xZ C c;exact PM J q1 q2 l q4 g1 g2
 split at h
 .rename_i e
  subst e;rcases Di.mp h with h|⟨_,h⟩
  .obtain⟨m,c,rfl⟩:=bD.mp h
   exact VB C.calm M.je (gz C j c).1 d g1 g2
  .obtain⟨o,c,rfl⟩:=bD.mp h
   obtain⟨q,cp,rfl,b1,b2⟩:=Al c;exact VC C.calm g1 g2 (j o) b1 b2
 .cases h
def JC(a:X.calm=O):∀p∈VO,Y4 X p.1 p.2:=by
 intro p h;rcases bK.mp h with rfl|h
 .exact⟨⟨_,Vt,.inl ⟨_,PyProof.Rows.boot_max,Bp a⟩⟩,by decide,by decide⟩
 .exact O1 a p h
def FU(C:CxOk M aj k L X)(l:Aj M X r L)(f:Str)(b:Bz):PE X (.Call (.Name f p) b [] pos)<|tE (M.P.kt X)<|xW M aj r L f b:=by
 obtain⟨j,hj,hr⟩:=C.room;unfold xW;split
 case isFalse=>exact bw
 rename_i d;have m:=iZ l b d;split
 .rename_i ds i s
  split
  case isFalse=>exact bw
  rename_i q;obtain⟨g1,g2⟩:=kq C q;cases b with
  |nil=>exact IZ (C.gm.fns f ds i s) hr (dq (cH ..) hj) g1 g2
  |cons a b=>exact s_call (C.gm.fns f ds i s) hr (dq (cH ..) hj) m g1 g2 d
 .split
  .rename_i c n h
   split
   case isFalse=>exact bw
   rename_i q;rw[dj]at q;obtain⟨g1,g2⟩:=kq C q.1;cases b with
   |nil=>cases q.2
   |cons a b=>exact UO (C.gm.fz f c n h) hr hj m g1 g2 d
  .rename_i c h
   split
   case isFalse=>exact bw
   rename_i q;rw[dj]at q;obtain⟨g1,g2⟩:=kq C q.1;cases b with
   |nil=>exact O6 (C.gm.z0 f c h) g1 g2
   |cons a b=>cases q.2
  .rename_i c h
   split
   .rename_i a
    split
    case isFalse=>exact bw
    rename_i q;obtain⟨g1,g2⟩:=kq C q;exact Pu (C.gm.cp f c h) hr hj (l a) g1 g2 (by simpa using d)
   .exact bw
  .rename_i c i h
   split
   case isFalse=>exact bw
   rename_i q;rw[dj]at q;obtain⟨g1,g2⟩:=kq C q.1;cases b with
   |nil=>cases q.2
   |cons a b=>exact Pq (C.gm.nw f c i h) hr hj m g1 g2 d
  .split
   case isFalse=>exact bw
   rename_i t;obtain⟨g1,g2,g3⟩:=eS C t;split
   .rename_i g o
    exact JB C l g1 g2 d o
   split
   .rename_i a q e _
    have e:=eq_of_beq e;subst e;rw[fG,dj]at d;exact VR C l t d.1
   .split
    .rename_i a u
     obtain⟨rfl,w,v,y,x,rfl⟩:=vR u;obtain⟨k1,k2,k3⟩:=eS C w;exact xy<|MQ C.calm g2 k2 g1 k1 (l a) v
    .split
     .rename_i g a z o _ _ _
      exact UK (JC C.calm (f,g)<|dD o) J g1 g2 m d
     .exact bw
theorem oO{sc:hB}(C:CxOk M aj k L X)(b:∀x∈frees sc,sc.names.lookup x=U .free/\L.sc.names.lookup x=U .cell):∀{xs:Bi}{js:B1},idxs L.N xs=U js->(∀x∈xs,x∈frees sc)->fQ X sc js xs
 |[],js,h,_=>by cases h;exact .nil
 |x::xs,js,h,a=>by
  obtain⟨i,g,f⟩:=dI.mp<|show(lL L.N x).bind _=U js from h;obtain⟨c,e,rfl⟩:=bD.mp f;obtain⟨l,j⟩:=b x<|a x<|bC ..;refine .cons (by rw[C.N];exact iA g) l ?_<|oO C b e λy d=>a y<|eE _ d
  show X.env.scope.names.lookup x=_;rw[C.sc];exact j
def B7{sc:hB}{x:Str}(h:x∈frees sc):(x,NameKind.free)∈sc.names:=by
 unfold frees at h;obtain⟨q,c,a⟩:=CT.mp h;obtain⟨n,b⟩:=q;split at a
 .rename_i e;cases a;have e:b=.free:=e;subst e;exact c
 .cases a
def FW(C:CxOk M aj k L X)(sc:hB):F7 sc X.env=Fw sc L.sc:=by
 unfold F7 Fw Env.kindOf;rw[C.sc]
theorem x8{N:Bi}{ok:Str->Bool}(d:X.N.Nodup)(h:∀x i,ok x=O->lL N x=U i->X.N[i]?=U x/\Loc X.env.scope x/\(X.fn x=O\/X.env.scope.names.lookup x=U .local)):∀{es:Bz}{xs:Bi}{is:B1},namesOf es=U xs->xs.all ok=O->idxs N xs=U is ->
  R7 X es (oj is)/\(ij es X.env).length=is.length/\(ij es X.env).findIdx? (·.1)=Y
 |[],xs,is,a,_,b=>by
  cases a;cases b;exact⟨HM,J,J⟩
 |e::es,xs,is,a,c,b=>by
  cases e<;>try(cases a;done)
  rename_i x o;obtain⟨zs,n,rfl⟩:=bD.mp<|show(namesOf es).map (x::·)=U xs from a
  rw[fG,dj]at c;obtain⟨i,m,l⟩:=dI.mp<|show(lL N x).bind _=U is from b;obtain⟨p,k,rfl⟩:=bD.mp l;obtain⟨g1,g2,g3⟩:=h x i c.1 m;obtain⟨j,g,f⟩:=x8 d h n c.2 k;refine⟨Dp (rE d g1 g2 g3) j J,?_,?_⟩
  .show((Zb,_)::ij es X.env).length=_
   rw[bI,g];rfl
  .show List.findIdx? (·.1) ((Zb,_)::ij es X.env)=Y
   rw[List.findIdx?_cons];simp only[f];rfl
def M3{B:KT}(l:B.K=X.K){N:Bi}{ok:Str->Bool}{tg:de}{g:FG}{is:B1}(k:X.calm=O)(d:X.N.Nodup)(h:∀x i,ok x=O->lL N x=U i->X.N[i]?=U x/\Loc X.env.scope x/\(X.fn x=O\/X.env.scope.names.lookup x=U .local))
  (a:RI N ok tg=U (g,is)):∃gt,PG X tg gt/\r8 B gt g is:=by
 cases tg<;>try(cases a;done)
 .rename_i x s
  replace a:(if ok x=O then _ else Y)=U (g,is):=a
  split at a
  .rename_i q
   obtain⟨i,c,b⟩:=bD.mp a;cases b;obtain⟨g1,g2,g3⟩:=h x i q c;exact⟨_,rE d g1 g2 g3,zK i⟩
  .cases a
 .rename_i es p r
  replace a:(namesOf es).bind _=U (g,is):=a
  obtain⟨o,c,b⟩:=dI.mp a;split at b
  .rename_i q
   obtain⟨t,n,m⟩:=bD.mp b;cases m;obtain⟨j,f,e⟩:=x8 d h c q n;refine⟨_,Dq k j f e,?_⟩;rw[<- l];exact EE _ J
  .cases b
def Qm{N:Bi}{ok:Str->Bool}{tg:de}{g:FG}{is:B1}(a:RI N ok tg=U (g,is)):∀i∈is,i<N.length:=by
 have lt:∀{x i},lL N x=U i->i<N.length:=λh=>(du.mp<|iA h).1;cases tg<;>try(cases a;done)
 .rename_i x r
  replace a:(if ok x=O then _ else Y)=U (g,is):=a
  split at a
  .obtain⟨i,e,c⟩:=bD.mp a
   cases c;intro j hj;rw[iw.mp hj];exact lt e
  .cases a
 .rename_i es p q
  replace a:(namesOf es).bind _=U (g,is):=a
  obtain⟨b,e,c⟩:=dI.mp a;split at c
  .obtain⟨s,o,n⟩:=bD.mp c
   cases n
   have:∀(b:Bi)(is:B1),idxs N b=U is->∀i∈is,i<N.length:=by
    intro b
    induction b with
    |nil=>intro is h;cases h;intro i hi;cases hi
    |cons x b f=>
     intro is h;obtain⟨i,m,l⟩:=dI.mp<|show(lL N x).bind _=U is from h;obtain⟨d,k,rfl⟩:=bD.mp l;intro j hj;rcases bK.mp hj with z|z
     .rw[z];exact lt m
     .exact f d k j z
   exact this b _ o
  .cases c
def Am{it:de}(h:isSet it=Zb):∀x,fE it X.env x=pure x:=λx=>by
 unfold fE;cases it<;>first|rfl|(cases h)
structure Qn(M:Gm)(X:Cx)(r:Rc)(L:Lc)(elt tg iter:de)(ifs:Bz)(sc:hB)(js:B1)(g:FG)(is:B1):Prop where
 sco:f_ X sc
 fr:fQ X sc js<|frees sc
 nd:(locals sc++frees sc).Nodup
 it:PI X tg iter<|tI (M.P.kt X)<|r.I L tg iter
 ex:∃gt,(∀cl C fp s H,PG (X.block (locals sc++frees sc) sc cl C fp s H) tg gt)/\r8 (M.P.kt X) gt g is
 ts:∀cl C fp s H,Hs (X.block (locals sc++frees sc) sc cl C fp s H) ifs<|tT (M.P.kt X)<|MY r (Fx L sc) ifs
 el:∀cl C fp s H,PE (X.block (locals sc++frees sc) sc cl C fp s H) elt<|tE (M.P.kt X)<|r.E (Fx L sc) elt
 lt:∀i∈is,i<(locals sc).length
 st:∀x,fE iter X.env x=pure x
def An(R:xX M aj k r)(C:CxOk M aj k L X){elt tg d:de}{j:Bz}{sc:hB}{js:B1}{g:FG}{is:B1}(h:(P6 L sc&&decide ((locals sc++frees sc).Nodup)&&!isSet d&&decide (j.length<=1))=O)(hj:idxs L.N (frees sc)=U js)
  (f:RI (locals sc) (λx=>decide<|sc.names.lookup x=U .local) tg=U (g,is)):Qn M X r L elt tg d j sc js g is:=by
 obtain⟨hE,W,D,Z⟩:=R L X C;simp only[dj,eP,uE]at h;obtain⟨⟨⟨l,u⟩,I⟩,G⟩:=h;unfold P6 at l;simp only[dj,eP,iD]at l;obtain⟨⟨k1,k2⟩,k3⟩:=l;have A:∀x∈frees sc,sc.names.lookup x=U .free/\L.sc.names.lookup x=U .cell:=λx p=>by
  have:=(k2 _<|B7 p).2 J
  exact this
 have bs:f_ X sc:=⟨k1,λq n=>(k2 q n).1.1,λq n e=>(k2 q n).1.2 e,λq n e=>by
  show X.env.scope.names.lookup q.1=_;rw[C.sc];exact((k2 q n).2 e).2⟩
 have W_:∀cl b a s H,CxOk M aj k (Fx L sc)<|X.block (locals sc++frees sc) sc cl b a s H:=λcl b a s H=>⟨C.gm,J,FW C sc,C.calm,C.room⟩;refine⟨bs,oO C A hj λ_ h=>h,u,D tg d,?_,λcl b a s H=>?_,λcl b a s H=>(R _ _<|W_ cl b a s H).1 elt,Qm f,Am I⟩
 .-- the target's names are the block's own
  have m:∀cl b a s H,∀x i,decide (sc.names.lookup x=U .local)=O->lL (locals sc) x=U i->(X.block (locals sc++frees sc) sc cl b a s H).N[i]?=U x/\Loc (X.block (locals sc++frees sc) sc cl b a s H).env.scope x/\((X.block (locals sc++frees sc) sc cl b a s H).fn x=O\/(X.block (locals sc++frees sc) sc cl b a s H).env.scope.names.lookup x=U .local):=λcl b a s H x i p hi=>by
   have v:(F7 sc X.env).names.lookup x=U .local:=lookup_relabel_local<|dc p;have l:=iA hi;refine⟨?_,.inl v,.inr v⟩;show(locals sc++frees sc)[i]?=U x;rw[e_ (du.mp l).1];exact l
  cases tg<;>try(cases f;done)
  .rename_i x V
   replace f:(if _ then _ else Y)=U (g,is):=f
   split at f
   .rename_i q
    obtain⟨i,t,o⟩:=bD.mp f;cases o;exact⟨_,λcl b a s H=>by
     obtain⟨g1,g2,g3⟩:=m cl b a s H x i q t;exact rE u g1 g2 g3,zK i⟩
   .cases f
  .rename_i es S T
   replace f:(namesOf es).bind _=U (g,is):=f
   obtain⟨Q,t,o⟩:=dI.mp f;split at o
   .rename_i q
    obtain⟨ZM,F,E⟩:=bD.mp o;cases E;refine⟨NP X.K is.length<|oj is,λcl b a s H=>?_,EE (B:=M.P.kt X) is J⟩;obtain⟨z,y,w⟩:=x8 (X:=X.block (locals sc++frees sc) sc cl b a s H) u (m cl b a s H) t q F;exact Dq (X:=X.block (locals sc++frees sc) sc cl b a s H) C.calm z y w
   .cases o
 .match j,G with
  |[],_=>exact UR
  |[c],_=>exact US<|(R _ _<|W_ cl b a s H).2.1 c
def kr(R:xX M aj k r)(C:CxOk M aj k L X)(e:de):PE X e<|tO (M.P.kt X)<|qV r L e:=by
 cases e<;>first|exact dZ|skip
 rename_i elt d sc p
 match d with
 |[]=>exact dZ
 |_::_::_=>exact dZ
 |[⟨tg,iter,ifs,ay⟩]=>
  show PE X _<|tO (M.P.kt X)<|oK r L elt ⟨tg,iter,ifs,ay⟩ sc;unfold oK;split
  case isFalse=>exact dZ
  rename_i h;obtain⟨rfl,h⟩:=h;split
  .rename_i f g is hj a
   have K:=An R C (elt:=elt) h hj a;obtain⟨gt,c,b⟩:=K.ex;exact Pb (locals sc) C.calm K.sco K.fr K.it c b K.ts K.el K.lt K.st
  .exact dZ
def sQ(a:Aj M X r L):∀e:Option de,PO X e<|tP (M.P.kt X)<|Fy r L e
 |none=>Ux
 |some e=>Uy<|a e
def JD(h:isSlice e=Zb):iU e:=λo i=>by
 unfold ry;cases e<;>first|rfl|(cases h)
def JE{m:Str}{f:FE}{a:Bz}(h:P_ M r L o m a=U f):m=("pop" : Str)/\∃k1 d c,a=[.Constant (.int 0) k1 d]/\xU M r L o=U c/\f=E1 M.bc c:=by
 unfold P_ at h;split at h
 .rename_i b
  split at h
  .rename_i g
   split at h
   .rename_i e
    obtain⟨c,i,rfl⟩:=bD.mp h;obtain⟨k1,d,rfl⟩:=qQ g;exact⟨e,_,_,c,J,i,J⟩
   .cases h
  .cases h
 .cases h
def VT(e:aT o=O)(c:[a,b].all noStar=O)(d:(g.endLine == j.line)=O):M2 X o "get" g a b j:=by
 refine⟨ee e,qG c<|by simp,d,?_⟩
 simp only[fG,Lz,yI,dj]at c;rw[ao c.1,ao c.2];rfl
def JF{m:Str}{f:FE}{a:Bz}(h:Qa M r L o m a=U f):m=("get" : Str)/\∃b d c,a=[b,d]/\xU M r L o=U c/\f=sC M.bc c (r.E L b) (r.E L d):=by
 unfold Qa at h;split at h
 .split at h
  .rename_i e
   obtain⟨c,g,rfl⟩:=bD.mp h;exact⟨e,_,_,c,J,g,J⟩
  .cases h
 .cases h
def Ao{l:List<|Nat×Nat}{m:Str}(C:CxOk M aj k L X)(h:M.ms.lookup m=U l):∀c f,aw l aj c=U f->Xe M.P X.prog X.w X.K X.mg X.base k c m f:=λc f a=>by
 obtain⟨i,b,rfl⟩:=bD.mp a;exact C.gm.mts m l c i h b
def FY{a:Nat}(c:Const):PE X (.Constant c a pos)<|tE (M.P.kt X)<|FA c:=by
 cases c with
 |int i=>exact jX Dl λ_ _=>J
 |bool b=>exact jX RV λ_ _=>J
 |none=>exact jX ND λ_ _=>J
 |str s=>
  show PE X _<|tE _<|if s.length<=1000000 then cF (.str s.cps.toList)else aV
  split
  .rename_i h
   obtain⟨⟨l⟩⟩:=s;exact jX NF λ_ _=>⟨J,by rw[<- fK l];exact h⟩
  .exact bw
 |_=>exact bw
def JG(C:CxOk M aj k L X)(x:Str):PE X (.Name x pos)<|tE (M.P.kt X)<|FF M L x:=by
 unfold FF;split
 .rename_i i hi
  split
  .rename_i q
   obtain⟨l1,l2,l3,l4⟩:=ia C q;exact Mu (by rw[C.N];exact iA hi) l2 l3 l4
  .exact bw
 .split
  .rename_i t a
   split
   .rename_i q
    obtain⟨g1,g2⟩:=kq C q;exact Vd (C.gm.cst _ _ a) J g1 g2
   .exact bw
  .exact bw
def VU(C:CxOk M aj k L X)(a:Aj M X r L){i:de}(h:iU i):PE X (.Subscript o i pos)<|tE (M.P.kt X)<|Xp M r L o i:=by
 unfold Xp;split
 .rename_i f d
  obtain⟨j,hj,hr⟩:=C.room;exact Vi M.je hr (gz C a d).1 (a _) h
 split
 .obtain⟨j,hj,hr⟩:=C.room
  exact Vq J hr (a _) (a _) h
 split
 .rename_i y n c
  obtain⟨l,g,b⟩:=dI.mp c;obtain⟨p,b,e⟩:=bD.mp b;cases e;obtain⟨m,rfl⟩:=dC g;split
  .rename_i q
   rw[dj]at q;obtain⟨l1,l2,l3,l4⟩:=ia C q.2;exact Pw (by rw[C.N];exact iA b) l2 l3 l4 (a _) h
  .exact OT J (a _) (a _) h
 .exact OT J (a _) (a _) h
def Qp(C:CxOk M aj k L X)(e:Aj M X r L)(o:de)(m:Str)(w:Pos)(c:Bz)(cp:Pos):PE X (.Call (.Attribute o m w) c [] cp)<|tE (M.P.kt X)<|Qc M aj r L o m w c cp:=by
 obtain⟨j,hj,hr⟩:=C.room;unfold Qc;split
 case isFalse=>exact bw
 rename_i h;simp only[dj,eP]at h;obtain⟨⟨⟨q,n⟩,p⟩,i⟩:=h;have v:=iZ e c n;split
 .rename_i f s
  obtain⟨rfl,k1,A,y,rfl,t,rfl⟩:=JE s;obtain⟨b1,b2⟩:=gz C e t;exact PQ M.je b1 b2 i
 split
 .rename_i f s
  obtain⟨rfl,b,d,y,rfl,t,rfl⟩:=JF s;obtain⟨b1,b2⟩:=gz C e t;exact Vj M.je hr b1 (e b) (e d)<|VT b2 n i
 split
 .rename_i l u
  cases c with
  |nil=>exact I0 (Ao C u) hr (dq (cH ..) hj) (e o)<|ML q n (ez p<|by decide) i
  |cons a c=>exact O4 (Ao C u) hr (dq (cH ..) hj) (e o) v n<|ML q n (ez p<|by decide) i
 .split
  .rename_i g a B x _ _
   exact UB (OZ (m,g)<|dD x) J (e o) v q n (by rw[bI]at p;exact pJ (cH ..) p) i
  .split
   .rename_i z
    obtain⟨rfl,z⟩:=z;rw[qk.mp z];exact P4 (e o) q i
   .exact bw
def FZ(R:xX M aj k r)(C:CxOk M aj k L X)(e:de):PE X e<|tE (M.P.kt X)<|MZ M aj r L e:=by
 obtain⟨d,t,y,w⟩:=R L X C;cases e with
 |Constant c _ _=>exact FY c
 |Name x _=>exact JG C x
 |BinOp a g b _=>exact Us J _ (d _)<|d _
 |UnaryOp g a _=>cases g with
  |USub=>exact Ut J<|d _
  |Not=>exact OL<|d _
  |_=>exact bw
 |BoolOp g es _=>cases g with
  |And=>exact vP d _
  |Or=>exact bw
 |Compare a n bs _=>
  match n,bs with
  |[g],[b]=>
   show PE X _<|tE (M.P.kt X)<|if ff g b then aV else vM M r L a g b
   split
   .exact bw
   .rename_i h
    exact JA C d (by simpa using h)
  |[],_=>exact bw
  |_::_::_,_=>exact bw
  |[_],[]=>exact bw
  |[_],_::_::_=>exact bw
 |IfExp c a b _=>exact Uj (t _) (d _)<|d _
 |Tuple es _ _=>
  show PE X _<|tE (M.P.kt X)<|if es.all noStar then _ else aV
  split
  .rename_i h;exact Ud<|iZ d _ h
  .exact bw
 |List es _=>
  show PE X _<|tE (M.P.kt X)<|if es.all noStar then _ else aV
  split
  .rename_i h;exact Ue<|iZ d _ h
  .exact bw
 |Subscript o i _=>
  show PE X _<|tE (M.P.kt X)<|P9 M r L o i;cases q:isSlice i with
  |false=>
   rw[show P9 M r L o i=Xp M r L o i by cases i<;>first|rfl|cases q]
   exact VU C d<|JD q
  |true=>
   cases i<;>try(cases q;done)
   rename_i lo hi st _;cases st with
   |none=>
    show PE X _<|tE (M.P.kt X)<|match xU M r L o with|some f=>_|none=>_
    cases s:xU M r L o with
    |none=>exact YX J (d _) (sQ d _)<|sQ d _
    |some f=>exact Vs M.je (gz C d s).1 (sQ d _)<|sQ d _
   |some _=>exact bw
 |Attribute o f _=>
  show PE X _<|tE (M.P.kt X)<|if aT o then _ else aV
  split
  .rename_i h
   split
   .rename_i j hj
    split
    .exact PH C.gm.pg M.je (iA hj) (d _) h
    .exact MD C.gm.pg (iA hj) (d _) h
   .exact bw
  .exact bw
 |ListComp u z sc p=>exact xy<|kr R C _
 |Call f l ks cp=>
  cases ks with
  |cons _ _=>exact bw
  |nil=>cases f with
   |Name f _=>exact FU C d _ _
   |Attribute o m v=>exact Qp C d o m v l cp
   |_=>exact bw
 |_=>exact bw
def F0(R:xX M aj k r)(C:CxOk M aj k L X)(e:de):PT X e<|tT (M.P.kt X)<|stepT M r L e:=by
 obtain⟨g,f,l,j⟩:=R L X C;cases e with
 |BoolOp c es _=>cases c with
  |And=>exact(vQ f _).pt
  |Or=>exact(Ak f _).pt
 |UnaryOp c a _=>cases c with
  |Not=>exact Ui<|f _
  |_=>exact Mx (g _) J λi=>J
 |Compare a d bs _=>
  match d,bs with
  |[c],[b]=>
   show PT X _<|tT (M.P.kt X)<|if ff c b then pX else b9 (vM M r L a c b)
   split
   .exact jv
   .rename_i h
    exact FQ C g (by simpa using h)
  |[],_=>exact jv
  |_::_::_,_=>exact jv
  |[_],[]=>exact jv
  |[_],_::_::_=>exact jv
 |IfExp _ _ _ _=>exact jv
 |_=>exact Mx (g _) J λi=>J
def JH{e:de}{a:Bz}(h:Ah e=U a):∃p pos,e=.Call (.Name "range" p) a [] pos:=by
 obtain⟨⟨f,as,ks⟩,c,b⟩:=dI.mp h;clear h;obtain⟨p,pos,rfl⟩:=gZ c;have h:=b;clear b;split at h
 .rename_i q
  obtain⟨rfl,q⟩:=q;cases h;rw[show ks=[]from qk.mp q];exact⟨_,_,J⟩
 .cases h
def F8{e a:de}{n:Int}(h:vN e=U (a,n)):∃p pos,(n=0/\e=.Call (.Name "enumerate" p) [a] [] pos)\/(n=1/\∃k1 d kp,e=.Call (.Name "enumerate" p) [a] [⟨U<|f5 "start",.Constant (.int 1) k1 d,kp⟩] pos):=by
 obtain⟨⟨f,as,ks⟩,i,g⟩:=dI.mp h;clear h;obtain⟨p,pos,rfl⟩:=gZ i;have h:=g;clear g;split at h
 case isFalse=>cases h
 rename_i q
 replace q:f=("enumerate" : Str):=q
 subst q
 match as,ks,h with
 |[a'],[],h=>cases h;exact⟨_,_,.inl ⟨J,J⟩⟩
 |[a'],[⟨an,v,kp⟩],h=>
  dsimp only at h;cases b:mV v with
  |none=>rw[b]at h;cases h
  |some c=>
   rw[b]at h;cases c<;>try(cases h;done)
   obtain⟨k1,d,rfl⟩:=qQ b;dsimp only at h;split at h
   .rename_i q;obtain⟨rfl,rfl⟩:=q;cases h;exact⟨_,_,.inr ⟨J,_,_,_,J⟩⟩
   .cases h
def JI(h:FI e=U a):∃p pos,e=.Call (.Name "reversed" p) [a] [] pos/\noStar a=O:=by
 revert h;refine aak λq b=>λh=>?_;obtain⟨⟨q1,q2⟩,h⟩:=ql.mp h;cases h;obtain⟨p,r,c⟩:=zQ b;exact⟨p,r,by rw[c,q1],q2⟩
def JJ(C:CxOk M aj k L X)(c:Aj M X r L)(f:Str)(b:Bz):PE X (.Call (.Name f p) b [] pos)<|tO (M.P.kt X)<|Qd M r L f b:=by
 unfold Qd;split
 case isFalse=>exact dZ
 rename_i d;obtain⟨g1,g2,g3⟩:=eS C d;split
 .rename_i a e
  obtain⟨rfl,h,g,j,i,rfl⟩:=vR e;obtain⟨k1,k2,k3⟩:=eS C h;exact MQ C.calm g2 k2 g1 k1 (c a) g
 .split
  .split
   .rename_i q
    obtain⟨rfl,q⟩:=q;exact Vn J g2 g1 (c _) q
   .exact dZ
  .exact dZ
def F9(R:xX M aj k r)(C:CxOk M aj k L X)(tg e:de):PI X tg e<|tI (M.P.kt X)<|stepI M r L tg e:=by
 obtain⟨b,t,v,u⟩:=R L X C;unfold stepI;split
 .rename_i m q
  obtain⟨p,pos,rfl⟩:=JH q;split
  case isFalse=>exact qN
  rename_i h;rw[dj]at h;obtain⟨g1,g2,_⟩:=eS C h.1;have c:=h.2;split
  .exact EF g1 g2 (b _) (by simpa using c)
  .simp only[fG,dj]at c
   exact EH g1 g2 (b _) (b _) c.1 c.2.1
  .exact PL g1 g2 (b _) (b _) (b _) c
  .exact qN
 .split
  .rename_i a n f
   split
   case isFalse=>exact qN
   rename_i h;simp only[dj]at h;obtain⟨⟨j,i⟩,l⟩:=h;obtain⟨g1,g2,_⟩:=eS C j;cases tg<;>try(cases i;done)
   obtain⟨p,pos,g|g⟩:=F8 f
   .obtain⟨rfl,rfl⟩:=g
    exact U9 J g1 g2 (b a) l
   .obtain⟨rfl,k1,s,kp,rfl⟩:=g
    exact U_ J g1 g2 (b a) l
  split
  .rename_i a d
   obtain⟨p,pos,rfl,i⟩:=JI d;split
   .rename_i j
    obtain⟨g1,g2,_⟩:=eS C j;exact Vo g1 g2 (b a) i
   .exact qN
  split
  .rename_i o hi
   obtain⟨w,cp,rfl,b1,b2⟩:=Al hi;split
   .rename_i h
    cases tg<;>try(cases h;done)
    exact VL (b o) b1 b2
   .exact qN
  .split
   .rename_i h
    cases tg<;>try(cases h;done)
    exact UQ J<|b e
   .exact MG J<|b e
def F_(R:xX M aj k r)(C:CxOk M aj k L X)(e:de):PE X e<|tO (M.P.kt X)<|M0 M r L e:=by
 obtain⟨d,l,n,g⟩:=R L X C;cases e with
 |List es _=>
  show PE X _<|tO (M.P.kt X)<|if es.all noStar then _ else fH
  split
  .rename_i h;exact OG<|iZ d _ h
  .exact dZ
 |ListComp m o sc p=>exact kr R C _
 |IfExp c a b _=>exact Vm (l _) (g _)<|g _
 |BinOp a j b _=>cases j<;>first|exact PK (d _)<|d _|exact dZ
 |Call f i ks _=>cases ks with
  |cons _ _=>exact dZ
  |nil=>cases f<;>first|exact JJ C d _ _|exact dZ
 |_=>exact dZ
theorem cT:∀n,xX M aj k<|comp M aj n
 |0=>λL X C=>⟨λ_=>bw,λ_=>jv,λ_ _=>qN,λ_=>dZ⟩
 |n+1=>λL X C=>⟨FZ (cT n) C,F0 (cT n) C,F9 (cT n) C,F_ (cT n) C⟩
structure Cq(M:Gm)(aj:Nat->Fn)(k:Nat)(L:Lc)(X:Cx):Prop extends CxOk M aj k L X where
 fn:∀x,X.fn x=O
 nd:X.N.Nodup
 xe:X.xe=λ_ _=>False
 stk:X.stack=X.env::X.outer
 frm:X.env.frame=U X.env.locals
def jC{t:Option de}{l:Nat}(h:sP e=Zb):fI e t l X.env=pure Zb:=by
 cases e<;>first|rfl|(cases h)
def Qq(C:CxOk M aj k L X){tp:Pos}{l:Nat}(h:sP e=O->∃elt a sc p,e=.ListComp elt a sc p):fI e (U<|.Name x tp) l X.env=pure (FJ L x tp e):=by
 cases e<;>first|rfl|skip
 .unfold fI FJ Env.blockKind Env.kindOf
  rw[C.sc];rfl
 .obtain⟨_,_,_,_,z⟩:=h J;cases z
 .obtain⟨_,_,_,_,z⟩:=h J;cases z
def passes(C:Cq M aj k L X):vi (da X.prog X.w) X.A X.env X.xe:=by rw[C.xe];exact PassesOwn.never
def sR(h:vO e=O):∃dp,e=.Dict [] [] dp:=by
 cases e<;>try(cases h;done)
 rename_i ks vs dp
 match ks,vs,h with
 |[],[],_=>exact⟨_,J⟩
def Qs(h:sP e=O):vO e=Zb:=by
 cases e<;>first|rfl|(cases h)
def iP{B:KT}{st:mB}{F:FS}(h:∀s,F s=.bad):PS X st<|tS B F:=λ_ _ _ _ _ _ z=>by
 obtain⟨g,s,o,a,_,e,_⟩:=z;rw[h]at e;cases e
def JK(C:Cq M aj k L X)(n:Nat)(e:de):PE X e<|tE (M.P.kt X)<|Qe M aj n L e:=by
 obtain⟨d,b,c,a⟩:=cT (M:=M) (aj:=aj) (k:=k) n L X C.toCxOk;unfold Qe;split
 .rename_i hd
  obtain⟨dp,rfl⟩:=sR hd;exact EV M.je M.Jy
 .exact EU M.je M.Jy<|a e
theorem Aq{st:mB}{F:FS}(h:PS X st<|tS (M.P.kt X) F):∀is,PS X st<|tS (M.P.kt X)<|Qj M.bc is F
 |[]=>h
 |_::is=>VD M.je<|Aq h is
def JL{st:mB}{F:FS}{t:de}(h:PS X st<|tS (M.P.kt X) F):PS X st<|tS (M.P.kt X)<|Qk M t F:=by
 unfold Qk;split
 .exact Aq h _
 .exact h
def JM(C:Cq M aj k L X)(n:Nat)(e:de):PS X (.Assign [.Name x F] e pos)<|tS (M.P.kt X)<|FN M aj n L x e:=by
 obtain⟨v,A,B,u⟩:=cT (M:=M) (aj:=aj) (k:=k) n L X C.toCxOk;unfold FN;split
 case h_2=>exact cP
 rename_i i hi;split
 case isFalse=>exact cP
 rename_i q;obtain⟨l1,l2,l3,l4⟩:=ia C.toCxOk q;have p:X.N[i]?=U x:=by rw[C.N];exact iA hi
 have o:X.fn x=O\/X.env.scope.names.lookup x=U .local:=.inl<|C.fn x;by_cases hlc:sP e=Zb
 .split
  .split
   .rename_i hd
    obtain⟨dp,rfl⟩:=sR hd;exact Pz C.nd p l1 o
   .exact MJ C.nd p l1 (u e) (jC hlc) o
  .split
   .exact EJ C.nd p l1 (JK C n e) (jC hlc) o
   .exact EJ C.nd p l1 (v e) (jC hlc) o
 .rw[Qs<|by simpa using hlc,ag cK,show sP e=O by simpa using hlc,LV,LQ,ag cK]
  cases n with
  |zero=>
   split
   .exact iP λ_=>J
   .exact iP λ_=>J
  |succ n=>
   cases e with
   |ListComp elt j sc cp=>
    have R:=cT (M:=M) (aj:=aj) (k:=k) n;have m:PS X (.Assign [.Name x F] (.ListComp elt j sc cp) pos) (tS (M.P.kt X)<|mq i<|qV (comp M aj n) L<|.ListComp elt j sc cp)/\PS X (.Assign [.Name x F] (.ListComp elt j sc cp) pos) (tS (M.P.kt X)<|aN i<|dB<|qV (comp M aj n) L<|.ListComp elt j sc cp):=by
     have r:=Qq (X:=X) (x:=x) (tp:=F) (l:=pos.line) (e:=.ListComp elt j sc cp) C.toCxOk λ_=>⟨_,_,_,_,J⟩;cases s:FJ L x F (.ListComp elt j sc cp)with
     |false=>
      rw[s]at r;exact⟨MJ C.nd p l1 (kr R C.toCxOk _) r o,EJ C.nd p l1 (xy<|kr R C.toCxOk _) r o⟩
     |true=>
      rw[s]at r;have bad:PS X (.Assign [.Name x F] (.ListComp elt j sc cp) pos) (tS (M.P.kt X)<|mq i fH)/\PS X (.Assign [.Name x F] (.ListComp elt j sc cp) pos) (tS (M.P.kt X)<|aN i<|dB fH):=
       ⟨iP λ_=>J,iP λ_=>J⟩
      match j with
      |[]=>exact bad
      |_::_::_=>exact bad
      |[⟨tg,iter,ifs,ay⟩]=>
       rw[show qV (comp M aj n) L (.ListComp elt [⟨tg,iter,ifs,ay⟩] sc cp)=oK (comp M aj n) L elt ⟨tg,iter,ifs,ay⟩ sc from J];unfold oK;split
       case isFalse=>exact bad
       rename_i h;obtain⟨rfl,h⟩:=h;split
       .rename_i z g is hj t
        have K:=An R C.toCxOk (elt:=elt) h hj t;obtain⟨gt,y,w⟩:=K.ex;exact Pj (locals sc) C.calm C.nd p l1 K.sco K.fr K.it y w K.ts K.el K.lt K.st o r
       .exact bad
    split
    .exact m.1
    .exact m.2
   |SetComp a b c d=>
    split
    .exact iP λ_=>J
    .exact iP λ_=>J
   |DictComp a b c d f=>
    split
    .exact iP λ_=>J
    .exact iP λ_=>J
   |_=>exact eD J hlc
def JN{f:Str}{mu:Bi}{e a:de}{y:Str}(h:Ai f mu e=U (y,a)):noStar a=O/\∃d c cp,e=.Call (.Attribute (.Name y d) f c) [a] [] cp/\(c.endLine == cp.line)=O:=by
 revert h;refine aam λo m b i=>aak λz g=>λh=>?_;obtain⟨⟨q1,_⟩,h⟩:=ql.mp h;cases h;obtain⟨z,c,cp,l,k⟩:=zR i;obtain⟨d,j⟩:=dC g;exact⟨z,_,_,_,by rw[l,<- q1,<- j],k⟩
def sU{es:Bz}{a:Nat}{tp:Pos}(h:M1 e=O):sk [.Tuple es a tp] e X.env=pure Y:=by
 cases e<;>first|rfl|skip
 rename_i vs _ _;unfold sk;dsimp only;rw[show vs.all (foldedForSure 8)=O from h];split
 .rfl
 split
 .rfl
 split
 .rfl
 rfl
def Ū(C:Cq M aj k L X):∀x i,k_ L x=O->lL L.N x=U i->X.N[i]?=U x/\Loc X.env.scope x/\(X.fn x=O\/X.env.scope.names.lookup x=U .local):=λx i b a=>⟨by rw[C.N];exact iA a,(ia C.toCxOk b).1,.inl<|C.fn x⟩
def JO(C:Cq M aj k L X)(n:Nat)(es:Bz){a:Nat}{tp:Pos}(e:de):PS X (.Assign [.Tuple es a tp] e pos)<|tS (M.P.kt X)<|tupS M aj n L es e:=by
 obtain⟨c,i,l,j⟩:=cT (M:=M) (aj:=aj) (k:=k) n L X C.toCxOk;unfold tupS;split
 .exact cP
 .rename_i h
  simp only[Bd,tW,Bool.not_eq_true,Bool.not_eq_eq_eq_not,LV,Bool.not_false]at h;obtain⟨⟨f,d⟩,m⟩:=h;split
  .rename_i g is b
   obtain⟨gt,q1,q2⟩:=M3 (B:=M.P.kt X) (tg:=.Tuple es a tp) J C.calm C.nd (Ū C) b;exact UZ (c e) q1 q2 (show fI e (U<|.Tuple es a tp) pos.line X.env=pure Zb from jC f) (sU<|by simpa using d) J
  .exact cP
def Qt(C:Cq M aj k L X)(n:Nat)(f:Str)(e:de):PE X e<|tE (M.P.kt X)<|Qf M aj n L f e:=by
 obtain⟨b,c,d,a⟩:=cT (M:=M) (aj:=aj) (k:=k) n L X C.toCxOk;unfold Qf;split
 .split
  .rename_i hd
   obtain⟨dp,rfl⟩:=sR hd;exact EV M.je M.Jy
  .exact EU M.je M.Jy<|a e
 .exact b e
def Ga{f:Str}{a:Pos}{l:Nat}:fI e (U<|.Attribute o f a) l X.env=pure Zb:=by
 cases e<;>rfl
def JP(C:Cq M aj k L X)(n:Nat)(o:de)(f:Str){b:Pos}(e:de):PS X (.Assign [.Attribute o f b] e pos)<|tS (M.P.kt X)<|Qg M aj n L o f e:=by
 obtain⟨a,c,g,d⟩:=cT (M:=M) (aj:=aj) (k:=k) n L X C.toCxOk;unfold Qg;split
 .rename_i j hj
  exact U6 C.gm.pg (iA hj) (a o) (Qt C n f e) Ga
 .exact cP
def JQ(C:Cq M aj k L X)(n:Nat)(o b:de){sp:Pos}(e:de):PS X (.Assign [.Subscript o b sp] e pos)<|tS (M.P.kt X)<|h_ M aj n L o b e:=by
 obtain⟨a,p,s,r⟩:=cT (M:=M) (aj:=aj) (k:=k) n L X C.toCxOk;obtain⟨j,hj,hr⟩:=C.room;unfold h_;split
 .exact cP
 rename_i h;split
 .rename_i f g
  exact Vh M.je hr (a e) (gz C.toCxOk a g).1 (a b)<|jC<|by simpa using h
 split
 .rename_i i hi
  obtain⟨y,l,c⟩:=dI.mp hi;obtain⟨m,rfl⟩:=dC l;split at c
  .rename_i q
   obtain⟨l1,l2,l3,l4⟩:=ia C.toCxOk q;split
   .exact cP
   .rename_i d
    exact Zo hr (a b) (a e) (by rw[C.N];exact iA c) l2 l3 l4 (jC<|by simpa using h) (by simpa using d)
  .cases c
 .exact cP
def JR(C:Cq M aj k L X)(n:Nat)(t:de)(op:o7)(e:de):PS X (.AugAssign t op e pos)<|tS (M.P.kt X)<|Qh M aj n L t op e:=by
 obtain⟨c,p,s,r⟩:=cT (M:=M) (aj:=aj) (k:=k) n L X C.toCxOk;unfold Qh;split
 .rename_i o j b
  obtain⟨q,f,a⟩:=dI.mp b;obtain⟨l,a,d⟩:=bD.mp a;cases d;rw[kg f];split
  .rename_i e;subst e
   exact Vl C.gm.pg (iA a) (c _)<|c _
  .exact cP
 split
 case h_2=>exact cP
 rename_i x i b;obtain⟨g,f,a⟩:=dI.mp b;obtain⟨m,a,d⟩:=bD.mp a;cases d;obtain⟨h,rfl⟩:=dC f;split
 .rename_i q
  obtain⟨rfl,q⟩:=q;obtain⟨l1,l2,l3,l4⟩:=ia C.toCxOk q;exact Vc C.nd (by rw[C.N];exact iA a) l1 (c _)<|.inl<|C.fn _
 .exact cP
def JS{f:FE}(h:VP M r L e=U (f,a)):∃o c cp,e=.Call (.Attribute o "append" c) [a] [] cp/\xU M r L o=U f/\noStar a=O/\(c.endLine == cp.line)=O:=by
 revert h;refine aam λo m b g=>aak λz d=>λh=>?_;obtain⟨q1,h⟩:=ql.mp h;cases h;obtain⟨z,c,cp,j,i⟩:=zR g;exact⟨o,_,_,by rw[j,<- q1],d,z,i⟩
def Qu(C:Cq M aj k L X)(n:Nat)(e:de):PS X (.Expr e pos)<|tS (M.P.kt X)<|ZJ M aj n L e:=by
 obtain⟨b,p,s,r⟩:=cT (M:=M) (aj:=aj) (k:=k) n L X C.toCxOk;unfold ZJ;split
 .rename_i f a c
  obtain⟨o,l,cp,rfl,j,g,d⟩:=JS c;obtain⟨b1,b2⟩:=gz C.toCxOk b j;exact PC M.je b1 b2 (b a) g d
 split
 .rename_i y a c
  obtain⟨g,m,l,cp,rfl,d⟩:=JN c;split
  .rename_i i hi
   split
   .rename_i q
    obtain⟨l1,l2,l3,l4⟩:=ia C.toCxOk q;exact U4 (b a) (by rw[C.N];exact iA hi) l2 l3 l4 g d
   .exact cP
  .exact cP
 .split
  .exact cP
  .rename_i h
   exact Po (b e)<|jC<|by simpa using h
def Gb(C:Cq M aj k L X)(n:Nat){l:Lc->DD->FS}(j:∀r,jP X r<|tS (M.P.kt X)<|l L r)(st:mB):PS X st<|tS (M.P.kt X)<|ZK M aj n l L st:=by
 obtain⟨w,q,v,z⟩:=cT (M:=M) (aj:=aj) (k:=k) n L X C.toCxOk;cases st with
 |Assign ts e pos=>
  match ts with
  |[]=>exact cP
  |_::_::_=>exact cP
  |[t]=>
   refine JL (F:=ũ M aj n L e t) ?_;cases t with
   |Name x _=>exact JM C n _
   |Tuple es _ _=>exact JO C n es e
   |Attribute o f _=>exact JP C n o f e
   |Subscript o b _=>exact JQ C n o b e
   |_=>exact cP
 |AugAssign t s e pos=>exact JR C n t s e
 |Expr e pos=>exact Qu C n e
 |Return o pos=>cases o with
  |none=>exact Pk
  |some e=>
   exact U0<|w _
 |If c a b pos=>exact Za (q _) (j _)<|j _
 |For m it d i pos=>cases i with
  |cons _ _=>exact cP
  |nil=>
   show PS X _<|tS (M.P.kt X)<|Qi M aj n L (l L d) m it;unfold Qi;split
   .exact cP
   .rename_i h
    split
    .rename_i g is u
     obtain⟨gt,q1,q2⟩:=M3 (B:=M.P.kt X) J C.calm C.nd (Ū C) u;exact U5 C.calm (v m it) q1 q2 (j d) (passes C)<|Am<|by simpa using h
    .exact cP
 |While c d i pos=>cases i with
  |cons _ _=>exact cP
  |nil=>exact Ja _ (q _) (j _)<|passes C
 |Try d p i y pos=>
  match p,i,y with
  |[],_,_=>exact cP
  |_::_,_::_,_=>exact cP
  |_::_,[],_::_=>exact cP
  |h::p,[],[]=>
   exact Ve C.xe<|j _
 |Pass _=>exact Ph
 |_=>exact cP
theorem i0(n:Nat):∀(m:Nat)(L:Lc)(X:Cx),Cq M aj k L X->∀a,jP X a<|tS (M.P.kt X)<|oN M aj n m L a
 |0,_,_,_,_=>UW
 |m+1,L,X,C,[]=>UX
 |m+1,L,X,C,[st]=>UY<|Gb C n (i0 n m L X C) st
 |m+1,L,X,C,st::s2::rest=>Pd (Gb C n (i0 n m L X C) st)<|i0 n m L X C<|s2::rest
structure Fe where
 cls:Option Str
 x:Str
 qual:Str
 st:mB
 N:Bi
 ps:Bi
 mu:Bi
 sl:Bool
 ds:FC
def noFn:Fn:=λ_ _=>.bad
def VV(b:Bool)(f:Fn):Fn:=if b then aS f else f
def M4(M:Gm)(aj:Nat->Fn)(e:Fe):FS:=oN M aj 60 200 ⟨e.N,aE e.st,e.mu⟩<|cW e.st
def Ge(M:Gm)(aj:Nat->Fn)(e:Fe):Fn:=VV e.sl<|aG e.ps.length e.N.length<|M4 M aj e
def iQ(M:Gm)(Ft:List Fe):Nat->Nat->Fn
 |0,_=>noFn
 |n+1,i=>match Ft[i]? with
  |some e=>Ge M (iQ M Ft n) e
  |none=>noFn
section
def Gg(K:bG)(x:Str):Option cw:=match pH K eR x with
 |U<|U<|.ref a=>U a
 |_=>Y
def ku{x:Str}{a:cw}(h:Gg K x=U a):pH K eR x=U (U<|.ref a):=by
 unfold Gg at h;split at h
 .rename_i e;cases h;exact e
 .cases h
def ZO(K:bG)(C:cw)(m:Str):Option cw:=match gp K (.ref C) m with
 |U<|U<|.ref a=>U a
 |_=>Y
def Xr(K:bG)(C:cw)(ns:Bi):Bool:=tY K C xc&&yl K C&&CB K C&&decide (gp K (.ref C) "__setattr__" = U (U<|.builtin "object.__setattr__")) &&
 decide (gp K (.ref C) "__class__" = U (U<|.builtin "object.__class__"))&&decide (yo K C (.type "object")=U O)&&ns.all (λf=>decide<|gp K (.ref C) f=U Y)&&decide ns.Nodup&&decide (ns.length<=100)
def subB(K:bG)(cn:Bi)(C:cw)(l:B1):Bool:=(bZ cn.length).all λd=>match cn[d]? with
 |none=>O
 |some n=>(match Gg K n with
  |some D=>decide<|rm K (.ref C) (.ref D)=U (decide<|d∈l)
  |none=>Zb)
def VW(K:bG)(P:Pg):Bool:=(bZ P.cn.length).all λc=>match P.cn[c]? with
 |none=>O
 |some n=>(match Gg K n,P.fn[c]?,P.sub[c]? with
  |some C,some ns,some l=>Xr K C ns&&subB K P.cn C l
  |_,_,_=>Zb)
def gtB(K:bG):Bool:=decide (ym K (.builtin "object.__class__") "__get__" = U (U<|.builtin "getset_descriptor.__get__"))&&decide (yn K (.builtin "object.__class__")=U O)
def Qv(K:bG)(mg:Str->D1):Prop:=∀x o,pH K eR x=U o->mg x=o
def Qw{h:fA}(X:K.In h)(G:h.Ns eR mg):Qv K mg:=λx o e=>by
 cases o with
 |none=>exact PySem.W.mg_none_of X G e
 |some v=>exact PySem.W.mg_of X G e
def vS{P:Pg}(h:VW K P=O){c:Nat}{n:Str}(a:P.cn[c]?=U n):∃C ns l,Gg K n=U C/\P.fn[c]?=U ns/\P.sub[c]?=U l/\Xr K C ns=O/\subB K P.cn C l=O:=by
 unfold VW at h
 have:=iD.mp h c<|gu.mpr (du.mp a).1
 rw[a]at this;dsimp only at this;split at this
 .rename_i C ns l e d b
  rw[dj]at this;exact⟨C,ns,l,e,d,b,this.1,this.2⟩
 .cases this
def sV(g:Qv K mg){n:Str}{C:cw}{ns:Bi}(c:Gg K n=U C)(h:Xr K C ns=O):Ry K mg n ns C:=by
 unfold Xr at h;simp only[dj,eP]at h;obtain⟨⟨⟨⟨⟨⟨⟨⟨p,o⟩,m⟩,l⟩,k⟩,j⟩,i⟩,e⟩,d⟩:=h;have a:=ku c;exact⟨a,g _ _ a,e,d,⟨p,o,m,l⟩,λf b=>show gp K (.ref C) f=U Y from dc<|iD.mp i f b,k,j⟩
def VX{P:Pg}(g:Qv K mg)(h:VW K P=O)(a:gtB K=O):mC K mg P:=by
 refine⟨λc n ns i b=>?_,λc d n t C D l i b r q p=>?_,?_⟩
 .obtain⟨C,s,l,f,k,_,o,_⟩:=vS h i
  rw[b]at k;cases k;exact⟨C,sV g f o⟩
 .obtain⟨w,s,u,f,_,m,_,j⟩:=vS h i
  rw[p]at m;cases m;have e:=(g _ _<|ku f).symm.trans r;cases e;unfold subB at j
  have:=iD.mp j d<|gu.mpr (du.mp b).1
  rw[b]at this;dsimp only at this;split at this
  .rename_i v hd
   have e:=(g _ _<|ku hd).symm.trans q;cases e;exact dc this
  .cases this
 .unfold gtB at a
  rw[dj]at a;exact⟨dc a.1,dc a.2⟩
def Qx(K:bG)(e:Fe):Option cw:=match e.cls with
 |none=>Gg K e.x
 |some c=>(Gg K c).bind λC=>ZO K C e.x
def M5(K:bG)(e:Fe):Option eX:=(Qx K e).bind λf=>match K.lookup f with
 |some ⟨_,_,.func fd,_⟩=>U fd
 |_=>Y
def Gh(e:Fe)(fd:eX):eX:=A9 e.x e.qual (jU e.st) (cW e.st) (aE e.st) fd.defaults fd.kwdefaults fd.doc fd.pyModule fd.annotations fd.code fd.closureTuple
def ū(e:Fe):Bool:=decide ((aE e.st).kind=.function)&&!(aE e.st).isCoroutine&&!(aE e.st).isGenerator&&decide e.N.Nodup&&decide (e.N.take e.ps.length=e.ps)&&e.ps.all (λx=>decide ((aE e.st).names.lookup x=U .local) ||decide ((aE e.st).names.lookup x=U .cell))&&(aE e.st).names.all (λy=>decide<|y.2≠.free)
def Ar:T->ar->Bool
 |.int i,.int j _=>decide<|i=j
 |.str l,.str s _=>decide (s.cps.toList=l)&&decide (l.length<=1000000)
 |.bl b,.bool c=>b == c
 |.non,.none=>O
 |_,_=>Zb
def eA:T->V
 |.int i=>.int i
 |.str l=>SV l
 |.bl b=>.bl b
 |_=>.non
def As{t:T}{u:ar}(h:Ar t u=O):RelV (eA t) u/\∀(B:KT)al H,Rep B al H t<|eA t:=by
 unfold Ar at h;split at h
 .have h:=dc h
  subst h;exact⟨⟨_,J⟩,λ_ _ _=>J⟩
 .rename_i l s tk
  rw[dj]at h;have a:=dc h.1;subst a;exact⟨⟨tk,J⟩,λ_ _ _=>⟨J,dc h.2⟩⟩
 .have h:=eq_of_beq h
  subst h;exact⟨J,λ_ _ _=>J⟩
 .exact⟨J,λ_ _ _=>J⟩
 .cases h
def jD:FC->B2->Bool
 |[],[]=>O
 |t::ts,u::us=>Ar t u&&jD ts us
 |_,_=>Zb
theorem oQ:∀{ts:FC}{us:B2},jD ts us=O->Vals (ts.map eA) us/\∀(B:KT)al H,au B al H ts<|ts.map eA
 |[],[],_=>⟨.nil,λ_ _ _=>J⟩
 |t::ts,u::us,h=>by
  rw[jD,dj]at h;obtain⟨a,b⟩:=As h.1;obtain⟨c,d⟩:=oQ h.2;exact⟨.cons a c,λB al H=>⟨_,_,J,b B al H,d B al H⟩⟩
 |[],_::_,h=>by cases h
 |_::_,[],h=>by cases h
def ZP(K:bG)(ds:FC)(c:ar):Bool:=match ds with
 |[]=>(match c with
  |.none=>O
  |_=>Zb)
 |_::_=>(match c with
  |.ref a=>(match K.lookup a with
   |some ⟨_,_,.seq b _,_⟩=>jD ds b.toList
   |_=>Zb)
  |_=>Zb)
def Xs(K:bG)(e:Fe):Bool:=match Qx K e,M5 K e with
 |some f,some fd=>pG K (.ref f)&&tZ K (.ref f)&&CI K fd.code e.qual&&ū e&&ZP K e.ds fd.defaults
 |_,_=>Zb
def Bn(e:Fe):Prop:=match e.ds with
 |[]=>∀(kV c f:ar)(an:Option cw)(g ct:ar)(b:B2),b.length=e.ps.length->bindArgs (A9 e.x e.qual (jU e.st) (cW e.st) (aE e.st) .none kV c f an g ct) ⟨b,[]⟩=pure (e.ps.zip b)
 |ds=>∀(kV c f:ar)(an:Option cw)(g ct:ar)(s:bh)(a:cw)(o:Obj)(d:B2)(n:Nat)(b:B2),s.heap.get? a=U o->o.data=.seq d.toArray n->d.length=ds.length->(b++d).length=e.ps.length ->
  BindsTo s (A9 e.x e.qual (jU e.st) (cW e.st) (aE e.st) (.ref a) kV c f an g ct) ⟨b,[]⟩ (e.ps.zip<|b++d)
structure vU(K:bG)(e:Fe)(f:cw)(fd:eX):Prop where
 at_:Qx K e=U f
 fn:xJ K e.x e.qual e.st f fd
 sc:gS e.N e.ps<|aE e.st
 isf:tZ K (.ref f)=O
 bs:e.ds=[]->∀us:B2,us.length=e.ps.length->bindArgs fd ⟨us,[]⟩=pure (e.ps.zip us)
 bd:∃(gx:B2)(dV:List V),Binds K fd e.ps gx/\Vals dV gx/\∀(B:KT)al H,au B al H e.ds dV
def vU.bn{e:Fe}{f:cw}{fd:eX}(F:vU K e f fd)(h:e.ds=[]):Binds K fd e.ps []:=.all<|F.bs h
theorem qW:∀{ts:FC}{us:B2},jD ts us=O->us.length=ts.length
 |[],[],_=>J
 |t::ts,u::us,h=>by
  rw[jD,dj]at h;simp[qW h.2]
 |[],_::_,h=>by cases h
 |_::_,[],h=>by cases h
def VY{e:Fe}(h:Xs K e=O)(q:M5 K e=(M5 K e).map (Gh e))(b:Bn e):∃f fd,vU K e f fd:=by
 unfold Xs at h;split at h
 case h_2=>cases h
 rename_i f fd t i;simp only[dj]at h;obtain⟨⟨⟨⟨M,L⟩,I⟩,p⟩,c⟩:=h;rw[i]at q;injection q with q
 have l:∃j od m,K.lookup f=U ⟨j,od,.func fd,m⟩:=by
  unfold M5 at i;rw[t]at i;dsimp only[Option.bind]at i;split at i
  .rename_i j od N m e
   cases i;exact⟨j,od,m,e⟩
  .cases i
 obtain⟨j,od,m,l⟩:=l;have F:xJ K e.x e.qual e.st f fd:=⟨⟨j,od,fd.defaults,fd.kwdefaults,fd.doc,fd.pyModule,fd.annotations,fd.code,fd.closureTuple,m,q,l,I⟩,M⟩;have bs:e.ds=[]->∀g:B2,g.length=e.ps.length->bindArgs fd ⟨g,[]⟩=pure (e.ps.zip g):=λh g o=>by
  unfold Bn at b;rw[h]at b c;unfold ZP at c;dsimp only at b c;split at c
  .rename_i hd
   rw[q];unfold Gh;rw[hd];exact b _ _ _ _ _ _ g o
  .cases c
 have bd:∃(u:B2)(v:List V),Binds K fd e.ps u/\Vals v u/\∀(B:KT)al H,au B al H e.ds v:=by
  cases r:e.ds with
  |nil=>exact⟨[],[],.all<|bs r,.nil,λ_ _ _=>J⟩
  |cons d ds=>
   unfold Bn at b;rw[r]at b c;unfold ZP at c;dsimp only at b c;split at c
   case h_2=>cases c
   rename_i a hd;split at c
   case h_2=>cases c
   rename_i C A k D Q n;obtain⟨z,w⟩:=oQ c;refine⟨k.toList,_,λs g P o=>?_,z,λB al H=>w B al H⟩;rw[q];unfold Gh;rw[hd];exact b _ _ _ _ _ _ s a _ k.toList D g (P _ _ n) J (qW c) o
 refine⟨f,fd,t,F,?_,L,bs,bd⟩;unfold ū at p;simp only[dj,eP]at p;obtain⟨⟨⟨⟨⟨⟨g1,g2⟩,g3⟩,g4⟩,g5⟩,g6⟩,g7⟩:=p;refine⟨g1,by simpa using g2,by simpa using g3,g4,g5,λx G=>?_,λy E=>dc<|iD.mp g7 y E⟩
 have:=iD.mp g6 x G
 rw[Bd]at this;exact this.imp dc dc
end
abbrev JT:=List<|Str×Nat
section
variable{Ft:List Fe}{It:JT}
def ZQ(e:Fe):Bool:=e.N.all λx=>(decide ((aE e.st).names.lookup x=U .local) ||decide ((aE e.st).names.lookup x=U .cell))&&!qU x
def M6{e:Fe}(h:ZQ e=O):∀(i:Nat)(x:Str),e.N[i]?=U x->uM (aE e.st) x/\cy x/\i7 x:=λi x a=>by
 have:=iD.mp h x<|dh a
 rw[dj,Bd]at this;refine⟨this.1.elim (λh=>.inl<|dc h) λh=>.inr<|.inl<|dc h,Xq<|by simpa using this.2⟩
def Ŭ(K:bG)(C f:cw):Bool:=t_ K C&&decide (gp K (.ref C) "__init__" = U (U<|.ref f))&&pG K (.ref C)
def Gi(K:bG)(M:Gm)(Ft:List Fe)(It:JT)(c:Nat)(x:Str)(t:Bi->Fe->Bool):Bool:=match M.P.cn[c]?,M.P.fn[c]?,(It.lookup x).bind λi=>Ft[i]? with
 |some n,some ns,some e=>decide (n=x)&&(match Gg K x,Qx K e with
  |some C,some f=>Ŭ K C f&&e.ds.isEmpty&&t ns e
  |_,_=>Zb)
 |_,_,_=>Zb
def ŭ(n:Nat)(ns:Bi)(e:Fe):Bool:=ZQ e&&ow e.N 1 (cW e.st) ns&&decide (e.ps.length=ns.length+1)&&decide (ns.length=n)
def Ů(K:bG)(ns:Bi)(e:Fe):Bool:=ZQ e&&decide (e.ps.length=2)&&decide (pH K eR "list" = U Y)&&decide ((aE e.st).names.lookup ("list" : Str)=U .globalImplicit)&&(match cW e.st with
 |[oz]=>(match se oz with
  |some (a,n,q)=>decide (ns=[n])&&decide (e.N[0]?=U a)&&decide (e.N[1]?=U q)
  |none=>Zb)
 |_=>Zb)
def Xu(K:bG)(M:Gm)(Ft:List Fe)(It:JT)(x:Str):Ck->Bool
 |.fz c n=>Gi K M Ft It c x<|ŭ n
 |.z0 c=>(match M.P.cn[c]?,Gg K x with
  |some n,some C=>decide (n=x)&&t_ K C&&decide (gp K (.ref C) "__init__" = U (U<|.builtin "object.__init__"))&&pG K (.ref C)
  |_,_=>Zb)
 |.cp c=>Gi K M Ft It c x<|Ů K
 |.nw c i=>decide (It.lookup x=U i)&&Gi K M Ft It c x λ_ _=>O
def ZR:FC->FC->Bool
 |[],[]=>O
 |[.int i],[.int j]=>decide<|i=j
 |_,_=>Zb
def JU{a b:FC}(h:ZR a b=O):a=b:=by
 unfold ZR at h;split at h
 .rfl
 .rw[dc h]
 .cases h
def ZS(K:bG)(Ft:List Fe)(p:Str×FC×Nat):Bool:=match Ft[p.2.2]? with
 |some e=>decide (e.cls=Y)&&decide (e.x=p.1)&&ZR p.2.1 e.ds
 |none=>Zb
def ZT(K:bG)(M:Gm)(Ft:List Fe)(m:Str)(p:Nat×Nat):Bool:=match M.P.cn[p.1]?,M.P.fn[p.1]?,Ft[p.2]? with
 |some n,some ns,some e=>(match Gg K n,Qx K e with
  |some C,some f=>decide (gp K (.ref C) m=U (U<|.ref f))&&e.ds.isEmpty&&!ns.contains m
  |_,_=>Zb)
 |_,_,_=>Zb
def Qy(K:bG)(M:Gm)(Ft:List Fe)(It:JT):Bool:=VW K M.P&&gtB K&&Ft.all (Xs K)&&M.fs.all (ZS K Ft)&&M.cl.all (λp=>Xu K M Ft It p.1 p.2)&&M.ms.all (λp=>p.2.all<|ZT K M Ft p.1)&&M.bl.all (λx=>decide<|pH K eR x=U Y)
structure ModOk(K:bG)(M:Gm)(Ft:List Fe)(It:JT):Prop where
 b:Qy K M Ft It=O
 q:Ft.map (M5 K)=Ft.map λe=>(M5 K e).map<|Gh e
 bn:∀e∈Ft,Bn e
theorem Gj{α c:Type}{f g:α->c}:∀{l:List α},l.map f=l.map g->∀a∈l,f a=g a
 |[],_,a,h=>by simp at h
 |b::l,e,a,h=>by
  rw[dG,dG]at e;injection e with e1 e2
  rcases bK.mp h with rfl|h
  .exact e1
  .exact Gj e2 a h
def ModOk.split(m:ModOk K M Ft It):VW K M.P=O/\gtB K=O/\(∀e∈Ft,Xs K e=O)/\(∀p∈M.fs,ZS K Ft p=O)/\(∀p∈M.cl,Xu K M Ft It p.1 p.2=O)/\(∀p∈M.ms,∀q∈p.2,ZT K M Ft p.1 q=O)/\(∀x∈M.bl,pH K eR x=U Y):=by
 have h:=m.b;unfold Qy at h;simp only[dj]at h;obtain⟨⟨⟨⟨⟨⟨l,k⟩,j⟩,i⟩,g⟩,f⟩,d⟩:=h;exact⟨l,k,iD.mp j,iD.mp i,iD.mp g,λp c=>iD.mp<|iD.mp f p c,λx a=>dc<|iD.mp d x a⟩
def ModOk.fe(a:ModOk K M Ft It){e:Fe}(h:e∈Ft):∃f fd,vU K e f fd:=VY (a.split.2.2.1 e h) (Gj a.q e h)<|a.bn e h
def JV{B:KT}{P:ef}{w:dA}{base:fA}{k:Nat}{f:cw}{fd:eX}{ps:Bi}:dR P w K mg base mf k f fd ps<|qL B noFn:=
 ⟨by rintro vs H Q E ⟨_,_,_,_,_,_,_,h,_⟩;exact(by cases h),by rintro _ _ _ _ _ _ _ _ _ _ _ _ _ ⟨_,_,_,_,_,_,_,h,_⟩;exact(by cases h)⟩
def x9(g:Qv K mg)(u:ModOk K M Ft It){c:Nat}{x:Str}{t:Bi->Fe->Bool}(h:Gi K M Ft It c x t=O):∃C ns e i f fd,M.P.cn[c]?=U x/\M.P.fn[c]?=U ns/\It.lookup x=U i/\Ft[i]?=U e/\vU K e f fd/\Mk K C f/\Ry K mg x ns C/\t ns e=O/\e.ds=[]:=by
 unfold Gi at h;split at h
 case h_2=>cases h
 rename_i n ns e k j p;obtain⟨i,o,d⟩:=dI.mp p;rw[dj]at h;obtain⟨a,h⟩:=h;have a:=dc a;subst a;split at h
 case h_2=>cases h
 rename_i C f b m;rw[dj]at h;obtain⟨q,fd,F⟩:=u.fe<|dh d
 have:=F.at_.symm.trans m
 cases this;obtain⟨s,r,l,g1,g2,_,g3,_⟩:=vS u.split.1 k;rw[b]at g1;cases g1;rw[j]at g2;cases g2;unfold Ŭ at h;simp only[dj,eP]at h;exact⟨C,ns,e,i,_,fd,k,j,o,d,F,⟨h.1.1.1.1,h.1.1.1.2,F.isf,h.1.1.2⟩,sV g b g3,h.2,qk.mp h.1.2⟩
def B8{α:Type}{l:List<|Nat×α}{x:Nat}{a:α}(h:l.lookup x=U a):(x,a)∈l:=by
 induction l with
 |nil=>simp at h
 |cons p l c=>
  obtain⟨q,b⟩:=p;rw[jk]at h;split at h
  .rename_i e
   cases h;rw[eq_of_beq e];exact bC ..
  .exact eE _<|c h
variable{Pr:ef}{w:dA}{base:fA}
def Ry.Gk{P:Pg}{c:Nat}{x:Str}{ns:Bi}{C:cw}(F:Ry K mg x ns C)(b:P.cn[c]?=U x)(a:P.fn[c]?=U ns):iz (jA P K Pr w) c C ns:=⟨x,b,a,F.nd,F.at_⟩
def JW{e:Fe}{f:cw}{fd:eX}{aj:Nat->Fn}{k:Nat}(F:vU K e f fd)(G:FP M Pr w K mg base aj k):dR Pr w K mg base mf (k+2) f fd e.ps<|qL (jA M.P K Pr w)<|Ge M aj e:=by
 have a:dR Pr w K mg base mf (k+2) f fd e.ps<|qL (jA M.P K Pr w)<|aG e.ps.length e.N.length<|M4 M aj e:=by
  refine Pp F.fn F.sc λb A outer s H E hr=>?_;exact i0 60 200 ⟨e.N,aE e.st,e.mu⟩ (pQ mf Pr w K mg base e.N e.qual (aE e.st) f b A outer s H E).Mb ⟨⟨G,J,J,J,k+1,bW _,hr⟩,λ_=>J,F.sc.nd,J,J,J⟩<|cW e.st
 unfold Ge VV;split
 .exact Jb a
 .exact a
def Au{n:Nat}{i:Nat}{e:Fe}{f:cw}{fd:eX}(F:vU K e f fd)(he:Ft[i]?=U e)(h:∀m,n=m+1->FP M Pr w K mg base (iQ M Ft m) (2*m+1)):dR Pr w K mg base mf (2*n+1) f fd e.ps<|qL (jA M.P K Pr w)<|iQ M Ft n i:=by
 cases n with
 |zero=>exact JV
 |succ m=>
  have:=JW F<|h m J
  unfold iQ;rw[he];exact this
def Qz(g:Qv K mg)(q0:ModOk K M Ft It)(L:∀x t,M.cs.lookup x=U t->zX K mg x t):∀n,FP M Pr w K mg base (iQ M Ft n)<|2*n+1:=by
 intro n
 induction n using Nat.strongRecOn with
 |ind n I=>
 have call:∀{i:Nat}{e:Fe}{f:cw}{fd:eX},vU K e f fd->Ft[i]?=U e->dR Pr w K mg base mf (2*n+1) f fd e.ps (qL (jA M.P K Pr w)<|iQ M Ft n i):=λF d=>Au F d λm hm=>I m (by omega)
 obtain⟨o1,o2,X,G,b,E,D⟩:=q0.split;have pg:=VX g o1 o2;refine⟨pg,L,λx ds i h=>?_,λx c k h=>?_,λx c h=>?_,λx c h=>?_,λx c i h=>?_,λm l c i o j=>?_,λx h=>g x Y<|D x h⟩
 .have q:=G _<|dD h
  unfold ZS at q;dsimp only at q;split at q
  case h_2=>cases q
  rename_i e d;rw[dj,dj]at q;obtain⟨⟨q2,a⟩,q1⟩:=q;have q2:=dc q2;have a:=dc a;subst a;obtain⟨f,fd,F⟩:=q0.fe<|dh d;have u:=F.at_;unfold Qx at u;rw[q2]at u;obtain⟨Q,R,b1,b2,b3⟩:=F.bd;exact⟨f,fd,e.ps,Q,R,call F d,g _ _<|ku u,F.fn.kp,b1,b2,λal H=>JU q1▸b3 _ al H⟩
 .obtain⟨C,ns,e,i,f,fd,c1,c2,p,v,F,m,cl,q,q9⟩:=x9 g q0<|b _<|dD h
  unfold ŭ at q;simp only[dj,eP]at q;obtain⟨⟨⟨q1,q2⟩,a⟩,q4⟩:=q;exact⟨C,f,fd,e.ps,ns,cl.Gk c1 c2,q4,cl.gl,m,Jf F.fn F.sc (M6 q1) q2 a cl.cl cl.na cl.nd cl.qG,F.bn q9⟩
 .have q:=b _<|dD h
  unfold Xu at q;dsimp only at q;split at q
  case h_2=>cases q
  rename_i s C o j;simp only[dj,eP]at q;obtain⟨⟨⟨q1,q2⟩,a⟩,q4⟩:=q;subst q1;obtain⟨S,ns,l,g1,g2,_,g3,_⟩:=vS o1 o;rw[j]at g1;cases g1;have cl:=sV g j g3;exact⟨C,ns,cl.Gk o g2,cl.gl,q2,a,q4⟩
 .obtain⟨C,ns,e,i,f,fd,c1,c2,p,v,F,m,cl,q,q9⟩:=x9 g q0<|b _<|dD h
  unfold Ů at q;simp only[dj,eP]at q;obtain⟨⟨⟨⟨q1,q2⟩,a⟩,q4⟩,q5⟩:=q;split at q5
  case h_2=>cases q5
  rename_i W N;split at q5
  case h_2=>cases q5
  rename_i T s V hi;simp only[dj,eP]at q5;obtain⟨⟨B,A⟩,y⟩:=q5;subst B;exact⟨C,f,fd,e.ps,s,cl.Gk c1 c2,cl.gl,m,EM F.fn F.sc N hi A y (M6 q1) (g _ _ a) q4 q2 cl.cl<|cl.na _<|bC ..,F.bn q9⟩
 .have q:=b _<|dD h
  unfold Xu at q;dsimp only at q;rw[dj]at q;obtain⟨r,q⟩:=q;have r:=dc r;obtain⟨C,ns,e,i',f,fd,c1,c2,p,v,F,m,cl,_,q9⟩:=x9 g q0 q;rw[r]at p;cases p;exact⟨C,f,fd,e.ps,ns,cl.Gk c1 c2,cl.gl,m,call F v,F.bn q9⟩
 .have q:=E _ (dD o) (c,i)<|B8 j
  unfold ZT at q;dsimp only at q;split at q
  case h_2=>cases q
  rename_i s ns e d1 d2 d3;split at q
  case h_2=>cases q
  rename_i C f d4 d5;rw[dj,dj]at q;obtain⟨⟨q1,q9⟩,q2⟩:=q;obtain⟨S,D5,Z,g1,g2,_,g3,_⟩:=vS o1 d1;rw[d4]at g1;cases g1;rw[d2]at g2;cases g2;have cl:=sV g d4 g3;obtain⟨f',fd,F⟩:=q0.fe<|dh d3
  have:=F.at_.symm.trans d5
  cases this;exact⟨C,_,fd,e.ps,ns,cl.Gk d1 d2,cl.cl,⟨dc q1,F.isf,F.fn.kp⟩,call F d3,F.bn<|qk.mp q9,λz=>by rw[C9.mpr z]at q2;cases q2⟩
end
section
variable{Ft:List Fe}{It:JT}
def JX(K:bG)(p:Str×T):Bool:=match pH K eR p.1 with
 |U<|U u=>(match p.2,u with
  |.tup ts,.ref a=>(match K.lookup a with
   |some ⟨.type c,_,.seq b _,_⟩=>decide (c = "tuple")&&decide (b.size<=dv)&&jD ts b.toList
   |_=>Zb)
  |t,u=>Ar t u)
 |_=>Zb
def QA(g:Qv K mg){x:Str}{t:T}(h:JX K (x,t)=O):zX K mg x t:=by
 unfold JX at h;dsimp only at h;split at h
 case h_2=>cases h
 rename_i u i;have f:=g _ _ i;split at h
 .rename_i ts a
  split at h
  .rename_i c od e n sl j
   simp only[dj,eP]at h;obtain⟨⟨o,m⟩,l⟩:=h;subst o;obtain⟨d,b⟩:=oQ l;exact⟨_,.ref a,f,J,λB al H k=>⟨a,ts.map eA,J,.inr ⟨_,e,n,k▸j,J,J,m,d⟩,b B al H⟩⟩
  .cases h
 .obtain⟨d,b⟩:=As h
  exact⟨u,eA t,f,d,λB al H _=>b B al H⟩
structure Gn(K:bG)(M:Gm)(Ft:List Fe)(It:JT):Prop extends ModOk K M Ft It where
 cs:M.cs.all (JX K)=O
variable{Pr:ef}{w:dA}{base:fA}
def JY(g:Qv K mg)(a:Gn K M Ft It)(n:Nat):FP M Pr w K mg base (iQ M Ft n)<|2*n+1:=Qz g a.toModOk (λx t h=>QA g<|iD.mp a.cs _<|dD h) n
def JZ{B:KT}{f:Fn}{k:Nat}(ns:Dx)(h:∃m',f [.scr ns] []=.ok (.bl O,m')){H:Hp}{a:cw}(d:Oi H)(c:c9 B.K H a<|ns.map V.int):qL B f [.ref a] H (λv _=>v=.bl O) λ_ _ _=>False:=by
 obtain⟨m',h⟩:=h;refine⟨⟨H,λ_=>Y,[]⟩,[.scr ns],[],_,m',⟨λ_ _ e=>e,λb p e=>(by cases e),J,λk ob e=>(by simp at e)⟩,⟨_,_,J,⟨a,J,c⟩,J⟩,h,λv g i _ _ r=>r⟩
end
def VZ{l:PySem.W.OpenLaw}{m n:Nat}{q:ef}{loose:Bi}{XP:(Str->D1)->fA->Prop}{YP:dA->fA->Prop}{d:DefRec}{K:nJ->bG}{M:Gm}{Ft:List Fe}{It:JT}{i:Nat}{e:Fe}
  (Z:l.most=U m) (y:m<=dv) (C:d.params.defaults=[]) (hr:bL (2*n+1) s9) (hY:∀(w:dA)(h:fA),YP w h->(K w.params).In h)
  (he:Ft[i]?=U e) (A:e.ps=[("_law_script" : Str)]) (S:e.x=d.name) (Ij:e.cls=Y) (R:e.ds=[]) (q0:∀P,Gn (K P) M Ft It) (hT:∀ns:Dx,ns.length<=m->(∀i∈ns,i.natAbs.log2<1048577)->∃m',iQ M Ft n i [.scr ns] []=.ok (.bl O,m')) :
  PySem.W.WalkO q loose XP YP l.row.toRowW d [] λf vs=>PySem.call f vs:=by
 intro w s₀ c mg mb G zi fa o pm cd doc dV kV ho hd lB I B hg N E as Ii ZU V Yn Xo
 obtain rfl:dV=.none:=Le.none I C
 obtain rfl:kV=.none:=Le.noKw I
 obtain⟨a,vs,ns,rfl,rfl,ZV,j,L⟩:=Att.Bx Z Ii Yn;have t:∀i∈ns,i.natAbs.log2<1048577:=λi hi=>by
  have h1:=PySem.W.layableW_item (PySem.W.layableW_arg ZU _<|iw.mpr J) (.int i)<|gA.mpr ⟨i,hi,J⟩;have p:=PyData.bits_of_layable<|PyProof.Rows.Da.lay0_int<|PySem.W.layable_int h1;unfold il at p;split at p
  .rename_i z
   rw[show i=0 from dc z];decide
  .exact ez p (by decide)
 refine PySem.W.enter_call<|ox (?_:r0 (da l.prog w) s9 (.call (.ref fa) ⟨[.ref a],[]⟩) (λr v=>r=.ok (.ret<|.bool O)/\OldK c.heap v.heap/\v.os=c.os/\PyProof.Rows.AllBare v.gens) c) λr v X=>?_
 .have Q:=hY w _ zi
  have g:=Qw Q G.T.g;obtain⟨f,fd,F⟩:=(q0 w.params).fe<|dh he;have D:=F.at_;unfold Qx at D;rw[Ij]at D;have ea:=(g _ _<|ku D).symm.trans<|S▸B;cases ea;refine DP (k:=2*n+1) (fd:=fd) (x:=("_law_script" : Str)) (CX:=mf) (sp:=qL (jA M.P (K w.params) l.prog w)<|iQ M Ft n i) Q G.T.g G.T.b G.T.builtins G.T.nolimit hg ZV j (dq L y) hr (λbase KB GB=>?_) (λs u=>?_) (λH hO hS=>JZ (k:=0) ns (hT ns L t) hO hS) λ_ _ _ z=>z
  .have:=Au (Pr:=l.prog) (w:=w) (base:=base) (mg:=mg) F he (n:=n) λm y=>JY g (q0 w.params) m
   rw[A]at this;exact this
  .have:=F.bs R [u] (by rw[A];rfl)
   rw[A]at this;exact .of_eq this
 .obtain⟨rfl,p,h3,h4⟩:=X
  exact⟨.inl ⟨.bool O,.bool O,[],J,λ_=>J,.bool O,Att.By l _,λ_=>⟨C8.nil,λ_ y=>(nomatch y)⟩⟩,p,h3,h4⟩
end D
namespace D
def RJ{α b:Type}(a:α)(f:α->Res b):Res.bind (.ok a) f=f a:=J
def cQ{α b:Type}{a:α}{f:α->Res b}{r:Res b}(h:f a=r):Res.bind (.ok a) f=r:=h
def oso{α:Type}(a:α):aW (U a)=.ok a:=J
section
variable{a b:FS}{s s':S}{r:Res<|Out×S}{t:T}{c:FT}{d n:Nat}{ts:FC}{m m':FR}{e:FE}
def seq1(h:a s=.ok (.nx,s'))(k:b s'=r):af a b s=r:=by unfold af;rw[h];exact k
def ů(h:c s=.ok (O,s'))(k:a s'=r):bB c a b s=r:=by unfold bB;rw[h];exact k
def Ű(h:c s=.ok (Zb,s'))(k:b s'=r):bB c a b s=r:=by unfold bB;rw[h];exact k
def B9(h:e s=.ok (t,s')):az e s=.ok (.rt t,s'):=by unfold az;rw[h];rfl
def B_(h:ts.length=d)(k:b ⟨ts.map (λt=>U<|.val t)++dN (n-ts.length) Y,m⟩=.ok (.rt t,s'))(a:s'.m=m'):aG d n b ts m=.ok (t,m'):=by
 unfold aG;rw[bt h,k,<- a];rfl
def V0(h:ts.length=d)(k:b ⟨ts.map (λt=>U<|.val t)++dN (n-ts.length) Y,m⟩=.ok (.nx,s'))(a:s'.m=m'):aG d n b ts m=.ok (.non,m'):=by
 unfold aG;rw[bt h,k,<- a];rfl
def Gp{g:Fn}(h:aH ts=O)(k:g ts []=.ok (t,m'))(a:noOwn t=O):aS g ts m=.ok (t,m):=by
 unfold aS;rw[bt h,k];exact bt a
def lM{g:Fn}{ds:FC}{fl:FL}(h:fl s=.ok (ts,s'))(k:g (ts++ds) s'.m=.ok (t,m')):aq g ds fl s=.ok (t,⟨s'.r,m'⟩):=by
 unfold aq;rw[h];show(match g (ts++ds) s'.m with|.ok q=>_|.bad=>_|.exc c fs s'=>_)=_;rw[k]
end
def Av{g:Nat->Option Fn}{o:FE}{fl:FL}{k:Nat}{ob:Ob}{f:Fn}{ts:FC}{t:T}{s s1 s2:S}{m':FR}(h:o s=.ok (.own k,s1))(a:s1.m[k]?=U ob)(b:g ob.c=U f)(e:fl s1=.ok (ts,s2))(d:f (.own k::ts) s2.m=.ok (t,m')) :
  aD g o fl s=.ok (t,⟨s2.r,m'⟩):=by
 unfold aD;rw[h];show Res.bind (aW<|(s1.m[k]?).bind λob=>g ob.c) _=_;rw[a];show Res.bind (aW<|g ob.c) _=_;rw[b];refine Eq.trans (RJ f _) ?_;exact lM (ts:=.own k::ts) (s':=s2) (by rw[e];rfl) (by rw[dw];exact d)
def ji{α:Type}{p:Prop}[Decidable p]{x:α}(h:p):gd p x=U x:=bt h
def ev:(∀t s,cF t s=.ok (t,s))/\(∀g a s,dF g a s=(a s).bind λp=>(aW<|g p.1).bind λt=>.ok (t,p.2))/\(∀g a b s,a_ g a b s=(a s).bind λp=>(b p.2).bind λq=>(aW<|g p.1 q.1).bind λt=>.ok (t,q.2)) /\
  (∀s,cj s=.ok ([],s))/\(∀a r s,bH a r s=(a s).bind λp=>(r p.2).bind λq=>.ok (p.1::q.1,q.2))/\(∀g a s,bA g a s=(a s).bind λp=>(aW<|g p.1).bind λt=>.ok (t,p.2)) /\
  (∀a s,tB a s=(a s).bind λp=>(aW<|Iz p.1).bind λb=>.ok (b,p.2))/\(∀a s,b9 a s=(a s).bind λp=>(aW<|Rr p.1).bind λb=>.ok (b,p.2))/\(∀a s,dS a s=(a s).bind λp=>.ok (!p.1,p.2)) /\
  (∀s,rP s=.ok (Y,s))/\(∀a s,jh a s=(a s).bind λp=>(aW<|TY p.1).bind λi=>.ok (U i,p.2))/\(∀a lo hi s,lH a lo hi s=(a s).bind λp=>(lo p.2).bind λq=>(hi q.2).bind λz=>(aW<|Xb q.1 z.1 p.1).bind λt=>.ok (t,z.2)) /\
  (∀i a s,aN i a s=(a s).bind λp=>.ok (.nx,kG p.2 i<|.val p.1))/\(∀a s,aQ a s=(a s).bind λp=>.ok (.nx,p.2))/\(∀s,aI s=.ok (.nx,s)) /\
  (∀r m i c,kG ⟨r,m⟩ i c=⟨r.set i<|U c,m⟩)/\(∀f o fl s,j9 f o fl s=(o s).bind λp=>(aW<|IS p.1).bind λl=>(fl p.2).bind λq=>(aW<|f l q.1).bind λt=>.ok (t,q.2)) /\
  (∀t,Iz (.bl t)=U t)/\(∀t,Rr (.bl t)=U t)/\(∀i,TY (.int i)=U i)/\(∀l,IS (.str l)=U l):=
 ⟨λ_ _=>J,λ_ _ _=>J,λ_ _ _ _=>J,λ_=>J,λ_ _ _=>J,λ_ _ _=>J,λ_ _=>J,λ_ _=>J,λ_ _=>J,λ_=>J,λ_ _=>J,λ_ _ _ _=>J,λ_ _ _=>J,λ_ _=>J,λ_=>J,λ_ _ _ _=>J,λ_ _ _ _=>J,λ_=>J,λ_=>J,λ_=>J,λ_=>J⟩
def evV:(∀r m t,vF 0 ⟨U (.val t)::r,m⟩=.ok (t,⟨U (.val t)::r,m⟩))/\(∀a r m t,vF 1 ⟨a::U (.val t)::r,m⟩=.ok (t,⟨a::U (.val t)::r,m⟩))/\(∀a b r m t,vF 2 ⟨a::b::U (.val t)::r,m⟩=.ok (t,⟨a::b::U (.val t)::r,m⟩))/\(∀a b d r m t,vF 3 ⟨a::b::d::U (.val t)::r,m⟩=.ok (t,⟨a::b::d::U (.val t)::r,m⟩))/\(∀a b d e r m t,vF 4 ⟨a::b::d::e::U (.val t)::r,m⟩=.ok (t,⟨a::b::d::e::U (.val t)::r,m⟩))/\(∀a b d e f r m t,vF 5 ⟨a::b::d::e::f::U (.val t)::r,m⟩=.ok (t,⟨a::b::d::e::f::U (.val t)::r,m⟩))/\(∀a b d e f g r m t,vF 6 ⟨a::b::d::e::f::g::U (.val t)::r,m⟩=.ok (t,⟨a::b::d::e::f::g::U (.val t)::r,m⟩))/\(∀a b d e f g h r m t,vF 7 ⟨a::b::d::e::f::g::h::U (.val t)::r,m⟩=.ok (t,⟨a::b::d::e::f::g::h::U (.val t)::r,m⟩))/\(∀y r c,ur (α:=Option C) (y::r) 0 c=c::r)/\(∀a y r c,ur (α:=Option C) (a::y::r) 1 c=a::c::r)/\(∀a b y r c,ur (α:=Option C) (a::b::y::r) 2 c=a::b::c::r)/\(∀a b d y r c,ur (α:=Option C) (a::b::d::y::r) 3 c=a::b::d::c::r)/\(∀a b d e y r c,ur (α:=Option C) (a::b::d::e::y::r) 4 c=a::b::d::e::c::r)/\(∀a b d e f y r c,ur (α:=Option C) (a::b::d::e::f::y::r) 5 c=a::b::d::e::f::c::r)/\(∀a b d e f g y r c,ur (α:=Option C) (a::b::d::e::f::g::y::r) 6 c=a::b::d::e::f::g::c::r)/\(∀a b d e f g h y r c,ur (α:=Option C) (a::b::d::e::f::g::h::y::r) 7 c=a::b::d::e::f::g::h::c::r):=
 ⟨λ_ _ _=>J,λ_ _ _ _=>J,λ_ _ _ _ _=>J,λ_ _ _ _ _ _=>J,λ_ _ _ _ _ _ _=>J,λ_ _ _ _ _ _ _ _=>J,λ_ _ _ _ _ _ _ _ _=>J,λ_ _ _ _ _ _ _ _ _ _=>J,λ_ _ _=>J,λ_ _ _ _=>J,λ_ _ _ _ _=>J,λ_ _ _ _ _ _=>J,λ_ _ _ _ _ _ _=>J,λ_ _ _ _ _ _ _ _=>J,λ_ _ _ _ _ _ _ _ _=>J,λ_ _ _ _ _ _ _ _ _ _=>J⟩
end D
namespace D
open PySem L2 PyProof.Rows
def J0(n d k:Nat):gO n d (U (k:Int))=min k n:=by
 unfold gO;dsimp only;rw[ag<|by lia];rfl
def QC(n d:Nat):gO n d Y=d:=J
end D
namespace D
abbrev sv(t:T):Option C:=U<|.val t
abbrev cI(i:Int):FE:=cF<|.int i
abbrev cS(l:B1):FE:=cF<|.str l
abbrev oA:FE->FE->FE:=a_<|bO .Add
abbrev oM:FE->FE->FE:=a_<|bO .Mod
abbrev oD:FE->FE->FE:=a_<|bO .FloorDiv
abbrev oE:FE->FE->FE:=a_<|aP .Eq
abbrev oI:FE->FE->FE:=a_ jw
abbrev k1(a:FE):FL:=bH a cj
abbrev k2(a b:FE):FL:=bH a<|k1 b
abbrev k3(a b c:FE):FL:=bH a<|k2 b c
abbrev zA:FE:=vF 0
abbrev zB:FE:=vF 1
abbrev zC:FE:=vF 2
abbrev zD:FE:=vF 3
abbrev zO:FE:=cI 0
abbrev zI:FE:=cI 1
abbrev zg:B1:=[103,105,118,101]
def W{α:Type}(x:Res α)(Q:α->Prop):Prop:=∃a,x=.ok a/\Q a
section
variable{α d:Type}{x:Res α}{f:α->Res d}{P:α->Prop}{R:d->Prop}
def W.mono{Q:α->Prop}(h:W x Q)(k:∀a,Q a->P a):W x P:=let⟨a,e,q⟩:=h;⟨a,e,k a q⟩
theorem W.bind(h:W x λa=>W (f a) R):W (x.bind f) R:=by
 obtain⟨a,rfl,b,e,q⟩:=h;exact⟨b,e,q⟩
def W.of{a:α}(e:x=.ok a)(h:P a):W x P:=⟨a,e,h⟩
end
section
variable{s s1 s':S}{a b:FE}{fl:FL}{g:T->T->FK}{j:FC->FK}{Q:T×S->Prop}{t u:T}{ts:FC}{i:Nat}{c:FT}{A B:FS}{d:Out×S->Prop}{n:Bool×S->Prop}{v:FC×S->Prop}{G:T×FR->Prop}
def V1{f:Fn}(h:W (fl s) λp=>W (f p.1 p.2.m) λq=>Q (q.1,⟨p.2.r,q.2⟩)):W (aq f [] fl s) Q:=W.bind<|h.mono λp k=>by
 obtain⟨q,e,k⟩:=k;refine⟨_,?_,k⟩;rw[dw,e]
def WB(b:FS)(s:S)(G:T×FR->Prop):Prop:=W (b s) λp=>∃t,p.1=.rt t/\G (t,p.2.m)
def V2(h:W (a s) λp=>G (p.1,p.2.m)):WB (az a) s G:=W.bind<|h.mono λp q=>⟨_,J,_,J,q⟩
def QD(e:a s=.ok (t,s'))(h:G (t,s'.m)):WB (az a) s G:=V2 ⟨_,e,h⟩
def gM(h:W (A s) λp=>p.1=.nx/\WB B p.2 G):WB (af A B) s G:=W.bind<|h.mono λp a=>by
 obtain⟨e,k⟩:=a;obtain⟨o,s'⟩:=p;cases e;exact k
def M7(h:WB A s G):WB (af A B) s G:=W.bind<|W.mono h λp ⟨t,e,k⟩=>⟨p,by obtain⟨o,s'⟩:=p;cases e;rfl,t,e,k⟩
def ZW(h:W (a s) λp=>d (.nx,kG p.2 i<|.val p.1)):W (aN i a s) d:=W.bind<|h.mono λ_ q=>⟨_,J,q⟩
def ZX(h:W (a s) λp=>WB B (kG p.2 i<|.val p.1) G):WB (af (aN i a) B) s G:=gM<|ZW<|h.mono λ_ q=>⟨J,q⟩
def V3(e:a s=.ok (t,s'))(h:WB B (kG s' i<|.val t) G):WB (af (aN i a) B) s G:=ZX ⟨_,e,h⟩
def V4(h:W (c s) λp=>(p.1=O->W (A p.2) d)/\(p.1=Zb->W (B p.2) d)):W (bB c A B s) d:=W.bind<|h.mono λp a=>by
 obtain⟨k1,k2⟩:=a;cases e:p.1 with
 |true=>exact k1 e
 |false=>exact k2 e
def qe(e:c s=.ok (O,s'))(h:W (A s') d):W (bB c A B s) d:=V4 ⟨_,e,⟨λ_=>h,λz=>by cases z⟩⟩
def e7(e:c s=.ok (Zb,s'))(h:W (B s') d):W (bB c A B s) d:=V4 ⟨_,e,⟨λz=>(by cases z),λ_=>h⟩⟩
def QE(e:c s=.ok (O,s'))(h:WB A s' G):WB (af (bB c A B) a') s G:=M7<|qe e h
def bSk(e:c s=.ok (Zb,s'))(h:WB B s' G):WB (af (bB c A aI) B) s G:=gM<|e7 e ⟨_,J,J,h⟩
def sW{a n:Nat}{m:FR}(h:ts.length=a)(k:WB B ⟨ts.map (λt=>U<|.val t)++dN (n-ts.length) Y,m⟩ G):W (aG a n B ts m) G:=by
 unfold aG;rw[bt h];exact W.bind<|W.mono k λp ⟨t,e,k⟩=>⟨_,by rw[e],k⟩
def vV{f:Fn}{m:FR}(h:aH ts=O)(k:W (f ts []) λp=>noOwn p.1=O/\G (p.1,m)):W (aS f ts m) G:=by
 obtain⟨p,e,b,a⟩:=k;refine⟨_,?_,a⟩;unfold aS;rw[bt h,e];exact bt b
def jE(h:W (A s) λp=>p.1=.nx/\W (B p.2) d):W (af A B s) d:=W.bind<|h.mono λp a=>by
 obtain⟨e,k⟩:=a;obtain⟨o,s'⟩:=p;cases e;exact k
theorem ű{gg:FG}{e:FE}{r:Fh}{I:FR->Prop}{R:T->Prop}:∀{ts:FC},(∀t∈ts,∀m,I m->∃b1,gg t r=U b1/\W (e ⟨b1,m⟩) λp=>R p.1/\I p.2.m)->∀m,I m->W (bz gg dM e r ts m) λp=>p.1.length=ts.length/\(∀t∈p.1,R t)/\I p.2
 |[],_,m,h=>⟨_,J,J,λ_ z=>(nomatch z),h⟩
 |t::ts,k,m,h=>by
  obtain⟨b1,n,p,j,b,g⟩:=k t (bC ..) m h;obtain⟨q,i,l,a,f⟩:=ű (λt d=>k t<|eE _ d) p.2.m g;refine⟨(p.1::q.1,q.2),?_,by show q.1.length+1=ts.length+1;rw[l],λu c=>?_,f⟩
  .rw[bz,n]
   refine cQ ?_;show Res.bind (e ⟨b1,m⟩) _=_;rw[j];show Res.bind (bz gg dM e r ts p.2.m) _=_;rw[i];rfl
  .rcases bK.mp c with z|z
   .rw[z];exact b
   .exact a u z
theorem M8{α:Type}{f:α->T}{P:α->Prop}:∀{us:FC},(∀t∈us,∃x,P x/\t=f x)->∃xs:List α,us=xs.map f/\∀x∈xs,P x
 |[],_=>⟨[],J,λ_ z=>nomatch z⟩
 |u::us,h=>by
  obtain⟨x,d,rfl⟩:=h u<|bC ..;obtain⟨xs,rfl,c⟩:=M8 λt b=>h t<|eE _ b;exact⟨x::xs,J,λy a=>by
   rcases bK.mp a with z|z
   .rw[z];exact d
   .exact c y z⟩
theorem QF{gg:FG}{I:S->Prop}:∀{ts:FC}{s:S},(∀t∈ts,∀s,I s->∃r,gg t s.r=U r/\W (B ⟨r,s.m⟩) λp=>p.1=.nx/\I p.2)->I s->W (b7 gg B ts s) λp=>p.1=.nx/\I p.2
 |[],s,_,h=>⟨_,J,J,h⟩
 |t::ts,s,k,h=>by
  obtain⟨r,f,⟨o,s1⟩,e,d,c⟩:=k t (bC ..) s h;cases d;obtain⟨p,e4,b⟩:=QF (ts:=ts) (λt a=>k t<|eE _ a) c;refine⟨p,?_,b⟩;rw[b7,f];refine cQ ?_;show Res.bind (B ⟨r,s.m⟩) _=_;rw[e];exact e4
end
end D
namespace K37
open PySem D L2
variable(n:Nat){m:List _root_.D.Ob}
abbrev QG:B1:=[97,98,99,100,101,102,103,104,105,106,107,108,109,110,111,112,113,114,115,116,117,118,119,120,121,122,65,66,67,68,69,70,71,72,73,74,75,76,77,78,79,80,81,82,83,84,85,86,87,88,89,90,48,49,50,51,52,53,54,55,56,57,32,33,34,35,36,38,39,40,41,42,43,44,45,46,47,58,59,60,61,62,63,64,91,92,93,94,95,96,123,124,125,126]
abbrev fx(x:Str)(i:Nat):Str×FC×Nat:=(x,[],i)
def M:Gm:={
 P:={cn:=("Program" :: "Line" :: "Always" :: "RowIs" :: "Last" :: "Like" :: "Soon" :: "FromTo" :: "Not" :: "End" :: "Mark" :: "Drop" :: "Print" :: "Done" :: "Say" :: "Swap" :: "Join" :: "Pile" :: "Bring" :: "Go" :: "Add" :: "Tell" :: "TextRow" :: "Truths" :: "Walker" :: "Scan" :: []),an:=("lines" :: "cond" :: "deed" :: "number" :: "pattern" :: "many" :: "first" :: "second" :: "inner" :: "name" :: "words" :: "every" :: "most" :: "shelf" :: "text" :: "known" :: "conds" :: "up" :: "behind_marks" :: "teller" :: "truths" :: "passed" :: "met" :: "taken" :: "hand" :: "hand_rows" :: "shelves" :: "sums" :: "noted" :: "log" :: "wanting" :: "rest" :: []),tab:=[[0],[1,2],[],[3],[],[4],[5,4],[6,7],[8],[],[9],[],[],[],[10],[4,10,11],[12],[13,12],[13],[9],[6,7],[],[14,3,15],[16,17],[0,18,19,20,21,22,23,24,25,26,27,28,29,30],[31,3]],sub:=[[0],[1],[2],[3],[4],[5],[6],[7],[8],[9],[10],[11],[12],[13],[14],[15],[16],[17],[18],[19],[20],[21],[22],[23],[24],[25]]},
 cs:=[("SIGNS",.str QG),("SMALL_LETTERS",.str [97,98,99,100,101,102,103,104,105,106,107,108,109,110,111,112,113,114,115,116,117,118,119,120,121,122]),("FIGURES",.str [48,49,50,51,52,53,54,55,56,57]),("MOST_ITEMS",.int 8),("MOST_SIGNS",.int 12),("NEVER_PLAIN",.str [94,36,46,91,93,42,43,63,47]),("NEVER_IN_A_SET",.str [93,94,47]),("ONCE",.str [49]),("HOW_MANY",.str [42,43,63]),("NOWHERE",.int<|-1),("MOST_FIGURES_pieces",.int 60),("COND_BEGINNINGS",.tup [.str [114,111,119,32],.str [108,97,115,116],.str [47],.str [115,111,111,110,32],.str [102,114,111,109,32],.str [110,111,116,32],.str [101,110,100]]),("MOST_ROW",.int 999),("MOST_FIGURES_linereading",.int 3),("MOST_SOON",.int 3),("LEAST_JOIN",.int 2),("MOST_SMALL",.int 9),("MOST_LETTERS",.int 8),("MOST_TEXT",.int 40),("MOST_LINES",.int 24)],
 fs:=(fx "cut" 0::fx "made_of" 1::fx "beginning_of" 2::fx "may_stand_plain" 3::fx "pattern" 4::fx "items_of" 5::fx "place_behind_core" 6::fx "many_at" 7::fx "item_of" 8::fx "is_written_plain" 9::fx "written" 10::fx "written_core" 11::fx "may_be_left_out" 12::fx "may_come_again" 13::("stretch",[.int 0],14)::fx "found" 15::fx "greatest_ends" 16::fx "ends_behind_items" 17::fx "ends_with_item" 18::fx "text_rows" 19::fx "holds" 20::fx "words_of" 21::fx "word_of" 22::fx "number_of" 23::fx "given_in" 24::fx "numbers_of_marks" 25::fx "walk" 26::fx "line_of" 27::fx "line_next" 28::fx "cond_next" 29::fx "plain_cond_next" 30::fx "row_or_pattern_next" 31::fx "deed_next" 32::fx "add_next" 33::fx "number_next" 34::fx "pattern_next" 35::fx "may_stand" 36::fx "read" 37::fx "lines_of" 38::fx "marks_of" 39::fx "refuse_go_without_mark" 40::fx "_law_cell_at" 41::fx "_law_whole" 42::fx "_law_name" 43::fx "_law_word" 44::fx "_law_row" 45::fx "_law_number" 46::fx "_law_add" 47::fx "_law_lines" 48::fx "_law_text" 49::fx "law" 50::[]),
 cl:=(("Program",.cp 0)::("Line",.fz 1 2)::("Always",.z0 2)::("Last",.z0 4)::("Like",.fz 5 1)::("End",.z0 9)::("Drop",.z0 11)::("Print",.z0 12)::("Done",.z0 13)::("Add",.fz 20 2)::("Tell",.z0 21)::("TextRow",.nw 22 55)::("Truths",.nw 23 57)::("Walker",.nw 24 60)::("Scan",.nw 25 75)::[]),
 ms:=(("has",[(22,56)])::("told_of",[(23,58)])::("truth",[(23,59)])::("want",[(24,61)])::("take",[(24,62)])::("take_with",[(24,63)])::("go_on",[(24,64)])::("meet",[(24,65)])::("finish",[(24,66)])::("find_none",[(24,67)])::("give",[(24,68)])::("end_turn",[(24,69)])::("give_hand_and_end",[(24,70)])::("do",[(24,71)])::("do_giving",[(24,72)])::("do_add",[(24,73)])::("do_tell",[(24,74)])::("passes",[(25,76)])::("must_pass",[(25,77)])::("while_made_of",[(25,78)])::("between",[(25,79)])::[]),
 bl:=["isinstance","len","all","any","str","int","list","range","enumerate","bool","dict","max","reversed","sorted","tuple"],bf:=["log","met","up","known","shelves","sums","noted"],bn:=["_law_boxes","_law_faults"],dn:=["_law_boxes"],fy:=[("_law_due",[7,8])]}
abbrev Fu(x:Str)(k:Nat)(N:Bi)(a:Nat)(u:Bi)(b:Bool):Fe:=⟨Y,x,x,top k,N,N.take a,u,b,[]⟩
abbrev Fm(c x q:Str)(k h:Nat)(N:Bi)(a:Nat):Fe:=⟨U c,x,q,inClass (top k) h,"self" :: N,"self" :: N.take a,[],Zb,[]⟩
def Ft:List Fe:=[
 Fu "cut" 2 ["text","rows"] 1 [] O,
 Fu "made_of" 39 ["text","signs"] 9 [] O,
 Fu "beginning_of" 40 ["text","signs","many"] 2 [] O,
 Fu "may_stand_plain" 48 ["sign"] 9 [] O,
 Fu "pattern" 49 ["text","front","body","back","items"] 1 [] O,
 Fu "items_of" 50 ["body","items","place","behind","many"] 1 ["items"] O,
 Fu "place_behind_core" 51 ["body","place","bracket"] 2 [] O,
 Fu "many_at" 52 ["body","place"] 9 [] O,
 Fu "item_of" 53 ["core","many"] 9 [] O,
 Fu "is_written_plain" 55 ["signs","others"] 9 [] O,
 Fu "written" 56 ["one","parts","signs","others","many"] 1 ["parts"] O,
 Fu "written_core" 57 ["signs","others"] 9 [] O,
 Fu "may_be_left_out" 60 ["item"] 9 [] O,
 Fu "may_come_again" 61 ["item"] 9 [] O,
 ⟨Y,"stretch","stretch",top 64,["one","row","start","ends","begin"],["one","row","start"],[],O,[.int 0]⟩,
 Fu "found" 65 ["one","row"] 9 [] O,
 Fu "greatest_ends" 66 ["one","row","ends","item"] 2 [] O,
 Fu "ends_behind_items" 67 ["row","back"] 9 [] O,
 Fu "ends_with_item" 68 ["item","row","behind","signs","others","again","ends","place","end"] 3 ["ends"] O,
 Fu "text_rows" 71 ["rows"] 9 [] Zb,
 Fu "holds" 73 ["cond","row"] 9 [] Zb,
 Fu "words_of" 79 ["hand"] 9 [] O,
 Fu "word_of" 80 ["hand","number","words"] 2 [] O,
 Fu "number_of" 81 ["word","figures"] 1 [] O,
 Fu "given_in" 84 ["log"] 9 [] O,
 Fu "numbers_of_marks" 85 ["lines","numbers","number","line"] 1 ["numbers"] O,
 Fu "walk" 87 ["program","text","rows","walker","number","row"] 2 [] O,
 Fu "line_of" 98 ["row","number","scan","line"] 2 [] O,
 Fu "line_next" 99 ["scan","cond"] 1 [] Zb,
 Fu "cond_next" 100 ["scan"] 9 [] Zb,
 Fu "plain_cond_next" 101 ["scan","many","first"] 1 [] Zb,
 Fu "row_or_pattern_next" 102 ["scan"] 9 [] Zb,
 Fu "deed_next" 103 ["scan"] 9 [] Zb,
 Fu "add_next" 106 ["scan","first"] 1 [] Zb,
 Fu "number_next" 107 ["scan","least","most","figures","number"] 3 [] Zb,
 Fu "pattern_next" 110 ["scan","text"] 1 [] Zb,
 Fu "may_stand" 111 ["cond","deed"] 9 [] O,
 Fu "read" 115 ["text","lines","marks"] 1 [] O,
 Fu "lines_of" 116 ["rows","lines","number","row"] 1 ["lines"] O,
 Fu "marks_of" 117 ["lines","marks","number","line"] 1 ["marks"] O,
 Fu "refuse_go_without_mark" 118 ["lines","marks","number","line"] 2 [] O,
 Fu "_law_cell_at" 120 ["_law_script","_law_k"] 9 [] O,
 Fu "_law_whole" 121 ["_law_told"] 9 [] O,
 Fu "_law_name" 122 ["_law_number_here","_law_some"] 1 [] O,
 Fu "_law_word" 123 ["_law_cell","_law_way","_law_rest"] 1 [] O,
 Fu "_law_row" 124 ["_law_cell","_law_row_here","_law_number_here","_law_k"] 1 [] O,
 Fu "_law_number" 125 ["_law_word_here","_law_figures"] 1 [] O,
 Fu "_law_add" 126 ["_law_line","_law_row_here","_law_at","_law_boxes","_law_faults","_law_words","_law_some"] 5 ["boxes"] Zb,
 Fu "_law_lines" 127 ["_law_script","_law_number_here","_law_lines_here","_law_cell","_law_most","_law_sign"] 2 ["_law_lines_here"] O,
 Fu "_law_text" 128 ["_law_line","_law_text_here"] 1 [] O,
 Fu "law" 129 ["_law_script","_law_number_here","_law_lines_here","_law_rows","_law_text_here","_law_told_end","_law_told","_law_boxes","_law_faults","_law_at","_law_due","_law_fault","_law_line","_law_name_here","_law_some"] 1 ["boxes"] O,
 Fm "Program" "__init__" "Program.__init__" 4 0 ["lines"] 9,
 Fm "Line" "__init__" "Line.__init__" 5 0 ["cond","deed"] 9,
 Fm "Like" "__init__" "Like.__init__" 10 0 ["pattern"] 9,
 Fm "Add" "__init__" "Add.__init__" 26 0 ["first","second"] 9,
 Fm "TextRow" "__init__" "TextRow.__init__" 70 0 ["text","number"] 9,
 Fm "TextRow" "has" "TextRow.has" 70 1 ["one","name"] 1,
 Fm "Truths" "__init__" "Truths.__init__" 72 0 ["lines"] 9,
 ⟨U "Truths","told_of","Truths.told_of",inClass (top 72) 1,["self","row","behind","truths","place","cond"],["self","row","behind"],["truths"],Zb,[]⟩,
 Fm "Truths" "truth" "Truths.truth" 72 2 ["place","cond","row","behind"] 9,
 Fm "Walker" "__init__" "Walker.__init__" 83 0 ["program"] 9,
 Fm "Walker" "want" "Walker.want" 83 1 [] 9,
 Fm "Walker" "take" "Walker.take" 83 2 ["row","behind"] 9,
 Fm "Walker" "take_with" "Walker.take_with" 83 3 ["text","truths"] 9,
 Fm "Walker" "go_on" "Walker.go_on" 83 4 [] 9,
 Fm "Walker" "meet" "Walker.meet" 83 5 ["line","number","truth"] 2,
 Fm "Walker" "finish" "Walker.finish" 83 7 ["line"] 0,
 Fm "Walker" "find_none" "Walker.find_none" 83 8 [] 9,
 Fm "Walker" "give" "Walker.give" 83 9 ["row"] 9,
 Fm "Walker" "end_turn" "Walker.end_turn" 83 10 [] 9,
 Fm "Walker" "give_hand_and_end" "Walker.give_hand_and_end" 83 11 [] 9,
 Fm "Walker" "do" "Walker.do" 83 12 ["deed","number"] 9,
 Fm "Walker" "do_giving" "Walker.do_giving" 83 13 ["deed"] 9,
 Fm "Walker" "do_add" "Walker.do_add" 83 19 ["deed","number","name","word","amount"] 2,
 Fm "Walker" "do_tell" "Walker.do_tell" 83 20 ["name"] 0,
 Fm "Scan" "__init__" "Scan.__init__" 97 0 ["row","number"] 9,
 Fm "Scan" "passes" "Scan.passes" 97 2 ["words"] 9,
 Fm "Scan" "must_pass" "Scan.must_pass" 97 3 ["words"] 9,
 Fm "Scan" "while_made_of" "Scan.while_made_of" 97 4 ["signs","taken"] 1,
 Fm "Scan" "between" "Scan.between" 97 5 ["sign","place","inside"] 1]
def It:JT:=[("Program",51),("Line",52),("Like",53),("Add",54),("TextRow",55),("Truths",57),("Walker",60),("Scan",75)]
abbrev cN:=iQ M Ft
set_option maxHeartbeats 0
abbrev TF:=(Nat->Fn)->Fn
abbrev WT(i:Nat)(t:TF):Prop:=∀n,cN (n+1) i=t (cN n)
def t0:TF:=λaj=>aS<|aG 1 2<|af (aN 1<|j9 splitM zA<|k1<|cS [10])
<|af (bB (b9<|oE (oI zB<|dF pW zI)<|cS [])
  (az<|bA fX<|k2 (lH zB rP<|jh<|dF pW zI)<|cF<|.bl O)
  aI)
<|az<|bA fX<|k2 zB<|cF<|.bl Zb
def w0:WT 0 t0:=λ_=>J
def t1:TF:=λaj=>aS<|aG 2 2<|az<|bA BL<|k1<|dB<|bQ (iL zA) 2 [1] (setG 1) dM<|a_ (aP .In) zB zC
def w1:WT 1 t1:=λ_=>J
def t2:TF:=λaj=>aS<|aG 2 3<|af (aN 2 zO)
<|af (kW many (pY (b9<|a_ (aP .Lt) zC<|bA cV<|k1 zA)<|b9<|a_ (aP .In) (oI zA zC) zB)
 <|IB iN 2 zI)
<|az<|lH zA rP<|jh zC
def w2:WT 2 t2:=λ_=>J
def t3:TF:=λaj=>aS<|aG 1 1<|az<|pZ (a_ (aP .In) zA<|cS QG)<|a_ (aP .NotIn) zA<|cS [94,36,46,91,93,42,43,63,47]
def w3:WT 3 t3:=λ_=>J
def t4:TF:=λaj=>aS<|aG 1 5<|af (bB (dS<|tB<|dF (IY "str") zA)
  cY
  aI)
<|af (bB (dS<|tB<|aq (aj 1) []<|k2 zA<|cS QG)
  cY
  aI)
<|af (aN 1<|j9 Ex zA<|k1<|cS [94])
<|af (aN 2<|u_ (tB zB) (lH zA (jh zI) rP) zA)
<|af (aN 3<|j9 YZ zC<|k1<|cS [36])
<|af (aN 4<|aq (aj 5) []<|k1<|u_ (tB zD) (lH zC rP<|jh<|dF pW zI) zC)
<|af (bB (b9<|a_ (aP .Gt) (bA cV<|k1<|vF 4)<|cI 8)
  cY
  aI)
<|az<|bA fX<|k3 zB (vF 4) zD
def w4:WT 4 t4:=λ_=>J
abbrev y5a(aj:Nat->Fn):FS:=af (aN 3<|aq (aj 6) []<|k2 zA zC)
<|af (aN 4<|aq (aj 7) []<|k2 zA zD)
<|af (mw 1<|aq (aj 8) []<|k2 (lH zA (jh zC)<|jh zD)<|vF 4)
<|aN 2<|u_ (b9<|oE (vF 4)<|cS [49]) zD<|oA zD zI
def t5:TF:=λaj=>aS<|aG 1 5<|af (mq 1<|nX cj)
<|af (aN 2 zO)
<|af (kW many (b9<|a_ (aP .Lt) zC<|bA cV<|k1 zA)
 <|y5a aj)
<|az zB
def w5:WT 5 t5:=λ_=>J
def t6:TF:=λaj=>aS<|aG 2 3<|af (bB (b9<|a_ (aP .NotEq) (oI zA zB)<|cS [91])
  (az<|oA zB zI)
  aI)
<|af (aN 2<|j9 zE zA<|k2 (cS [93]) zB)
<|af (bB (b9<|oE zC<|dF pW zI)
  cY
  aI)
<|az<|oA zC zI
def w6:WT 6 t6:=λ_=>J
def t7:TF:=λaj=>aS<|aG 2 2<|af (bB (pY (b9<|a_ (aP .Lt) zB<|bA cV<|k1 zA)<|b9<|a_ (aP .In) (oI zA zB)<|cS [42,43,63])
  (az<|oI zA zB)
  aI)
<|az<|cS [49]
def w7:WT 7 t7:=λ_=>J
def t8:TF:=λaj=>aS<|aG 2 2<|af (bB (b9<|oE zA<|cS [46])
  (az<|bA fX<|k3 (cS []) (cF<|.bl O) zB)
  aI)
<|af (bB (tB<|j9 Ex zA<|k1<|cS [91])
  (az aV)
  aI)
<|af (bB (dS<|tB<|aq (aj 3) []<|k1 zA)
  cY
  aI)
<|az<|bA fX<|k3 zA (cF<|.bl Zb) zB
def w8:WT 8 t8:=λ_=>J
def t9:TF:=λaj=>aS<|aG 2 2<|az<|pZ (BJ zB)<|pZ (oE (bA cV<|k1 zA) zI)<|aq (aj 3) []<|k1 zA
def w9:WT 9 t9:=λ_=>J
abbrev ZY(aj:Nat->Fn):FS:=af (mw 1<|aq (aj 11) []<|k2 zC zD)
<|mw 1<|u_ (b9<|oE (vF 4)<|cS [49]) (cS [])<|vF 4
def ZZ:TF:=λaj=>aS<|aG 1 5<|af (mq 1<|nX<|k1<|u_ (tB<|oI zA zO) (cS [94])<|cS [])
<|af (fq (I_<|oI zA zI) (eV [2,3,4])
 <|ZY aj)
<|af (mw 1<|u_ (tB<|oI zA<|cI 2) (cS [36])<|cS [])
<|az<|j9 joinM (cS [])<|k1 zB
def Yu:WT 10 ZZ:=λ_=>J
def Z3:TF:=λaj=>aS<|aG 2 2<|af (bB (b9<|oE zA<|cS [])
  (az<|cS [46])
  aI)
<|af (bB (tB zB)
  (az aV)
  aI)
<|af (bB (tB<|aq (aj 9) []<|k2 zA zB)
  (az zA)
  aI)
<|az aV
def w11:WT 11 Z3:=λ_=>J
def Z4:TF:=λaj=>aS<|aG 1 1<|az<|a_ (aP .In) (oI zA<|cI 2)<|bA fX<|k2 (cS [42])<|cS [63]
def Ų:WT 12 Z4:=λ_=>J
def Z5:TF:=λaj=>aS<|aG 1 1<|az<|a_ (aP .In) (oI zA<|cI 2)<|bA fX<|k2 (cS [42])<|cS [43]
def ų:WT 13 Z5:=λ_=>J
abbrev V5:FS:=bB (b9<|a_ (aP .NotEq) (oI zD<|vF 4)<|cI<|-1)
  (az<|bA fX<|k2 (vF 4)<|oI zD<|vF 4)
  aI
def Z6:TF:=λaj=>aS<|aG 3 5<|af (aN 3<|aq (aj 16) []<|k2 zA zB)
<|af (fq (ze mj<|k2 zC<|bA cV<|k1 zD) (setG 4)
  V5)
<|az<|cF .non
def Ŵ:WT 14 Z6:=λ_=>J
def Z7:TF:=λaj=>aS<|aG 2 2<|az<|a_ (aP .IsNot) (aq (aj 14) [(.int<|0)]<|k2 zA zB)<|cF .non
def ŵ:WT 15 Z7:=λ_=>J
def Z8:TF:=λaj=>aS<|aG 2 4<|af (aN 2<|aq (aj 17) []<|k2 zB<|oI zA<|cI 2)
<|af (fq (o1 PJ<|oI zA zI) (setG 3)
 <|aN 2<|aq (aj 18) []<|k3 zD zB zC)
<|az<|u_ (tB<|oI zA zO) (lH zC rP<|jh zI) zC
def Ŷ:WT 16 Z8:=λ_=>J
def Z9:TF:=λaj=>aS<|aG 2 2<|af (bB (tB zB)
  (az<|oA (a_ (bO .Mult) (bA jq<|k1<|cI<|-1)<|bA cV<|k1 zA)<|bA jq<|k1<|bA cV<|k1 zA)
  aI)
<|az<|dB<|o1 BW<|oA (bA cV<|k1 zA) zI
def ŷ:WT 17 Z9:=λ_=>J
abbrev Z_:FS:=bB (b9<|a_ (aP .NotEq) (a_ (aP .In) (oI zB<|vF 7) zD)<|vF 4)
  (af (aN 8<|oI zC<|oA (vF 7) zI)
<|af (bB (pY (tB<|vF 5)<|b9<|a_ (aP .Gt) (vc 6<|oA (vF 7) zI)<|vF 8)
  (aN 8<|vc 6<|oA (vF 7) zI)
  aI)
<|bB (b9<|a_ (aP .Gt) (vF 8)<|vc 6<|vF 7)
  (MP 6 (vF 7)<|vF 8)
  aI)
  aI
def À:TF:=λaj=>aS<|aG 3 9<|af (aN 3<|oI zA zO)
<|af (aN 4<|oI zA zI)
<|af (aN 5<|aq (aj 13) []<|k1 zA)
<|af (mq 6<|Xi (tB<|aq (aj 12) []<|k1 zA) (o1 Zn zC)<|o2 EZ (bA jq<|k1<|cI<|-1)<|bA cV<|k1 zC)
<|af (fq (ze BY<|k3 (a_ (bO .Sub) (bA cV<|k1 zB) zI) (dF pW zI)<|dF pW zI) (setG 7)
  Z_)
<|az<|vF 6
def Ÿ:WT 18 À:=λ_=>J
def Á:TF:=λaj=>aG 1 1<|az<|dB<|bQ (gI 1 zA) 3 [] (eV [1,2]) dM<|jr 22 (aj 55)<|k2 zC zB
def Ź:WT 19 Á:=λ_=>J
def Â:TF:=λaj=>aG 2 2<|af (bB (tB<|dF (iV M.P.sub [3]) zA)
  (az<|oE (aB M.P.tab 3 zA)<|aB M.P.tab 3 zB)
  aI)
<|af (bB (tB<|dF (iV M.P.sub [5]) zA)
  (az<|aD (aw [(22,56)] aj) zB<|k1<|aB M.P.tab 4 zA)
  aI)
<|az<|cF<|.bl O
def Ã:WT 20 Â:=λ_=>J
def Ä:TF:=λaj=>aS<|aG 1 1<|az<|dB<|bQ (iL<|j9 splitM zA<|k1<|cS [32]) 2 [] (setG 1) (b9<|a_ (aP .NotEq) zB<|cS []) zB
def ź:WT 21 Ä:=λ_=>J
def Å:TF:=λaj=>aS<|aG 2 3<|af (aN 2<|aq (aj 21) []<|k1 zA)
<|af (bB (b9<|a_ (aP .Gt) zB<|bA cV<|k1 zC)
  (az<|cF .non)
  aI)
<|az<|oI zC<|a_ (bO .Sub) zB zI
def Ż:WT 22 Å:=λ_=>J
def Æ:TF:=λaj=>aS<|aG 1 2<|af (aN 1<|u_ (tB<|j9 Ex zA<|k1<|cS [45]) (lH zA (jh zI) rP) zA)
<|af (bB (kT (b9<|oE zB<|cS [])<|kT (b9<|a_ (aP .Gt) (bA cV<|k1 zB)<|cI 60)<|dS<|tB<|aq (aj 1) []<|k2 zB<|cS [48,49,50,51,52,53,54,55,56,57])
  (az<|cF .non)
  aI)
<|az<|bA mz<|k1 zA
def ż:WT 23 Æ:=λ_=>J
def Ç:TF:=λaj=>aS<|aG 1 1<|az<|dB<|bQ (iL zA) 2 [] (setG 1) (b9<|oE (oI zB zO)<|cS zg)<|oI zB zI
def Ž:WT 24 Ç:=λ_=>J
abbrev È:FS:=bB (tB<|dF (iV M.P.sub [10])<|aB M.P.tab 2 zD)
  (MP 1 (aB M.P.tab 9<|aB M.P.tab 2 zD) zC)
  aI
def É:TF:=λaj=>aS<|aG 1 4<|af (vv 1)
<|af (fq (gI 1 zA) (eV [2,3])
  È)
<|az zB
def ž:WT 25 É:=λ_=>J
def Ê:TF:=λaj=>aS<|aG 2 6<|af (aN 2<|aq (aj 19) []<|k1<|oI (aq (aj 0) []<|k1 zB) zO)
<|af (aN 3<|jr 24 (aj 60)<|k1 zA)
<|af (fq (gI 1 zC) (eV [4,5])
 <|aQ<|aD (aw [(24,62)] aj) zD<|k2 (vF 5)<|lH zC (jh<|vF 4) rP)
<|af (aQ<|aD (aw [(24,66)] aj) zD cj)
<|az<|bA fX<|bH (aq (aj 24) []<|k1<|jB M.bc M.P.tab 29 zD)<|k3 (jB M.bc M.P.tab 27 zD) (jB M.bc M.P.tab 28 zD)<|jB M.bc M.P.tab 29 zD
def w26:WT 26 Ê:=λ_=>J
def Ë:TF:=λaj=>aS<|aG 2 4<|af (aN 2<|jr 25 (aj 75)<|k2 zA zB)
<|af (aN 3<|aq (aj 28) []<|k1 zC)
<|af (bB (kT (b9<|a_ (aP .NotEq) (aB M.P.tab 31 zC)<|cS [])<|dS<|tB<|aq (aj 36) []<|k2 (aB M.P.tab 1 zD)<|aB M.P.tab 2 zD)
  (aQ aV)
  aI)
<|az zD
def w27:WT 27 Ë:=λ_=>J
def Ì:TF:=λaj=>aG 1 2<|af (bB (tB<|aD (aw [(25,76)] aj) zA<|k1<|cS [109,97,114,107,32])
  (az<|iK 1 2<|k2 (iK 2 0 cj) aV)
  aI)
<|af (bB (dS<|tB<|bA IW<|k1<|dB<|bQ (iL<|cF<|.tup [(.str [114,111,119,32]),(.str [108,97,115,116]),(.str [47]),(.str [115,111,111,110,32]),(.str [102,114,111,109,32]),(.str [110,111,116,32]),(.str [101,110,100])]) 2 [0] (setG 1) dM<|j9 Ex (aB M.P.tab 31 zC)<|k1 zB)
  (az<|iK 1 2<|k2 (iK 2 0 cj)<|aq (aj 32) []<|k1 zA)
  aI)
<|af (aN 1<|aq (aj 29) []<|k1 zA)
<|af (aQ<|aD (aw [(25,77)] aj) zA<|k1<|cS [58,32])
<|az<|iK 1 2<|k2 zB<|aq (aj 32) []<|k1 zA
def w28:WT 28 Ì:=λ_=>J
def Í:TF:=λaj=>aG 1 1<|af (bB (tB<|aD (aw [(25,76)] aj) zA<|k1<|cS [101,110,100])
  (az<|iK 9 0 cj)
  aI)
<|af (bB (tB<|aD (aw [(25,76)] aj) zA<|k1<|cS [110,111,116,32])
  (az aV)
  aI)
<|az<|aq (aj 30) []<|k1 zA
def w29:WT 29 Í:=λ_=>J
def Î:TF:=λaj=>aG 1 3<|af (bB (tB<|aD (aw [(25,76)] aj) zA<|k1<|cS [108,97,115,116])
  (az<|iK 4 0 cj)
  aI)
<|af (bB (tB<|aD (aw [(25,76)] aj) zA<|k1<|cS [115,111,111,110,32])
  (af (aN 1<|aq (aj 34) []<|k3 zA zI<|cI 3)
<|af (aQ<|aD (aw [(25,77)] aj) zA<|k1<|cS [32])
<|az aV)
  aI)
<|af (bB (tB<|aD (aw [(25,76)] aj) zA<|k1<|cS [102,114,111,109,32])
  (af (aN 2<|aq (aj 31) []<|k1 zA)
<|af (aQ<|aD (aw [(25,77)] aj) zA<|k1<|cS [32,116,111,32])
<|az aV)
  aI)
<|az<|aq (aj 31) []<|k1 zA
def w30:WT 30 Î:=λ_=>J
def Ï:TF:=λaj=>aG 1 1<|af (bB (tB<|aD (aw [(25,76)] aj) zA<|k1<|cS [114,111,119,32])
  (az aV)
  aI)
<|az<|iK 5 1<|k1<|aq (aj 35) []<|k1 zA
def w31:WT 31 Ï:=λ_=>J
def Ð:TF:=λaj=>aG 1 1<|af (bB (tB<|aD (aw [(25,76)] aj) zA<|k1<|cS [100,114,111,112])
  (az<|iK 11 0 cj)
  aI)
<|af (bB (tB<|aD (aw [(25,76)] aj) zA<|k1<|cS [112,114,105,110,116])
  (az<|iK 12 0 cj)
  aI)
<|af (bB (tB<|aD (aw [(25,76)] aj) zA<|k1<|cS [100,111,110,101])
  (az<|iK 13 0 cj)
  aI)
<|af (bB (tB<|aD (aw [(25,76)] aj) zA<|k1<|cS [116,101,108,108])
  (az<|iK 21 0 cj)
  aI)
<|af (bB (tB<|aD (aw [(25,76)] aj) zA<|k1<|cS [115,97,121,32])
  (az aV)
  aI)
<|af (bB (tB<|aD (aw [(25,76)] aj) zA<|k1<|cS [115,119,97,112,32,101,118,101,114,121,32])
  (az aV)
  aI)
<|af (bB (tB<|aD (aw [(25,76)] aj) zA<|k1<|cS [115,119,97,112,32])
  (az aV)
  aI)
<|af (bB (tB<|aD (aw [(25,76)] aj) zA<|k1<|cS [106,111,105,110,32])
  (az aV)
  aI)
<|af (bB (tB<|aD (aw [(25,76)] aj) zA<|k1<|cS [112,105,108,101,32])
  (az aV)
  aI)
<|af (bB (tB<|aD (aw [(25,76)] aj) zA<|k1<|cS [98,114,105,110,103,32])
  (az aV)
  aI)
<|af (bB (tB<|aD (aw [(25,76)] aj) zA<|k1<|cS [103,111,32])
  (az aV)
  aI)
<|af (aQ<|aD (aw [(25,77)] aj) zA<|k1<|cS [97,100,100,32])
<|az<|aq (aj 33) []<|k1 zA
def w32:WT 32 Ð:=λ_=>J
def Ñ:TF:=λaj=>aG 1 2<|af (aN 1<|aq (aj 34) []<|k3 zA zI<|cI 9)
<|af (aQ<|aD (aw [(25,77)] aj) zA<|k1<|cS [32])
<|az<|iK 20 2<|k2 zB<|aq (aj 34) []<|k3 zA zI<|cI 9
def w33:WT 33 Ñ:=λ_=>J
def Ò:TF:=λaj=>aG 3 5<|af (aN 3<|aD (aw [(25,78)] aj) zA<|k1<|cS [48,49,50,51,52,53,54,55,56,57])
<|af (bB (kT (b9<|oE zD<|cS [])<|kT (tB<|j9 Ex zD<|k1<|cS [48])<|b9<|a_ (aP .Gt) (bA cV<|k1 zD)<|cI 3)
  (aQ aV)
  aI)
<|af (aN 4<|bA mz<|k1 zD)
<|af (bB (kT (b9<|a_ (aP .Lt) (vF 4) zB)<|b9<|a_ (aP .Gt) (vF 4) zC)
  (aQ aV)
  aI)
<|az<|vF 4
def w34:WT 34 Ò:=λ_=>J
def Ó:TF:=λaj=>aG 1 2<|af (aN 1<|aD (aw [(25,79)] aj) zA<|k1<|cS [47])
<|az<|aq (aj 4) []<|k1 zB
def w35:WT 35 Ó:=λ_=>J
def Ô:TF:=λaj=>aS<|aG 2 2<|af (bB (tB<|dF (iV M.P.sub [9]) zA)
  (az<|dF (iV M.P.sub [14,18,21]) zB)
  aI)
<|af (bB (tB<|dF (iV M.P.sub [15]) zB)
  (az aV)
  aI)
<|az<|BJ<|dF (iV M.P.sub [21]) zB
def w36:WT 36 Ô:=λ_=>J
def Õ:TF:=λaj=>aS<|aG 1 3<|af (aN 1<|aq (aj 38) []<|k1<|oI (aq (aj 0) []<|k1 zA) zO)
<|af (aN 2<|aq (aj 39) []<|k1 zB)
<|af (aQ<|aq (aj 40) []<|k2 zB zC)
<|az<|dF (OE 0) zB
def w37:WT 37 Õ:=λ_=>J
abbrev V6(aj:Nat->Fn):FS:=af (bB (b9<|a_ (aP .Gt) zC<|cI 24)
  cY
  aI)
<|mw 1<|aq (aj 27) []<|k2 zD zC
def Ö:TF:=λaj=>aS<|aG 1 4<|af (mq 1<|nX cj)
<|af (fq (gI 1 zA) (eV [2,3])
 <|V6 aj)
<|az zB
def w38:WT 38 Ö:=λ_=>J
abbrev Ø:FS:=bB (tB<|dF (iV M.P.sub [10])<|aB M.P.tab 2 zD)
  (af (bB (b9<|EN Zb 1<|aB M.P.tab 9<|aB M.P.tab 2 zD)
  cY
  aI)
<|MP 1 (aB M.P.tab 9<|aB M.P.tab 2 zD)<|cF<|.bl O)
  aI
def Ù:TF:=λaj=>aS<|aG 1 4<|af (vv 1)
<|af (fq (gI 1 zA) (eV [2,3])
  Ø)
<|az zB
def w39:WT 39 Ù:=λ_=>J
abbrev Ú:FS:=bB (pY (tB<|dF (iV M.P.sub [19])<|aB M.P.tab 2 zD)<|b9<|a_ (aP .NotIn) (aB M.P.tab 9<|aB M.P.tab 2 zD) zB)
  cY
  aI
def Û:TF:=λaj=>aS<|aG 2 4<|fq (gI 1 zA) (eV [2,3])
  Ú
def w40:WT 40 Û:=λ_=>J
def Ü:TF:=λaj=>aS<|aG 2 2<|af (bB (b9<|a_ (aP .Lt) zB<|bA cV<|k1 zA)
  (az<|oI zA zB)
  aI)
<|az zO
def w41:WT 41 Ü:=λ_=>J
def Ý:TF:=λaj=>aS<|aG 1 1<|az<|pZ (dF (IY "int") zA)<|BJ<|dF (IY "bool") zA
def w42:WT 42 Ý:=λ_=>J
def Þ:TF:=λaj=>aS<|aG 1 2<|af (aN 1<|cS [97,98,99,100,101,102,103,104,105,106,107,108,109,110,111,112,113,114,115,116,117,118,119,120,121,122,65,66,67,68,69,70,71,72,73,74,75,76,77,78,79,80,81,82,83,84,85,86,87,88,89,90,33,35,38,39,40,41,44,58,59,60,61,62,64,95,123,124,125,126])
<|az<|j9 joinM (cS [])<|k1<|dB<|bQ (ze mj<|k1<|oA zI<|oM zA<|cI 2) 2 [0,1] (setG 1) dM<|oI zD<|oM (oD zC<|oA zI<|a_ (bO .Mult) (cI 71) zB)<|bA cV<|k1 zD
def w43:WT 43 Þ:=λ_=>J
def ß:TF:=λaj=>aS<|aG 1 3<|af (aN 1<|oM zA<|cI 8)
<|af (aN 2<|oD zA<|cI 8)
<|af (bB (b9<|oE zB zO)
  (az<|bA strN<|k1<|oM (a_ (bO .Mult) zC<|cI 982451653)<|a_ (bO .Pow) (cI 10)<|cI 60)
  aI)
<|af (bB (b9<|oE zB zI)
  (az<|oA (cS [45])<|bA strN<|k1<|oM zC<|cI 1000)
  aI)
<|af (bB (b9<|oE zB<|cI 2)
  (az<|oA (oI (bA jq<|k3 (cS [48]) (cS [48,48])<|cS [])<|oM zC<|cI 3)<|bA strN<|k1<|oM (oD zC<|cI 3)<|cI 100)
  aI)
<|af (bB (b9<|oE zB<|cI 3)
  (az<|oI (bA jq<|bH (a_ (bO .Mult) (cS [57])<|cI 60)<|bH (a_ (bO .Mult) (cS [57])<|cI 61)<|bH (cS [45])<|bH (cS [45,45,53])<|bH (cS [53,45])<|bH (cS [43,53])<|bH (cS [49,46,48])<|k3 (cS [45,48]) (oA (cS [45])<|a_ (bO .Mult) (cS [48])<|cI 61)<|oA (cS [45])<|a_ (bO .Mult) (cS [55])<|cI 60)<|oM zC<|cI 10)
  aI)
<|az<|aq (aj 43) []<|k1<|oA (oM zC<|cI 3)<|a_ (bO .Mult) (cI 71)<|oM zC<|cI 2
def w44:WT 44 ß:=λ_=>J
abbrev V7(aj:Nat->Fn):FS:=af (aN 2<|oM (a_ (bO .Mult) zC<|cI 48271)<|oA (oA (a_ (bO .Pow) (cI 10)<|cI 40)<|cI 7)<|a_ (bO .Mult) (a_ (bO .Mult) (cI 2) zD) zD)
<|aN 1<|oA (oA zB<|aq (aj 44) []<|k1 zC)<|oI (bA jq<|k2 (cS [32])<|cS [32,32])<|oM (oD zC<|cI 5)<|cI 2
def à:TF:=λaj=>aS<|aG 1 4<|af (aN 1<|oI (bA jq<|k2 (cS [32])<|cS [])<|oM (oD zA<|cI 6)<|cI 2)
<|af (aN 2 zA)
<|af (fq (ze mj<|k1<|oM zA<|cI 6) (setG 3)
 <|V7 aj)
<|af (bB (b9<|oE (oM (oD zA<|cI 12)<|cI 2) zO)
  (az<|dF Ag zB)
  aI)
<|az zB
def w45:WT 45 à:=λ_=>J
def á:TF:=λaj=>aS<|aG 1 2<|af (aN 1<|lH zA (jh<|bA mz<|k1<|j9 Ex zA<|k1<|cS [45]) rP)
<|af (bB (kT (b9<|a_ (aP .Lt) (bA cV<|k1 zB) zI)<|kT (b9<|a_ (aP .Gt) (bA cV<|k1 zB)<|cI 60)<|dS<|tB<|bA BL<|k1<|dB<|bQ (iL zB) 2 [] (setG 1) dM<|a_ (aP .In) zB<|cS [48,49,50,51,52,53,54,55,56,57])
  (az<|cF .non)
  aI)
<|az<|bA mz<|k1 zA
def w46:WT 46 á:=λ_=>J
def â:TF:=λaj=>aG 5 7<|af (aN 5<|dB<|bQ (iL<|j9 splitM zB<|k1<|cS [32]) 2 [] (setG 1) (b9<|a_ (aP .NotEq) zB<|cS []) zB)
<|af (aN 6<|cF .non)
<|af (bB (b9<|a_ (aP .LtE) (bA E2<|k2 (oI zA zO)<|oI zA zI)<|bA cV<|k1<|vF 5)
  (aN 6<|aq (aj 46) []<|k1<|oI (vF 5)<|a_ (bO .Sub) (oI zA zI) zI)
  aI)
<|bB (b9<|a_ (aP .Is) (vF 6)<|cF .non)
  (fF M.bc (vF 4)<|bA fX<|k2 (oA zC zI)<|oI zA<|cI 3)
 <|qa M.bc zD (oI (vF 5)<|a_ (bO .Sub) (oI zA zO) zI)<|oA (sC M.bc zD (oI (vF 5)<|a_ (bO .Sub) (oI zA zO) zI) zO)<|vF 6
def w47:WT 47 â:=λ_=>J
abbrev V8:FS:=af (aN 4<|oI (bA jq<|k2 (cI 9)<|cI 3)<|oM (oD zB<|cI 7)<|cI 2)
<|af (aN 5<|oI (bA jq<|bH (cS [])<|k3 (cS []) (cS [97])<|cS [98])<|oM zD<|cI 4)
<|mw 2<|bA fX<|bH (oA zI<|oM (oD zD<|cI 4)<|vF 4)<|k3 (oA zI<|oM (oD zD<|a_ (bO .Mult) (cI 4)<|vF 4)<|vF 4) (vF 5)<|oA (BZ 2) zI
def ã:TF:=λaj=>aS<|aG 2 6<|af (mq 2<|nX cj)
<|af (fq (iL<|lH zA (jh zI)<|jh<|oA zI<|oM zB<|cI 7) (setG 3)
  V8)
<|az zC
def w48:WT 48 ã:=λ_=>J
def ä:TF:=λaj=>aS<|aG 1 2<|af (aN 1<|oA (oA (oA (oA (cS [97,100,100,32])<|bA strN<|k1<|oI zA zO)<|cS [32])<|bA strN<|k1<|oI zA zI)<|cS [10])
<|af (bB (b9<|oE (oI zA<|cI 2)<|cS [])
  (az zB)
  aI)
<|az<|oA (oA (oA (cS [47])<|oI zA<|cI 2)<|cS [47,58,32]) zB
def w49:WT 49 ä:=λ_=>J
abbrev QH(aj:Nat->Fn):FS:=bB (b9<|a_ (aP .In) (oI (vF 12)<|cI 2)<|oI zD<|vF 9)
  (aQ<|aq (aj 47) []<|bH (vF 12)<|bH (oI zD<|vF 9)<|k3 (vF 9) (vF 7)<|vF 8)
  aI
abbrev å(aj:Nat->Fn):FS:=bB (kT (dS<|tB<|dF (IY "str")<|vF 13)<|dS<|tB<|aq (aj 42) []<|k1<|vF 14)
  (az<|cF<|.bl Zb)
  aI
abbrev æ(aj:Nat->Fn):FS:=bB (kT (dS<|tB<|dF (IY "tuple")<|vF 11)<|kT (b9<|a_ (aP .NotEq) (bA cV<|k1<|vF 11)<|cI 2)<|kT (dS<|tB<|aq (aj 42) []<|k1<|oI (vF 11) zO)<|dS<|tB<|aq (aj 42) []<|k1<|oI (vF 11) zI)
  (az<|cF<|.bl Zb)
  aI
def ç:TF:=λaj=>aS<|aG 1 15<|af (aN 1<|aq (aj 41) []<|k2 zA zO)
<|af (aN 2<|aq (aj 48) []<|k2 zA zB)
<|af (aN 3<|dB<|bQ (iL<|lH zA (jh<|cI 7)<|jh<|cI 37) 2 [] (setG 1) dM<|aq (aj 45) []<|k1 zB)
<|af (aN 4<|j9 joinM (cS [])<|k1<|dB<|bQ (iL zC) 2 [] (setG 1) dM<|aq (aj 49) []<|k1 zB)
<|af (aN 5<|oE (oM (oD zB<|cI 14)<|cI 2) zI)
<|af (aN 6<|aq (aj 26) []<|k2 (aq (aj 37) []<|k1<|oA (vF 4)<|a_ (bO .Mult) (cS [101,110,100,58,32,116,101,108,108,10])<|bA mz<|k1<|vF 5)<|j9 joinM (cS [])<|k1<|dB<|bQ (iL zD) 2 [] (setG 1) dM<|oA zB<|cS [10])
<|af (aN 7<|ki M.bc)
<|af (aN 8<|nS M.bc<|nX cj)
<|af (fq (ze mj<|k1<|bA cV<|k1 zD) (setG 9)
 <|fq (iL zC) (setG 12)
 <|QH aj)
<|af (B4 M.bc 7<|B4 M.bc 8<|aN 10<|oA zD<|a_ (bO .Mult) (dB<|bQ (iL<|B3<|vF 7) 2 [7] (setG 1) dM<|oA (oA zB<|cS [32])<|bA strN<|k1<|a_ u7 zC zB)<|bA mz<|k1<|vF 5)
<|af (bB (kT (dS<|tB<|dF (IY "tuple")<|vF 6)<|kT (b9<|a_ (aP .NotEq) (bA cV<|k1<|vF 6)<|cI 4)<|kT (dS<|tB<|dF P1<|oI (vF 6) zI)<|dS<|tB<|dF (IY "list")<|oI (vF 6)<|cI 2)
  (az<|cF<|.bl Zb)
  aI)
<|af (fq (PZ<|oI (vF 6) zI) (eV [13,14])
 <|å aj)
<|af (fq (iL<|oI (vF 6)<|cI 2) (setG 11)
 <|æ aj)
<|az<|pZ (oE (oI (vF 6) zO)<|vF 10)<|pZ (a_ B5 (oI (vF 6) zI)<|vF 7)<|oE (oI (vF 6)<|cI 2)<|vF 8
def w50:WT 50 ç:=λ_=>J
def è:TF:=λaj=>aG 2 2<|aL M.P.tab 0 zA<|bA zF<|k1 zB
def w51:WT 51 è:=λ_=>J
def é:TF:=λaj=>aG 3 3<|af (aL M.P.tab 1 zA zB)
<|aL M.P.tab 2 zA zC
def w52:WT 52 é:=λ_=>J
def ê:TF:=λaj=>aG 2 2<|aL M.P.tab 4 zA zB
def w53:WT 53 ê:=λ_=>J
def ë:TF:=λaj=>aG 3 3<|af (aL M.P.tab 6 zA zB)
<|aL M.P.tab 7 zA zC
def w54:WT 54 ë:=λ_=>J
def ì:TF:=λaj=>aG 3 3<|af (aL M.P.tab 14 zA zB)
<|af (aL M.P.tab 3 zA zC)
<|aL M.P.tab 15 zA<|ki M.bc
def w55:WT 55 ì:=λ_=>J
def í:TF:=λaj=>aG 2 3<|af (aN 2<|aq (aj 10) []<|k1 zB)
<|af (bB (b9<|sA M.bc O zC<|aB M.P.tab 15 zA)
  (qa M.bc (aB M.P.tab 15 zA) zC<|aq (aj 15) []<|k2 zB<|aB M.P.tab 14 zA)
  aI)
<|az<|BU M.bc (aB M.P.tab 15 zA) zC
def w56:WT 56 í:=λ_=>J
def î:TF:=λaj=>aG 2 2<|af (aL M.P.tab 16 zA<|dB<|bQ (iL zB) 2 [] (setG 1) dM<|aB M.P.tab 1 zB)
<|aL M.P.tab 17 zA<|ki M.bc
def w57:WT 57 î:=λ_=>J
def ï:TF:=λaj=>aG 3 6<|af (mq 3<|nX cj)
<|af (fq (gI 0<|aB M.P.tab 16 zA) (eV [4,5])
 <|mw 3<|aD (aw [(23,59)] aj) zA<|bH (vF 4)<|k3 (vF 5) zB zC)
<|az zD
def w58:WT 58 ï:=λ_=>J
def ð:TF:=λaj=>aG 5 5<|af (bB (tB<|dF (iV M.P.sub [8]) zC)
  (az<|BJ<|aD (aw [(23,59)] aj) zA<|bH zB<|k3 (aB M.P.tab 8 zC) zD<|vF 4)
  aI)
<|af (bB (tB<|dF (iV M.P.sub [7]) zC)
  (az aV)
  aI)
<|af (bB (tB<|dF (iV M.P.sub [4]) zC)
  (az<|oE (bA cV<|k1<|vF 4) zO)
  aI)
<|af (bB (tB<|dF (iV M.P.sub [6]) zC)
  (az<|bA IW<|k1<|dB<|bQ (iL<|lH (vF 4) rP<|jh<|aB M.P.tab 5 zC) 2 [2] (setG 1) dM<|aD (aw [(22,56)] aj) zB<|k1<|aB M.P.tab 4 zC)
  aI)
<|az<|aq (aj 20) []<|k2 zC zD
def ñ:WT 59 ð:=λ_=>J
def ò:TF:=λaj=>aG 2 2<|af (aL M.P.tab 0 zA<|bA zF<|k1<|aB M.P.tab 0 zB)
<|af (aL M.P.tab 18 zA<|aq (aj 25) []<|k1<|aB M.P.tab 0 zA)
<|af (aL M.P.tab 19 zA<|jr 23 (aj 57)<|k1<|aB M.P.tab 0 zA)
<|af (aL M.P.tab 20 zA<|bA jq cj)
<|af (aL M.P.tab 21 zA zO)
<|af (aL M.P.tab 22 zA<|ki M.bc)
<|af (aL M.P.tab 23 zA zO)
<|af (aL M.P.tab 24 zA<|cF .non)
<|af (aL M.P.tab 25 zA zO)
<|af (aL M.P.tab 26 zA<|ki M.bc)
<|af (aL M.P.tab 27 zA<|ki M.bc)
<|af (aL M.P.tab 28 zA<|nS M.bc<|nX cj)
<|af (aL M.P.tab 29 zA<|nS M.bc<|nX cj)
<|af (aL M.P.tab 30 zA<|cF<|.bl Zb)
<|aQ<|aD (aw [(24,61)] aj) zA cj
def w60:WT 60 ò:=λ_=>J
def ó:TF:=λaj=>aG 1 1<|af (fF M.bc (aB M.P.tab 29 zA)<|bA fX<|k2 (cS [119,97,110,116])<|oA (aB M.P.tab 23 zA) zI)
<|aL M.P.tab 30 zA<|cF<|.bl O
def w61:WT 61 ó:=λ_=>J
def ô:TF:=λaj=>aG 3 3<|aQ<|aD (aw [(24,63)] aj) zA<|k2 (aB M.P.tab 14 zB)<|aD (aw [(23,58)] aj) (aB M.P.tab 19 zA)<|k2 zB zC
def w62:WT 62 ô:=λ_=>J
def õ:TF:=λaj=>aG 3 3<|af (vB M.P.tab 23 iN zA zI)
<|af (fF M.bc (aB M.P.tab 29 zA)<|bA fX<|k2 (cS [116,97,107,101])<|aB M.P.tab 23 zA)
<|af (aL M.P.tab 24 zA<|u_ (b9<|a_ (aP .Is) (aB M.P.tab 24 zA)<|cF .non) zB<|oA (oA (aB M.P.tab 24 zA)<|cS [32]) zB)
<|af (vB M.P.tab 25 iN zA zI)
<|af (aL M.P.tab 20 zA zC)
<|af (aL M.P.tab 22 zA<|ki M.bc)
<|af (aL M.P.tab 30 zA<|cF<|.bl Zb)
<|kW many (dS<|tB<|aB M.P.tab 30 zA)
 <|aQ<|aD (aw [(24,64)] aj) zA cj
def w63:WT 63 õ:=λ_=>J
def ö:TF:=λaj=>aG 1 1<|bB (b9<|oE (aB M.P.tab 21 zA)<|bA cV<|k1<|aB M.P.tab 0 zA)
  (aQ<|aD (aw [(24,70)] aj) zA cj)
 <|af (vB M.P.tab 21 iN zA zI)
<|aQ<|aD (aw [(24,65)] aj) zA<|k2 (a_ u7 (aB M.P.tab 0 zA)<|a_ (bO .Sub) (aB M.P.tab 21 zA) zI)<|aB M.P.tab 21 zA
def ø:WT 64 ö:=λ_=>J
def ù:TF:=λaj=>aG 3 4<|af (bB (tB<|dF (iV M.P.sub [9])<|aB M.P.tab 1 zB)
  (az<|cF .non)
  aI)
<|af (bB (b9<|sA M.bc Zb zC<|aB M.P.tab 22 zA)
  cY
  aI)
<|af (qa M.bc (aB M.P.tab 22 zA) zC<|cF<|.bl O)
<|af (aN 3<|a_ u7 (aB M.P.tab 20 zA)<|a_ (bO .Sub) zC zI)
<|af (fF M.bc (aB M.P.tab 29 zA)<|bA fX<|k3 (cS [109,101,101,116]) zC zD)
<|bB (tB zD)
  (aQ<|aD (aw [(24,71)] aj) zA<|k2 (aB M.P.tab 2 zB) zC)
  aI
def ú:WT 65 ù:=λ_=>J
abbrev V9(aj:Nat->Fn):FS:=bB (tB<|dF (iV M.P.sub [9])<|aB M.P.tab 1 zB)
  (aQ<|aD (aw [(24,72)] aj) zA<|k1<|aB M.P.tab 2 zB)
  aI
def û:TF:=λaj=>aG 1 2<|af (aQ<|aD (aw [(24,67)] aj) zA cj)
<|af (bB (b9<|a_ (aP .IsNot) (aB M.P.tab 24 zA)<|cF .non)
  (af (aQ<|aD (aw [(24,70)] aj) zA cj)
<|aQ<|aD (aw [(24,67)] aj) zA cj)
  aI)
<|af (fF M.bc (aB M.P.tab 29 zA)<|bA fX<|k1<|cS [101,110,100])
<|fq (iL<|aB M.P.tab 0 zA) (setG 1)
 <|V9 aj
def w66:WT 66 û:=λ_=>J
def ü:TF:=λaj=>aG 1 1<|fF M.bc (aB M.P.tab 29 zA)<|bA fX<|k2 (cS [110,111,110,101])<|oA (aB M.P.tab 23 zA) zI
def w67:WT 67 ü:=λ_=>J
def ý:TF:=λaj=>aG 2 2<|fF M.bc (aB M.P.tab 29 zA)<|bA fX<|k2 (cS zg) zB
def w68:WT 68 ý:=λ_=>J
def þ:TF:=λaj=>aG 1 1<|af (fF M.bc (aB M.P.tab 29 zA)<|bA fX<|k1<|cS [111,118,101,114])
<|af (aL M.P.tab 24 zA<|cF .non)
<|af (aL M.P.tab 25 zA zO)
<|af (aL M.P.tab 21 zA zO)
<|aQ<|aD (aw [(24,61)] aj) zA cj
def w69:WT 69 þ:=λ_=>J
def ÿ:TF:=λaj=>aG 1 1<|af (aQ<|aD (aw [(24,68)] aj) zA<|k1<|aB M.P.tab 24 zA)
<|aQ<|aD (aw [(24,69)] aj) zA cj
def w70:WT 70 ÿ:=λ_=>J
def Ā:TF:=λaj=>aG 3 3<|bB (tB<|dF (iV M.P.sub [11]) zB)
  (aQ<|aD (aw [(24,69)] aj) zA cj)
 <|bB (tB<|dF (iV M.P.sub [12]) zB)
  (aQ<|aD (aw [(24,68)] aj) zA<|k1<|aB M.P.tab 24 zA)
 <|bB (tB<|dF (iV M.P.sub [13]) zB)
  (aQ<|aD (aw [(24,70)] aj) zA cj)
 <|bB (tB<|dF (iV M.P.sub [15]) zB)
  (aQ aV)
 <|bB (tB<|dF (iV M.P.sub [16]) zB)
  (aQ aV)
 <|bB (tB<|dF (iV M.P.sub [17]) zB)
  (aQ aV)
 <|bB (tB<|dF (iV M.P.sub [19]) zB)
  (aL M.P.tab 21 zA<|a_ u7 (aB M.P.tab 18 zA)<|aB M.P.tab 9 zB)
 <|bB (tB<|dF (iV M.P.sub [20]) zB)
  (aQ<|aD (aw [(24,73)] aj) zA<|k2 zB zC)
 <|bB (dS<|tB<|dF (iV M.P.sub [10]) zB)
  (aQ<|aD (aw [(24,72)] aj) zA<|k1 zB)
  aI
def w71:WT 71 Ā:=λ_=>J
def ā:TF:=λaj=>aG 2 2<|bB (tB<|dF (iV M.P.sub [14]) zB)
  (aQ<|aD (aw [(24,68)] aj) zA<|k1<|aB M.P.tab 10 zB)
 <|bB (tB<|dF (iV M.P.sub [18]) zB)
  (aQ aV)
 <|bB (tB<|dF (iV M.P.sub [21]) zB)
  (aQ<|aD (aw [(24,74)] aj) zA cj)
  aI
def w72:WT 72 ā:=λ_=>J
def Ă:TF:=λaj=>aG 3 6<|af (aN 3<|aq (aj 22) []<|k2 (aB M.P.tab 24 zA)<|aB M.P.tab 6 zB)
<|af (aN 4<|aq (aj 22) []<|k2 (aB M.P.tab 24 zA)<|aB M.P.tab 7 zB)
<|af (aN 5<|u_ (b9<|a_ (aP .Is) (vF 4)<|cF .non) (cF .non)<|aq (aj 23) []<|k1<|vF 4)
<|bB (kT (b9<|a_ (aP .Is) zD<|cF .non)<|b9<|a_ (aP .Is) (vF 5)<|cF .non)
  (fF M.bc (aB M.P.tab 28 zA)<|bA fX<|k2 (aB M.P.tab 23 zA) zC)
 <|qa M.bc (aB M.P.tab 27 zA) zD<|oA (sC M.bc (aB M.P.tab 27 zA) zD zO)<|vF 5
def w73:WT 73 Ă:=λ_=>J
abbrev V_(aj:Nat->Fn):FS:=aQ<|aD (aw [(24,68)] aj) zA<|k1<|oA (oA zB<|cS [32])<|bA strN<|k1<|BU M.bc (aB M.P.tab 27 zA) zB
def ă:TF:=λaj=>aG 1 2<|fq (iL<|Ff M.bc<|aB M.P.tab 27 zA) (setG 1)
 <|V_ aj
def w74:WT 74 ă:=λ_=>J
def Ą:TF:=λaj=>aG 3 3<|af (aL M.P.tab 31 zA zB)
<|aL M.P.tab 3 zA zC
def w75:WT 75 Ą:=λ_=>J
def ą:TF:=λaj=>aG 2 2<|af (bB (dS<|tB<|j9 Ex (aB M.P.tab 31 zA)<|k1 zB)
  (az<|cF<|.bl Zb)
  aI)
<|af (aL M.P.tab 31 zA<|lH (aB M.P.tab 31 zA) (jh<|bA cV<|k1 zB) rP)
<|az<|cF<|.bl O
def w76:WT 76 ą:=λ_=>J
def Ć:TF:=λaj=>aG 2 2<|bB (dS<|tB<|aD (aw [(25,76)] aj) zA<|k1 zB)
  (aQ aV)
  aI
def w77:WT 77 Ć:=λ_=>J
def ć:TF:=λaj=>aG 2 3<|af (aN 2<|aq (aj 2) []<|k2 (aB M.P.tab 31 zA) zB)
<|af (aL M.P.tab 31 zA<|lH (aB M.P.tab 31 zA) (jh<|bA cV<|k1 zC) rP)
<|az zC
def w78:WT 78 ć:=λ_=>J
def Ĉ:TF:=λaj=>aG 2 4<|af (aQ<|aD (aw [(25,77)] aj) zA<|k1 zB)
<|af (aN 2<|j9 zE (aB M.P.tab 31 zA)<|k1 zB)
<|af (bB (b9<|oE zC<|dF pW zI)
  (aQ aV)
  aI)
<|af (aN 3<|lH (aB M.P.tab 31 zA) rP<|jh zC)
<|af (aL M.P.tab 31 zA<|lH (aB M.P.tab 31 zA) (jh<|oA zC zI) rP)
<|az zD
def w79:WT 79 Ĉ:=λ_=>J
def eKL:List<|(Nat->Fn)->Fn:=[t0,t1,t2,t3,t4,t5,t6,t7,t8,t9,ZZ,Z3,Z4,Z5,Z6,Z7,Z8,Z9,À,Á,Â,Ä,Å,Æ,Ç,É,Ê,Ë,Ì,Í,Î,Ï,Ð,Ñ,Ò,Ó,Ô,Õ,Ö,Ù,Û,Ü,Ý,Þ,ß,à,á,â,ã,ä,ç,è,é,ê,ë,ì,í,î,ï,ð,ò,ó,ô,õ,ö,ù,û,ü,ý,þ,ÿ,Ā,ā,Ă,ă,Ą,ą,Ć,ć,Ĉ]
def eK:Nat->Nat->Fn
 |0,_=>noFn
 |n+1,i=>match eKL[i]? with
  |some f=>f<|eK n
  |none=>noFn
theorem vW:∀n i,cN n i=eK n i
 |0,_=>J
 |n+1,i=>by
  have e:cN n=eK n:=He<|vW n;by_cases h:i<80
  .match i,h with
   |0,_=>exact(w0 n).trans<|cm t0 e
   |1,_=>exact(w1 n).trans<|cm t1 e
   |2,_=>exact(w2 n).trans<|cm t2 e
   |3,_=>exact(w3 n).trans<|cm t3 e
   |4,_=>exact(w4 n).trans<|cm t4 e
   |5,_=>exact(w5 n).trans<|cm t5 e
   |6,_=>exact(w6 n).trans<|cm t6 e
   |7,_=>exact(w7 n).trans<|cm t7 e
   |8,_=>exact(w8 n).trans<|cm t8 e
   |9,_=>exact(w9 n).trans<|cm t9 e
   |10,_=>exact(Yu n).trans<|cm ZZ e
   |11,_=>exact(w11 n).trans<|cm Z3 e
   |12,_=>exact(Ų n).trans<|cm Z4 e
   |13,_=>exact(ų n).trans<|cm Z5 e
   |14,_=>exact(Ŵ n).trans<|cm Z6 e
   |15,_=>exact(ŵ n).trans<|cm Z7 e
   |16,_=>exact(Ŷ n).trans<|cm Z8 e
   |17,_=>exact(ŷ n).trans<|cm Z9 e
   |18,_=>exact(Ÿ n).trans<|cm À e
   |19,_=>exact(Ź n).trans<|cm Á e
   |20,_=>exact(Ã n).trans<|cm Â e
   |21,_=>exact(ź n).trans<|cm Ä e
   |22,_=>exact(Ż n).trans<|cm Å e
   |23,_=>exact(ż n).trans<|cm Æ e
   |24,_=>exact(Ž n).trans<|cm Ç e
   |25,_=>exact(ž n).trans<|cm É e
   |26,_=>exact(w26 n).trans<|cm Ê e
   |27,_=>exact(w27 n).trans<|cm Ë e
   |28,_=>exact(w28 n).trans<|cm Ì e
   |29,_=>exact(w29 n).trans<|cm Í e
   |30,_=>exact(w30 n).trans<|cm Î e
   |31,_=>exact(w31 n).trans<|cm Ï e
   |32,_=>exact(w32 n).trans<|cm Ð e
   |33,_=>exact(w33 n).trans<|cm Ñ e
   |34,_=>exact(w34 n).trans<|cm Ò e
   |35,_=>exact(w35 n).trans<|cm Ó e
   |36,_=>exact(w36 n).trans<|cm Ô e
   |37,_=>exact(w37 n).trans<|cm Õ e
   |38,_=>exact(w38 n).trans<|cm Ö e
   |39,_=>exact(w39 n).trans<|cm Ù e
   |40,_=>exact(w40 n).trans<|cm Û e
   |41,_=>exact(w41 n).trans<|cm Ü e
   |42,_=>exact(w42 n).trans<|cm Ý e
   |43,_=>exact(w43 n).trans<|cm Þ e
   |44,_=>exact(w44 n).trans<|cm ß e
   |45,_=>exact(w45 n).trans<|cm à e
   |46,_=>exact(w46 n).trans<|cm á e
   |47,_=>exact(w47 n).trans<|cm â e
   |48,_=>exact(w48 n).trans<|cm ã e
   |49,_=>exact(w49 n).trans<|cm ä e
   |50,_=>exact(w50 n).trans<|cm ç e
   |51,_=>exact(w51 n).trans<|cm è e
   |52,_=>exact(w52 n).trans<|cm é e
   |53,_=>exact(w53 n).trans<|cm ê e
   |54,_=>exact(w54 n).trans<|cm ë e
   |55,_=>exact(w55 n).trans<|cm ì e
   |56,_=>exact(w56 n).trans<|cm í e
   |57,_=>exact(w57 n).trans<|cm î e
   |58,_=>exact(w58 n).trans<|cm ï e
   |59,_=>exact(ñ n).trans<|cm ð e
   |60,_=>exact(w60 n).trans<|cm ò e
   |61,_=>exact(w61 n).trans<|cm ó e
   |62,_=>exact(w62 n).trans<|cm ô e
   |63,_=>exact(w63 n).trans<|cm õ e
   |64,_=>exact(ø n).trans<|cm ö e
   |65,_=>exact(ú n).trans<|cm ù e
   |66,_=>exact(w66 n).trans<|cm û e
   |67,_=>exact(w67 n).trans<|cm ü e
   |68,_=>exact(w68 n).trans<|cm ý e
   |69,_=>exact(w69 n).trans<|cm þ e
   |70,_=>exact(w70 n).trans<|cm ÿ e
   |71,_=>exact(w71 n).trans<|cm Ā e
   |72,_=>exact(w72 n).trans<|cm ā e
   |73,_=>exact(w73 n).trans<|cm Ă e
   |74,_=>exact(w74 n).trans<|cm ă e
   |75,_=>exact(w75 n).trans<|cm Ą e
   |76,_=>exact(w76 n).trans<|cm ą e
   |77,_=>exact(w77 n).trans<|cm Ć e
   |78,_=>exact(w78 n).trans<|cm ć e
   |79,_=>exact(w79 n).trans<|cm Ĉ e
   |i+80,h=>exact eD h (by lia)
  .rw[show eK (n+1) i=noFn by unfold eK;rw[yG<|show eKL.length<=i from ud h]]
   unfold iQ;rw[yG<|show Ft.length<=i from ud h]
def vX(i j:Nat):B1:=[97,100,100,32,48+i,32,48+j]
def Gq(c:Nat)(l:B1):B1:=if c=0 then l else 47::(96+c)::47::58::32::l
def sZ(c:Nat):T:=.tup [.bl Zb,.lst [.tup [.str [96+c],.bl Zb,.str [49]]],.bl Zb]
def J1(c:Nat):T:=if c=0 then .obj 2 []else .obj 5 [sZ c]
def Wa(c i j:Nat):T:=.obj 1 [J1 c,.obj 20 [.int i,.int j]]
def d9{i:Nat}(h:1<=i/\i<=9):i=1\/i=2\/i=3\/i=4\/i=5\/i=6\/i=7\/i=8\/i=9:=by lia
def QI(m:Nat)(k:Int){i j:Nat}(hi:1<=i/\i<=9)(hj:1<=j/\j<=9):eK (m+20) 27 [.str<|Gq 0<|vX i j,.int k] []=.ok (Wa 0 i j,[]):=by
 rcases d9 hi with rfl|rfl|rfl|rfl|rfl|rfl|rfl|rfl|rfl<;>rcases d9 hj with rfl|rfl|rfl|rfl|rfl|rfl|rfl|rfl|rfl<;>kernel_rfl
def QJ(m:Nat)(k:Int){i j:Nat}(hi:1<=i/\i<=9)(hj:1<=j/\j<=9):eK (m+20) 27 [.str<|Gq 1<|vX i j,.int k] []=.ok (Wa 1 i j,[]):=by
 rcases d9 hi with rfl|rfl|rfl|rfl|rfl|rfl|rfl|rfl|rfl<;>rcases d9 hj with rfl|rfl|rfl|rfl|rfl|rfl|rfl|rfl|rfl<;>kernel_rfl
def QK(m:Nat)(k:Int){i j:Nat}(hi:1<=i/\i<=9)(hj:1<=j/\j<=9):eK (m+20) 27 [.str<|Gq 2<|vX i j,.int k] []=.ok (Wa 2 i j,[]):=by
 rcases d9 hi with rfl|rfl|rfl|rfl|rfl|rfl|rfl|rfl|rfl<;>rcases d9 hj with rfl|rfl|rfl|rfl|rfl|rfl|rfl|rfl|rfl<;>kernel_rfl
def x_(m:Nat)(k:Int){c i j:Nat}(a:c<=2)(hi:1<=i/\i<=9)(hj:1<=j/\j<=9):cN (m+20) 27 [.str<|Gq c<|vX i j,.int k] []=.ok (Wa c i j,[]):=by
 rw[vW]
 match c,a with
 |0,_=>exact QI m k hi hj
 |1,_=>exact QJ m k hi hj
 |2,_=>exact QK m k hi hj
def qX:B1:=[101,110,100,58,32,116,101,108,108]
def M9:T:=.obj 1 [.obj 9 [],.obj 21 []]
def Cb(m:Nat)(k:Int):cN (m+20) 27 [.str qX,.int k] []=.ok (M9,[]):=by
 rw[vW]
 kernel_rfl
end K37
namespace K37
open D
variable(n:Nat){m:List _root_.D.Ob}
section
variable{a:FE}{fl:FL}{s s' s1 s2:S}{t:T}{ts:FC}
def ib{α:Type}{l:List α}{j:Nat}(h:j<l.length):atT l (j:Int)=l[j]?:=by
 unfold atT;rw[bt<|by lia,bt<|by lia];rfl
def aC(h:a s=.ok (t,s1))(b:fl s1=.ok (ts,s2)):bH a fl s=.ok (t::ts,s2):=by
 unfold bH;rw[h];show Res.bind (fl s1) _=_;rw[b];rfl
def vY{i:Nat}(h:a s=.ok (t,s')):aN i a s=.ok (.nx,kG s' i<|.val t):=by unfold aN;rw[h];rfl
end
def J2(a b:B1):aP .Eq (.str a) (.str b)=U (.bl<|decide<|a=b):=J
def J3(a b:Int):aP .Gt (.int a) (.int b)=U (.bl<|decide<|b<a):=J
def Wb(a b:Int):aP .Lt (.int a) (.int b)=U (.bl<|decide<|a<b):=J
theorem jF{g:FG}{e:FE}{b:Fh}{m:FR}{f:T->T}:∀{ts:FC},(∀t∈ts,∃b1 b2,g t b=U b1/\e ⟨b1,m⟩=.ok (f t,⟨b2,m⟩))->bz g dM e b ts m=.ok (ts.map f,m)
 |[],_=>J
 |t::ts,h=>by
  obtain⟨b1,b2,d,c⟩:=h t<|bC ..;unfold bz;rw[d];show Res.bind (e ⟨b1,m⟩) _=_;rw[c];show Res.bind (bz g dM e b ts m) _=_;rw[jF λt a=>h t<|eE _ a];rfl
def Aw{src:FL}{n:Nat}{js:B1}{g:FG}{c:FT}{e:FE}{s s1:S}{ts us:FC}{m':FR}(h:src s=.ok (ts,s1))(z:ts.length<=1000000)(q:bz g c e (jt n js<|kU js s1.r) ts s1.m=.ok (us,m')):bQ src n js g c e s=.ok (us,⟨kU js s1.r,m'⟩):=by
 unfold bQ;rw[h];show(if ts.length<=1000000 then _ else _)=_
 rw[bt z,q];rfl
def vZ{fl:FL}{s s':S}{ts:FC}(h:fl s=.ok (ts,s')):dB fl s=.ok (.lst ts,s'):=by unfold dB;rw[h];rfl
def dU{g:FC->FK}{fl:FL}{s s':S}{ts:FC}{t:T}(h:fl s=.ok (ts,s'))(q:g ts=U t):bA g fl s=.ok (t,s'):=by unfold bA;rw[h];show Res.bind (aW<|g ts) _=_;rw[q];rfl
def av{g:T->T->FK}{a b:FE}{s s1 s2:S}{t u v:T}(h:a s=.ok (t,s1))(c:b s1=.ok (u,s2))(k:g t u=U v):a_ g a b s=.ok (v,s2):=by
 unfold a_;rw[h];refine cQ ?_;dsimp only;rw[c];refine cQ ?_;dsimp only;rw[k];rfl
def Ax{g:FG}{b:FS}{t:T}{ts:FC}{s s1:S}{r:Fh}{q:Res<|Out×S}(h:g t s.r=U r)(a:b ⟨r,s.m⟩=.ok (.nx,s1))(k:b7 g b ts s1=q):b7 g b (t::ts) s=q:=by
 unfold b7;rw[h];refine cQ ?_;rw[a];exact k
def ĉ{src:FL}{g:FG}{b:FS}{s s1:S}{ts:FC}{q:Res<|Out×S}(h:src s=.ok (ts,s1))(k:b7 g b ts s1=q):fq src g b s=q:=by unfold fq;rw[h];exact k
def QM{i:Nat}{a:FE}{s s1:S}{MR ts:FC}{t:T}(c:s.r[i]?=U (U<|.ol MR))(h:a s=.ok (t,s1))(b:s1.r[i]?=U (U<|.ol ts))(z:ts.length<1000000):mw i a s=.ok (.nx,kG s1 i<|.ol<|ts++[t]):=by
 unfold mw;rw[c];refine Eq.trans (RJ MR _) ?_;rw[h];refine cQ ?_;dsimp only;rw[b];refine Eq.trans (RJ ts _) ?_;rw[ji z];rfl
def W.eq{α:Type}{x:Res α}{v:α}(h:W x λa=>a=v):x=.ok v:=by
 obtain⟨a,e,rfl⟩:=h;exact e
def fV{src:FL}{g:FG}{b:FS}{s:S}{a:Out×S->Prop}(h:W (src s) λp=>W (b7 g b p.1 p.2) a):W (fq src g b s) a:=W.bind h
def eB{a n:Nat}{B:FS}{ts:FC}{G:T×FR->Prop}(h:ts.length=a)(k:W (B ⟨ts.map (λt=>sv t)++dN (n-ts.length) Y,m⟩) λp=>p.1=.nx/\G (.non,p.2.m)):W (aG a n B ts m) G:=by
 unfold aG;rw[bt h];exact W.bind<|k.mono λp ⟨e,k⟩=>⟨_,by rw[e],k⟩
def jG{g:T->FK}{a:FE}{s:S}{t:T}{b:Bool}(h:a s=.ok (t,s))(k:g t=U (.bl b)):D.tB (dF g a) s=.ok (b,s):=by
 unfold D.tB dF;rw[h];refine Eq.trans (cm (λz=>Res.bind z _)<|RJ _ _) ?_;dsimp only;rw[k];rfl
def QN{c:FT}{s s':S}(h:c s=.ok (O,s')):dS c s=.ok (Zb,s'):=by unfold dS;rw[h];rfl
def Xv{c d:FT}{s s1:S}{q:Res<|Bool×S}(h:c s=.ok (Zb,s1))(a:d s1=q):kT c d s=q:=by unfold kT;rw[h];exact a
def Ċ{c:Nat}{g:Fn}{fl:FL}{s s':S}{ts:FC}{m':FR}(h:fl s=.ok (ts,s'))(k:g (.own s'.m.length::ts) (s'.m++[⟨c,[]⟩])=.ok (.non,m')):jr c g fl s=.ok (.own s'.m.length,⟨s'.r,m'⟩):=by
 unfold jr;rw[h];refine cQ ?_;dsimp only;rw[k]
section
variable{s:S}{a:FE}{t:T}{i:Nat}{A B E:FS}{c:FT}{G:T×FR->Prop}{d:Out×S->Prop}
def bS(e:a s=.ok (t,s))(h:WB B (kG s i<|.val t) G):WB (af (aN i a) B) s G:=V3 e h
def bN(e:c s=.ok (Zb,s))(h:WB B s G):WB (af (bB c A aI) B) s G:=bSk e h
def bY(e:c s=.ok (O,s))(h:WB A s G):WB (af (bB c A B) E) s G:=QE e h
def bR(e:a s=.ok (t,s))(h:G (t,s.m)):WB (az a) s G:=QD e h
def sEq{a n:Nat}{b:FS}{ts:FC}(h:aH ts=O)(e:ts.length=a)(d:noOwn t=O)(k:WB b ⟨ts.map (λt=>sv t)++dN (n-ts.length) Y,[]⟩ λp=>p.1=t):aS (aG a n b) ts m=.ok (t,m):=W.eq<|vV h<|(sW e k).mono λp c=>⟨by rw[c];exact d,by rw[c]⟩
def cE{g:Fn}{fl:FL}{ts:FC}(h:fl s=.ok (ts,s))(k:g ts s.m=.ok (t,s.m)):aq g [] fl s=.ok (t,s):=lM h (by rw[dw];exact k)
def mE{g:Nat->Option Fn}{o:FE}{fl:FL}{k:Nat}{ob:Ob}{f:Fn}{ts:FC}{m':FR}(h:o s=.ok (.own k,s))(a:s.m[k]?=U ob)(b:g ob.c=U f)(e:fl s=.ok (ts,s))(d:f (.own k::ts) s.m=.ok (t,m')):aD g o fl s=.ok (t,⟨s.r,m'⟩):=Av h a b e d
def dE{m':FR}(h:a s=.ok (t,⟨s.r,m'⟩))(k:d (.nx,⟨s.r,m'⟩)):W (aQ a s) d:=⟨_,by unfold aQ;rw[h];rfl,k⟩
def wS(e:a s=.ok (t,s))(h:W (B<|kG s i<|.val t) d):W (af (aN i a) B s) d:=jE<|W.of (vY e) ⟨J,h⟩
def ig{gg:FG}{ts:FC}{r:Fh}(h:gg t s.r=U r)(k:W (B ⟨r,s.m⟩) λp=>p.1=.nx/\W (b7 gg B ts p.2) d):W (b7 gg B (t::ts) s) d:=by
 obtain⟨⟨o,b⟩,e,rfl,p,a,q⟩:=k;exact⟨p,Ax h e a,q⟩
def Xw{g:FG}{e:FE}{b b1 b2:Fh}{u:T}{ts us:FC}(h:g t b=U b1)(a:e ⟨b1,m⟩=.ok (u,⟨b2,m⟩))(k:bz g dM e b ts m=.ok (us,m)):bz g dM e b (t::ts) m=.ok (u::us,m):=by
 rw[bz,h];refine cQ ?_;refine cQ ?_;show Res.bind (e ⟨b1,m⟩) _=_;rw[a];refine cQ ?_;dsimp only;rw[k];rfl
def J4{b:Bool}(h:a s=.ok (.bl b,s)):D.tB a s=.ok (b,s):=by unfold D.tB;rw[h];rfl
def lN{b:Bool}(h:a s=.ok (.bl b,s)):D.b9 a s=.ok (b,s):=by unfold D.b9;rw[h];rfl
def o1E{g:T->FK}{u:T}(h:a s=.ok (t,s))(k:g t=U u):dF g a s=.ok (u,s):=by
 unfold dF;rw[h];refine cQ ?_;dsimp only;rw[k];rfl
def Wc{d:FT}{x y:Bool}(h:c s=.ok (x,s))(a:d s=.ok (y,s)):pY c d s=.ok (x&&y,s):=by
 unfold pY;rw[h];cases x with
 |true=>exact a
 |false=>rfl
def Gs{d:FT}{x y:Bool}(h:c s=.ok (x,s))(a:d s=.ok (y,s)):kT c d s=.ok (x ||y,s):=by
 unfold kT;rw[h];cases x with
 |true=>rfl
 |false=>exact a
def QO{g:FC->Fs}{fl:FL}{s s1:S}{ts us:FC}(h:fl s=.ok (ts,s1))(k:g ts=U us):ze g fl s=.ok (us,s1):=by
 unfold ze;rw[h];refine cQ ?_;dsimp only;rw[k];rfl
def Xx{lo hi:FO}{u:T}{x y:D2}(d:a s=.ok (t,s))(b:lo s=.ok (x,s))(c:hi s=.ok (y,s))(h:Xb x y t=U u):lH a lo hi s=.ok (u,s):=by
 unfold lH;rw[d];refine cQ ?_;dsimp only;rw[b];refine cQ ?_;dsimp only;rw[c];refine cQ ?_;dsimp only;rw[h];rfl
def Xy{ts:FC}(h:a s=.ok (t,s))(k:Xc t=U ts):iL a s=.ok (ts,s):=by
 unfold iL;rw[h];refine cQ ?_;dsimp only;rw[k];rfl
def QP{src:FL}{n:Nat}{js:B1}{g:FG}{e:FE}{ts us:FC}(h:src s=.ok (ts,s))(z:ts.length<=1000000)(a:kU js s.r=s.r)(q:bz g c e (jt n js s.r) ts s.m=.ok (us,s.m)):dB (bQ src n js g c e) s=.ok (.lst us,s):=by
 have:=vZ<|Aw (n:=n) (js:=js) (g:=g) (c:=c) (e:=e) (us:=us) (m':=s.m) h z<|by rw[a];exact q
 rw[a]at this;exact this
def pE(h:a s=.ok (t,s)){b:FE}{u v:T}{g:T->T->FK}(c:b s=.ok (u,s))(k:g t u=U v):a_ g a b s=.ok (v,s):=av h c k
def RK{f:B1->FC->FK}{o:FE}{fl:FL}{s s1 s2:S}{l:B1}{ts:FC}{t:T}(h:o s=.ok (.str l,s1))(b:fl s1=.ok (ts,s2))(a:f l ts=U t):j9 f o fl s=.ok (t,s2):=by
 unfold j9;rw[h];refine cQ ?_;refine cQ ?_;dsimp only;rw[b];refine cQ ?_;dsimp only;rw[a];rfl
end
section
variable{a:FE}{s s1:S}{k kb d f j:Nat}{ob:Ob}{t:T}{m:FR}{ks:List Ky}{ts:FC}
def qg(h:a s=.ok (.own k,s1))(b:s1.m[k]?=U ob)(hj:gW M.P.tab ob.c f=U j)(d:ob.fs[j]?=sv t):aB M.P.tab f a s=.ok (t,s1):=by
 unfold aB;rw[h];refine cQ ?_;show Res.bind (aW<|(s1.m[k]?).bind _) _=_;rw[b];show Res.bind (aW<|(gW M.P.tab ob.c f).bind _) _=_;rw[hj];show Res.bind (aW<|ob.fs[j]?) _=_;rw[d];rfl
def oR(h:m[kb]?=U ⟨d,[.od ks ts]⟩):jc d m (.own kb)=U (kb,ks,ts):=by
 have e:p_ d m (.own kb)=U (kb,.od ks ts):=by
  show(m[kb]?).bind _=_;rw[h];exact bt J
 unfold jc;rw[e];rfl
def Ay(h:m[kb]?=U ⟨d,[.ol ts]⟩):mD d m (.own kb)=U (kb,ts):=by
 have e:p_ d m (.own kb)=U (kb,.ol ts):=by
  show(m[kb]?).bind _=_;rw[h];exact bt J
 unfold mD;rw[e];rfl
end
def ċ{c d:FT}{s s1:S}(h:c s=.ok (Zb,s1)):pY c d s=.ok (Zb,s1):=by
 unfold pY;rw[h];rfl
def Gu{c:FT}{B:FS}{k:Nat}{s s1:S}{b:Out×S->Prop}(d:c s=.ok (O,s1))(h:W (B s1) λq=>q.1=.nx/\W (fJ c B k q.2) b):W (fJ c B (k+1) s) b:=by
 obtain⟨⟨o,g⟩,e,rfl,h⟩:=h;obtain⟨a,f,h⟩:=h;refine⟨a,?_,h⟩;show Res.bind (c s) _=_;rw[d];show Res.bind (B s1) _=_;rw[e];exact f
def Č{c:FT}{B:FS}{k:Nat}{s s1:S}{a:Out×S->Prop}(b:c s=.ok (Zb,s1))(h:a (.nx,s1)):W (fJ c B (k+1) s) a:=by
 refine⟨_,?_,h⟩;show Res.bind (c s) _=_;rw[b];rfl
def J5{α:Type}(xs:List α)(x:α):atT (xs++[x]) (-1)=U x:=by
 unfold atT;rw[ag<|by decide,bt<|by rw[dg,ng];lia]
 have:(-1+((xs++[x]).length:Int)).toNat=xs.length:=by rw[dg,ng];lia
 rw[this];simp
def Gv{α:Type}(xs:List α)(x:α):bM (xs++[x]) Y (U<|-1)=xs:=by
 unfold bM gO;dsimp only;rw[bt<|by decide]
 have:(-1+((xs++[x]).length:Int)).toNat=xs.length:=by rw[dg,ng];lia
 rw[this];simp
def aae:pW (.int 1)=U (.int<|-1):=J
theorem e8:∀(l:Ap),aH (l.map T.str)=O
 |[]=>J
 |x::a=>by
  show(O&&aH (a.map T.str))=O;rw[e8 a];rfl
inductive LN where
 |ad (c i j:Nat)|te
def LN.ok:LN->Prop
 |.ad c i j=>c<=2/\(1<=i/\i<=9)/\(1<=j/\j<=9)
 |.te=>True
def LN.txt:LN->B1
 |.ad c i j=>Gq c<|vX i j
 |.te=>qX
def LN.val:LN->T
 |.ad c i j=>Wa c i j
 |.te=>M9
def J7{x:LN}{k:Int}(h:x.ok):cN (n+20) 27 [.str x.txt,.int k] []=.ok (x.val,[]):=by
 cases x with
 |ad c i j=>exact x_ n k h.1 h.2.1 h.2.2
 |te=>exact Cb n k
def QQ(x:LN):noOwn x.val=O:=by
 cases x with
 |ad c i j=>
  show(noOwn (J1 c)&&_)=O;unfold J1;split<;>rfl
 |te=>rfl
abbrev iR(xs:List LN):FC:=xs.map λx=>.str<|x.txt
abbrev aO(xs:List LN):FC:=xs.map LN.val
theorem v5(n:Nat){R:Option C}:∀(xs:List LN)(j:Nat)(done:FC)(u v:Option C),(∀x∈xs,x.ok)->j+xs.length<=25->done.length<=j->∃a v',b7 (eV [2,3]) (V6<|cN<|n+20) (dO (j:Nat)<|iR xs) ⟨[R,U<|.ol done,u,v],[]⟩=.ok (.nx,⟨[R,U<|.ol<|done++aO xs,a,v'],[]⟩)
 |[],j,done,u,v,_,_,_=>⟨u,v,by rw[show done++aO []=done from dw _];rfl⟩
 |x::xs,j,done,u,v,h,hj,hd=>by
  have c:=h x<|bC ..;rw[bI]at hj;obtain⟨a,v',e⟩:=v5 n xs (j+1) (done++[x.val]) (sv<|.int j) (sv<|.str<|x.txt) (λy b=>h y<|eE _ b) (by lia) (by rw[dg];show done.length+1<=_;exact uc hd _)
  refine⟨a,v',Ax (r:=[R,U<|.ol done,sv<|.int j,sv<|.str<|x.txt]) J (seq1 (s':=⟨[R,U<|.ol done,sv<|.int j,sv<|.str<|x.txt],[]⟩) (Ű (s':=⟨[R,U<|.ol done,sv<|.int j,sv<|.str<|x.txt],[]⟩) ?_ J)<|QM (MR:=done) (ts:=done) J (lM (ts:=[.str<|x.txt,.int j]) (s':=⟨[R,U<|.ol done,sv<|.int j,sv<|.str<|x.txt],[]⟩) J<|J7 n c) J<|by lia) ?_⟩
  .have g:decide ((24:Int)<(j:Nat))=Zb:=dd (by lia)
   simp only[ev,evV,RJ,oso,J3,g]
  .have d:done++aO (x::xs)=done++[x.val]++aO xs:=by simp
   rw[d];exact e
theorem e9:∀(a:List LN),aH (aO a)=O
 |[]=>J
 |x::a=>by
  show(noOwn x.val&&aH (aO a))=O;rw[QQ,e9 a];rfl
def Wd(a:List LN):aH [.lst<|aO a]=O:=by
 show(aH (aO a)&&O)=O;rw[e9];rfl
theorem lO:∀(a:List LN),aH (iR a)=O
 |[]=>J
 |x::a=>by
  show(O&&aH (iR a))=O;rw[lO a];rfl
def v9{xs:List LN}(h:∀x∈xs,x.ok)(a:xs.length<=24):cN (n+21) 38 [.lst<|iR xs] m=.ok (.lst<|aO xs,m):=by
 rw[w38];obtain⟨u,v,e⟩:=v5 n (R:=sv<|.lst<|iR xs) xs 1 [] Y Y h (by lia)<|gq _
 refine Gp (m':=[]) ?_ (B_ (s':=⟨[sv<|.lst<|iR xs,sv<|.lst<|aO xs,u,v],[]⟩) J (seq1 (s':=⟨[sv<|.lst<|iR xs,U<|.ol [],Y,Y],[]⟩) J<|seq1 (ĉ (ts:=dO 1<|iR xs) (s1:=⟨[sv<|.lst<|iR xs,U<|.ol [],Y,Y],[]⟩) J e) J) J)<|e9 xs;show(aH (iR xs)&&O)=O;rw[lO];rfl
abbrev e4(R d u v:Option C):S:=⟨[R,d,u,v],[]⟩
theorem s_{B:FS}{R:Option C}(a:∀(x:LN)(d u:Option C),W (B<|e4 R d u<|sv x.val) λp=>p=(.nx,e4 R d u<|sv x.val)):∀(xs:List LN)(j:Int)(d u v:Option C),W (b7 (eV [2,3]) B (dO j<|aO xs)<|e4 R d u v) λp=>p.1=.nx/\∃u v,p.2=e4 R d u v
 |[],_,_,u,v=>⟨_,J,J,u,v,J⟩
 |x::xs,j,d,u,v=>ig (r:=[R,d,sv<|.int j,sv x.val]) J<|(a x d _).mono λp b=>by
  rw[b];exact⟨J,s_ a xs (j+1) d _ _⟩
section
variable{L:List LN}{m:FR}
def v_{B:FS}(c:∀(R:Option C)(x:LN)(d u:Option C),W (B<|e4 R d u<|sv x.val) λp=>p=(.nx,e4 R d u<|sv x.val)):aS (aG 1 4<|af (vv 1)<|af (fq (gI 1 zA) (eV [2,3]) B)<|az zB) [.lst<|aO L] m=.ok (.cC [] [],m):=by
 refine sEq (Wd _) J J<|gM<|W.of (a:=(Out.nx,e4 (sv<|.lst<|aO L) (U<|.od [] []) Y Y)) J ⟨J,gM<|fV<|W.of (a:=(dO 1<|aO L,e4 (sv<|.lst<|aO L) (U<|.od [] []) Y Y)) J<|(s_ (c _) L 1 (U<|.od [] []) Y Y).mono λp b=>⟨b.1,?_⟩⟩;obtain⟨_,u,v,e⟩:=b;rw[e];exact QD (t:=.cC [] []) (s':=e4 (sv<|.lst<|aO L) (sv<|.cC [] []) u v) J J
def ya(x:LN):∃c d,x.val=.obj 1 [c,d]/\iV M.P.sub [10] d=U (.bl Zb)/\iV M.P.sub [19] d=U (.bl Zb):=by
 cases x with
 |ad c i j=>exact⟨_,_,J,J,J⟩
 |te=>exact⟨_,_,J,J,J⟩
def wa:cN (n+1) 39 [.lst<|aO L] m=.ok (.cC [] [],m):=by
 rw[w39];refine v_ λR x d u=>?_;obtain⟨c,b,e,a,_⟩:=ya x;rw[e];exact e7 (jG (t:=b) J a) ⟨_,J,J⟩
def J8:cN (n+1) 25 [.lst<|aO L] m=.ok (.cC [] [],m):=by
 rw[ž];refine v_ λR x d u=>?_;obtain⟨c,b,e,a,_⟩:=ya x;rw[e];exact e7 (jG (t:=b) J a) ⟨_,J,J⟩
def refuse_eq:cN (n+1) 40 [.lst<|aO L,.cC [] []] m=.ok (.non,m):=by
 rw[w40];refine W.eq<|vV ?_<|eB J<|fV<|W.of (a:=(dO 1<|aO L,e4 (sv<|.lst<|aO L) (sv<|.cC [] []) Y Y)) J<|(s_ (λx d u=>?_) L 1 (sv<|.cC [] []) Y Y).mono λp b=>⟨b.1,?_⟩
 .show(aH (aO L)&&(O&&O))=O
  rw[e9];rfl
 .obtain⟨c,g,e,_,f⟩:=ya x
  rw[e];exact e7 (s':=e4 _ _ _ _) (ċ<|jG (t:=g) J f) ⟨_,J,J⟩
 .obtain⟨_,u,v,e⟩:=b
  rw[e];exact⟨J,J⟩
end
theorem oS{c:Nat}:∀{p q:B1},c∉p->aU c (p++c::q)=p::aU c q
 |[],q,_=>by show aU c (c::q)=_;rw[aU,bt J]
 |d::p,q,h=>by
  have hd:d≠c:=λe=>h (by rw[e];exact bC ..)
  show aU c (d::(p++c::q))=_;rw[aU,ag hd,oS λz=>h<|eE _ z]
abbrev fZ(ls:Ap):B1:=(ls.map (·++[10])).flatten
theorem oU:∀{ls:Ap},(∀l∈ls,10∉l)->aU 10 (fZ ls)=ls++[[]]
 |[],_=>J
 |a::r,h=>by
  show aU 10 (a++[10]++fZ r)=_;rw[b_];show aU 10 (a++10::fZ r)=_;rw[oS<|h a<|bC ..,oU λl b=>h l<|eE _ b];rfl
def Az{ls:Ap}(h:∀l∈ls,10∉l)(a:(fZ ls).length<=100000):cN (n+1) 0 [.str<|fZ ls] m=.ok (.tup [.lst<|ls.map T.str,.bl O],m):=by
 rw[w0];have e:splitM (fZ ls) [.str [10]]=U (.lst<|(ls++[[]]).map T.str):=by
  show gd _ _=_;rw[ji a,oU h]
 have c:jw (.lst<|(ls++[[]]).map T.str) (.int<|-1)=U (.str []):=by
  show atT _ (-1)=_;rw[i6];exact J5 _ _
 have b:bM ((ls++[[]]).map T.str) Y (U<|-1)=ls.map T.str:=by
  rw[i6];exact Gv _ _
 refine sEq J J ?_<|bS (RK J J e)<|bY (lN<|av (av (t:=.lst<|(ls++[[]]).map T.str) J (u:=.int<|-1) J c) J<|by rw[J2,dr J])<|bR (dU (ts:=[.lst<|ls.map T.str,.bl O]) (aC (by show Res.ok (T.lst<|bM ((ls++[[]]).map T.str) Y<|U<|-1,_)=_;rw[b];rfl) J) J) J
 show(aH (ls.map T.str)&&(O&&O))=O;rw[e8];rfl
abbrev Xz(L:List LN):T:=.obj 0 [.lst<|aO L]
def č{x:LN}(h:x.ok):10∉x.txt:=by
 cases x with
 |ad c i j=>
  obtain⟨d,b,a⟩:=h;have e:10∉vX i j:=by
   unfold vX;simp only[bK,iC,hH,tW];refine⟨by decide,by decide,by decide,by decide,by lia,by decide,by lia⟩
  show 10∉Gq c (vX i j);unfold Gq;split
  .exact e
  .simp only[bK,tW]
   exact⟨by decide,by lia,by decide,by decide,by decide,e⟩
 |te=>decide
def J9{x:LN}:x.txt.length<=12:=by
 cases x with
 |ad c i j=>
  show(Gq c<|vX i j).length<=12;unfold Gq;split
  .exact(by decide:7<=12)
  .exact(by decide:12<=12)
 |te=>exact(by decide:9<=12)
theorem kB:∀(xs:List LN),(fZ<|xs.map LN.txt).length<=13*xs.length
 |[]=>bW _
 |x::xs=>by
  have h:=kB xs;have a:=J9 (x:=x);rw[dG];show(x.txt++[10]++fZ (xs.map LN.txt)).length<=_;rw[dg,dg,ng,bI]
  lia
def J_{xs:List LN}(b:∀x∈xs,x.ok)(a:xs.length<=24):cN (n+22) 37 [.str<|fZ<|xs.map LN.txt] m=.ok (Xz xs,m):=by
 rw[w37];have c:=Az (n+20) (ls:=xs.map LN.txt) (m:=[]) (λl a=>by obtain⟨x,d,rfl⟩:=gA.mp a;exact č<|b x d) (by have:=kB xs;lia)
 rw[iu]at c;refine sEq J J ?_<|bS (cE (ts:=[.lst<|iR xs]) (aC (pE (cE (ts:=[.str _]) J c) J J) J)<|v9 n b a)<|bS (cE (ts:=[.lst<|aO xs]) J<|wa<|n+20)<|gM<|dE (cE (ts:=[.lst<|aO xs,.cC [] []]) J<|refuse_eq<|n+20) ⟨J,bR J J⟩;exact Wd xs
inductive IT where
 |pl (c:Nat)
structure Itm where
 k:IT
 mn:Nat
def IT.c:IT->Nat
 |.pl c=>c
def IT.sg(k:IT):B1:=[k.c]
def IT.ot(_:IT):Bool:=Zb
def Itm.val(i:Itm):T:=.tup [.str i.k.sg,.bl i.k.ot,.str [i.mn]]
abbrev Gw(a:B1):List Itm:=a.map λc=>⟨.pl c,49⟩
def oV(f:Bool)(its:List Itm)(b:Bool):T:=.tup [.bl f,.lst<|its.map Itm.val,.bl b]
theorem oW:∀l:List Itm,aH (l.map Itm.val)=O
 |[]=>J
 |a::l=>by show((O&&(O&&(O&&O)))&&aH (l.map Itm.val))=O;rw[oW l];rfl
def QR(i:Itm):Bool:=eqT (.str [42]) (.str [i.mn]) ||(eqT (.str [63]) (.str [i.mn]) ||Zb)
def Ka{i:Itm}:cN (n+1) 12 [i.val] m=.ok (.bl<|QR i,m):=by
 rw[Ų];exact Gp (m':=[]) J (B_ (s':=⟨[sv i.val],[]⟩) J (B9<|av (t:=.str [i.mn]) (u:=.tup [.str [42],.str [63]]) J J J) J) J
def lh(f b:Bool)(its:List Itm):noOwn (oV f its b)=O:=by
 show(O&&(aH (its.map Itm.val)&&(O&&O)))=O;rw[oW];rfl
theorem M_{gg:FG}{B:FS}{α:Type}{Zg:α->S->Prop}{f:α->T->α}:∀{ts:FC}{a:α}{s:S},(∀t∈ts,∀a s,Zg a s->∃r,gg t s.r=U r/\W (B ⟨r,s.m⟩) λp=>p.1=.nx/\Zg (f a t) p.2)->Zg a s->W (b7 gg B ts s) λp=>p.1=.nx/\Zg (ts.foldl f a) p.2
 |[],a,s,_,h=>⟨_,J,J,h⟩
 |t::ts,a,s,k,h=>by
  obtain⟨r,i,⟨o,j⟩,g,e,d⟩:=k t (bC ..) a s h;cases e;obtain⟨p,e4,c⟩:=M_ (ts:=ts) (λt b=>k t<|eE _ b) d;refine⟨p,?_,c⟩;rw[b7,i];refine cQ ?_;show Res.bind (B ⟨r,s.m⟩) _=_;rw[g];exact e4
def AA(i:Itm):Bool:=eqT (.str [42]) (.str [i.mn]) ||(eqT (.str [43]) (.str [i.mn]) ||Zb)
def Gx{i:Itm}:cN (n+1) 13 [i.val] m=.ok (.bl<|AA i,m):=by
 rw[ų];exact sEq J J J<|bR J J
def RL(c:Bool)(b a:Dx)(p:Nat):Int:=if(c&&decide (b.getD (p+1) 0<a.getD (p+1) 0))=O then a.getD (p+1) 0 else b.getD (p+1) 0
def gb(c:Bool)(sg:B1)(ot:Bool)(row:B1)(b a:Dx)(p:Nat):Dx:=
 if(decide (row.getD p 0∈sg) != ot)=O then(if a.getD p 0<RL c b a p then a.set p (RL c b a p)else a)else a
def tm{c:Bool}{sg:B1}{ot:Bool}{row:B1}{b a:Dx}{p:Nat}:(gb c sg ot row b a p).length=a.length:=by
 unfold gb;split
 .split
  .exact eU
  .rfl
 .rfl
def We:T->Nat
 |.int i=>i.toNat
 |_=>0
def Hz(i:Itm)(row:B1)(a:Dx):Dx:=((bZ row.length).map λk=>T.int<|((row.length:Int)-1)-(k:Nat)).foldl (λb t=>gb (AA i) i.k.sg i.k.ot row a b<|We t)<|if QR i then a else dN a.length (-1)
def AB{i:Itm}{row:B1}{b:Dx}:(Hz i row b).length=b.length:=by
 unfold Hz
 have:∀(l:FC)(a:Dx),(l.foldl (λa t=>gb (AA i) i.k.sg i.k.ot row b a<|We t) a).length=a.length:=λl=>by
  induction l with
  |nil=>intro a;rfl
  |cons t l c=>intro a;rw[uf,c,tm]
 rw[this];split
 .rfl
 .exact kI
def Ď{l:Dx}{p:Nat}(h:p<l.length):u7 (.lst<|l.map T.int) (.int (p:Nat))=U (.int<|l.getD p 0):=by
 show atT (l.map T.int) (p:Int)=_;rw[ib<|by rw[bX];exact h,dH,cD h,gP,cD h];rfl
def ď{l:Dx}{p:Nat}(h:p+1<l.length):u7 (.lst<|l.map T.int) (.int<|(p:Nat)+1)=U (.int<|l.getD (p+1) 0):=Ď (p:=p+1) h
def ixC{l:B1}{p:Nat}(h:p<l.length):jw (.str l) (.int (p:Nat))=U (.str [l.getD p 0]):=by
 show(atT l (p:Int)).map _=_;rw[ib h,cD h,gP,cD h];rfl
def EW(i:Itm)(row:B1)(c b:Dx)(a v8:Option C):S:=⟨[sv i.val,sv<|.str row,sv<|.lst<|c.map T.int,sv<|.str i.k.sg,sv<|.bl i.k.ot,sv<|.bl<|AA i,U<|.ol<|b.map T.int,a,v8],[]⟩
section
variable{i:Itm}{row:B1}{g d:Dx}{j v8:Option C}{p:Nat}{x:Int}
def Đ{b:FE}{q:Nat}(a:q<d.length)(h:b (EW i row g d j v8)=.ok (.int (q:Nat),EW i row g d j v8)):vc 6 b (EW i row g d j v8)=.ok (.int<|d.getD q 0,EW i row g d j v8):=by
 unfold vc;show Res.bind (b<|EW i row g d j v8) _=_;rw[h];show Res.bind (aW<|u7 (.lst<|d.map T.int)<|.int (q:Nat)) _=_;rw[Ď a];rfl
def gtI(a b:Int):aP .Gt (.int a) (.int b)=U (.bl<|decide<|b<a):=J
def đ{e:Int}(a:p<d.length):MP 6 (vF 7) (vF 8) (EW i row g d (sv<|.int (p:Nat))<|sv<|.int e)=.ok (.nx,EW i row g (d.set p e) (sv<|.int (p:Nat))<|sv<|.int e):=by
 show dJ 6 (vF 7) (vF 8) _=_;unfold dJ;show Res.bind (aW<|gd (0<=((p:Nat):Int)/\((p:Nat):Int)<((d.map T.int).length:Nat))<|(d.map T.int).set ((p:Nat):Int).toNat<|.int e) _=_;rw[ji ⟨by lia,by rw[bX];lia⟩]
 show Res.ok (Out.nx,kG _ 6<|.ol<|(d.map T.int).set ((p:Nat):Int).toNat<|.int e)=_;rw[qm,<- List.map_set];rfl
def AD(a:p<d.length)(b:x=RL (AA i) g d p):W (bB (b9<|a_ (aP .Gt) (vF 8)<|vc 6<|vF 7) (MP 6 (vF 7)<|vF 8) aI<|EW i row g d (sv<|.int (p:Nat))<|sv<|.int x) λq=>q.1=.nx/\∃v8,q.2=EW i row g (if d.getD p 0<RL (AA i) g d p then d.set p (RL (AA i) g d p)else d) (sv<|.int (p:Nat)) v8:=by
 subst b;refine V4<|W.of (lN<|av J (Đ (q:=p) a J)<|gtI _ _) ⟨λh=>?_,λh=>?_⟩
 .rw[bt<|dc h]
  exact W.of (đ a) ⟨J,_,J⟩
 .rw[ag<|of_decide_eq_false h]
  exact⟨_,J,J,_,J⟩
end
def gi(l:Dx):aH (l.map T.int)=O:=by
 induction l with
 |nil=>rfl
 |cons a l b=>exact b
theorem rep1(t:T):∀n:Nat,(dN n [t]).flatten=dN n t
 |0=>J
 |n+1=>by rw[m_,m_,kJ,rep1 t n];rfl
section
variable{i:Itm}{row:B1}{z B:Dx}{p:Nat}
def Kc(hr:row.length<=1000):BY [.int<|(row.length:Int)-1,.int<|-1,.int<|-1]=U ((bZ row.length).map λk=>T.int<|((row.length:Int)-1)-(k:Nat)):=by
 have e:((row.length:Int)-1+1).toNat=row.length:=by lia
 show gd _ _=_;rw[ji ⟨J,J,by lia,by lia⟩,e]
def o2r{g:T->T->Fs}{a b:FE}{s s1 s2:S}{t u:T}{v:FC}(h:a s=.ok (t,s1))(c:b s1=.ok (u,s2))(k:g t u=U v):o2 g a b s=.ok (v,s2):=by
 unfold o2;rw[h];refine cQ ?_;show Res.bind (b s1) _=_;rw[c];refine cQ ?_;show Res.bind (aW<|g t u) _=_;rw[k];rfl
def Kd{k:Nat}(h:k<=1001):EZ (.lst [.int<|-1]) (.int (k:Nat))=U (dN k<|T.int<|-1):=by
 have e:EZ (.lst [.int<|-1]) (.int (k:Nat))=U (dN ((k:Nat):Int).toNat [T.int<|-1]).flatten:=ji ⟨by lia,by lia,by show 1*_<=_;lia⟩
 rw[e,qm,rep1]
def tu(j:z.length=row.length+1)(hr:row.length<=1000):cN (n+2) 18 [i.val,.str row,.lst<|z.map T.int] m=.ok (.lst<|(Hz i row z).map T.int,m):=by
 rw[Ÿ];refine sEq ?_ J (gi _)<|bS J<|bS J<|bS (cE J<|Gx n)<|gM<|W.of (a:=(Out.nx,EW i row z (if QR i then z else dN z.length (-1)) Y Y)) ?_ ⟨J,gM<|fV<|W.of (a:=((bZ row.length).map λk=>T.int<|((row.length:Int)-1)-(k:Nat),EW i row z (if QR i then z else dN z.length (-1)) Y Y)) ?_ ?_⟩
 .show(O&&(O&&(aH (z.map T.int)&&O)))=O
  rw[gi];rfl
 .unfold mq Xi
  rw[J4<|cE (ts:=[i.val]) J<|Ka n];show Res.bind (if QR i then _ else _) _=_
  cases QR i with
  |true=>rfl
  |false=>
   rw[ag cK,ag cK,o2r (t:=.lst [.int<|-1]) (u:=.int (((z.map T.int).length:Nat):Int)) (v:=(dN z.length<|-1).map T.int) J J<|by rw[bX,Kd<|by lia,C0]]
   rfl
 .unfold ze
  show Res.bind (aW<|BY [.int<|(row.length:Int)-1,.int<|-1,.int<|-1]) _=_;rw[Kc hr];rfl
 refine(M_ (Zg:=λB s=>B.length=row.length+1/\∃d v8,s=EW i row z B d v8) (f:=λB t=>gb (AA i) i.k.sg i.k.ot row z B<|We t) (λt l B s o=>?_) ⟨?_,_,_,J⟩).mono λq c=>⟨c.1,?_⟩
 .obtain⟨g,d,v8,rfl⟩:=o
  obtain⟨k,h,rfl⟩:=gA.mp l;have h:=gu.mp h;obtain⟨p,r⟩:∃p,p=row.length-1-k:=⟨_,J⟩;rw[show((row.length:Int)-1)-(k:Nat)=((p:Nat):Int) by lia]
  refine⟨_,J,?_⟩;show W (bB _ _ _<|EW i row z B (sv<|.int (p:Nat)) v8) λq=>q.1=.nx/\(gb (AA i) i.k.sg i.k.ot row z B p).length=row.length+1/\∃d v8,q.2=EW i row z (gb (AA i) i.k.sg i.k.ot row z B p) d v8;rw[tm];unfold gb;refine V4<|W.of (lN (b:=decide (row.getD p 0∈i.k.sg) != i.k.ot)<|av (t:=.bl<|decide<|row.getD p 0∈i.k.sg) (av (t:=.str [row.getD p 0]) (av J J<|ixC<|by lia) J J) J J) ⟨λ(hc:(decide (row.getD p 0∈i.k.sg) != i.k.ot)=O)=>?_,λ(hc:(decide (row.getD p 0∈i.k.sg) != i.k.ot)=Zb)=>?_⟩
  .rw[bt hc]
   refine wS (av (t:=.lst<|z.map T.int) (u:=.int<|(p:Nat)+1) J J<|ď<|by lia)<|jE<|V4<|W.of (Wc (J4 (b:=AA i) J)<|lN<|av (Đ (q:=p+1) (v8:=sv<|.int<|z.getD (p+1) 0) (by lia) J) J<|gtI _ _) ⟨λ(ha:(AA i&&decide (z.getD (p+1) 0<B.getD (p+1) 0))=O)=>W.of (vY<|Đ (q:=p+1) (by lia) J) ⟨J,(AD (by lia) (bt ha).symm).mono λq c=>⟨c.1,g,_,c.2⟩⟩,λ(ha:(AA i&&decide (z.getD (p+1) 0<B.getD (p+1) 0))=Zb)=>⟨_,J,J,(AD (by lia) (ag<|by rw[ha];exact cK).symm).mono λq c=>⟨c.1,g,_,c.2⟩⟩⟩
  .rw[ag<|by rw[hc];exact cK]
   exact⟨_,J,J,g,_,_,J⟩
 .split
  .exact j
  .rw[kI];exact j
 .obtain⟨_,d,v8,e⟩:=c.2
  rw[e];exact QD J J
end
def QT(row:B1)(b:Bool):Dx:=if b then dN row.length (-1)++[(row.length:Int)]else(bZ<|row.length+1).map λk=>(0+((k:Nat):Int))
def AE{row:B1}{b:Bool}:(QT row b).length=row.length+1:=by
 unfold QT;split
 .simp
 .simp
def AF(row:B1)(its:List Itm)(b:Bool):Dx:=its.reverse.foldl (λa i=>Hz i row a)<|QT row b
def mX{row:B1}{its:List Itm}{b:Bool}:(AF row its b).length=row.length+1:=by
 unfold AF
 have:∀(l:List Itm)(a:Dx),(l.foldl (λa i=>Hz i row a) a).length=a.length:=λl=>by
  induction l with
  |nil=>intro a;rfl
  |cons t l c=>intro a;rw[uf,c,AB]
 rw[this,AE]
def Cr(row:B1)(f:Bool)(its:List Itm)(b:Bool):Dx:=if f then bM (AF row its b) Y (U 1)else AF row its b
def rY{α a:Type}(f:α->a)(l:List α)(lo hi:D2):bM (l.map f) lo hi=(bM l lo hi).map f:=by
 unfold bM;rw[bX,Lr,C2]
def o1r{g:T->Fs}{a:FE}{s s1:S}{t:T}{v:FC}(h:a s=.ok (t,s1))(k:g t=U v):o1 g a s=.ok (v,s1):=by
 unfold o1;rw[h];refine cQ ?_;show Res.bind (aW<|g t) _=_;rw[k];rfl
def Wf(a:FC)(k:Int):bO .Mult (.lst a) (.int k)=gd (k<1000000/\-1000000<k/\a.length*k.toNat<=1000000) (.lst (dN k.toNat a).flatten):=J
def add_l(a b:FC):bO .Add (.lst a) (.lst b)=gd (a.length+b.length<=1000000) (.lst<|a++b):=J
def Wg(j:Int):BW (.int j)=gd (0<=j/\j<1000000) (lW 0 j.toNat):=J
section
variable{row:B1}{m:FR}{f b:Bool}{its:List Itm}
theorem Gy{gg:FG}{B:FS}{α:Type}{I:α->S->Prop}{f:α->Itm->α}:∀{l:List Itm}{a:α}{s:S},(∀i∈l,∀a s,I a s->∃r,gg i.val s.r=U r/\W (B ⟨r,s.m⟩) λp=>p.1=.nx/\I (f a i) p.2)->I a s->W (b7 gg B (l.map Itm.val) s) λp=>p.1=.nx/\I (l.foldl f a) p.2
 |[],_,_,_,h=>⟨_,J,J,h⟩
 |i::l,a,s,k,h=>by
  obtain⟨r,e,k1⟩:=k i (bC ..) a s h;exact ig e<|k1.mono λp b=>⟨b.1,Gy (λi hi=>k i<|eE _ hi) b.2⟩
def Gz(hr:row.length<=1000):cN (n+1) 17 [.str row,.bl b] m=.ok (.lst<|(QT row b).map T.int,m):=by
 rw[ŷ];refine sEq J J (gi _) ?_;unfold QT;cases b with
 |true=>
  refine bY J<|bR (av (t:=.lst<|(dN row.length (-1:Int)).map T.int) (u:=.lst [.int row.length]) (av (t:=.lst [.int<|-1]) (u:=.int row.length) J J ?_) J ?_) J
  .rw[Wf,ji ⟨by lia,by lia,by show 1*_<=_;lia⟩,qm,rep1,C0]
  .rw[add_l,ji<|by rw[bX,kI];show _+1<=_;lia,bt J,i6];rfl
 |false=>
  refine bN J<|bR (vZ<|o1r (t:=.int<|(row.length:Int)+1) J ?_) J;rw[Wg,ji ⟨by lia,by lia⟩,show((row.length:Int)+1).toNat=row.length+1 by lia,ag cK]
  unfold lW;rw[iu];rfl
def wb(hr:row.length<=1000)(h:its.length<=8):cN (n+3) 16 [oV f its b,.str row] m=.ok (.lst<|(Cr row f its b).map T.int,m):=by
 rw[Ŷ];refine sEq (by show(noOwn (oV f its b)&&O)=O;rw[lh];rfl) J (gi _)<|bS (cE (ts:=[.str row,.bl b]) J<|Gz (n+1) hr)<|gM<|fV<|W.of (o1r (v:=its.reverse.map Itm.val) (t:=.lst<|its.map Itm.val) J<|by rw[List.map_reverse];rfl)<|(Gy (I:=λa s=>a.length=row.length+1/\∃v,s=⟨[sv<|oV f its b,sv<|.str row,sv<|.lst<|a.map T.int,v],[]⟩) (f:=λa i=>Hz i row a) (λi _ a s g=>?_) ⟨AE,Y,J⟩).mono λq c=>⟨c.1,?_⟩
 .obtain⟨d,v,rfl⟩:=g
  exact⟨_,J,W.of (vY<|cE (ts:=[i.val,.str row,.lst<|a.map T.int]) J<|tu n d hr) ⟨J,by rw[AB];exact d,_,J⟩⟩
 obtain⟨_,_,v,e⟩:=c;rw[e];unfold Cr;cases f with
 |false=>exact bR J J
 |true=>
  refine bR J ?_;rw[bt J,<- rY];rfl
end
def Ē{A B:FS}{s:S}{G:T×FR->Prop}(h:W (A s) λp=>(∃t,p.1=.rt t/\G (t,p.2.m))\/(p.1=.nx/\WB B p.2 G)):WB (af A B) s G:=by
 obtain⟨⟨o,c⟩,e,h⟩:=h;rcases h with⟨t,b,a⟩|⟨b,a⟩
 .cases b;exact M7 ⟨_,e,t,J,a⟩
 .cases b;exact gM ⟨_,e,J,a⟩
def mH(l:Dx):B1->T
 |[]=>.non
 |q::qs=>if l.getD q 0≠-1 then .tup [.int (q:Nat),.int<|l.getD q 0]else mH l qs
def QU(l:Dx):T:=mH l<|bZ l.length
def ē:T->Bool
 |.non=>O
 |_=>Zb
theorem wc(l:Dx):∀a,noOwn (mH l a)=O
 |[]=>J
 |q::a=>by
  unfold mH;split
  .rfl
  .exact wc l a
theorem AG(l:Dx):∀a,aP .IsNot (mH l a) .non=U (.bl<|!ē (mH l a))
 |[]=>J
 |q::a=>by
  unfold mH;split
  .rfl
  .exact AG l a
def Ke(k:Nat)(h:k<=1001):mj [.int 0,.int (k:Nat)]=U ((bZ k).map λq=>T.int ((q:Nat):Int)):=by
 have a:(((k:Nat):Int)-0).toNat=k:=by lia
 show gd _ _=_;rw[ji ⟨by lia,by lia,by lia,by lia⟩,a]
 unfold lW;exact cm U<|uh λq _=>by rw[uG]
section
variable{row:B1}{m:FR}{f b:Bool}{its:List Itm}{t u:T}
def neI(a c:Int):aP .NotEq (.int a) (.int c)=U (.bl<|!decide (a=c)):=J
theorem GA{l:Dx}:∀(a:B1)(v:Option C),(∀q∈a,q<l.length)->W (b7 (setG 4) V5 (a.map λq=>T.int ((q:Nat):Int)) ⟨[sv t,sv u,sv<|.int 0,sv<|.lst<|l.map T.int,v],m⟩) λp=>p.2.m=m/\((p.1=.rt (mH l a))\/(p.1=.nx/\mH l a=.non))
 |[],v,_=>⟨_,J,J,.inr ⟨J,J⟩⟩
 |q::a,v,h=>by
  have b:jw (.lst<|l.map T.int) (.int (q:Nat))=U (.int<|l.getD q 0):=Ď<|h q<|bC ..;unfold mH;by_cases hd:l.getD q 0=-1
  .rw[ag λz=>z hd]
   exact ig J<|e7 (lN<|av (av (t:=.lst<|l.map T.int) (u:=.int (q:Nat)) J J b) J<|by rw[neI,dr hd];rfl) ⟨_,J,J,GA a _ λq c=>h q<|eE _ c⟩
  .rw[bt hd,dG,b7]
   refine⟨_,Eq.trans (RJ _ _)<|Eq.trans (cm (λx=>Res.bind x _)<|ů (lN<|av (av (t:=.lst<|l.map T.int) (u:=.int (q:Nat)) J J b) J<|by rw[neI,dd hd];rfl)<|B9<|dU (ts:=[.int (q:Nat),.int<|l.getD q 0]) (aC J<|aC (av (t:=.lst<|l.map T.int) (u:=.int (q:Nat)) J J b) J) J) J,J,.inl J⟩
def Kf:(Cr row f its b).length<=row.length+1:=by
 unfold Cr;split
 .unfold bM
  rw[eT,jL,mX]
  lia
 .rw[mX];exact bW _
def yb(hr:row.length<=1000)(d:its.length<=8):cN (n+4) 14 [oV f its b,.str row,.int 0] m=.ok (QU<|Cr row f its b,m):=by
 rw[Ŵ];have j:=Kf (row:=row) (f:=f) (its:=its) (b:=b);refine sEq (by show(noOwn (oV f its b)&&(O&&(O&&O)))=O;rw[lh];rfl) J (wc _ _)<|bS (cE (ts:=[oV f its b,.str row]) J<|wb n hr d)<|Ē<|fV<|W.of (QO (ts:=[.int 0,.int ((Cr row f its b).length:Nat)]) (aC J<|aC (dU (ts:=[.lst<|(Cr row f its b).map T.int]) J<|by show U (T.int (((Cr row f its b).map T.int).length:Nat))=_;rw[bX]) J)<|Ke _<|by lia)<|(GA (bZ (Cr row f its b).length) Y λq a=>gu.mp a).mono λp c=>?_
 obtain⟨i,h|⟨g,e⟩⟩:=c
 .exact .inl ⟨_,h,J⟩
 .exact .inr ⟨g,bR (t:=.non) J e.symm⟩
def XA(row:B1)(f:Bool)(its:List Itm)(b:Bool):Bool:=!ē (QU<|Cr row f its b)
def GC(hr:row.length<=1000)(a:its.length<=8):cN (n+5) 15 [oV f its b,.str row] m=.ok (.bl<|XA row f its b,m):=by
 rw[ŵ];exact sEq (by show(noOwn (oV f its b)&&(O&&O))=O;rw[lh];rfl) J J<|bR (av (lM (ts:=[oV f its b,.str row]) (s':=⟨[sv<|oV f its b,sv<|.str row],[]⟩) J<|yb n hr a) J<|AG _ _) J
end
section
variable{c:Nat}{row:B1}{j:Dx}
def QV{a:Dx}{p:Nat}(b:p<a.length)(q:Nat):(gb Zb [c] Zb row j a p).getD q 0=if q=p/\row.getD q 0=c/\a.getD q 0<j.getD (q+1) 0 then j.getD (q+1) 0 else a.getD q 0:=by
 have f:RL Zb j a p=j.getD (p+1) 0:=J;have d:(decide (row.getD p 0∈[c]) != Zb)=decide (row.getD p 0=c):=by
  rw[Bool.bne_false];exact decide_eq_decide.mpr iw
 unfold gb;rw[f,d];by_cases e:q=p
 .subst e
  by_cases h1:row.getD q 0=c
  .rw[bt<|dr h1]
   by_cases h2:a.getD q 0<j.getD (q+1) 0
   .rw[bt h2,bt ⟨J,h1,h2⟩,gP,dQ b];rfl
   .rw[ag h2,ag λz=>h2 z.2.2]
  .rw[ag<|by rw[dd h1];exact cK,ag λz=>h1 z.2.1]
 .rw[ag (c:=q=p/\_) λz=>e z.1]
  split
  .split
   .rw[gP,cJ<|Ne.symm e,<- gP]
   .rfl
  .rfl
theorem AH:∀(ps:B1)(a:Dx),ps.Nodup->(∀p∈ps,p<a.length)->∀q,(ps.foldl (λa p=>gb Zb [c] Zb row j a p) a).getD q 0=if q∈ps/\row.getD q 0=c/\a.getD q 0<j.getD (q+1) 0 then j.getD (q+1) 0 else a.getD q 0
 |[],a,_,_,q=>by rw[ag λz=>by cases z.1];rfl
 |p::ps,a,b,d,q=>by
  have b:=lS.mp b;have g:=d p<|bC ..;rw[uf,AH ps _ b.2 (λx f=>by rw[tm];exact d x<|eE _ f) q,QV g q]
  by_cases e:q=p
  .subst e
   rw[ag λz=>b.1 z.1];by_cases h:row.getD q 0=c/\a.getD q 0<j.getD (q+1) 0
   .rw[bt ⟨J,h⟩,bt ⟨bC ..,h⟩]
   .rw[ag λz=>h z.2,ag λz=>h z.2]
  .rw[ag (c:=q=p/\_) λz=>e z.1]
   by_cases h:q∈ps/\row.getD q 0=c/\a.getD q 0<j.getD (q+1) 0
   .rw[bt h,bt ⟨eE _ h.1,h.2⟩]
   .rw[ag h,ag λz=>h ⟨(bK.mp z.1).resolve_left e,z.2⟩]
end
def QW{c:Nat}{row:B1}{d:Dx}(v:d.length=row.length+1)(o:∀x∈d,-1<=x)(q:Nat)(u:q<=row.length):(Hz ⟨.pl c,49⟩ row d).getD q 0=if q<row.length/\row.getD q 0=c then d.getD (q+1) 0 else -1:=by
 have e:Hz ⟨.pl c,49⟩ row d=((bZ row.length).map λk=>row.length-1-k).foldl (λf p=>gb Zb [c] Zb row d f p) (dN d.length<|-1):=by
  unfold Hz;rw[LG,LG];have s:(if QR ⟨.pl c,49⟩then d else dN d.length (-1))=dN d.length (-1):=J
  rw[s]
  have:∀(ks:B1)(f:Dx),(∀k∈ks,k<row.length)->ks.foldl (λf k=>gb (AA ⟨.pl c,49⟩) (IT.sg<|.pl c) (IT.ot<|.pl c) row d f<|We<|T.int<|((row.length:Int)-1)-(k:Nat)) f=ks.foldl (λf k=>gb Zb [c] Zb row d f<|row.length-1-k) f:=by
   intro ks
   induction ks with
   |nil=>intro f _;rfl
   |cons k ks l=>
    intro f h;have g:=h k<|bC ..;have n:We (T.int<|((row.length:Int)-1)-(k:Nat))=row.length-1-k:=by
     show(((row.length:Int)-1)-(k:Nat)).toNat=_
     lia
    rw[uf,uf,n];exact l _ λx i=>h x<|eE _ i
  exact this _ _ λk g=>gu.mp g
 have hr:(dN d.length (-1:Int)).getD q 0=-1:=by
  rw[gP,wM,bt<|by lia];rfl
 rw[e,AH _ _ ?_ ?_ q,hr]
 .have j:q∈((bZ row.length).map λk=>row.length-1-k) ↔ q<row.length:=by
   constructor
   .intro h
    obtain⟨k,g,rfl⟩:=gA.mp h
    have:=gu.mp g
    lia
   .intro h
    exact gA.mpr ⟨row.length-1-q,gu.mpr<|by lia,by lia⟩
  by_cases h:q<row.length/\row.getD q 0=c
  .rw[bt h]
   have i:-1<=d.getD (q+1) 0:=by
    rw[gP,cD<|by lia]
    exact o _<|wQ _
   by_cases h2:(-1:Int)<d.getD (q+1) 0
   .rw[bt ⟨j.mpr h.1,h.2,h2⟩]
   .rw[ag λz=>h2 z.2.2];lia
  .rw[ag h,ag λz=>h ⟨j.mp z.1,z.2.1⟩]
 .refine List.pairwise_map.mpr<|C8.imp_of_mem (λ{a b} r t h=>?_) List.nodup_range
  have:=gu.mp r
  have:=gu.mp t
  have h:a≠b:=h
  lia
 .intro p m
  obtain⟨k,g,rfl⟩:=gA.mp m
  have:=gu.mp g
  rw[kI];lia
def lj(row a:B1)(b:Bool)(q:Nat):Prop:=q+a.length<=row.length/\(row.drop q).take a.length=a/\(b=O->q+a.length=row.length)
instance (row ws:B1) (b:Bool) (q:Nat):Decidable<|lj row ws b q:=by unfold lj;infer_instance
def GD{row:B1}{i:Itm}{its:List Itm}{b:Bool}:AF row (i::its) b=Hz i row (AF row its b):=by
 unfold AF;rw[C4,List.foldl_append];rfl
def lq{row g:B1}{c q:Nat}{b:Bool}:lj row (c::g) b q ↔ (q<row.length/\row.getD q 0=c)/\lj row g b (q+1):=by
 unfold lj;rw[bI];constructor
 .rintro⟨i,h,f⟩
  have a:q<row.length:=pJ (cH ..) i;rw[jN a,LH]at h;injection h with d e
  refine⟨⟨a,?_⟩,by lia,e,λz=>by have:=f z;lia⟩
  rw[gP,cD a];exact d
 .rintro⟨⟨a,d⟩,i,e,f⟩
  rw[gP,cD a]at d;have d:row[q]=c:=d;refine⟨by lia,?_,λz=>by have:=f z;lia⟩
  rw[jN a,LH,d,e]
theorem tD{row:B1}{b:Bool}:∀(a:B1)(q:Nat),q<=row.length->(AF row (Gw a) b).getD q 0=if lj row a b q then((q+a.length:Nat):Int)else -1
 |[],q,e=>by
  show(QT row b).getD q 0=_;have d:lj row [] b q ↔ (b=O->q=row.length):=by
   unfold lj;constructor
   .intro h z;exact h.2.2 z
   .intro h;exact⟨e,J,h⟩
  unfold QT;cases b with
  |false=>
   rw[ag cK,bt (d.mpr λz=>by cases z),gP,dH,yu<|by lia]
   show(0:Int)+(q:Nat)=_;rw[uG];rfl
  |true=>
   rw[bt J,gP];by_cases h:q=row.length
   .rw[bt<|d.mpr λ_=>h,eF<|by rw[kI];lia,kI,h,kH];rfl
   .rw[ag λz=>h<|d.mp z J,e_<|by rw[kI];lia,wM,bt<|by lia];rfl
 |c::a,q,e=>by
  have i:(AF row (Gw a) b).length=row.length+1:=mX;have g:∀x∈AF row (Gw a) b,-1<=x:=λx f=>by
   obtain⟨j,hj,rfl⟩:=yy.mp f
   have:=tD (row:=row) (b:=b) a j (by lia)
   rw[gP,cD hj]at this;have this:(AF row (Gw a) b)[j]=_:=this;rw[this];split<;>lia
  show(AF row (⟨.pl c,49⟩::Gw a) b).getD q 0=_;rw[GD,QW i g q e];by_cases h:q<row.length/\row.getD q 0=c
  .rw[bt h,tD a (q+1)<|by lia]
   by_cases h2:lj row a b (q+1)
   .rw[bt h2,bt<|lq.mpr ⟨h,h2⟩,bI];lia
   .rw[ag h2,ag λz=>h2 (lq.mp z).2]
  .rw[ag h,ag λz=>h (lq.mp z).1]
theorem AI(l:Dx):∀c,(!ē (mH l c))=O ↔ ∃q∈c,l.getD q 0≠-1
 |[]=>⟨λh=>(by cases h),λ⟨_,h,_⟩=>(by cases h)⟩
 |q::c=>by
  unfold mH;by_cases h:l.getD q 0≠-1
  .rw[bt h]
   exact⟨λ_=>⟨q,bC ..,h⟩,λ_=>J⟩
  .rw[ag h,AI l c]
   exact⟨λ⟨x,a,b⟩=>⟨x,eE _ a,b⟩,λ⟨x,a,b⟩=>⟨x,(bK.mp a).resolve_left λz=>h<|z▸b,b⟩⟩
def Na{row:B1}{c q:Nat}:lj row [c] Zb q ↔ row[q]?=U c:=by
 unfold lj;constructor
 .rintro⟨d,a,_⟩
  have d:q+1<=row.length:=d;have b:q<row.length:=Nat.lt_of_succ_le d;rw[jN b]at a;have a:[row[q]]=[c]:=a;injection a with a
  rw[cD b,a]
 .intro h
  obtain⟨b,e⟩:=du.mp h;refine⟨by show q+1<=_;lia,?_,λz=>by cases z⟩
  rw[jN b,e];rfl
def Kg(row a:B1):XA row Zb (Gw a) Zb=O ↔ ∃q,q<=row.length/\lj row a Zb q:=by
 have d:(AF row (Gw a) Zb).length=row.length+1:=mX;have c:Cr row Zb (Gw a) Zb=AF row (Gw a) Zb:=by
  unfold Cr;rw[ag cK]
 unfold XA QU;rw[AI,c,d];constructor
 .rintro⟨q,b,h⟩
  have b:=gu.mp b;rw[tD a q<|by lia]at h
  by_cases z:lj row a Zb q
  .exact⟨q,by lia,z⟩
  .rw[ag z]at h;exact eD J h
 .rintro⟨q,b,z⟩
  refine⟨q,gu.mpr<|by lia,?_⟩
  rw[tD a q b,bt z]
  lia
def Ĕ(row b:B1)(f:b≠[]):tU b row=XA row Zb (Gw b) Zb:=by
 rw[LR,Kg]
 match b,f with
 |[c],_=>
  unfold tU;rw[pq];constructor
  .intro h
   obtain⟨q,a,e⟩:=List.getElem_of_mem h;exact⟨q,yp a,Na.mpr<|by rw[cD a,e]⟩
  .rintro⟨q,_,z⟩
   exact dh<|Na.mp z
 |c::d::r,_=>
  unfold tU;rw[C1];constructor
  .rintro⟨q,a,h⟩
   rw[dj,pq,ix]at h;exact⟨q,by have:=gu.mp a;lia,h.1,h.2,λz=>by cases z⟩
  .rintro⟨q,a,z⟩
   refine⟨q,gu.mpr<|by lia,?_⟩
   rw[dj,pq,ix];exact⟨z.1,z.2.1⟩
section
variable{a:FE}{s s1:S}{k kb d f j:Nat}{ob:Ob}{t:T}{m:FR}{ks:List Ky}{ts:FC}
theorem get_mem:∀{ks:List Ky}{ts:FC}{x:Ky},ks.length=ts.length->x∈ks->∃t,fm ks ts x=U t
 |[],_,_,_,h=>by cases h
 |q::ks,[],_,h,_=>by cases h
 |q::ks,t::ts,x,h,a=>by
  rw[fm];by_cases e:q=x
  .rw[bt e];exact⟨t,J⟩
  .rw[ag e]
   rcases bK.mp a with z|z
   .exact eD z.symm e
   .exact get_mem (pL.inj h) z
theorem tF:∀{ks:List Ky}{ts:FC}{x y:Ky}{u:T},ks.length=ts.length->x∉ks->fm (ks++[x]) (ts++[u]) y=if x=y then U u else fm ks ts y
 |[],[],x,y,u,_,_=>by
  rw[lT,lT,fm]
 |[],_::_,_,_,_,h,_=>by cases h
 |q::ks,[],_,_,_,h,_=>by cases h
 |q::ks,t::ts,x,y,u,h,a=>by
  rw[uo,uo,fm,fm];by_cases e:q=y
  .rw[bt e,bt e,ag λz=>a<|by rw[z,e];exact bC ..]
  .rw[ag e,ag e,tF (pL.inj h) λz=>a<|eE _ z]
end
section
variable{a o b:FE}{t u:T}{s:S}{j kb:Nat}{ks:List Ky}{ts:FC}{ky:Ky}
def Wi(c:a s=.ok (u,s))(e:o s=.ok (.own kb,s))(i:b s=.ok (t,s))(h:gU t=U ky)(g:s.m[kb]?=U ⟨j,[.od ks ts]⟩)(f:ky∉ks)(d:ks.length<1000000):qa j o b a s=.ok (.nx,⟨s.r,s.m.set kb ⟨j,[.od (ks++[ky])<|ts++[u]]⟩⟩):=by
 unfold qa;rw[c];refine cQ ?_;show Res.bind (o s) _=_;rw[e];refine cQ ?_;show Res.bind (b s) _=_;rw[i];refine cQ ?_;show Res.bind (aW<|jc j s.m<|.own kb) _=_;rw[oR g];refine cQ ?_;show Res.bind (aW<|gU t) _=_;rw[h];refine cQ ?_;show Res.bind (aW<|gd (ks.length<1000000) ()) _=_;rw[ji d];show Res.ok (Out.nx,setB j _ kb<|let y:=fD ks ts ky u;.od y.1 y.2)=_;unfold fD;rw[ag f];rfl
def QX{neg:Bool}(b:a s=.ok (t,s))(c:o s=.ok (.own kb,s))(f:gU t=U ky)(d:s.m[kb]?=U ⟨j,[.od ks ts]⟩):b9 (sA j neg a o) s=.ok (if neg then !decide (ky∈ks)else decide (ky∈ks),s):=by
 have e:sA j neg a o s=.ok (.bl<|if neg then !decide (ky∈ks)else decide (ky∈ks),s):=by
  unfold sA;rw[b];refine cQ ?_;show Res.bind (o s) _=_;rw[c];refine cQ ?_;show Res.bind (aW<|jc j s.m<|.own kb) _=_;rw[oR d];refine cQ ?_;show Res.bind (aW<|gU t) _=_;rw[f];rfl
 unfold b9;rw[e];rfl
def QY(a:o s=.ok (.own kb,s))(f:b s=.ok (t,s))(d:gU t=U ky)(c:s.m[kb]?=U ⟨j,[.od ks ts]⟩)(e:fm ks ts ky=U u):BU j o b s=.ok (u,s):=by
 unfold BU;rw[a];refine cQ ?_;show Res.bind (b s) _=_;rw[f];refine cQ ?_;show Res.bind (aW<|jc j s.m<|.own kb) _=_;rw[oR c];refine cQ ?_;show Res.bind (aW<|gU t) _=_;rw[d];show Res.bind (aW<|fm ks ts ky) _=_;rw[e];rfl
end
structure RM(row:B1)(ks:List Ky)(ts:FC):Prop where
 len:ks.length=ts.length
 at_:∀c t,fm ks ts (.s [c])=U t->t=.bl (tU [c] row)
def RM.nil{row:B1}:RM row [] []:=⟨J,λ_ _ h=>by cases h⟩
def yc{c:Nat}(h:c=1\/c=2):cN (n+20) 10 [sZ c] m=.ok (.str [96+c],m):=by
 rw[vW];rcases h with rfl|rfl
 .kernel_rfl
 .kernel_rfl
def Kh{row:B1}{c:Nat}(hr:row.length<=1000):cN (n+5) 15 [sZ c,.str row] m=.ok (.bl<|tU [96+c] row,m):=by
 rw[Ĕ row [96+c]<|List.cons_ne_nil _ _];exact GC n (f:=Zb) (b:=Zb) (its:=Gw [96+c]) hr<|show 1<=8 by decide
def QZ{k kb:Nat}{row:B1}{num:Int}{ks:List Ky}{ts:FC}{c:Nat}(a:m[k]?=U ⟨22,[.val<|.str row,.val<|.int num,.val<|.own kb]⟩)(b:m[kb]?=U ⟨M.bc,[.od ks ts]⟩)(x:kb≠k)(K:RM row ks ts)(y:ks.length<1000000)
  (hr:row.length<=1000) (h:c=1\/c=2):∃p r,cN (n+21) 56 [.own k,sZ c] m=.ok (.bl<|tU [96+c] row,m.set kb ⟨M.bc,[.od p r]⟩)/\RM row p r/\p.length<=ks.length+1:=by
 rw[w56];have f:kb<m.length:=(du.mp b).1;have g:=yc n (m:=m) h;have o:=Kh (n+15) (m:=m) (c:=c) hr;clear h
 generalize sZ c=P at g o ⊢
 generalize 96+c=d at g o ⊢
 obtain⟨v,i⟩:∃v,v=tU [d] row:=⟨_,J⟩;rw[<- i]at o;rw[<- i];obtain⟨X,q⟩:∃X,X=[d]:=⟨_,J⟩;rw[<- q]at g;by_cases Cs:Ky.s X∈ks
 .obtain⟨t,u⟩:=get_mem K.len Cs
  have w:=K.at_ d t (by rw[<- q];exact u)
  rw[<- i]at w;subst w;refine⟨ks,ts,?_,K,cH ..⟩;rw[show m.set kb ⟨M.bc,[.od ks ts]⟩=m from ug λj=>by
   by_cases hj:kb=j
   .subst hj;rw[dQ f,b]
   .rw[cJ hj]]
  exact B_ J (seq1 (vY<|cE (ts:=[P]) J g)<|seq1 (Ű ((QX (neg:=O) (ky:=.s X) J (qg (j:=2) J a J J) J b).trans<|by rw[bt J,dr Cs];rfl) J)<|B9<|QY (ky:=.s X) (qg (j:=2) J a J J) J J b u) J
 .refine⟨ks++[.s X],ts++[.bl v],?_,⟨by simp[K.len],λz t l=>?_⟩,by simp⟩
  .exact B_ J (seq1 (vY<|cE (ts:=[P]) J g)<|seq1 (ů ((QX (neg:=O) (ky:=.s X) J (qg (j:=2) J a J J) J b).trans<|by rw[bt J,dd Cs];rfl)<|Wi (ky:=.s X) (cE (ts:=[P,.str row]) (aC J<|aC (qg (j:=0) J a J J) J) o) (qg (j:=2) J a J J) J J b Cs y)<|B9<|QY (ky:=.s X) (qg (j:=2) J (ob:=⟨22,[.val<|.str row,.val<|.int num,.val<|.own kb]⟩) (by rw[cJ x];exact a) J J) J J (dQ f)<|by rw[tF K.len Cs,bt J]) J
  .rw[tF K.len Cs]at l
   split at l
   .rename_i e
    cases l;injection e with e
    rw[q]at e;injection e with e
    rw[i,e]
   .exact K.at_ z t l
structure WV where
 lines:FC
 bm:T
 tl:Nat
 tr:T
 ps:Int
 mt:Nat
 tk:Int
 hand:T
 hr:Int
 sh:Nat
 su:Nat
 no:Nat
 lg:Nat
 wt:Bool
def WV.ob(v:WV):Ob:=⟨24,[.val<|.lst v.lines,.val v.bm,.val<|.own v.tl,.val v.tr,.val<|.int v.ps,.val<|.own v.mt,.val<|.int v.tk,.val v.hand,.val<|.int v.hr,.val<|.own v.sh,.val<|.own v.su,.val<|.own v.no,.val<|.own v.lg,.val<|.bl v.wt]⟩
structure WS(m:FR)(w:Nat)(v:WV)(log:FC):Prop where
 o:m[w]?=U v.ob
 l:m[v.lg]?=U ⟨M.bc,[.ol log]⟩
 ne:v.lg≠w
 qG:log.length<900000
structure Fr(X:Nat->Prop)(m m':FR):Prop where
 le:m.length<=m'.length
 at_:∀k,k<m.length->¬ X k->m'[k]?=m[k]?
def Fr.refl{X:Nat->Prop}:Fr X m m:=⟨bW _,λ_ _ _=>J⟩
theorem Fr.trans{X:Nat->Prop}{m m1 m2:FR}(a:Fr X m m1)(b:Fr X m1 m2):Fr X m m2:=⟨dq a.le b.le,λk h x=>(b.at_ k (ez h a.le) x).trans<|a.at_ k h x⟩
theorem Fr.set{X:Nat->Prop}{k:Nat}{ob:Ob}(h:X k):Fr X m<|m.set k ob:=⟨by rw[eU];exact bW _,λj _ x=>cJ λ(z:k=j)=>x<|z▸h⟩
def WX(w:Nat)(v:WV)(k:Nat):Prop:=k=w\/k=v.lg
section
variable{m:FR}{w f j:Nat}{v v':WV}{log:FC}{r:Fh}{a:FE}{t:T}{s:S}
def WS.app(a:WS m w v log)(h:(log++[t]).length<900000):WS (m.set v.lg ⟨M.bc,[.ol<|log++[t]]⟩) w v<|log++[t]:=
 ⟨by rw[cJ a.ne];exact a.o,dQ (du.mp a.l).1,a.ne,h⟩
def WS.fld(a:WS m w v log)(h:v'.lg=v.lg):WS (m.set w v'.ob) w v' log:=
 ⟨dQ (du.mp a.o).1,by rw[h,cJ<|Ne.symm a.ne];exact a.l,by rw[h];exact a.ne,a.qG⟩
def w_fld(b:WS m w v log)(hj:gW M.P.tab 24 f=U j)(a:v.ob.fs[j]?=sv t):aB M.P.tab f zA ⟨sv (.own w)::r,m⟩=.ok (t,⟨sv (.own w)::r,m⟩):=qg (k:=w) J b.o hj a
def AJ(b:WS m w v log)(c:a ⟨sv (.own w)::r,m⟩=.ok (t,⟨sv (.own w)::r,m⟩)):fF M.bc (aB M.P.tab 29 zA) a ⟨sv (.own w)::r,m⟩=.ok (.nx,⟨sv (.own w)::r,m.set v.lg ⟨M.bc,[.ol<|log++[t]]⟩⟩):=by
 unfold fF;rw[w_fld b (j:=12) (t:=.own v.lg) J J];refine cQ ?_;show Res.bind (aW<|mD M.bc m<|.own v.lg) _=_;rw[Ay b.l];refine cQ ?_;show Res.bind (a ⟨sv (.own w)::r,m⟩) _=_;rw[c];refine cQ ?_;show Res.bind (aW<|mD M.bc m<|.own v.lg) _=_;rw[Ay b.l];refine cQ ?_;show Res.bind (aW<|gd (log.length<1000000) ()) _=_;rw[ji<|by have:=b.qG;exact ez this<|by decide]
 rfl
def Nb(d:WS m w v log)(c:a ⟨sv (.own w)::r,m⟩=.ok (t,⟨sv (.own w)::r,m⟩))(b:dY M.P.tab f (.val t) v.ob=U v'.ob):aL M.P.tab f zA a ⟨sv (.own w)::r,m⟩=.ok (.nx,⟨sv (.own w)::r,m.set w v'.ob⟩):=by
 unfold aL;rw[c];refine cQ ?_;show Res.bind (aW<|(m[w]?).bind _) _=_;rw[d.o];show Res.bind (aW<|dY M.P.tab f (.val t) v.ob) _=_;rw[b];rfl
def GF{aj:Nat->Fn}{i:Nat}{fl:FL}{ts:FC}{Q:T×FR->Prop}(f:WS m w v log)(c:fl ⟨sv (.own w)::r,m⟩=.ok (ts,⟨sv (.own w)::r,m⟩))(b:W (aj i (.own w::ts) m) Q):W (aQ (aD (aw [(24,i)] aj) zA fl) ⟨sv (.own w)::r,m⟩) λp=>p.1=.nx/\p.2.r=sv (.own w)::r/\∃u,Q (u,p.2.m):=by
 obtain⟨⟨u,a⟩,e,q⟩:=b;have d:aD (aw [(24,i)] aj) zA fl ⟨sv (.own w)::r,m⟩=.ok (u,⟨sv (.own w)::r,a⟩):=Av (k:=w) (ob:=v.ob) (s1:=⟨sv (.own w)::r,m⟩) (s2:=⟨sv (.own w)::r,m⟩) J f.o J c e;refine⟨(.nx,⟨sv (.own w)::r,a⟩),?_,J,J,u,q⟩;unfold aQ;rw[d];rfl
def Wj(d:WS m w v log)(hj:gW M.P.tab 24 f=U j)(b:v.ob.fs[j]?=sv (.int i))(a:(⟨24,v.ob.fs.set j<|.val<|.int<|i+1⟩:Ob)=v'.ob):vB M.P.tab f iN zA zI ⟨sv (.own w)::r,m⟩=.ok (.nx,⟨sv (.own w)::r,m.set w v'.ob⟩):=by
 have e:ie M.P.tab f m (.own w)=U (w,v.ob,j,.val<|.int i):=by
  show(m[w]?).bind _=_;rw[d.o];show(gW M.P.tab 24 f).bind _=_;rw[hj];show(v.ob.fs[j]?).map _=_;rw[b];rfl
 unfold vB;show Res.bind (aW<|ie M.P.tab f m<|.own w) _=_;rw[e];refine cQ ?_;show Res.bind (aW<|ie M.P.tab f m<|.own w) _=_;rw[e];refine cQ ?_;show Res.bind (aW<|gd (v.ob.c=v.ob.c) ()) _=_;rw[ji J];show Res.ok (Out.nx,(⟨sv (.own w)::r,m.set w ⟨v.ob.c,v.ob.fs.set j<|.val<|.int<|i+1⟩⟩:S))=_;rw[show v.ob.c=24 from J,a]
def Kl{B:FS}{Q:Out×S->Prop}(b:WS m w v log)(c:log.length+1<900000)(d:a ⟨sv (.own w)::r,m⟩=.ok (t,⟨sv (.own w)::r,m⟩))(k:∀m',WS m' w v (log++[t])->Fr (WX w v) m m'->W (B ⟨sv (.own w)::r,m'⟩) Q):W (af (fF M.bc (aB M.P.tab 29 zA) a) B ⟨sv (.own w)::r,m⟩) Q:=jE<|W.of (AJ b d) ⟨J,k _ (b.app<|by simpa using c)<|Fr.set<|.inr J⟩
def Cc{B:FS}{Q:Out×S->Prop}(b:WS m w v log)(v':WV)(d:v'.lg=v.lg)(e:a ⟨sv (.own w)::r,m⟩=.ok (t,⟨sv (.own w)::r,m⟩))(c:dY M.P.tab f (.val t) v.ob=U v'.ob)(k:∀m',WS m' w v' log->Fr (WX w v) m m'->W (B ⟨sv (.own w)::r,m'⟩) Q):W (af (aL M.P.tab f zA a) B ⟨sv (.own w)::r,m⟩) Q:=jE<|W.of (Nb b e c) ⟨J,k _ (b.fld d)<|Fr.set<|.inl J⟩
def Q0{i:Int}{B:FS}{Q:Out×S->Prop}(a:WS m w v log)(v':WV)(c:v'.lg=v.lg)(hj:gW M.P.tab 24 f=U j)(d:v.ob.fs[j]?=sv (.int i))(b:(⟨24,v.ob.fs.set j<|.val<|.int<|i+1⟩:Ob)=v'.ob)(k:∀m',WS m' w v' log->Fr (WX w v) m m'->W (B ⟨sv (.own w)::r,m'⟩) Q):W (af (vB M.P.tab f iN zA zI) B ⟨sv (.own w)::r,m⟩) Q:=jE<|W.of (Wj a hj d b) ⟨J,k _ (a.fld c)<|Fr.set<|.inl J⟩
def lu{aj:Nat->Fn}{i:Nat}{fl:FL}{ts:FC}{R:T×FR->Prop}{Q:Out×S->Prop}(h:WS m w v log)(d:fl ⟨sv (.own w)::r,m⟩=.ok (ts,⟨sv (.own w)::r,m⟩))(c:W (aj i (.own w::ts) m) R)(k:∀u m',R (u,m')->Q (.nx,⟨sv (.own w)::r,m'⟩)):W (aQ (aD (aw [(24,i)] aj) zA fl) ⟨sv (.own w)::r,m⟩) Q:=by
 refine(GF (r:=r) h d c).mono λp b=>?_;obtain⟨g,f,u,e⟩:=b;obtain⟨o,j,a⟩:=p;cases g;cases f;exact k u a e
def WR(w:Nat)(a v:WV)(log:FC)(m0:FR)(p:T×FR):Prop:=p.1=.non/\WS p.2 w v log/\Fr (WX w a) m0 p.2
abbrev ik(i:Int):T:=.tup [.str [119,97,110,116],.int<|i+1]
def AK(a:WS m w v log)(c:log.length+1<900000):W (cN (n+1) 61 [.own w] m)<|WR w v {v with wt:=O} (log++[ik v.tk]) m:=by
 rw[w61];have b:=a.app (t:=ik v.tk) (by simpa using c)
 have d:=b.fld (v':={v with wt:=O}) J
 refine eB J<|jE<|W.of (AJ a (t:=ik v.tk) (r:=[]) ?_) ⟨J,W.of (Nb b (t:=.bl O) (v':={v with wt:=O}) J J) ⟨J,J,d,(Fr.set<|.inr J).trans<|Fr.set<|.inl J⟩⟩
 exact dU (aC (t:=.str [119,97,110,116]) J<|aC (av (w_fld a (j:=6) (t:=.int v.tk) J J) J J) J) J
def AL(a:WS m w v log)(b:log.length+1<900000):W (cN (n+1) 68 [.own w,t] m)<|WR w v v (log++[.tup [.str zg,t]]) m:=by
 rw[w68];have c:=a.app (t:=.tup [.str zg,t]) (by simpa using b)
 refine eB J<|W.of (AJ a (t:=.tup [.str zg,t]) (r:=[sv t]) ?_) ⟨J,J,c,Fr.set<|.inr J⟩;exact dU (aC (t:=.str zg) J<|aC (t:=t) J J) J
def Km(a:WS m w v log)(b:log.length+1<900000):W (cN (n+1) 67 [.own w] m)<|WR w v v (log++[.tup [.str [110,111,110,101],.int<|v.tk+1]]) m:=by
 rw[w67];have c:=a.app (t:=.tup [.str [110,111,110,101],.int<|v.tk+1]) (by simpa using b)
 refine eB J<|W.of (AJ a (t:=.tup [.str [110,111,110,101],.int<|v.tk+1]) (r:=[]) ?_) ⟨J,J,c,Fr.set<|.inr J⟩;exact dU (aC (t:=.str [110,111,110,101]) J<|aC (av (w_fld a (j:=6) (t:=.int v.tk) J J) J J) J) J
end
section
variable{m:FR}{w f j:Nat}{v v':WV}{log:FC}{r:Fh}{a:FE}{t:T}{s:S}
abbrev we:T:=.tup [.str [111,118,101,114]]
abbrev AM(t:T):T:=.tup [.str zg,t]
def Kn(f:WS m w v log)(b:log.length+2<900000):W (cN (n+2) 69 [.own w] m)<|WR w v {v with hand:=.non,hr:=0,ps:=0,wt:=O} (log++[we]++[ik v.tk]) m:=by
 rw[w69];refine eB J<|Kl (r:=[]) (t:=we) f (by lia) J λm1 e k=>Cc e {v with hand:=.non} J J J λm2 d j=>Cc d {v with hand:=.non,hr:=0} J J J λm3 c i=>Cc c {v with hand:=.non,hr:=0,ps:=0} J J J λm4 a g=>lu a J (AK n a<|by simp;exact b) λ_ m5 h=>⟨J,J,h.2.1,(((k.trans j).trans i).trans g).trans h.2.2⟩
def Ko(a:WS m w v log)(c:log.length+3<900000):W (cN (n+3) 70 [.own w] m)<|WR w v {v with hand:=.non,hr:=0,ps:=0,wt:=O} (log++[AM v.hand]++[we]++[ik v.tk]) m:=by
 rw[w70];exact eB J<|jE<|lu (r:=[]) (ts:=[v.hand]) a (aC (w_fld a (j:=7) J J) J) (AL (n+1) a<|by lia) λ_ m1 h=>⟨J,lu h.2.1 J (Kn n h.2.1<|by simp;exact c) λ_ m2 b=>⟨J,J,b.2.1,h.2.2.trans b.2.2⟩⟩
end
def Fr.mono{X c:Nat->Prop}{m m':FR}(h:Fr X m m')(k:∀j,X j->c j):Fr c m m':=⟨h.le,λj a b=>h.at_ j a λz=>b<|k j z⟩
def Fr.get{X:Nat->Prop}{m m':FR}(h:Fr X m m'){k:Nat}{ob:Ob}(e:m[k]?=U ob)(x:¬ X k):m'[k]?=U ob:=(h.at_ k (du.mp e).1 x).trans e
structure RA(A:B1)(tx:Nat->B1)(nu:Nat->Int)(c:Nat)(m:FR):Prop where
 o:∀k∈A,m[k]?=U ⟨22,[.val<|.str<|tx k,.val<|.int<|nu k,.val<|.own<|k+1]⟩
 b:∀k∈A,∃ks ts,m[k+1]?=U ⟨M.bc,[.od ks ts]⟩/\RM (tx k) ks ts/\ks.length<=c
 sp:∀k∈A,∀j∈A,k≠j+1
 sh:∀k∈A,(tx k).length<=1000
def RX(A:B1)(j:Nat):Prop:=∃k∈A,j=k+1
def LN.cv:LN->T
 |.ad c _ _=>J1 c
 |.te=>.obj 9 []
def LN.HA(x:B1):LN->Bool
 |.ad c _ _=>if c=0 then O else tU [96+c] x
 |.te=>O
section
variable{A B:B1}{z:Nat->B1}{Q:Nat->Int}{c k d j tk:Nat}{m m':FR}{tl pl g:T}{ob:Ob}
def RA.mono{c':Nat}(R:RA A z Q c m)(h:c<=c'):RA A z Q c' m:=⟨R.o,λk e=>let⟨ks,ts,a,b,d⟩:=R.b k e;⟨ks,ts,a,b,dq d h⟩,R.sp,R.sh⟩
def RA.fr{X:Nat->Prop}(R:RA A z Q c m)(F:Fr X m m')(h:∀k∈A,¬ X k/\¬ X (k+1)):RA A z Q c m':=⟨λk d=>F.get (R.o k d) (h k d).1,λk d=>let⟨ks,ts,a,b⟩:=R.b k d;⟨ks,ts,F.get a (h k d).2,b⟩,R.sp,R.sh⟩
def TR(A:B1)(z:Nat->B1)(Q:Nat->Int)(b:Bool)(c:Nat)(m:FR)(p:T×FR):Prop:=p.1=.bl b/\RA A z Q c p.2/\Fr (RX A) m p.2
def GG(R:RA A z Q c m)(a:k∈A)(x:c<900000)(h:d=1\/d=2):W (cN (n+21) 56 [.own k,sZ d] m)<|TR A z Q (tU [96+d]<|z k) (c+1) m:=by
 obtain⟨ks,ts,g,K,w⟩:=R.b k a;obtain⟨j,i,e,u,v⟩:=QZ n (c:=d) (R.o k a) g (by lia) K (by lia) (R.sh k a) h
 refine W.of e ⟨J,⟨λq f=>?_,λq f=>?_,R.sp,R.sh⟩,Fr.set ⟨k,a,J⟩⟩
 .show(m.set (k+1) _)[q]?=_
  rw[cJ<|Ne.symm<|R.sp q f k a];exact R.o q f
 .by_cases hqk:q=k
  .subst hqk
   exact⟨j,i,dQ (du.mp g).1,u,by lia⟩
  .obtain⟨p,l,t,s,r⟩:=R.b q f
   exact⟨p,l,by show(m.set (k+1) _)[q+1]?=_;rw[cJ<|by lia];exact t,s,dq r<|cH ..⟩
def GH(R:RA A z Q c m)(a:k∈A)(b:c<900000)(h:d=1\/d=2):W (cN (n+23) 59 [tl,pl,.obj 5 [sZ d],.own k,.lst<|B.map T.own] m)<|TR A z Q (tU [96+d]<|z k) (c+1) m:=by
 have e:W (cN (n+22) 20 [.obj 5 [sZ d],.own k] m)<|TR A z Q (tU [96+d]<|z k) (c+1) m:=by
  rw[Ã];obtain⟨⟨u,m'⟩,e,q⟩:=GG n R a b h;exact sW J<|bN J<|bY J<|QD (mE (k:=k) J (R.o k a) J J e) q
 rw[ñ];exact sW J<|bN J<|bN J<|bN J<|bN J<|V2<|V1<|W.of J e
def GI(x:LN)(ok:x.ok)(R:RA A z Q c m)(b:k∈A)(h:c+1<900000):W (cN (n+23) 59 [tl,pl,x.cv,.own k,.lst<|B.map T.own] m)<|TR A z Q (x.HA<|z k) (c+1) m:=by
 have al:∀{v:T},v=.obj 2 []\/v=.obj 9 []->W (cN (n+23) 59 [tl,pl,v,.own k,.lst<|B.map T.own] m) (TR A z Q O (c+1) m):=λ{v} a=>by
  have e:cN (n+22) 20 [v,.own k] m=.ok (.bl O,m):=by
   rw[Ã];rcases a with rfl|rfl<;>rfl
  rw[ñ];rcases a with rfl|rfl<;>exact sW J<|bN J<|bN J<|bN J<|bN J<|bR (cE (ts:=[_,.own k]) J e) ⟨J,R.mono<|cH ..,Fr.refl⟩
 cases x with
 |te=>exact al<|.inr J
 |ad d i j=>
  by_cases hd:d=0
  .subst hd
   exact al<|.inl J
  .have g:LN.cv (.ad d i j)=.obj 5 [sZ d]:=ag hd
   have f:LN.HA (z k) (.ad d i j)=tU [96+d] (z k):=ag hd;rw[g,f];exact GH n R b (by lia) (by have:=ok.1;lia)
end
def XC(L:List LN)(ub:Nat):Ob:=⟨23,[.val<|.lst<|L.map LN.cv,.val<|.own ub]⟩
def jf(x:B1)(L:List LN):Ee:=L.map<|LN.HA x
section
variable{A B:B1}{F:Nat->B1}{Q:Nat->Int}{c k j tk ub:Nat}{m m':FR}{ob:Ob}{L:List LN}
theorem AN(n:Nat)(j:k∈A)(b:¬ RX A tk){all:List LN}:∀(L:List LN)(i:Int)(bs:Ee)(c:Nat)(m:FR)(u v:Option C),(∀x∈L,x.ok)->RA A F Q c m->c+L.length<900000->bs.length+L.length<1000->m[tk]?=U (XC all ub) ->
  W (b7 (eV [4,5]) (mw 3<|aD (aw [(23,59)]<|cN<|n+23) zA<|bH (vF 4)<|k3 (vF 5) zB zC) (dO i<|L.map LN.cv) ⟨[sv<|.own tk,sv<|.own k,sv<|.lst<|B.map T.own,U<|.ol<|bs.map T.bl,u,v],m⟩) λp=>p.1=.nx/\∃u v m',p.2=⟨[sv<|.own tk,sv<|.own k,sv<|.lst<|B.map T.own,U<|.ol<|(bs++jf (F k) L).map T.bl,u,v],m'⟩/\RA A F Q (c+L.length) m'/\Fr (RX A) m m'
 |[],i,bs,c,m,u,v,_,R,_,_,_=>⟨_,J,J,u,v,m,by rw[show jf (F k) []=[]from J,dw],R,Fr.refl⟩
 |x::L,i,bs,c,m,u,v,h,R,w,z,d=>by
  rw[bI]at w z;obtain⟨⟨t,m1⟩,e,a,D,l⟩:=GI n x (h x<|bC ..) (tl:=.own tk) (pl:=.int i) (B:=B) R j (by lia)
  have a:t=.bl (x.HA<|F k):=a;subst a;have E:m1[tk]?=U (XC all ub):=l.get d b;have g:=AN n j b L (i+1) (bs++[x.HA<|F k]) (c+1) m1 (sv<|.int i) (sv x.cv) (λy s=>h y<|eE _ s) D (by lia) (by simp;lia) E
  rw[i6]at g;refine ig J<|W.of (QM (MR:=bs.map T.bl) (ts:=bs.map T.bl) J (mE J d J J e) J<|by rw[bX];lia) ⟨J,g.mono λp f=>⟨f.1,?_⟩⟩
  obtain⟨_,q,o,m',q2,r,q4⟩:=f;exact⟨q,o,m',by rw[q2,b_];rfl,by rw[bI,show c+(L.length+1)=c+1+L.length by lia];exact r,l.trans q4⟩
def Kp(h:k∈A)(f:¬ RX A tk)(g:∀x∈L,x.ok)(R:RA A F Q c m)(i:c+L.length<900000)(l:L.length<1000)(b:m[tk]?=U (XC L ub)) :
  W (cN (n+24) 58 [.own tk,.own k,.lst<|B.map T.own] m) λp=>p.1=.lst ((jf (F k) L).map T.bl)/\RA A F Q (c+L.length) p.2/\Fr (RX A) m p.2:=by
 rw[w58];refine sW J<|gM<|W.of J ⟨J,gM<|fV<|W.of (a:=(dO 0<|L.map LN.cv,(⟨[sv<|.own tk,sv<|.own k,sv<|.lst<|B.map T.own,U<|.ol [],Y,Y],m⟩:S))) ?_<|(AN n h f (all:=L) (ub:=ub) L 0 [] c m Y Y g R i (by simpa using l) b).mono λp d=>⟨d.1,?_⟩⟩
 .unfold gI
  rw[qg (k:=tk) (s1:=⟨[sv<|.own tk,sv<|.own k,sv<|.lst<|B.map T.own,U<|.ol [],Y,Y],m⟩) (j:=0) J b J J];rfl
 .obtain⟨_,u,v,m',e,q,o⟩:=d
  rw[e];exact QD J ⟨J,q,o⟩
end
theorem oX{g:FG}{c:FT}{e:FE}{b:Fh}{m:FR}{p:T->Bool}{f:T->T}:∀{ts:FC},(∀t∈ts,∃b1 b2,g t b=U b1/\c ⟨b1,m⟩=.ok (p t,⟨b1,m⟩)/\(p t=O->e ⟨b1,m⟩=.ok (f t,⟨b2,m⟩)))->bz g c e b ts m=.ok ((ts.filter p).map f,m)
 |[],_=>J
 |t::ts,h=>by
  obtain⟨b1,b2,l,k,j⟩:=h t<|bC ..;have d:=oX (ts:=ts) (p:=p) (f:=f) λt i=>h t<|eE _ i;unfold bz;rw[l];refine cQ ?_;show Res.bind (c ⟨b1,m⟩) _=_;rw[k];refine cQ ?_;dsimp only;cases a:p t with
  |false=>
   rw[C_<|by rw[a];exact cK]
   exact d
  |true=>
   rw[Dc a];show Res.bind (e ⟨b1,m⟩) _=_;rw[j a];show Res.bind (bz g c e b ts m) _=_;rw[d];rfl
def iS(l:B1):Ap:=(aU 32 l).filter λw=>!decide (w=[])
def neN:T->Bool
 |.str w=>!decide (w=[])
 |_=>Zb
theorem wg:∀l:Ap,((l.map T.str).filter neN).map (λt=>t)=(l.filter λw=>!decide (w=[])).map T.str
 |[]=>J
 |w::l=>by
  have b:=wg l;rw[List.map_id']at b ⊢;rw[dG];cases a:(!decide (w=[]))with
  |false=>rw[C_<|by show ¬ (!decide (w=[]))=O;rw[a];exact cK,C_<|by rw[a];exact cK];exact b
  |true=>rw[Dc<|by exact a,Dc<|by exact a,dG,b]
theorem oY(c:Nat):∀l:B1,(aU c l).length<=l.length+1
 |[]=>bW _
 |d::l=>by
  have a:=oY c l;unfold aU;split
  .rw[bI,bI];lia
  .split
   .rename_i p r e
    rw[e]at a;rw[bI]at a ⊢;rw[bI];lia
   .rw[bI];show 1<=_;lia
def wm{i:Nat}{s:S}{l:B1}(b:vF i s=.ok (.str l,s))(c:l.length<=1000):dB (bQ (iL<|j9 splitM (vF i)<|k1<|cS [32]) 2 [] (setG 1) (b9<|a_ (aP .NotEq) zB<|cS []) zB) s=.ok (.lst<|(iS l).map T.str,s):=by
 have e:splitM l [.str [32]]=U (.lst<|(aU 32 l).map T.str):=by
  show gd _ _=_;rw[ji<|dq c<|by decide]
 refine QP (ts:=(aU 32 l).map T.str) (Xy (t:=.lst<|(aU 32 l).map T.str) (RK b J e) J) ?_ J ?_
 .rw[bX];have:=oY 32 l;lia
 .rw[show(iS l).map T.str=(((aU 32 l).map T.str).filter neN).map (λt=>t)from(wg _).symm]
  refine oX λt a=>?_;obtain⟨w,_,rfl⟩:=gA.mp a;exact⟨_,_,J,J,λ_=>J⟩
def GJ{l:B1}(a:l.length<=1000):cN (n+1) 21 [.str l] m=.ok (.lst<|(iS l).map T.str,m):=by
 rw[ź];exact sEq J J (e8 _)<|bR (wm J a) J
end K37
namespace K37
open D PySem PySem.NumText
variable(n:Nat){m:List _root_.D.Ob}
def mJ:B1:=[48,49,50,51,52,53,54,55,56,57]
def Kq(l:B1):Bool:=l.all λc=>decide<|c∈mJ
def XD:T->T
 |.str [c]=>.bl<|decide<|c∈mJ
 |_=>.non
theorem qY{α:Type}(f:α->Bool):∀l:List α,boolsOf (l.map λw=>T.bl<|f w)=U (l.map f)
 |[]=>J
 |w::l=>by
  show(boolsOf<|l.map λw=>T.bl<|f w).map _=_;rw[qY f l];rfl
def Wl(c:Nat)(l:B1):aP .In (.str [c]) (.str l)=U (.bl<|decide<|c∈l):=J
def wo(l:B1):BL [.lst<|(l.map λc=>T.str [c]).map XD]=U (.bl<|Kq l):=by
 show(boolsOf _).map _=_;rw[iu,show(XD∘λc=>T.str [c])=λc=>T.bl (decide<|c∈mJ)from J,qY];show U (T.bl<|(l.map _).all id)=_;rw[CZ];rfl
def Kr{l:B1}(b:l.length<=1000):cN (n+1) 1 [.str l,.str mJ] m=.ok (.bl<|Kq l,m):=by
 rw[w1];refine sEq J J J<|bR (dU (ts:=[.lst<|(l.map λc=>T.str [c]).map XD]) (aC (QP (ts:=l.map λc=>T.str [c]) J (by rw[bX];exact dq b<|by decide) J<|jF λt a=>?_) J)<|wo l) J
 obtain⟨c,d,rfl⟩:=gA.mp a;exact⟨_,_,J,av (t:=.str [c]) (u:=.str mJ) J J<|Wl c mJ⟩
def GK{c:FT}{s:S}{b:Bool}(h:c s=.ok (b,s)):dS c s=.ok (!b,s):=by unfold dS;rw[h];rfl
def qZ(w:B1):B1:=if pre [45] w then bM w (U 1) Y else w
def gj(w:B1):Bool:=!(decide (qZ w=[]) ||(decide ((60:Int)<((qZ w).length:Nat)) || !Kq (qZ w)))
def fL(w:B1):Int:=if pre [45] w then -((digitsVal<|qZ w:Nat):Int)else((digitsVal w:Nat):Int)
def lA(w:B1):T:=if gj w then .int (fL w)else .non
def AO{l:B1}(h:Kq l=O):AllDigits l:=λc a=>by
 have:=dc<|iD.mp h c a
 simp only[mJ,bK,iC,hH]at this;rcases this with rfl|rfl|rfl|rfl|rfl|rfl|rfl|rfl|rfl|rfl<;>exact⟨by decide,by decide⟩
def GL{w:B1}(h:gj w=O):mz [.str w]=U (.int<|fL w):=by
 unfold gj at h;simp only[uE,uF,gs,yK]at h;obtain⟨c,d,g⟩:=h;have hd:=AO g;unfold fL;show(tc ⟨w.toArray⟩).bind _=_;cases b:pre [45] w with
 |false=>
  have e:qZ w=w:=ag (by rw[b];exact cK)
  rw[e]at c d hd;rw[intText_digits (x:=⟨w.toArray⟩) hd c<|by show w.length<=4300;lia]
  show gd _ _=_;rw[ji<|by lia];rfl
 |true=>
  have e:qZ w=bM w (U 1) Y:=bt b;cases w with
  |nil=>cases b
  |cons a r=>
   have f:a=45:=by
    have:=(uD.mp<|show(_&&_)=O from b).2
    have:=eq_of_beq this
    injection this
   have i:bM (a::r) (U 1) Y=r:=by
    show((a::r).drop<|min 1<|r.length+1).take (r.length+1-min 1 (r.length+1))=r;rw[show min 1 (r.length+1)=1 by lia,List.drop_succ_cons,um,ux<|by lia]
   rw[i]at e;rw[e]at c d hd ⊢;rw[intText_neg (x:=⟨(a::r).toArray⟩) (cs:=r) (by rw[f]) hd c<|by show(a::r).length<=4300;rw[bI];lia]
   show gd _ _=_;rw[ji<|by rw[bI];lia];rfl
def wu(w:B1):noOwn (lA w)=O:=by unfold lA;split<;>rfl
def tG{w:B1}(e:(qZ w).length<=1000):cN (n+2) 23 [.str w] m=.ok (lA w,m):=by
 rw[ż];have f:u_ (tB<|j9 Ex zA<|k1<|cS [45]) (lH zA (jh zI) rP) zA (⟨[sv<|.str w,Y],[]⟩:S)=.ok (.str<|qZ w,⟨[sv<|.str w,Y],[]⟩):=by
  unfold u_ qZ;rw[J4 (b:=pre [45] w)<|RK (l:=w) (ts:=[.str [45]]) J J J];show(if pre [45] w then _ else _)=_
  cases pre [45] w<;>rfl
 have d:=Kr n (l:=qZ w) (m:=[]) e;refine sEq J J (wu w)<|bS f ?_
 generalize hF:qZ w=F at d ⊢
 have a:kT (b9<|oE zB<|cS []) (kT (b9<|a_ (aP .Gt) (bA cV<|k1 zB)<|cI 60)<|dS<|tB<|aq (cN (n+1) 1) []<|k2 zB<|cS mJ) (⟨[sv<|.str w,sv<|.str F],[]⟩:S)=.ok (!gj w,⟨[sv<|.str w,sv<|.str F],[]⟩):=by
  unfold gj;rw[hF,LW];exact Gs (lN<|av (t:=.str F) (u:=.str []) J J<|J2 F [])<|Gs (lN<|av (t:=.int (F.length:Nat)) (u:=.int 60) J J<|J3 _ _)<|GK<|J4<|cE (ts:=[.str F,.str mJ]) J d
 unfold lA;cases c:gj w with
 |false=>
  rw[c]at a;exact bY a<|bR J J
 |true=>
  rw[c]at a;exact bN a<|bR (dU (ts:=[.str w]) J<|GL c) J
def Wm(w:B1):bM w (U<|if pre [45] w then 1 else 0) Y=qZ w:=by
 unfold qZ;cases pre [45] w with
 |true=>rfl
 |false=>
  show(w.drop<|min 0 w.length).take (w.length-min 0 w.length)=w;rw[show min 0 w.length=0 by lia,um,Nat.sub_zero,List.take_length]
def qh{w:B1}(d:(qZ w).length<=1000):cN (n+1) 46 [.str w] m=.ok (lA w,m):=by
 rw[w46];have f:lH zA (jh<|bA mz<|k1<|j9 Ex zA<|k1<|cS [45]) rP (⟨[sv<|.str w,Y],[]⟩:S)=.ok (.str<|qZ w,⟨[sv<|.str w,Y],[]⟩):=by
  refine Xx (t:=.str w) (x:=U<|if pre [45] w then 1 else 0) (y:=Y) J ?_ J (by show U (T.str<|bM w _ Y)=_;rw[Wm])
  unfold jh;rw[dU (ts:=[.bl<|pre [45] w]) (t:=.int<|if pre [45] w then 1 else 0) (aC (RK (l:=w) (ts:=[.str [45]]) J J J) J) J]
  rfl
 refine sEq J J (wu w)<|bS f ?_
 generalize hF:qZ w=F at d ⊢
 have a:kT (b9<|a_ (aP .Lt) (bA cV<|k1 zB) zI) (kT (b9<|a_ (aP .Gt) (bA cV<|k1 zB)<|cI 60)<|dS<|tB<|bA BL<|k1<|dB<|bQ (iL zB) 2 [] (setG 1) dM<|a_ (aP .In) zB<|cS mJ) (⟨[sv<|.str w,sv<|.str F],[]⟩:S)=.ok (!gj w,⟨[sv<|.str w,sv<|.str F],[]⟩):=by
  unfold gj;rw[hF,LW,show decide (F=[])=decide (((F.length:Nat):Int)<1)from decide_eq_decide.mpr ⟨λz=>by rw[z];decide,λz=>Dd<|by lia⟩]
  refine Gs (lN<|av (t:=.int (F.length:Nat)) (u:=.int 1) J J<|Wb _ _)<|Gs (lN<|av (t:=.int (F.length:Nat)) (u:=.int 60) J J<|J3 _ _)<|GK<|J4<|dU (ts:=[.lst<|(F.map λc=>T.str [c]).map XD]) (aC (QP (ts:=F.map λc=>T.str [c]) J (by rw[bX];exact dq d<|by decide) J<|jF λt e=>?_) J)<|wo F
  obtain⟨c,g,rfl⟩:=gA.mp e;exact⟨_,_,J,av (t:=.str [c]) (u:=.str mJ) J J<|Wl c mJ⟩
 unfold lA;cases b:gj w with
 |false=>
  rw[b]at a;exact bY a<|bR J J
 |true=>
  rw[b]at a;exact bN a<|bR (dU (ts:=[.str w]) J<|GL b) J
def mK(l:B1)(i:Nat):T:=if(iS l).length<i then .non else .str ((iS l).getD (i-1) [])
def ĕ{ls:Ap}{i:Nat}(b:1<=i)(a:i<=ls.length):jw (.lst<|ls.map T.str) (.int ((i:Nat)-1:Int))=U (.str<|ls.getD (i-1) []):=by
 show atT (ls.map T.str) _=_;rw[show((i:Nat)-1:Int)=((i-1:Nat):Int) by lia,ib<|by rw[bX];lia,dH,cD<|by lia,gP,cD<|by lia]
 rfl
def oZ{l:B1}{i:Nat}(a:l.length<=1000)(hi:1<=i):cN (n+2) 22 [.str l,.int (i:Nat)] m=.ok (mK l i,m):=by
 rw[Ż];refine sEq J J (by unfold mK;split<;>rfl)<|bS (cE (ts:=[.str l]) J<|GJ n a) ?_
 have e:b9 (a_ (aP .Gt) zB<|bA cV<|k1 zC) (⟨[sv<|.str l,sv<|.int (i:Nat),sv<|.lst<|(iS l).map T.str],[]⟩:S)=.ok (decide<|(iS l).length<i,⟨[sv<|.str l,sv<|.int (i:Nat),sv<|.lst<|(iS l).map T.str],[]⟩):=by
  refine lN<|av (t:=.int (i:Nat)) (u:=.int ((iS l).length:Nat)) J (dU (ts:=[.lst<|(iS l).map T.str]) J<|by show U (T.int (((iS l).map T.str).length:Nat))=_;rw[bX]) ?_
  rw[J3];exact cm (λb=>U<|T.bl b)<|decide_eq_decide.mpr<|by lia
 unfold mK;by_cases h:(iS l).length<i
 .rw[bt h]
  rw[dr h]at e;exact bY e<|bR J J
 .rw[ag h]
  rw[dd h]at e;exact bN e<|bR (av (t:=.lst<|(iS l).map T.str) (u:=.int ((i:Nat)-1:Int)) J J<|ĕ hi<|by lia) J
theorem Nc:∀(n:Nat)(cs:B1),cs.length=n->AllDigits cs->digitsVal cs<10^n
 |0,cs,h,_=>by rw[Dd h];decide
 |n+1,cs,h,hd=>by
  rcases List.eq_nil_or_concat cs with e|⟨a,c,e⟩
  .rw[e]at h;cases h
  .rw[List.concat_eq_append]at e
   subst e;rw[dg,ng]at h;have d:=Nc n a (by lia) λx b=>hd x<|Ba _ b
   have f:=hd c (by simp)
   rw[digitsVal_snoc,Nat.pow_succ]
   lia
def Q2{w:B1}(h:gj w=O):(fL w).natAbs<10^60:=by
 unfold gj at h;simp only[uE,uF,gs,yK]at h;obtain⟨f,d,c⟩:=h;have hd:=Nc _ _ J<|AO c;have a:10^(qZ w).length<=10^60:=Nat.pow_le_pow_right (by decide) (by lia)
 unfold fL;cases b:pre [45] w with
 |true=>
  rw[bt J,Int.natAbs_neg,LZ];exact ez hd a
 |false=>
  have e:qZ w=w:=ag (by rw[b];exact cK)
  rw[ag cK,LZ];rw[e]at hd a;exact ez hd a
end K37
namespace K37
open D
variable(n:Nat){m:List _root_.D.Ob}
section
variable{a o b d:FE}{t u v:T}{s:S}{j kb:Nat}{ks:List Ky}{ts:FC}{ky:Ky}
def Nd(d:o s=.ok (.own kb,s))(b:s.m[kb]?=U ⟨j,[.ol ts]⟩)(e:a s=.ok (t,s))(c:ts.length<1000000):fF j o a s=.ok (.nx,⟨s.r,s.m.set kb ⟨j,[.ol<|ts++[t]]⟩⟩):=by
 unfold fF;rw[d];refine cQ ?_;show Res.bind (aW<|mD j s.m<|.own kb) _=_;rw[Ay b];refine cQ ?_;show Res.bind (a s) _=_;rw[e];refine cQ ?_;show Res.bind (aW<|mD j s.m<|.own kb) _=_;rw[Ay b];refine cQ ?_;show Res.bind (aW<|gd (ts.length<1000000) ()) _=_;rw[ji c];rfl
def Wn(c:o s=.ok (.own kb,s))(f:b s=.ok (t,s))(hd:d s=.ok (u,s))(e:gU t=U ky)(a:s.m[kb]?=U ⟨j,[.od ks ts]⟩):sC j o b d s=.ok ((fm ks ts ky).getD u,s):=by
 unfold sC;rw[c];refine cQ ?_;show Res.bind (aW<|jc j s.m<|.own kb) _=_;rw[oR a];refine cQ ?_;show Res.bind (b s) _=_;rw[f];refine cQ ?_;show Res.bind (d s) _=_;rw[hd];refine cQ ?_;show Res.bind (aW<|jc j s.m<|.own kb) _=_;rw[oR a];refine cQ ?_;show Res.bind (aW<|gU t) _=_;rw[e];rfl
def Wo(c:a s=.ok (u,s))(e:o s=.ok (.own kb,s))(h:b s=.ok (t,s))(g:gU t=U ky)(f:s.m[kb]?=U ⟨j,[.od ks ts]⟩)(d:ks.length<1000000):qa j o b a s=.ok (.nx,⟨s.r,s.m.set kb ⟨j,[.od (fD ks ts ky u).1 (fD ks ts ky u).2]⟩⟩):=by
 unfold qa;rw[c];refine cQ ?_;show Res.bind (o s) _=_;rw[e];refine cQ ?_;show Res.bind (b s) _=_;rw[h];refine cQ ?_;show Res.bind (aW<|jc j s.m<|.own kb) _=_;rw[oR f];refine cQ ?_;show Res.bind (aW<|gU t) _=_;rw[g];refine cQ ?_;show Res.bind (aW<|gd (ks.length<1000000) ()) _=_;rw[ji d];rfl
end
structure BX where
 ks:Ap
 zs:Dx
 nt:List<|Int×Int
def BX.ky(x:BX):List Ky:=x.ks.map Ky.s
def BX.vs(x:BX):FC:=x.zs.map T.int
def BX.no(x:BX):FC:=x.nt.map λp=>.tup [.int p.1,.int p.2]
def df:Ap->Dx->B1->Int
 |k::ks,z::zs,x=>if k=x then z else df ks zs x
 |_,_,_=>0
theorem mY:∀(ks:Ap)(zs:Dx)(x:B1),(fm (ks.map Ky.s) (zs.map T.int)<|.s x).getD (.int 0)=.int (df ks zs x)
 |[],_,_=>J
 |_::_,[],_=>J
 |k::ks,z::zs,x=>by
  rw[dG,dG,fm,df];by_cases e:k=x
  .rw[bt<|by rw[e],bt e];rfl
  .rw[ag λz=>e<|by injection z,ag e]
   exact mY ks zs x
def h_(ks:Ap)(zs:Dx)(x:B1)(z:Int):Ap×Dx:=if x∈ks then(ks,(ks.zip zs).map λp=>if p.1=x then z else p.2)else(ks++[x],zs++[z])
def tH{ks:Ap}{x:B1}:Ky.s x∈ks.map Ky.s ↔ x∈ks:=by
 rw[gA];exact⟨λ⟨y,h,e⟩=>by injection e with e;rw[<- e];exact h,λh=>⟨x,h,J⟩⟩
def Nf(ks:Ap)(zs:Dx)(x:B1)(z:Int):fD (ks.map Ky.s) (zs.map T.int) (.s x) (.int z)=((h_ ks zs x z).1.map Ky.s,(h_ ks zs x z).2.map T.int):=by
 unfold fD h_;by_cases h:x∈ks
 .rw[bt<|tH.mpr h,bt h]
  dsimp only;rw[List.zip_map,iu,iu]
  congr 1
  apply uh;intro p _;show(if Ky.s p.1=Ky.s x then T.int z else T.int p.2)=T.int (if p.1=x then z else p.2)
  by_cases e:p.1=x
  .rw[bt<|by rw[e],bt e]
  .rw[ag λq=>e<|by injection q,ag e]
 .rw[ag λq=>h<|tH.mp q,ag h,i6,i6];rfl
def GN{ks:Ap}{zs:Dx}{x:B1}{z:Int}(h:ks.length=zs.length):(h_ ks zs x z).1.length=(h_ ks zs x z).2.length/\(h_ ks zs x z).1.length<=ks.length+1:=by
 unfold h_;split
 .rw[bX,nk];exact⟨by lia,cH ..⟩
 .rw[dg,dg,h];exact⟨J,bW _⟩
def Ks{ks:Ap}{zs:Dx}{x:B1}{z:Int}{P:B1->Prop}(h:∀k∈ks,P k)(b:P x):∀k∈(h_ ks zs x z).1,P k:=λk a=>by
 unfold h_ at a;split at a
 .exact h k a
 .rcases ir.mp a with q|q
  .exact h k q
  .rw[iw.mp q];exact b
def Ku{ks:Ap}{zs:Dx}{x:B1}{z:Int}{P:Int->Prop}(h:∀k∈zs,P k)(b:P z):∀k∈(h_ ks zs x z).2,P k:=λk a=>by
 unfold h_ at a;split at a
 .obtain⟨p,c,rfl⟩:=gA.mp a
  show P<|if p.1=x then z else p.2
  split
  .exact b
  .exact h _ (yt c).2
 .rcases ir.mp a with q|q
  .exact h k q
  .rw[iw.mp q];exact b
theorem sum_in:∀(ks:Ap)(zs:Dx)(x:B1),df ks zs x=0\/df ks zs x∈zs
 |[],_,_=>.inl J
 |_::_,[],_=>.inl J
 |k::ks,z::zs,x=>by
  rw[df];by_cases e:k=x
  .rw[bt e];exact .inr<|bC ..
  .rw[ag e]
   exact(sum_in ks zs x).imp id λh=>eE _ h
theorem split_le{c:Nat}:∀{l:B1},∀w∈aU c l,w.length<=l.length
 |[],w,h=>by rw[iw.mp h];exact bW _
 |d::l,w,h=>by
  have a:=λw=>split_le (c:=c) (l:=l) w;unfold aU at h;split at h
  .rcases bK.mp h with z|z
   .rw[z];exact gq _
   .exact dq (a w z)<|cH ..
  .split at h
   .rename_i p r e
    rw[e]at a;rcases bK.mp h with z|z
    .rw[z];exact uc (a p<|bC ..) 1
    .exact dq (a w<|eE _ z)<|cH ..
   .rw[iw.mp h];show 1<=l.length+1;lia
abbrev wd(l:B1)(i:Nat):B1:=(iS l).getD (i-1) []
def GO(l:B1)(i:Nat):(wd l i).length<=l.length:=by
 show((iS l).getD (i-1) []).length<=_;rw[gP];cases h:(iS l)[i-1]? with
 |none=>exact gq _
 |some w=>exact split_le w (CQ.mp<|dh h).1
def GP(w:B1):(qZ w).length<=w.length:=by
 unfold qZ;split
 .unfold bM;rw[eT,jL];lia
 .exact bW _
def bad(l:B1)(i j:Nat):Bool:=decide ((iS l).length<i) ||(decide ((iS l).length<j) || !gj (wd l j))
def BX.add(x:BX)(l:B1)(i j:Nat)(a b:Int):BX:=if bad l i j then{x with nt:=x.nt++[(a,b)]}else{x with ks:=(h_ x.ks x.zs (wd l i)<|df x.ks x.zs (wd l i)+fL (wd l j)).1,zs:=(h_ x.ks x.zs (wd l i)<|df x.ks x.zs (wd l i)+fL (wd l j)).2}
structure BX.ok(x:BX)(c:Nat):Prop where
 len:x.ks.length=x.zs.length
 cs:x.ks.length<=c
 cn:x.nt.length<=c
 kl:∀k∈x.ks,k.length<=1000
 zl:∀z∈x.zs,z.natAbs<=c*10^60
def BX.ok.le{x:BX}{c d:Nat}(h:x.ok c)(k:c<=d):x.ok d:=⟨h.len,dq h.cs k,dq h.cn k,h.kl,λz a=>dq (h.zl z a)<|Lm _ k⟩
theorem BX.ok.add{x:BX}{c:Nat}{l:B1}{i j:Nat}{a b:Int}(h:x.ok c)(g:l.length<=1000):(x.add l i j a b).ok<|c+1:=by
 unfold BX.add;split
 .exact⟨h.len,dq h.cs<|cH ..,by show(x.nt++[(a,b)]).length<=_;rw[dg];exact uc h.cn 1,h.kl,(h.le<|cH ..).zl⟩
 .rename_i d
  unfold bad at d;simp only[Bd,tW,uE,Bool.not_eq_false]at d;have f:=Q2 d.2.2;have p:=GN (x:=wd l i) (z:=df x.ks x.zs (wd l i)+fL (wd l j)) h.len;refine⟨p.1,dq p.2<|uc h.cs 1,dq h.cn<|cH ..,Ks h.kl<|dq (GO l i) g,Ku (h.le<|cH ..).zl ?_⟩;have e:(df x.ks x.zs<|wd l i).natAbs<=c*10^60:=by
   rcases sum_in x.ks x.zs (wd l i)with z|z
   .rw[z];exact gq _
   .exact h.zl _ z
  rw[CK]
  generalize c*10^60=C at e ⊢
  generalize 10^60=B at f ⊢
  lia
structure WU(m:FR)(w:Nat)(v:WV)(log:FC)(x:BX)(c:Nat):Prop where
 s:WS m w v log
 su:m[v.su]?=U ⟨M.bc,[.od x.ky x.vs]⟩
 no:m[v.no]?=U ⟨M.bc,[.ol x.no]⟩
 a1:v.su≠w
 a2:v.su≠v.lg
 a3:v.no≠w
 a4:v.no≠v.lg
 a5:v.su≠v.no
 ok:x.ok c
def WJ(w:Nat)(v:WV)(k:Nat):Prop:=WX w v k\/k=v.su\/k=v.no
section
variable{m m':FR}{w c d i j:Nat}{v v':WV}{log g:FC}{x:BX}{r:Fh}{l:B1}{num:Int}{t:T}
def WU.up(Zf:WU m w v log x c)(e:WS m' w v' g)(F:Fr (WX w v) m m')(b:v'.su=v.su)(a:v'.no=v.no)(d:v'.lg=v.lg):WU m' w v' g x c:=
 ⟨e,by rw[b];exact F.get Zf.su λz=>z.elim Zf.a1 Zf.a2,by rw[a];exact F.get Zf.no λz=>z.elim Zf.a3 Zf.a4,by rw[b];exact Zf.a1,by rw[b,d];exact Zf.a2,by rw[a];exact Zf.a3,by rw[a,d];exact Zf.a4,by rw[b,a];exact Zf.a5,Zf.ok⟩
theorem WU.le(Zf:WU m w v log x c)(k:c<=d):WU m w v log x d:={Zf with ok:=Zf.ok.le k}
def WU.fr{X:Nat->Prop}(Zf:WU m w v log x c)(F:Fr X m m')(h:∀k,WJ w v k->¬ X k):WU m' w v log x c:=
 ⟨⟨F.get Zf.s.o<|h _<|.inl<|.inl J,F.get Zf.s.l<|h _<|.inl<|.inr J,Zf.s.ne,Zf.s.qG⟩,F.get Zf.su<|h _<|.inr<|.inl J,F.get Zf.no<|h _<|.inr<|.inr J,Zf.a1,Zf.a2,Zf.a3,Zf.a4,Zf.a5,Zf.ok⟩
def Kv(l:B1)(j:Nat):T:=if(iS l).length<j then .non else lA (wd l j)
def XE(t:T):aP .Is t .non=U (.bl<|mi t):=by
 show U (T.bl<|O == mi t)=_;cases mi t<;>rfl
def Q3(l:B1)(i j:Nat):(mi (mK l i) ||mi (Kv l j))=bad l i j:=by
 unfold bad mK Kv lA;by_cases h:(iS l).length<i
 .rw[bt h,dr h];rfl
 .rw[ag h,dd h]
  by_cases k:(iS l).length<j
  .rw[bt k,dr k];rfl
  .rw[ag k,dd k]
   cases gj (wd l j)<;>rfl
def Kw(h:bad l i j=Zb):mK l i=.str (wd l i)/\Kv l j=.int (fL<|wd l j):=by
 unfold bad at h;simp only[uF,gs,yK]at h;unfold mK Kv lA;rw[ag h.1,ag h.2.1,bt h.2.2];exact⟨J,J⟩
def add_eq(Zf:WU m w v log x c)(y:v.hand=.str l)(e:l.length<=1000)(hi:1<=i)(hj:1<=j)(H:c<900000):W (cN (n+3) 73 [.own w,.obj 20 [.int (i:Nat),.int (j:Nat)],.int num] m) λp=>p.1=.non/\WU p.2 w v log (x.add l i j v.tk num) (c+1)/\Fr (WJ w v) m p.2:=by
 rw[w73];have d:=Zf.s;obtain⟨D,g⟩:∃D,D=T.obj 20 [.int (i:Nat),.int (j:Nat)]:=⟨_,J⟩;have hd:∀{r:Fh},aB M.P.tab 24 zA ⟨sv (.own w)::r,m⟩=.ok (.str l,⟨sv (.own w)::r,m⟩):=by rw[<- y];exact w_fld d (j:=7) J J
 have G:aq (cN (n+2) 22) [] (k2 (aB M.P.tab 24 zA)<|aB M.P.tab 6 zB) ⟨sv (.own w)::[sv D,sv<|.int num,Y,Y,Y],m⟩=.ok (mK l i,⟨sv (.own w)::[sv D,sv<|.int num,Y,Y,Y],m⟩):=cE (ts:=[.str l,.int (i:Nat)]) (aC hd<|aC (by rw[g];rfl) J)<|oZ n e hi
 have F:aq (cN (n+2) 22) [] (k2 (aB M.P.tab 24 zA)<|aB M.P.tab 7 zB) ⟨sv (.own w)::[sv D,sv<|.int num,sv<|mK l i,Y,Y],m⟩=.ok (mK l j,⟨sv (.own w)::[sv D,sv<|.int num,sv<|mK l i,Y,Y],m⟩):=cE (ts:=[.str l,.int (j:Nat)]) (aC hd<|aC (by rw[g];rfl) J)<|oZ n e hj
 have E:u_ (b9<|a_ (aP .Is) (vF 4)<|cF .non) (cF .non) (aq (cN (n+2) 23) []<|k1<|vF 4) ⟨sv (.own w)::[sv D,sv<|.int num,sv<|mK l i,sv<|mK l j,Y],m⟩=.ok (Kv l j,⟨sv (.own w)::[sv D,sv<|.int num,sv<|mK l i,sv<|mK l j,Y],m⟩):=by
  unfold u_;rw[lN (b:=mi<|mK l j)<|av (t:=mK l j) (u:=.non) J J<|XE _];refine cQ ?_;unfold Kv mK;by_cases k:(iS l).length<j
  .rw[bt k,bt k];rfl
  .rw[ag k,ag k]
   show aq _ _ _ _=_;exact cE (ts:=[.str<|wd l j]) J<|tG n<|dq (GP _)<|dq (GO l j) e
 rw[<- g];refine eB J<|wS G<|wS F<|wS E ?_;have c1:kT (b9<|a_ (aP .Is) zD<|cF .non) (b9<|a_ (aP .Is) (vF 5)<|cF .non) ⟨sv (.own w)::[sv D,sv<|.int num,sv<|mK l i,sv<|mK l j,sv<|Kv l j],m⟩=.ok (bad l i j,⟨sv (.own w)::[sv D,sv<|.int num,sv<|mK l i,sv<|mK l j,sv<|Kv l j],m⟩):=by
  rw[<- Q3];exact Gs (lN<|av (t:=mK l i) (u:=.non) J J<|XE _)<|lN<|av (t:=Kv l j) (u:=.non) J J<|XE _
 have q:∀{r:Fh},aB M.P.tab 27 zA ⟨sv (.own w)::r,m⟩=.ok (.own v.su,⟨sv (.own w)::r,m⟩):=w_fld d (j:=10) J J;have fn:∀{r:Fh},aB M.P.tab 28 zA ⟨sv (.own w)::r,m⟩=.ok (.own v.no,⟨sv (.own w)::r,m⟩):=w_fld d (j:=11) J J;have B:∀{r:Fh},aB M.P.tab 23 zA ⟨sv (.own w)::r,m⟩=.ok (.int v.tk,⟨sv (.own w)::r,m⟩):=w_fld d (j:=6) J J;cases f:bad l i j with
 |true=>
  rw[f]at c1;have h:x.add l i j v.tk num={x with nt:=x.nt++[(v.tk,num)]}:=bt f
  have ok:=Zf.ok.add (i:=i) (j:=j) (a:=v.tk) (b:=num) e;rw[h]at ok ⊢;refine qe c1<|W.of (Nd (kb:=v.no) (t:=.tup [.int v.tk,.int num]) fn Zf.no (dU (aC B<|aC J J) J)<|by unfold BX.no;rw[bX];exact pJ Zf.ok.cn<|by lia) ⟨J,J,?_,Fr.set<|.inr<|.inr J⟩
  refine⟨⟨?_,?_,d.ne,d.qG⟩,?_,?_,Zf.a1,Zf.a2,Zf.a3,Zf.a4,Zf.a5,ok⟩
  .exact(cJ Zf.a3).trans d.o
  .exact(cJ Zf.a4).trans d.l
  .exact(cJ<|Ne.symm Zf.a5).trans Zf.su
  .refine(dQ (du.mp Zf.no).1).trans ?_
   unfold BX.no;rw[i6];rfl
 |false=>
  rw[f]at c1;obtain⟨A,z⟩:=Kw f;have h:x.add l i j v.tk num={x with ks:=(h_ x.ks x.zs (wd l i)<|df x.ks x.zs (wd l i)+fL (wd l j)).1,zs:=(h_ x.ks x.zs (wd l i)<|df x.ks x.zs (wd l i)+fL (wd l j)).2}:=ag (by rw[f];exact cK)
  have ok:=Zf.ok.add (i:=i) (j:=j) (a:=v.tk) (b:=num) e;rw[h]at ok ⊢;rw[A,z]at c1 ⊢;have C:sC M.bc (aB M.P.tab 27 zA) zD zO ⟨sv (.own w)::[sv D,sv<|.int num,sv<|.str<|wd l i,sv<|mK l j,sv<|.int<|fL<|wd l j],m⟩=.ok (.int<|df x.ks x.zs<|wd l i,⟨sv (.own w)::[sv D,sv<|.int num,sv<|.str<|wd l i,sv<|mK l j,sv<|.int<|fL<|wd l j],m⟩):=by
   rw[<- mY];exact Wn (kb:=v.su) (t:=.str<|wd l i) q J J J Zf.su
  refine e7 c1<|W.of (Wo (kb:=v.su) (u:=.int<|df x.ks x.zs (wd l i)+fL (wd l j)) (t:=.str<|wd l i) (ky:=.s<|wd l i) (av (u:=.int<|fL<|wd l j) C J J) q J J Zf.su<|by unfold BX.ky;rw[bX];exact pJ Zf.ok.cs<|by lia) ⟨J,J,?_,Fr.set<|.inr<|.inl J⟩
  refine⟨⟨?_,?_,d.ne,d.qG⟩,?_,?_,Zf.a1,Zf.a2,Zf.a3,Zf.a4,Zf.a5,ok⟩
  .exact(cJ Zf.a1).trans d.o
  .exact(cJ Zf.a2).trans d.l
  .refine(dQ (du.mp Zf.su).1).trans ?_
   unfold BX.ky BX.vs;rw[Nf]
  .exact(cJ Zf.a5).trans Zf.no
end
end K37
namespace K37
open D L2
variable(n:Nat){m:List _root_.D.Ob}
def Wq:T->FC
 |.tup<|.str nm::ys=>if nm=zg then ys.take 1 else[]
 |_=>[]
def LgO(e:T):Prop:=∃b a,e=.tup (.str b::a)/\(b=zg->∃x,a=[x])/\aH a=O
theorem wx:∀(log:FC)(m:FR),(∀e∈log,LgO e)->bz (setG 1) (b9<|oE (oI zB zO)<|cS zg) (oI zB zI) [Y,Y] log m=.ok (log.flatMap Wq,m)
 |[],_,_=>J
 |e::log,m,h=>by
  obtain⟨a,b,rfl,f,_⟩:=h e<|bC ..;have d:=wx log m λe g=>h e<|eE _ g;have j:jw (.tup<|.str a::b) (.int 0)=U (.str a):=by
   show atT (T.str a::b) (((0:Nat)):Int)=_;rw[ib<|by simp];rfl
  have c:b9 (oE (oI zB zO)<|cS zg) ⟨[Y,sv<|.tup<|.str a::b],m⟩=.ok (decide<|a=zg,⟨[Y,sv<|.tup<|.str a::b],m⟩):=lN<|av (av (t:=.tup<|.str a::b) (u:=.int 0) J J j) J<|J2 _ _;rw[bz];refine cQ ?_;show Res.bind (b9 _ ⟨[Y,sv<|.tup<|.str a::b],m⟩) _=_;rw[c];refine cQ ?_;rw[List.flatMap_cons];by_cases hn:a=zg
  .obtain⟨x,rfl⟩:=f hn
   have i:oI zB zI ⟨[Y,sv<|.tup [.str a,x]],m⟩=.ok (x,⟨[Y,sv<|.tup [.str a,x]],m⟩):=by
    refine av (t:=.tup [.str a,x]) (u:=.int 1) J J ?_;show atT [T.str a,x] (((1:Nat)):Int)=_;rw[ib<|by simp];rfl
   dsimp only;rw[dr hn,bt J,i];refine cQ ?_;dsimp only;rw[d];show Res.ok (x::log.flatMap Wq,m)=Res.ok ((if a=zg then[x].take 1 else[])++log.flatMap Wq,m)
   rw[bt hn];rfl
  .dsimp only
   rw[dd hn,ag cK,d];show _=Res.ok ((if a=zg then b.take 1 else[])++log.flatMap Wq,m)
   rw[ag hn];rfl
structure GV(log:FC)(rows:Ap):Prop where
 ok:∀e∈log,LgO e
 gv:log.flatMap Wq=rows.map T.str
section
variable{log ys:FC}{rows:Ap}{x d:B1}
def Q4(h:d≠zg)(b:aH ys=O)(G:GV log rows):GV (log++[.tup<|.str d::ys]) rows:=⟨λe a=>by
 rcases ir.mp a with a|a
 .exact G.ok e a
 .rw[iw.mp a];exact⟨d,ys,J,λz=>eD z h,b⟩,by
 rw[De,G.gv];show _++((if d=zg then ys.take 1 else[])++[])=_
 rw[ag h,dw,dw]⟩
def gvG(G:GV log rows):GV (log++[AM<|.str x])<|rows++[x]:=⟨λe a=>by
 rcases ir.mp a with a|a
 .exact G.ok e a
 .rw[iw.mp a];exact⟨_,_,J,λ_=>⟨_,J⟩,J⟩,by
 rw[De,G.gv,i6];rfl⟩
end
def GQ:jz (n:Int)=(Nat.toDigits 10 n).map tL:=by
 show(Nat.repr n).toList.map tL=_;rw[Nat.toList_repr]
def GR(n k:Nat)(a:0<k)(h:n<10^k):(jz (n:Int)).length<=k:=by
 rw[GQ,bX];exact(Nat.length_toDigits_le_iff (by decide) a).mpr h
def GS:jz (Int.negSucc n)=45::jz ((n+1:Nat):Int):=by
 show(("-" ++ Nat.repr (n+1):String)).toList.map tL=_;rw[String.toList_append];rfl
def Kz{i:Int}{k:Nat}(a:0<k)(h:i.natAbs<10^k):(jz i).length<=k+1:=by
 cases i with
 |ofNat n=>exact dq (GR n k a h)<|cH ..
 |negSucc n=>rw[GS];exact uc (GR (n+1) k a h) 1
def Ng{i:Int}{c:Nat}(d:c<=900000)(h:i.natAbs<=c*10^60):strN [.int i]=U (.str<|jz i)/\(jz i).length<=67:=by
 have b:i.natAbs<10^66:=by
  refine pJ h<|pJ (Lm _ d) ?_;decide
 have a:=Kz (k:=66) (by decide) b
 refine⟨ji ⟨?_,dq a<|by decide⟩,a⟩
 by_cases hz:i.natAbs=0
 .rw[hz];decide
 .exact(Nat.log2_lt hz).mpr<|Lg b<|by decide
theorem GU:∀l:Ap,vJ (l.map Ky.s)=U l
 |[]=>J
 |x::l=>by
  show(vJ<|l.map Ky.s).map (x::·)=_
  rw[GU l];rfl
def Nh{l:Ap}(h:∀k∈l,k.length<=1000):xR (l.map Ky.s)=U (.lst<|(jd l).map T.str):=by
 unfold xR;rw[GU];exact ji<|iD.mpr λk a=>dr<|dq (h k a)<|by decide
def GW{x:BX}{c:Nat}{k:B1}(b:x.ok c)(h:k∈x.ks):fm x.ky x.vs (.s k)=U (.int<|df x.ks x.zs k):=by
 obtain⟨t,a⟩:=get_mem (ks:=x.ky) (ts:=x.vs) (x:=.s k) (by unfold BX.ky BX.vs;rw[bX,bX,b.len])<|tH.mpr h
 have:=mY x.ks x.zs k
 rw[show fm (x.ks.map Ky.s) (x.zs.map T.int) (.s k)=U t from a]at this;rw[a,<- this];rfl
def Q5{x:BX}{c:Nat}(a:x.ok c)(k:B1):(df x.ks x.zs k).natAbs<=c*10^60:=by
 rcases sum_in x.ks x.zs k with z|z
 .rw[z];exact gq _
 .exact a.zl _ z
def BX.row(x:BX)(k:B1):B1:=k++[32]++jz (df x.ks x.zs k)
def BX.tell(x:BX):Ap:=(jd x.ks).map x.row
def lP{a b:B1}(h:a.length+b.length<=1000000):bO .Add (.str a) (.str b)=U (.str<|a++b):=ji h
section
variable{m m':FR}{w c d:Nat}{v v':WV}{log B:FC}{x:BX}{r:Fh}{gv:Ap}{u:Option C}
def GX{k:B1}{a b:FE}{s:S}(f:c<=900000)(j:x.ok c)(d:k∈x.ks)(h:a s=.ok (.str k,s))(g:b s=.ok (.int<|df x.ks x.zs k,s)):oA (oA a<|cS [32]) (bA strN<|k1 b) s=.ok (.str<|x.row k,s):=by
 obtain⟨e,l⟩:=Ng f<|Q5 j k;have i:=j.kl k d;exact av (av h J<|lP<|by show _+1<=_;lia) (dU (aC g J) e)<|lP<|by rw[dg];show _+1+_<=_;lia
theorem AQ(n:Nat)(d:c<=900000):∀{L:Ap}{m:FR}{log:FC}{gv:Ap}{u:Option C},(∀k∈L,k∈x.ks)->WU m w v log x c->GV log gv->log.length+L.length+1<900000->W (b7 (setG 1) (V_<|cN<|n+1) (L.map T.str) ⟨[sv<|.own w,u],m⟩) λp=>p.1=.nx/\∃B,WU p.2.m w v B x c/\GV B (gv++L.map x.row)/\B.length=log.length+L.length/\Fr (WX w v) m p.2.m
 |[],m,log,gv,u,_,D,G,_=>⟨_,J,J,log,D,by rw[CW,dw];exact G,J,Fr.refl⟩
 |k::L,m,log,gv,u,b,D,G,i=>by
  rw[bI]at i;have a:=b k<|bC ..;refine ig (r:=[sv<|.own w,sv<|.str k]) J<|(lu (r:=[sv<|.str k]) (ts:=[.str<|x.row k]) D.s (aC (GX d D.ok a J<|QY (kb:=v.su) (t:=.str k) (ky:=.s k) (w_fld D.s (j:=10) J J) J J D.su<|GW D.ok a) J) (AL n D.s<|by lia) λ_ m1 h=>?_)
  have A:=D.up h.2.1 h.2.2 J J J;refine⟨J,(AQ n d (L:=L) (λq f=>b q<|eE _ f) A (gvG G)<|by simp;lia).mono λp g=>?_⟩
  obtain⟨z,B,y,e,o,l⟩:=g;refine⟨z,B,y,?_,?_,h.2.2.trans l⟩
  .rw[dG]
   rw[b_]at e;exact e
  .rw[o,dg,ng,bI];lia
def KA(Zf:WU m w v log x c)(G:GV log gv)(g:c<=900000)(d:log.length+x.ks.length+1<900000):W (cN (n+2) 74 [.own w] m) λp=>p.1=.non/\∃B,WU p.2 w v B x c/\GV B (gv++x.tell)/\B.length=log.length+x.ks.length/\Fr (WX w v) m p.2:=by
 rw[w74];have e:Ff M.bc (aB M.P.tab 27 zA) ⟨[sv<|.own w,Y],m⟩=.ok (.lst<|(jd x.ks).map T.str,⟨[sv<|.own w,Y],m⟩):=by
  unfold Ff;rw[w_fld Zf.s (j:=10) (t:=.own v.su) J J];refine cQ ?_;show Res.bind (aW<|jc M.bc m<|.own v.su) _=_;rw[oR Zf.su];refine cQ ?_;show Res.bind (aW<|xR<|x.ks.map Ky.s) _=_;rw[Nh Zf.ok.kl];rfl
 have b:=(eM x.ks).length_eq;refine eB J<|fV<|W.of (a:=((jd x.ks).map T.str,(⟨[sv<|.own w,Y],m⟩:S))) (by show iL _ ⟨[sv<|.own w,Y],m⟩=_;unfold iL;rw[e];rfl)<|(AQ n g (L:=jd x.ks) (λk f=>(eM x.ks).mem_iff.mp f) Zf G<|by rw[b];exact d).mono λp r=>?_
 obtain⟨q,B,o,l,i,h⟩:=r;exact⟨q,J,B,o,l,by rw[i,b],h⟩
end
end K37
namespace K37
open D
variable(n:Nat){m:List _root_.D.Ob}
abbrev GY(i:Int)(b:Bool):T:=.tup [.str [109,101,101,116],.int i,.bl b]
def WQ(w:Nat)(v:WV)(k:Nat):Prop:=k=v.mt\/WJ w v k
def LN.bx(l:B1)(tk num:Int)(q:LN)(b:Bool)(x:BX):BX:=match q with
 |.ad _ i j=>if b then x.add l i j tk num else x
 |.te=>x
def LN.en?:LN->Bool
 |.te=>O
 |_=>Zb
section
variable{m m':FR}{w c e i j:Nat}{v v':WV}{log ba ts tr:FC}{x:BX}{r:Fh}{l:B1}{num:Int}{t:T}{gv:Ap}{ks:List Ky}{b:Bool}
def wy(c:Nat):iV M.P.sub [9] (J1 c)=U (.bl Zb):=by
 unfold J1;split<;>rfl
def Wr(Zf:WU m w v log x e)(b:v.hand=.str l)(a:l.length<=1000)(hi:1<=i)(hj:1<=j)(c:e<900000):W (cN (n+4) 71 [.own w,.obj 20 [.int (i:Nat),.int (j:Nat)],.int num] m) λp=>p.1=.non/\WU p.2 w v log (x.add l i j v.tk num) (e+1)/\Fr (WJ w v) m p.2:=by
 rw[w71];exact eB J<|e7 J<|e7 J<|e7 J<|e7 J<|e7 J<|e7 J<|e7 J<|qe J<|lu (r:=[sv<|.obj 20 [.int (i:Nat),.int (j:Nat)],sv<|.int num]) (ts:=[.obj 20 [.int (i:Nat),.int (j:Nat)],.int num]) Zf.s J (add_eq n Zf b a hi hj c) λ_ m1 h=>⟨J,J,h.2⟩
def KC{Q:T×FR->Prop}(h:Q (.non,m)):W (cN (n+1) 65 [.own w,LN.te.val,.int num] m) Q:=by
 rw[ú];exact sW J<|QE (s':=⟨[sv<|.own w,sv LN.te.val,sv<|.int num,Y],m⟩) (jG (t:=.obj 9 []) J J)<|bR J h
def KD(Zf:WU m w v log x e)(G:GV log gv)(S:v.hand=.str l)(o:l.length<=1000)(hi:1<=i)(hj:1<=j)(X:e<900000)(g:m[v.mt]?=U ⟨M.bc,[.od ks ts]⟩)(f:¬ WJ w v v.mt)(d:Ky.i num∉ks)(R:ks.length<1000000)(Q:v.tr=.lst tr)(Z:u7 (.lst tr) (.int<|num-1)=U (.bl b))(hl:log.length+2<900000) :
  W (cN (n+5) 65 [.own w,(LN.ad c i j).val,.int num] m) λp=>p.1=.non/\∃ba,WU p.2 w v ba ((LN.ad c i j).bx l v.tk num b x) (e+1)/\GV ba gv/\ba.length=log.length+1/\p.2[v.mt]?=U ⟨M.bc,[.od (ks++[.i num])<|ts++[.bl O]]⟩/\Fr (WQ w v) m p.2:=by
 rw[ú];obtain⟨A,C⟩:∃A,A=T.obj 20 [.int (i:Nat),.int (j:Nat)]:=⟨_,J⟩;obtain⟨V,r⟩:∃V,V=T.obj 1 [J1 c,A]:=⟨_,J⟩;have q:(LN.ad c i j).val=V:=by rw[r,C];rfl
 rw[q];have Ť:aB M.P.tab 1 zB ⟨[sv<|.own w,sv V,sv<|.int num,Y],m⟩=.ok (J1 c,⟨[sv<|.own w,sv V,sv<|.int num,Y],m⟩):=by rw[r];rfl
 obtain⟨m0,y⟩:∃m0,m0=m.set v.mt ⟨M.bc,[.od (ks++[.i num])<|ts++[.bl O]]⟩:=⟨_,J⟩;have F:Fr (λk=>k=v.mt) m m0:=by rw[y];exact Fr.set J
 have B:WU m0 w v log x e:=Zf.fr F λk d N=>f<|N▸d;have UM:m0[v.mt]?=U ⟨M.bc,[.od (ks++[.i num])<|ts++[.bl O]]⟩:=by rw[y];exact dQ (du.mp g).1
 have F':Fr (WQ w v) m m0:=F.mono λ_=>.inl;refine eB J<|jE<|e7 (jG Ť<|wy c) ⟨_,J,J,jE<|e7 ((QX (neg:=Zb) (ky:=.i num) J (w_fld Zf.s (j:=5) J J) J g).trans<|by rw[ag cK,dd d]) ⟨_,J,J,jE<|W.of (Wi (ky:=.i num) J (w_fld Zf.s (j:=5) J J) J J g d R) ⟨J,?_⟩⟩⟩
 show W (af _ _ ⟨sv (.own w)::[sv V,sv<|.int num,Y],m.set v.mt ⟨M.bc,[.od (ks++[.i num])<|ts++[.bl O]]⟩⟩) _;rw[<- y];refine wS (av (t:=.lst tr) (u:=.int<|num-1) (by rw[<- Q];exact w_fld B.s (j:=3) J J) J Z) ?_
 show W (af _ _ ⟨sv (.own w)::[sv V,sv<|.int num,sv<|.bl b],m0⟩) _;refine Kl (t:=GY num b) B.s (by lia) J λm1 I F1=>?_
 have H:=B.up I F1 J J J;have K:=F1.get UM λz=>f<|.inl z;have E:Fr (WQ w v) m m1:=F'.trans<|F1.mono λ_ h=>.inr<|.inl h;have L:GV (log++[GY num b]) gv:=Q4 (by decide) J G
 have D:(log++[GY num b]).length=log.length+1:=by rw[dg];rfl
 cases b with
 |false=>exact e7 J ⟨_,J,J,J,_,H.le<|cH ..,L,D,K,E⟩
 |true=>
  have a:=Wr n (num:=num) H S o hi hj X;rw[<- C]at a;refine qe J<|lu (ts:=[A,.int num]) I (by rw[r];rfl) a λ_ m2 h=>⟨J,J,_,h.2.1,L,D,h.2.2.get K f,E.trans<|h.2.2.mono λ_=>.inr⟩
end
abbrev WV.rest(v:WV):WV:={v with hand:=.non,hr:=0,ps:=0,wt:=O}
def jg(l:B1)(tk:Int):Nat->List (LN×Bool)->BX->BX
 |_,[],x=>x
 |p,(q,b)::r,x=>jg l tk (p+1) r<|q.bx l tk ((p:Nat)+1) b x
def GZ(a b:Int):aP .Eq (.int a) (.int b)=U (.bl<|decide<|a=b):=J
def atL{l:FC}{p:Nat}(h:p<l.length):u7 (.lst l) (.int (p:Int))=U l[p]:=by
 show atT l (p:Int)=_;rw[ib h,cD h]
def ixP{α:Type}(g:α->T){y:List α}{p:Nat}(h:p<y.length):u7 (.lst<|y.map g) (.int<|(p:Int)+1-1)=U (g y[p]):=by
 rw[show(p:Int)+1-1=(p:Int) by lia,atL<|by rw[bX];exact h,LI]
section
variable{m m1 m':FR}{w c e i j p f:Nat}{v v':WV}{log ba ts tr:FC}{x:BX}{r:Fh}{l:B1}{num:Int}{t:T}{gv:Ap}{ks:List Ky}{bs:Ee}{L:List LN}{a:FE}
def Wt(b:WS m w v log)(a:v.lines=aO L):bA cV (k1<|aB M.P.tab 0 zA) ⟨sv (.own w)::r,m⟩=.ok (.int L.length,⟨sv (.own w)::r,m⟩):=dU (ts:=[.lst<|aO L]) (aC (by rw[<- a];exact w_fld b (j:=0) J J) J) (by
 show U (T.int (L.map LN.val).length)=_;rw[bX])
def Wu{Q:T×FR->Prop}(b:WS m w v log)(c:v.lines=aO L)(e:p<L.length)(d:v.ps=(p:Nat))(h:∀m1,WS m1 w {v with ps:=(p:Nat)+1} log->Fr (WX w v) m m1->W (cN (n+5) 65 [.own w,L[p].val,.int<|(p:Nat)+1] m1) λq=>Q (.non,q.2)):W (cN (n+6) 64 [.own w] m) Q:=by
 rw[ø];refine eB J<|e7 (lN<|av (t:=.int p) (by rw[<- d];exact w_fld b (j:=4) J J) (Wt b c)<|by rw[GZ,dd<|by lia])<|Q0 (r:=[]) b {v with ps:=(p:Nat)+1} J (j:=4) (i:=(p:Nat)) J (by rw[<- d];rfl) J λm1 a f=>lu (ts:=[L[p].val,.int<|(p:Nat)+1]) a ?_ (h m1 a f) λ_ m2 q=>⟨J,q⟩
 exact aC (av (t:=.lst<|aO L) (by rw[<- c];exact w_fld a (j:=0) J J) (av (t:=.int<|(p:Nat)+1) (w_fld a (j:=4) J J) J J)<|ixP LN.val e)<|aC (w_fld a (j:=4) J J) J
def Q7(a:WS m w v log)(b:v.lines=aO L)(d:v.ps=(L.length:Nat))(c:log.length+3<900000):W (cN (n+6) 64 [.own w] m)<|WR w v v.rest (log++[AM v.hand]++[we]++[ik v.tk]) m:=by
 rw[ø];exact eB J<|qe (lN<|av (t:=.int L.length) (u:=.int L.length) (by rw[<- d];exact w_fld a (j:=4) J J) (Wt a b)<|by rw[GZ,dr J])<|lu (r:=[]) a J (Ko (n+2) a c) λ_ m1 h=>⟨J,J,h.2⟩
def KG(Zf:WU m w v log x e)(G:GV log gv)(B:v.lines=aO L)(aZ:∀q∈L,q.ok)(r:p<L.length)(N:p<bs.length)(Z:v.ps=(p:Nat))(I:v.hand=.str l)(f:l.length<=1000)(K:e<900000)(F:m[v.mt]?=U ⟨M.bc,[.od ks ts]⟩)(o:¬ WJ w v v.mt)(a:Ky.i ((p:Nat)+1)∉ks)(D:ks.length<1000000)(C:v.tr=.lst (bs.map T.bl))(H:log.length+2<900000) :
  W (cN (n+6) 64 [.own w] m) λq=>q.1=.non/\∃ba d A,WU q.2 w {v with ps:=(p:Nat)+1} ba (L[p].bx l v.tk ((p:Nat)+1) bs[p] x) (e+1)/\GV ba gv/\ba.length<=log.length+1/\q.2[v.mt]?=U ⟨M.bc,[.od d A]⟩/\(∀k∈d,k∈ks\/k=.i ((p:Nat)+1))/\d.length<=ks.length+1/\Fr (WQ w v) m q.2:=by
 refine Wu n Zf.s B r Z λm1 X g=>?_;have u:WU m1 w {v with ps:=(p:Nat)+1} log x e:=Zf.up X g J J J
 have y:=g.get F λz=>o<|.inl z;have t:Fr (WQ w v) m m1:=g.mono λ_ h=>.inr<|.inl h;have ok:=aZ _<|wQ r;cases E:L[p]with
 |te=>exact KC (n+4) ⟨J,log,ks,ts,u.le<|cH ..,G,cH ..,y,λk a=>.inl a,cH ..,t⟩
 |ad c i j=>
  rw[E]at ok;refine(KD n (num:=(p:Nat)+1) (b:=bs[p]) u G I f ok.2.1.1 ok.2.2.1 K y o a D C (ixP T.bl N) H).mono λq h=>?_;obtain⟨h1,ba,V,S,R,Q,P⟩:=h;exact⟨J,ba,_,_,V,S,wL R,Q,λk a=>(ir.mp a).imp id iw.mp,by rw[dg];exact bW _,t.trans P⟩
def G4(a:WS m w v log):dS (D.tB<|aB M.P.tab 30 zA) ⟨sv (.own w)::r,m⟩=.ok (!v.wt,⟨sv (.own w)::r,m⟩):=GK<|J4<|w_fld a (j:=13) (t:=.bl v.wt) J J
theorem AR(n:Nat)(S:bs.length=L.length)(aZ:∀q∈L,q.ok)(b:l.length<=1000){tk:Int}:∀(d:Nat){m:FR}{v:WV}{log:FC}{x:BX}{e:Nat}{gv:Ap}{ks:List Ky}{ts:FC}{p k0:Nat},p+d=L.length->WU m w v log x e->GV log gv->v.hand=.str l->v.tk=tk->m[v.mt]?=U ⟨M.bc,[.od ks ts]⟩->¬ WJ w v v.mt->v.lines=aO L->v.tr=.lst (bs.map T.bl)->v.wt=Zb->v.ps=(p:Nat)->(∀q:Nat,p<q->Ky.i (q:Nat)∉ks)->ks.length<=p->p+d<=30->e+d<900000->log.length+d+5<900000 ->
  W (fJ (dS<|D.tB<|aB M.P.tab 30 zA) (aQ<|aD (aw [(24,64)]<|cN<|n+6) zA cj) (k0+d+2) ⟨sv (.own w)::r,m⟩) λq=>q.1=.nx/\q.2.r=sv (.own w)::r/\∃ba,WU q.2.m w v.rest ba (jg l tk p ((L.zip bs).drop p) x) (e+d)/\GV ba (gv++[l])/\ba.length<=log.length+d+3/\Fr (WQ w v) m q.2.m
 |0,m,v,log,x,e,gv,ks,ts,p,k0,hd,q0,G,o,f,H,t,j,u,g,C,B,A,F,R,Q=>by
  have c:=G4 (r:=r) q0.s;rw[g]at c;refine Gu c<|lu q0.s J (Q7 n q0.s j (by rw[C];lia)<|by lia) λ_ m1 h=>⟨J,Č (G4 h.2.1) ⟨J,J,log++[AM v.hand]++[we]++[ik v.tk],?_,?_,by simp,h.2.2.mono λ_ q=>.inr<|.inl q⟩⟩
  .rw[LJ<|by rw[nk];lia]
   exact q0.up h.2.1 h.2.2 J J J
  .rw[o]
   exact Q4 (by decide) J<|Q4 (by decide) J<|gvG G
 |d+1,m,v,log,x,e,gv,ks,ts,p,k0,hd,q0,G,o,f,H,t,j,u,g,C,B,A,RG,R,Q=>by
  have F:p<L.length:=by lia
  have y:p<bs.length:=by lia
  have c:=G4 (r:=r) q0.s;rw[g]at c;refine Gu (k:=k0+d+2) c<|lu q0.s J (KG n q0 G j aZ F y C o b (by lia) H t (B (p+1)<|pI p) (by lia) u<|by lia) λ_ m1 h=>?_
  obtain⟨_,KI,I,RB,X,G1,Xj,Z,MT,V,F1⟩:=h;refine⟨J,(AR n S aZ b d (p:=p+1) (k0:=k0) (by lia) X G1 o f Z t j u g (by show(p:Int)+1=_;lia) (λq E z=>?_) (by lia) (by lia) (by lia)<|by lia).mono λq E=>?_⟩
  .rcases MT _ z with z|z
   .exact B q (by lia) z
   .injection z with z
    lia
  .obtain⟨k1,k2,a,k3,N,k5,K⟩:=E
   refine⟨k1,k2,a,?_,N,by lia,F1.trans K⟩
   rw[jN<|by rw[nk];lia,List.getElem_zip]
   show WU _ w v.rest a (jg l tk (p+1) _<|L[p].bx l tk ((p:Nat)+1) bs[p] x) _;rw[show e+(d+1)=e+1+d by lia,<- f]
   rw[<- f]at k3;exact k3
end
abbrev Ni(i:Int):T:=.tup [.str [116,97,107,101],.int i]
section
variable{m m1 m':FR}{w c e i j p f:Nat}{v v':WV}{log ba ts tr:FC}{x:BX}{r:Fh}{l:B1}{num:Int}{t:T}{gv:Ap}{ks:List Ky}{bs:Ee}{L:List LN}{a:FE}
def Q8(d:WS m1 w v log)(c:a ⟨sv (.own w)::r,m⟩=.ok (t,⟨sv (.own w)::r,m1⟩))(b:dY M.P.tab f (.val t) v.ob=U v'.ob):aL M.P.tab f zA a ⟨sv (.own w)::r,m⟩=.ok (.nx,⟨sv (.own w)::r,m1.set w v'.ob⟩):=by
 unfold aL;rw[c];refine cQ ?_;show Res.bind (aW<|(m1[w]?).bind _) _=_;rw[d.o];show Res.bind (aW<|dY M.P.tab f (.val t) v.ob) _=_;rw[b];rfl
def kC{α:Type}{m:List α}{k:Nat}{ob x:α}(h:m[k]?=U ob):(m++[x])[k]?=U ob:=by
 rw[e_ (du.mp h).1];exact h
def WS.snoc{ob:Ob}(a:WS m w v log):WS (m++[ob]) w v log:=⟨kC a.o,kC a.l,a.ne,a.qG⟩
def Ė{B:FS}{Q:Out×S->Prop}(b:WS m w v log)(v':WV)(e:v'.lg=v.lg)(d:dY M.P.tab f (.val<|.own m.length) v.ob=U v'.ob)(k:∀m',WS m' w v' log->Fr (WX w v) m m'->m'[m.length]?=U ⟨M.bc,[.od [] []]⟩->W (B ⟨sv (.own w)::r,m'⟩) Q):W (af (aL M.P.tab f zA<|ki M.bc) B ⟨sv (.own w)::r,m⟩) Q:=by
 have c:w<m.length:=(du.mp b.o).1;have a:WS (m++[⟨M.bc,[.od [] []]⟩]) w v log:=b.snoc;refine jE<|W.of (Q8 a (t:=.own m.length) (v':=v') J d) ⟨J,k _ (a.fld e) ⟨by simp,λj hj x=>?_⟩ ?_⟩
 .rw[cJ λ(z:w=j)=>x<|.inl z.symm,e_ hj]
 .rw[cJ<|dP c,eF<|bW _,kH];rfl
def WU.lt(Zf:WU m w v log x e){k:Nat}(h:WJ w v k):k<m.length:=by
 rcases h with(h|h)|h|h<;>subst h
 .exact(du.mp Zf.s.o).1
 .exact(du.mp Zf.s.l).1
 .exact(du.mp Zf.su).1
 .exact(du.mp Zf.no).1
def KJ(Zf:WU m w v log x e)(G:GV log gv)(P:bs.length=L.length)(aZ:∀q∈L,q.ok)(hL:L.length<=30)(I:v.lines=aO L)(N:v.hand=.non)(Ct:v.ps=0)(c:l.length<=1000)(he:e+30<900000)(hl:log.length+40<900000) :
  W (cN (n+7) 63 [.own w,.str l,.lst<|bs.map T.bl] m) λp=>p.1=.non/\∃ba mt,WU p.2 w {v.rest with tk:=v.tk+1,tr:=.lst (bs.map T.bl),mt:=mt} ba (jg l (v.tk+1) 0 (L.zip bs) x) (e+L.length)/\GV ba (gv++[l])/\ba.length<=log.length+34/\Fr (WJ w v) m p.2:=by
 rw[w63];refine eB J<|Q0 (r:=[sv<|.str l,sv<|.lst<|bs.map T.bl]) Zf.s {v with tk:=v.tk+1} J (j:=6) (i:=v.tk) J J J λm1 B F1=>Kl (t:=Ni<|v.tk+1) B (by lia) (dU (aC J<|aC (w_fld B (j:=6) J J) J) J) λm2 A F2=>Cc A {v with tk:=v.tk+1,hand:=.str l} J (t:=.str l) ?_ J λm3 S3 F3=>Q0 S3 {v with tk:=v.tk+1,hand:=.str l,hr:=v.hr+1} J (j:=8) (i:=v.hr) J J J λm4 S4 F4=>Cc S4 {v with tk:=v.tk+1,hand:=.str l,hr:=v.hr+1,tr:=.lst (bs.map T.bl)} J J J λm5 Z F5=>Ė Z {v with tk:=v.tk+1,hand:=.str l,hr:=v.hr+1,tr:=.lst (bs.map T.bl),mt:=m5.length} J J λm6 X F6 R=>Cc X {v with tk:=v.tk+1,hand:=.str l,hr:=v.hr+1,tr:=.lst (bs.map T.bl),mt:=m5.length,wt:=Zb} J J J λm7 V D=>?_
 .unfold u_
  rw[lN (b:=O)<|av (t:=.non) (u:=.non) (by rw[<- N];exact w_fld A (j:=7) J J) J J];rfl
 have C:Fr (WX w v) m m5:=(((F1.trans F2).trans F3).trans F4).trans F5;have le:=C.le;have F:Fr (WX w v) m m7:=(C.trans F6).trans D;have S:WU m7 w {v with tk:=v.tk+1,hand:=.str l,hr:=v.hr+1,tr:=.lst (bs.map T.bl),mt:=m5.length,wt:=Zb} (log++[Ni<|v.tk+1]) x e:=Zf.up V F J J J
 have f:∀{k},WJ w v k->k≠m5.length:=λh=>dP<|ez (Zf.lt h) le;have Q:m7[m5.length]?=U ⟨M.bc,[.od [] []]⟩:=D.get R λz=>f (.inl z) J;obtain⟨k0,d⟩:∃e,many=e+L.length+2:=⟨many-(L.length+2),by unfold many;lia⟩
 unfold kW;rw[d];refine(AR n P aZ c L.length (p:=0) (k0:=k0) (tk:=v.tk+1) (by lia) S (Q4 (by decide) J G) J J Q (λz=>f z J) I J J Ct (λq _ z=>by cases z) (gq _) (by lia) (by lia)<|by simp;lia).mono λq K=>?_
 obtain⟨k1,k2,a,k3,H,E,g⟩:=K;refine⟨k1,J,a,m5.length,k3,H,by rw[dg,ng]at E;lia,dq F.le g.le,λk o z=>(g.at_ k (ez o F.le) ?_).trans<|F.at_ k o λy=>z<|.inl y⟩
 rintro(y|y)
 .have y:k=m5.length:=y
  lia
 .exact z y
end
structure WI(A:B1)(tx:Nat->B1)(nu:Nat->Int)(L:List LN)(w tk ub c:Nat)(v:WV)(log:FC)(x:BX)(e:Nat)(m:FR):Prop where
 w0:WU m w v log x e
 R:RA A tx nu c m
 t:m[tk]?=U (XC L ub)
 sep:∀k∈A,¬ WJ w v k/\¬ WJ w v (k+1)
 nt:¬ RX A tk
 nw:¬ WJ w v tk
 tl:v.tl=tk
 ln:v.lines=aO L
 hd:v.hand=.non
 ps:v.ps=0
def WY(A:B1)(w:Nat)(v:WV)(k:Nat):Prop:=WJ w v k\/RX A k
section
variable{A B:B1}{S:Nat->B1}{V:Nat->Int}{m:FR}{w tk ub c k e:Nat}{v:WV}{log:FC}{x:BX}{gv:Ap}{L:List LN}
def G5(I:WI A S V L w tk ub c v log x e m)(G:GV log gv)(g:k∈A)(aZ:∀q∈L,q.ok)(D:L.length<=30)(Q:c+30<900000)(he:e+30<900000)(u:log.length+40<900000) :
  W (cN (n+25) 62 [.own w,.own k,.lst<|B.map T.own] m) λp=>p.1=.non/\Fr (WY A w v) m p.2/\∃h tr mt,WI A S V L w tk ub (c+L.length) {v.rest with tk:=v.tk+1,tr:=tr,mt:=mt} h (jg (S k) (v.tk+1) 0 (L.zip<|jf (S k) L) x) (e+L.length) p.2/\GV h (gv++[S k])/\h.length<=log.length+34:=by
 rw[w62];obtain⟨⟨t1,m1⟩,F,i,M,F1⟩:=Kp n (ub:=ub) (B:=B) g I.nt aZ I.R (by lia) (by lia) I.t
 have i:t1=.lst ((jf (S k) L).map T.bl):=i;subst i;have r:∀q,WJ w v q->¬ RX A q:=λq b ⟨a,C,e⟩=>(I.sep a C).2<|e▸b;have K:WU m1 w v log x e:=I.w0.fr F1 r;obtain⟨⟨t2,m2⟩,E,ė,d,mt,H,N,P,f⟩:=KJ (n+17) (l:=S k) (bs:=jf (S k) L) K G (by unfold jf;rw[bX]) aZ D I.ln I.hd I.ps (I.R.sh k g) he u
 have ė:t2=.non:=ė;subst ė;have o2:=I.R.o k g;refine eB J<|dE (Av (k:=w) (s1:=⟨[sv<|.own w,sv<|.own k,sv<|.lst<|B.map T.own],m⟩) (s2:=⟨[sv<|.own w,sv<|.own k,sv<|.lst<|B.map T.own],m1⟩) J I.w0.s.o J (aC (qg (k:=k) (j:=0) J o2 J J)<|aC (mE (by rw[<- I.tl];exact w_fld I.w0.s (j:=2) J J) I.t J J F) J) E) ⟨J,J,⟨dq F1.le f.le,λq b z=>(f.at_ q (ez b F1.le) λy=>z<|.inl y).trans<|F1.at_ q b λy=>z<|.inr y⟩,d,.lst<|(jf (S k) L).map T.bl,mt,?_,N,P⟩
 exact⟨H,M.fr f λq b=>I.sep q b,f.get (F1.get I.t I.nt) I.nw,I.sep,I.nt,I.nw,I.tl,I.ln,J,J⟩
end
def allB(L:List LN):Nat->Ap->BX->BX
 |_,[],x=>x
 |k,l::r,x=>allB L (k+1) r<|jg l ((k:Nat)+1) 0 (L.zip<|jf l L) x
def iT(n:Nat):B1:=(bZ n).map λk=>2*k
def Nj(rows:Ap)(q:Nat):B1:=rows.getD (q/2) []
def mZ:(iT n).length=n:=by unfold iT;rw[bX,nh]
def Q9{n k:Nat}(h:k<n):(iT n)[k]'(by rw[mZ];exact h)=2*k:=by unfold iT;rw[LI,List.getElem_range]
def KL{n k:Nat}(h:k<n):2*k∈iT n:=gA.mpr ⟨k,gu.mpr h,J⟩
def G6{n k:Nat}(h:k<n):(iT n).drop k=2*k::(iT n).drop (k+1):=by
 rw[jN<|by rw[mZ];exact h,Q9 h]
def tK{rows:Ap}{k:Nat}(h:k<rows.length):Nj rows (2*k)=rows[k]:=by
 unfold Nj;rw[show 2*k/2=k by lia,gP,cD h];rfl
def G7{α:Type}{l:List α}{k:Nat}(a:k<=l.length):bM l (U (((k:Nat)):Int)) Y=l.drop k:=by
 unfold bM;rw[J0,QC,Nat.min_eq_left a,ux<|by rw[jL];exact bW _]
section
variable{rows:Ap}{F:Nat->Int}{L:List LN}{w tk ub:Nat}
theorem AS(n:Nat)(aZ:∀q∈L,q.ok)(i:L.length<=30)(hr:rows.length<=100){pg tt:T}:∀(d k:Nat)(v:WV)(log:FC)(x:BX)(gv:Ap)(m:FR)(u b:Option C),k+d=rows.length->WI (iT rows.length) (Nj rows) F L w tk ub (30*k) v log x (30*k) m->GV log gv->v.tk=(k:Nat)->log.length<=34*k+10 ->
  W (b7 (eV [4,5]) (aQ<|aD (aw [(24,62)]<|cN<|n+25) zD<|k2 (vF 5)<|lH zC (jh<|vF 4) rP) (dO ((k:Nat)+1)<|((iT rows.length).drop k).map T.own) ⟨[sv pg,sv tt,sv<|.lst<|(iT rows.length).map T.own,sv<|.own w,u,b],m⟩) λp=>p.1=.nx/\∃u b m' v' c,p.2=⟨[sv pg,sv tt,sv<|.lst<|(iT rows.length).map T.own,sv<|.own w,u,b],m'⟩/\WI (iT rows.length) (Nj rows) F L w tk ub (30*rows.length) v' c (allB L k (rows.drop k) x) (30*rows.length) m'/\GV c (gv++rows.drop k)/\v'.tk=(rows.length:Nat)/\v'.lg=v.lg/\v'.su=v.su/\v'.no=v.no/\c.length<=34*rows.length+10
 |0,k,v,log,x,gv,m,u,b,hd,I,G,f,h=>by
  have a:k=rows.length:=by lia
  subst a;rw[LJ<|by rw[mZ];exact bW _,yv]
  exact⟨_,J,J,u,b,m,v,log,J,I,by rw[dw];exact G,f,J,J,J,h⟩
 |d+1,k,v,log,x,gv,m,u,b,hd,I,G,f,h=>by
  have a:k<rows.length:=by lia
  obtain⟨⟨t1,m1⟩,z,g,_,l,tr,mt,e,r,D⟩:=G5 n (B:=(iT rows.length).drop<|k+1) I G (KL a) aZ i (by lia) (by lia) (by lia)
  have g:t1=.non:=g;subst g;rw[tK a]at r;rw[tK a,f]at e;have A:WI (iT rows.length) (Nj rows) F L w tk ub (30*(k+1)) {v.rest with tk:=(k:Nat)+1,tr:=tr,mt:=mt} l (jg rows[k] ((k:Nat)+1) 0 (L.zip<|jf rows[k] L) x) (30*(k+1)) m1:={e with w0:=e.w0.le (by lia),R:=e.R.mono (by lia)}
  obtain⟨p,j,q1,w1,w2,m',v',c,q2,y,q4,q5,q6,q7,q8,q9⟩:=AS n aZ i hr (pg:=pg) (tt:=tt) d (k+1) _ l _ _ m1 (sv<|.int<|(k:Nat)+1) (sv<|.own<|2*k) (by lia) A r (by show(k:Int)+1=_;lia) (by lia)
  rw[show(((k+1:Nat)):Int)=(k:Nat)+1 by lia]at j
  rw[G6 a,dG];refine ig J<|dE (mE J I.w0.s.o J (aC J<|aC (Xx (t:=.lst<|(iT rows.length).map T.own) (u:=.lst<|((iT rows.length).drop<|k+1).map T.own) (x:=U (((k+1:Nat)):Int)) J J J ?_) J) z) ⟨J,p,j,q1,w1,w2,m',v',c,q2,?_,?_,q5,q6,q7,q8,q9⟩
  .show U (T.lst<|bM _ _ Y)=_
   rw[G7<|by rw[bX,mZ];lia,C2]
  .rw[jN a]
   exact y
  .rw[jN a]
   rw[b_]at q4;exact q4
end
abbrev Ę:T:=.tup [.str [101,110,100]]
def HB(x:BX)(L:List LN):Ap:=L.flatMap λq=>if q.en? then x.tell else[]
section
variable{m m':FR}{w e:Nat}{v:WV}{log B:FC}{x:BX}{gv:Ap}{L:List LN}
def Cd(Zf:WU m w v log x e)(G:GV log gv)(he:e<=9000)(d:log.length+e+1<900000):W (cN (n+3) 72 [.own w,.obj 21 []] m) λp=>p.1=.non/\∃B,WU p.2 w v B x e/\GV B (gv++x.tell)/\B.length<=log.length+e/\Fr (WX w v) m p.2:=by
 rw[w72];have f:=Zf.ok.cs;refine eB J<|e7 J<|e7 J<|qe J<|lu (r:=[sv<|.obj 21 []]) (ts:=[]) Zf.s J (KA n Zf G (by lia)<|by lia) λ_ m1 h=>⟨J,J,?_⟩
 obtain⟨_,B,c,b,g,a⟩:=h;exact⟨B,c,b,by lia,a⟩
theorem yd(n:Nat)(he:e<=9000):∀{L:List LN}{m:FR}{log:FC}{gv:Ap}{u:Option C},WU m w v log x e->GV log gv->log.length+e*L.length+9010<900000->W (b7 (setG 1) (V9<|cN<|n+3) (aO L) ⟨[sv<|.own w,u],m⟩) λp=>p.1=.nx/\∃B,WU p.2.m w v B x e/\GV B (gv++HB x L)/\Fr (WX w v) m p.2.m
 |[],m,log,gv,u,D,G,_=>⟨_,J,J,log,D,by show GV log<|gv++[];rw[dw];exact G,Fr.refl⟩
 |.ad c i j::L,m,log,gv,u,D,G,b=>by
  rw[bI,Ln]at b;refine ig (r:=[sv<|.own w,sv (LN.ad c i j).val]) J<|e7 (jG (t:=J1 c) J<|wy c) ⟨_,J,J,?_⟩;exact yd n he D G (by lia)
 |.te::L,m,log,gv,u,D,G,b=>by
  rw[bI,Ln]at b;refine ig (r:=[sv<|.own w,sv LN.te.val]) J<|qe (jG (t:=.obj 9 []) J J)<|lu (r:=[sv LN.te.val]) (ts:=[.obj 21 []]) D.s J (Cd n D G he<|by lia) λ_ m1 h=>⟨J,?_⟩
  obtain⟨_,A,l,o,z,y⟩:=h;refine(yd n he (L:=L) l o<|by lia).mono λp f=>?_
  obtain⟨g,a,k,d,q⟩:=f;refine⟨g,a,k,?_,y.trans q⟩;rw[b_]at d;exact d
def Ce(Zf:WU m w v log x e)(G:GV log gv)(he:e<=9000)(h:v.lines=aO L)(k:v.hand=.non)(z:log.length+e*L.length+9100<900000):W (cN (n+4) 66 [.own w] m) λp=>p.1=.non/\∃B,WU p.2 w v B x e/\GV B (gv++HB x L)/\Fr (WX w v) m p.2:=by
 rw[w66];refine eB J<|jE<|lu (r:=[Y]) Zf.s J (Km (n+2) Zf.s<|by lia) λ_ m1 b=>⟨J,?_⟩
 obtain⟨_,d,g⟩:=b;have c1:b9 (a_ (aP .IsNot) (aB M.P.tab 24 zA)<|cF .non) ⟨sv (.own w)::[Y],m1⟩=.ok (Zb,⟨sv (.own w)::[Y],m1⟩):=lN<|av (t:=.non) (u:=.non) (by rw[<- k];exact w_fld d (j:=7) J J) J J
 refine jE<|e7 c1 ⟨_,J,J,Kl (r:=[Y]) (t:=Ę) d (by simp;lia) (dU (aC (t:=.str [101,110,100]) J J) J) λm2 c f=>?_⟩
 have y:=Zf.up c (g.trans f) J J J;refine fV<|W.of (a:=(aO L,(⟨sv (.own w)::[Y],m2⟩:S))) ?_<|(yd n he y (Q4 (by decide) J<|Q4 (by decide) J G)<|by simp;lia).mono λp i=>?_
 .unfold iL
  rw[w_fld c (j:=0) (t:=.lst<|aO L) J<|by rw[<- h];rfl]
  rfl
 .obtain⟨b,B,q,o,l⟩:=i
  exact⟨b,J,B,q,o,(g.trans f).trans l⟩
end
section
variable{m:FR}{ob om:Ob}{x:B1}{i:Int}{f:Nat}{t:T}{r:Fh}{a:FE}{rows:Ap}
def o8{α:Type}{m:List α}{x:α}:(m++[x])[m.length]?=U x:=by
 rw[eF<|bW _,kH];rfl
def o9{α:Type}{m:List α}{x y:α}:(m++[x]).set m.length y=m++[y]:=by
 rw[LK _ _<|bW _,kH];rfl
def G8(c:a ⟨sv (.own m.length)::r,m++[ob]⟩=.ok (t,⟨sv (.own m.length)::r,m++[ob]⟩))(b:dY M.P.tab f (.val t) ob=U om):aL M.P.tab f zA a ⟨sv (.own m.length)::r,m++[ob]⟩=.ok (.nx,⟨sv (.own m.length)::r,m++[om]⟩):=by
 unfold aL;rw[c];refine cQ ?_;show Res.bind (aW<|((m++[ob])[m.length]?).bind _) _=_;rw[o8];show Res.bind (aW<|dY M.P.tab f (.val t) ob) _=_;rw[b];show Res.ok (Out.nx,(⟨_,(m++[ob]).set m.length om⟩:S))=_;rw[o9]
def kD(x:B1)(i:Int)(b:Nat):Ob:=⟨22,[.val<|.str x,.val<|.int i,.val<|.own b]⟩
def c6:Ob:=⟨M.bc,[.od [] []]⟩
def G9:cN (n+1) 55 [.own m.length,.str x,.int i] (m++[⟨22,[]⟩])=.ok (.non,m++[kD x i<|m.length+1,c6]):=by
 rw[w55];refine V0 (s':=⟨[sv<|.own m.length,sv<|.str x,sv<|.int i],m++[kD x i<|m.length+1,c6]⟩) J (seq1 (G8 (r:=[sv<|.str x,sv<|.int i]) (t:=.str x) (om:=⟨22,[.val<|.str x]⟩) J J)<|seq1 (G8 (r:=[sv<|.str x,sv<|.int i]) (t:=.int i) (om:=⟨22,[.val<|.str x,.val<|.int i]⟩) J J) ?_) J;obtain⟨oA,a⟩:∃oA:Ob,oA=⟨22,[.val<|.str x,.val<|.int i]⟩:=⟨_,J⟩;rw[<- a];unfold aL ki;refine cQ ?_;show Res.bind (aW<|((m++[oA]++[c6])[m.length]?).bind _) _=_;rw[kC o8];have b:dY M.P.tab 15 (.val<|.own (m++[oA]).length) oA=U (kD x i<|m.length+1):=by
  rw[a,dg];rfl
 show Res.bind (aW<|dY M.P.tab 15 (.val<|.own (m++[oA]).length) oA) _=_;rw[b];have e:(m++[oA]++[c6]).set m.length (kD x i<|m.length+1)=m++[kD x i<|m.length+1,c6]:=by
  rw[LL _ _<|by simp,o9,b_];rfl
 exact cm (λz=>Res.ok (Out.nx,(⟨[sv<|.own m.length,sv<|.str x,sv<|.int i],z⟩:S))) e
def tM:Nat->Ap->FR
 |_,[]=>[]
 |i,x::l=>kD x ((i:Nat)+1) (2*i+1)::c6::tM (i+1) l
theorem AU:∀(i:Nat)(l:Ap),(tM i l).length=2*l.length
 |_,[]=>J
 |i,x::l=>by
  show(tM (i+1) l).length+1+1=2*(l.length+1);rw[AU (i+1) l];lia
theorem ye:∀(l:Ap)(i k:Nat)(row:B1),l[k]?=U row->(tM i l)[2*k]?=U (kD row (((i+k:Nat):Int)+1)<|2*(i+k)+1)/\(tM i l)[2*k+1]?=U c6
 |[],_,_,_,h=>by simp at h
 |x::l,i,0,row,h=>by
  simp at h;subst h;exact⟨J,J⟩
 |x::l,i,k+1,row,h=>by
  obtain⟨a,b⟩:=ye l (i+1) k row (by simpa using h)
  rw[show i+1+k=i+(k+1) by lia]at a
  exact⟨a,b⟩
theorem AV(n:Nat):∀(l:Ap)(i:Nat)(m:FR),m.length=2*i->bz (eV [1,2]) dM (jr 22 (cN (n+1) 55)<|k2 zC zB) [Y,Y,Y] (dO ((i:Nat)+1)<|l.map T.str) m=.ok (((yH i l.length).map λq=>T.own<|2*q),m++tM i l)
 |[],i,m,_=>by
  rw[show tM i []=[]from J,dw];rfl
 |x::l,i,m,b=>by
  have a:=AV n l (i+1) (m++[kD x ((i:Nat)+1)<|m.length+1,c6]) (by simp;lia)
  rw[dG,dO,bz];refine cQ ?_;have e:jr 22 (cN (n+1) 55) (k2 zC zB) ⟨[Y,sv<|.int<|(i:Nat)+1,sv<|.str x],m⟩=.ok (.own m.length,⟨[Y,sv<|.int<|(i:Nat)+1,sv<|.str x],m++[kD x ((i:Nat)+1)<|m.length+1,c6]⟩):=by
   unfold jr;show(match cN (n+1) 55 [.own m.length,.str x,.int<|(i:Nat)+1] (m++[⟨22,[]⟩])with|.ok (.non,f)=>_|.exc c fs d=>_|_=>_)=_
   rw[G9 n]
  show Res.bind (jr _ _ _ ⟨[Y,sv<|.int<|(i:Nat)+1,sv<|.str x],m⟩) _=_;rw[e];show Res.bind (bz _ _ _ _ (dO (((i:Nat):Int)+1+1)<|l.map T.str) _) _=_;rw[show((i:Nat):Int)+1+1=((i+1:Nat):Int)+1 by lia,a]
  show Res.ok (T.own m.length::_,_)=_;rw[bI,LO,dG,b,b_];rfl
theorem gJ:∀(i:Int)(l:FC),(dO i l).length=l.length
 |_,[]=>J
 |i,t::l=>by show(dO (i+1) l).length+1=_;rw[gJ (i+1) l];rfl
def KN(hr:rows.length<=1000):cN (n+2) 19 [.lst<|rows.map T.str] []=.ok (.lst<|(iT rows.length).map T.own,tM 0 rows):=by
 rw[Ź];have g:=AV n rows 0 [] J;refine B_ (s':=⟨[sv<|.lst<|rows.map T.str],tM 0 rows⟩) J (B9<|vZ ?_) J;have a:(iT rows.length).map T.own=(yH 0 rows.length).map λq=>T.own<|2*q:=by
  unfold iT;rw[iu,LP];rfl
 rw[a];exact Aw (ts:=dO 1<|rows.map T.str) (s1:=⟨[sv<|.lst<|rows.map T.str],[]⟩) J (by rw[gJ,bX];lia) g
def Q_(hr:∀row∈rows,row.length<=1000){Z:FR}:RA (iT rows.length) (Nj rows) (λq=>((q/2:Nat):Int)+1) 0<|tM 0 rows++Z:=by
 have h:∀k∈iT rows.length,∃j,k=2*j/\j<rows.length:=λk c=>by
  obtain⟨j,hj,rfl⟩:=gA.mp c;exact⟨j,J,gu.mp hj⟩
 refine⟨λk c=>?_,λk c=>?_,λk c j hj z=>?_,λk c=>?_⟩
 .obtain⟨j,rfl,hj⟩:=h k c
  obtain⟨d,_⟩:=ye rows 0 j rows[j]<|cD hj;rw[pK]at d;rw[e_ (du.mp d).1,d,tK hj,show 2*j/2=j by lia]
  rfl
 .obtain⟨j,rfl,hj⟩:=h k c
  obtain⟨_,e⟩:=ye rows 0 j rows[j]<|cD hj;exact⟨[],[],by rw[e_ (du.mp e).1];exact e,RM.nil,bW _⟩
 .obtain⟨a,rfl,_⟩:=h k c
  obtain⟨b,rfl,_⟩:=h j hj
  lia
 .obtain⟨j,rfl,hj⟩:=h k c
  rw[tK hj];exact hr _<|wQ hj
end
section
variable{m:FR}{L:List LN}{ob om:Ob}{f:Nat}{t:T}{r:Fh}{a:FE}
def G_(q:LN)(m:FR):aB M.P.tab 1 zB ⟨[Y,sv q.val],m⟩=.ok (q.cv,⟨[Y,sv q.val],m⟩):=by cases q<;>rfl
theorem wz:∀(L:List LN)(m:FR),bz (setG 1) dM (aB M.P.tab 1 zB) [Y,Y] (aO L) m=.ok (L.map LN.cv,m)
 |[],_=>J
 |q::L,m=>Xw J (G_ q m)<|wz L m
def wA(g:L.length<=1000):cN (n+1) 57 [.own m.length,.lst<|aO L] (m++[⟨23,[]⟩])=.ok (.non,m++[⟨23,[.val<|.lst<|L.map LN.cv,.val<|.own<|m.length+1]⟩,c6]):=by
 rw[w57];obtain⟨oA,b⟩:∃oA:Ob,oA=⟨23,[.val<|.lst<|L.map LN.cv]⟩:=⟨_,J⟩;obtain⟨a,c⟩:∃a:Ob,a=⟨23,[]⟩:=⟨_,J⟩;rw[<- c];have f:dB (bQ (iL zB) 2 [] (setG 1) dM<|aB M.P.tab 1 zB) ⟨sv (.own m.length)::[sv<|.lst<|aO L],m++[a]⟩=.ok (.lst<|L.map LN.cv,⟨sv (.own m.length)::[sv<|.lst<|aO L],m++[a]⟩):=vZ<|Aw (ts:=aO L) (s1:=⟨sv (.own m.length)::[sv<|.lst<|aO L],m++[a]⟩) J (by rw[bX];lia)<|wz L<|m++[a]
 refine V0 (s':=⟨[sv<|.own m.length,sv<|.lst<|aO L],m++[⟨23,[.val<|.lst<|L.map LN.cv,.val<|.own<|m.length+1]⟩,c6]⟩) J (seq1 (G8 (ob:=a) (om:=oA) f<|by rw[b,c];rfl) ?_) J
 unfold aL ki;refine cQ ?_;show Res.bind (aW<|((m++[oA]++[c6])[m.length]?).bind _) _=_;rw[kC o8];have d:dY M.P.tab 17 (.val<|.own (m++[oA]).length) oA=U ⟨23,[.val<|.lst<|L.map LN.cv,.val<|.own<|m.length+1]⟩:=by
  rw[b,dg];rfl
 show Res.bind (aW<|dY M.P.tab 17 (.val<|.own (m++[oA]).length) oA) _=_;rw[d];have e:(m++[oA]++[c6]).set m.length ⟨23,[.val<|.lst<|L.map LN.cv,.val<|.own<|m.length+1]⟩=m++[⟨23,[.val<|.lst<|L.map LN.cv,.val<|.own<|m.length+1]⟩,c6]:=by
  rw[LL _ _<|by simp,o9,b_];rfl
 exact cm (λz=>Res.ok (Out.nx,(⟨[sv<|.own m.length,sv<|.lst<|aO L],z⟩:S))) e
end
section
variable{m Z Z':FR}{L:List LN}{ob om:Ob}{f j:Nat}{t:T}{r:Fh}{a:FE}
def tN{α:Type}{m Z:List α}{x:α}:(m++x::Z)[m.length]?=U x:=by
 rw[eF<|bW _,kH];rfl
def KO{α:Type}{m Z:List α}{x y:α}:(m++x::Z).set m.length y=m++y::Z:=by
 rw[LK _ _<|bW _,kH];rfl
def Wv(c:a ⟨sv (.own m.length)::r,m++ob::Z⟩=.ok (t,⟨sv (.own m.length)::r,m++ob::Z'⟩))(b:dY M.P.tab f (.val t) ob=U om):aL M.P.tab f zA a ⟨sv (.own m.length)::r,m++ob::Z⟩=.ok (.nx,⟨sv (.own m.length)::r,m++om::Z'⟩):=by
 unfold aL;rw[c];refine cQ ?_;show Res.bind (aW<|((m++ob::Z')[m.length]?).bind _) _=_;rw[tN];show Res.bind (aW<|dY M.P.tab f (.val t) ob) _=_;rw[b];exact cm (λz=>Res.ok (Out.nx,(⟨sv (.own m.length)::r,z⟩:S))) KO
def Nk(hj:gW M.P.tab ob.c f=U j)(a:ob.fs[j]?=sv t):aB M.P.tab f zA ⟨sv (.own m.length)::r,m++ob::Z⟩=.ok (t,⟨sv (.own m.length)::r,m++ob::Z⟩):=qg (k:=m.length) J tN hj a
def Nl{c:C}:(Res.ok (T.own (m++ob::Z).length,(⟨sv (.own m.length)::r,m++ob::Z++[⟨M.bc,[c]⟩]⟩:S)):Res<|T×S)=.ok (.own<|m.length+1+Z.length,⟨sv (.own m.length)::r,m++ob::(Z++[⟨M.bc,[c]⟩])⟩):=by
 rw[b_,dg,bI,show m.length+(Z.length+1)=m.length+1+Z.length by lia];rfl
def Ha:ki M.bc ⟨sv (.own m.length)::r,m++ob::Z⟩=.ok (.own<|m.length+1+Z.length,⟨sv (.own m.length)::r,m++ob::(Z++[c6])⟩):=Nl
def Nm:nS M.bc (nX cj) ⟨sv (.own m.length)::r,m++ob::Z⟩=.ok (.own<|m.length+1+Z.length,⟨sv (.own m.length)::r,m++ob::(Z++[⟨M.bc,[.ol []]⟩])⟩):=Nl
def HC(L:List LN)(w:Nat):WV:=⟨aO L,.cC [] [],w+1,.lst [],0,w+3,0,.non,0,w+4,w+5,w+6,w+7,Zb⟩
abbrev wO(L:List LN)(w k:Nat):Ob:=⟨24,(HC L w).ob.fs.take k⟩
def gn{k:Nat}{B:FS}{Q:Out×S->Prop}(c:a ⟨sv (.own m.length)::r,m++wO L m.length k::Z⟩=.ok (t,⟨sv (.own m.length)::r,m++wO L m.length k::Z'⟩))(b:dY M.P.tab f (.val t) (wO L m.length k)=U (wO L m.length<|k+1))(h:W (B ⟨sv (.own m.length)::r,m++wO L m.length (k+1)::Z'⟩) Q):W (af (aL M.P.tab f zA a) B ⟨sv (.own m.length)::r,m++wO L m.length k::Z⟩) Q:=jE<|W.of (Wv c b) ⟨J,h⟩
def wB(w:L.length<=1000):W (cN (n+2) 60 [.own m.length,.obj 0 [.lst<|aO L]]<|m++[⟨24,[]⟩]) λp=>p.1=.non/\WS p.2 m.length {HC L m.length with wt:=O} [ik 0]/\p.2[m.length+1]?=U ⟨23,[.val<|.lst<|L.map LN.cv,.val<|.own<|m.length+2]⟩/\p.2[m.length+5]?=U c6/\p.2[m.length+6]?=U ⟨M.bc,[.ol []]⟩/\Fr (λk=>m.length<=k) m p.2:=by
 rw[w60];obtain⟨pg,g⟩:∃pg:T,pg=.obj 0 [.lst<|aO L]:=⟨_,J⟩;rw[<- g];obtain⟨tT,f⟩:∃tT:Ob,tT=⟨23,[.val<|.lst<|L.map LN.cv,.val<|.own<|m.length+2]⟩:=⟨_,J⟩;obtain⟨c,o⟩:∃c:Ob,c=⟨M.bc,[.ol []]⟩:=⟨_,J⟩;refine eB J ?_;show W (af _ _ ⟨sv (.own m.length)::[sv pg],m++wO L m.length 0::[]⟩) _;refine gn (t:=.lst<|aO L) (by rw[g];rfl) J ?_
 refine gn (t:=.cC [] []) (lM (ts:=[.lst<|aO L]) (s':=⟨sv (.own m.length)::[sv pg],m++wO L m.length 1::[]⟩) (aC (Nk (j:=0) J J) J)<|J8 n) J ?_;refine gn (t:=.own<|m.length+1) (Z':=[tT,c6]) ?_ J ?_
 .obtain⟨d,s⟩:∃d:Ob,d=wO L m.length 2:=⟨_,J⟩
  have C:k1 (aB M.P.tab 0 zA) ⟨sv (.own m.length)::[sv pg],m++d::[]⟩=.ok ([.lst<|aO L],⟨sv (.own m.length)::[sv pg],m++d::[]⟩):=by rw[s];exact aC (Nk (j:=0) J J) J
  rw[<- s];unfold jr;refine Eq.trans (cm (λx=>Res.bind x _) C) ?_;refine cQ ?_;have q:=wA n (L:=L) (m:=m++[d]) w;dsimp only;rw[q];show Res.ok (T.own (m++[d]).length,(⟨sv (.own m.length)::[sv pg],m++[d]++[⟨23,[.val<|.lst<|L.map LN.cv,.val<|.own<|(m++[d]).length+1]⟩,c6]⟩:S))=_;rw[dg,b_,f];rfl
 refine gn J J<|gn J J<|gn Ha J<|gn J J<|gn J J<|gn J J<|gn Ha J<|gn Ha J ?_;refine gn (Z':=[tT,c6,c6,c6,c6,c]) (by rw[o];exact Nm) J<|gn (Z':=[tT,c6,c6,c6,c6,c,c]) (by rw[o];exact Nm) J<|gn J J ?_
 have l:∀(x:Ob)(Z:FR)(k:Nat),(m++x::Z)[m.length+k]?=(x::Z)[k]?:=λx Z k=>by
  rw[eF<|by lia,show m.length+k-m.length=k by lia]
 obtain⟨i,e⟩:∃i:FR,i=m++(HC L m.length).ob::[tT,c6,c6,c6,c6,c,c]:=⟨_,J⟩;have S0:WS i m.length (HC L m.length) []:=⟨by rw[e];exact tN,by rw[e];show(m++_::_)[m.length+7]?=_;rw[l,<- o];rfl,by show m.length+7≠m.length;lia,by show 0<_;lia⟩
 show W (aQ _ ⟨sv (.own m.length)::[sv pg],m++(HC L m.length).ob::[tT,c6,c6,c6,c6,c,c]⟩) _;rw[<- e];refine(GF (r:=[sv pg]) S0 J<|AK n S0<|by show 0+1<_;lia).mono λp v=>?_
 obtain⟨B,F,u,E,A,h⟩:=v;have D:i.length=m.length+8:=by rw[e];simp
 have nx:∀k,k≠0->k≠7->¬ WX m.length (HC L m.length) (m.length+k):=λk a b z=>by
  rcases z with z|z
  .lia
  .have z:m.length+k=m.length+7:=z
   lia
 refine⟨B,J,A,?_,?_,?_,?_,λk y x=>?_⟩
 .rw[h.at_ _ (by lia)<|nx 1 (by lia)<|by lia,e,l,<- f];rfl
 .rw[h.at_ _ (by lia)<|nx 5 (by lia)<|by lia,e,l];rfl
 .rw[h.at_ _ (by lia)<|nx 6 (by lia)<|by lia,e,l,<- o];rfl
 .exact dq (by lia) h.le
 .rw[h.at_ k (by lia) λz=>?_,e,e_ y]
  rcases z with z|z
  .lia
  .have z:k=m.length+7:=z
   lia
end
theorem jH:∀{ts:FC},(∀t∈ts,noOwn t=O)->aH ts=O
 |[],_=>J
 |t::ts,h=>by
  show(noOwn t&&aH ts)=O;rw[h t<|bC ..,jH λu a=>h u<|eE _ a];rfl
def GV.no{log:FC}{rows:Ap}(G:GV log rows):aH log=O:=jH λt b=>by
 obtain⟨c,a,rfl,_,h⟩:=G.ok t b;show(O&&aH a)=O;rw[h];rfl
def Hb{log:FC}{rows:Ap}(G:GV log rows)(a:log.length<=1000000):cN (n+1) 24 [.lst log] m=.ok (.lst<|rows.map T.str,m):=by
 rw[Ž];have g:=wx log [] G.ok;rw[G.gv]at g;refine Gp (m':=[]) ?_ (B_ (s':=⟨[sv<|.lst log],[]⟩) J (B9<|vZ<|Aw (ts:=log) (s1:=⟨[sv<|.lst log],[]⟩) J a g) J)<|e8 rows;show(aH log&&O)=O;rw[G.no];rfl
section
variable{a:FE}{s:S}{w kb f j:Nat}{ob:Ob}{c:C}{u:T}
def Nn(a:s.m[w]?=U ob)(hj:gW M.P.tab ob.c f=U j)(b:ob.fs[j]?=U c):ie M.P.tab f s.m (.own w)=U (w,ob,j,c):=by
 show(s.m[w]?).bind _=_;rw[a];show(gW M.P.tab ob.c f).bind _=_;rw[hj];show(ob.fs[j]?).map _=_;rw[b];rfl
def ę(h:a s=.ok (.own w,s))(d:s.m[w]?=U ob)(hj:gW M.P.tab ob.c f=U j)(g:ob.fs[j]?=sv (.own kb))(i:s.m[kb]?=U ⟨M.bc,[c]⟩)(b:Ji c=U u):jB M.bc M.P.tab f a s=.ok (u,⟨s.r,(s.m.set kb ⟨M.bc,[]⟩).set w ⟨ob.c,ob.fs.set j<|.val u⟩⟩):=by
 have e:p_ M.bc s.m (.own kb)=U (kb,c):=by
  show(s.m[kb]?).bind _=_;rw[i];show(if M.bc=M.bc then U (kb,c)else Y)=_
  rw[bt J]
 unfold jB;rw[h];refine cQ ?_;show Res.bind (aW<|ie M.P.tab f s.m<|.own w) _=_;rw[Nn d hj g];refine cQ ?_;dsimp only;rw[e];dsimp only;rw[b];rfl
def fx2(h:a s=.ok (.own w,s))(d:s.m[w]?=U ob)(hj:gW M.P.tab ob.c f=U j)(e:ob.fs[j]?=sv u)(b:p_ M.bc s.m u=Y):jB M.bc M.P.tab f a s=.ok (u,s):=by
 unfold jB;rw[h];refine cQ ?_;show Res.bind (aW<|ie M.P.tab f s.m<|.own w) _=_;rw[Nn d hj e];refine cQ ?_;dsimp only;rw[b]
end
abbrev mO:BX:=⟨[],[],[]⟩
def Hc:mO.ok 0:=⟨J,bW _,bW _,λ_ h=>(by cases h),λ_ h=>(by cases h)⟩
theorem q_:∀l:Dx,aH (l.map T.int)=O
 |[]=>J
 |x::l=>by
  show(O&&aH (l.map T.int))=O;rw[q_ l];rfl
def Cf(x:BX):aH x.no=O:=jH λt a=>by
 obtain⟨p,_,rfl⟩:=gA.mp a;rfl
theorem tQ:∀{rows:Ap},(∀r∈rows,r.length<=1000)->(fZ rows).length<=1001*rows.length
 |[],_=>bW _
 |r::rows,h=>by
  have b:=tQ λq a=>h q<|eE _ a;have hr:=h r<|bC ..;show(r++[10]++fZ rows).length<=_;rw[dg,dg,ng,bI];lia
def KP{L:List LN}{rows:Ap}(aZ:∀q∈L,q.ok)(hL:L.length<=30)(hr:rows.length<=30)(hx:∀r∈rows,r.length<=1000)(z8:∀r∈rows,10∉r) :
  ∃lt,cN (n+26) 26 [Xz L,.str<|fZ rows] m=.ok (.tup [.lst<|(rows++HB (allB L 0 rows mO) L).map T.str,.cC (allB L 0 rows mO).ky (allB L 0 rows mO).vs,.lst (allB L 0 rows mO).no,.lst lt],m)/\(allB L 0 rows mO).ok 900:=by
 rw[w26];obtain⟨P,Q⟩:∃P,P=Xz L:=⟨_,J⟩;obtain⟨t0,Ě⟩:∃t,t=T.str (fZ rows):=⟨_,J⟩;have N:aH [P,t0]=O:=by
  rw[Q,Ě];show((aH (aO L)&&O)&&(O&&O))=O;rw[e9];rfl
 have ec:aq (cN (n+25) 0) [] (k1 zB) (⟨[sv P,sv t0,Y,Y,Y,Y],[]⟩:S)=.ok (.tup [.lst<|rows.map T.str,.bl O],⟨[sv P,sv t0,Y,Y,Y,Y],[]⟩):=cE (ts:=[.str<|fZ rows]) (by rw[Ě];rfl)<|Az (n+24) z8<|by have:=tQ hx;lia
 have er:aq (cN (n+25) 19) [] (k1<|oI (aq (cN (n+25) 0) []<|k1 zB) zO) (⟨[sv P,sv t0,Y,Y,Y,Y],[]⟩:S)=.ok (.lst<|(iT rows.length).map T.own,⟨[sv P,sv t0,Y,Y,Y,Y],tM 0 rows⟩):=lM (g:=cN (n+25) 19) (m':=tM 0 rows) (s':=(⟨[sv P,sv t0,Y,Y,Y,Y],[]⟩:S)) (ts:=[.lst<|rows.map T.str]) (aC (av ec J J) J) (by rw[dw];exact KN (n+23) (rows:=rows)<|by lia)
 obtain⟨w,B⟩:∃w,w=(tM 0 rows).length:=⟨_,J⟩;have hw2:w=2*rows.length:=B.trans<|AU ..;obtain⟨⟨t1,m1⟩,e1,y,S1,T1,b5,b6,F1⟩:=wB (n+23) (m:=tM 0 rows) (L:=L) (by lia)
 have y:t1=.non:=y;subst y;rw[<- B]at S1 T1 b5 b6 F1 e1;have eN:jr 24 (cN (n+25) 60) (k1 zA) (⟨[sv P,sv t0,sv<|.lst<|(iT rows.length).map T.own,Y,Y,Y],tM 0 rows⟩:S)=.ok (.own w,⟨[sv P,sv t0,sv<|.lst<|(iT rows.length).map T.own,Y,Y,Y],m1⟩):=by
  have:=Ċ (c:=24) (g:=cN (n+25) 60) (s:=(⟨[sv P,sv t0,sv<|.lst<|(iT rows.length).map T.own,Y,Y,Y],tM 0 rows⟩:S)) (s':=(⟨[sv P,sv t0,sv<|.lst<|(iT rows.length).map T.own,Y,Y,Y],tM 0 rows⟩:S)) (fl:=k1 zA) (ts:=[P]) (m':=m1) J (by rw[Q];show cN (n+25) _ (T.own (tM 0 rows).length::_) _=_;rw[<- B];exact e1)
  rw[show(⟨[sv P,sv t0,sv<|.lst<|(iT rows.length).map T.own,Y,Y,Y],tM 0 rows⟩:S).m.length=w from B.symm]at this;exact this
 have A:∀k∈iT rows.length,k<w/\k+1<w:=λk p=>by
  obtain⟨j,hj,rfl⟩:=gA.mp p
  have:=gu.mp hj
  lia
 have R:∀k,WJ w {HC L w with wt:=O} k->w<=k:=λk p=>by
  rcases p with(h|h)|h|h
  .rw[h];exact bW _
  .rw[h];exact cH w 7
  .rw[h];exact cH w 5
  .rw[h];exact cH w 6
 have U1:WU m1 w {HC L w with wt:=O} [ik 0] mO 0:=⟨S1,b5,b6,by show w+5≠w;lia,by show w+5≠w+7;lia,by show w+6≠w;lia,by show w+6≠w+7;lia,by show w+5≠w+6;lia,Hc⟩
 have R1:RA (iT rows.length) (Nj rows) (λq=>((q/2:Nat):Int)+1) 0 m1:=by
  have R0:=Q_ (Z:=[]) hx;rw[dw]at R0;exact R0.fr F1 λk p=>⟨by have:=A k p;lia,by have:=A k p;lia⟩
 have I1:WI (iT rows.length) (Nj rows) (λq=>((q/2:Nat):Int)+1) L w (w+1) (w+2) (30*0) {HC L w with wt:=O} [ik 0] mO (30*0) m1:=by
  refine⟨U1,R1,T1,λk p=>⟨λz=>?_,λz=>?_⟩,λ⟨k,p,z⟩=>?_,λz=>?_,J,J,J,J⟩
  .have:=R k z;have:=A k p;lia
  .have:=R (k+1) z;have:=A k p;lia
  .have:=A k p;lia
  .rcases z with(z|z)|z|z
   .lia
   .have z:w+1=w+7:=z
    lia
   .have z:w+1=w+5:=z
    lia
   .have z:w+1=w+6:=z
    lia
 have G0:GV [ik 0] []:=Q4 (log:=[]) (by decide) J ⟨λ_ h=>(by cases h),J⟩
 obtain⟨⟨o2,s2⟩,e2,ě,u,I,m2,b,V,K,v,G2,_,hlg,hsu,aah,Cn⟩:=AS n aZ hL (by lia) (pg:=P) (tt:=t0) rows.length 0 {HC L w with wt:=O} [ik 0] mO [] m1 Y Y (by lia) I1 G0 J (by show 1<=_;lia)
 have ě:o2=.nx:=ě;have K:s2=_:=K;subst ě K;rw[um,lT]at G2;rw[um]at v
 generalize allB L 0 rows mO=X at v ⊢
 obtain⟨⟨t3,m3⟩,e3,Ĝ,i,e,G3,F3⟩:=Ce (n+21) v.w0 G2 (by lia) v.ln v.hd (by
  have:30*rows.length*L.length<=900*30:=CL (by lia) hL
  lia)
 have Ĝ:t3=.non:=Ĝ;subst Ĝ;have aai:=e.s.qG;obtain⟨d,Ro⟩:∃d:Fh,d=[sv P,sv t0,sv<|.lst<|(iT rows.length).map T.own,sv<|.own w,u,I]:=⟨_,J⟩;have E:∀m',vF 3 (⟨d,m'⟩:S)=.ok (.own w,⟨d,m'⟩):=λm'=>by rw[Ro];rfl
 have H:=ę (f:=29) (j:=12) (E m3) e.s.o J J e.s.l J;obtain⟨m4,D⟩:∃m4,m4=(m3.set b.lg ⟨M.bc,[]⟩).set w ⟨b.ob.c,b.ob.fs.set 12<|.val<|.lst i⟩:=⟨_,J⟩;have ĝ:w<m3.length:=(du.mp e.s.o).1;have H:jB M.bc M.P.tab 29 zD (⟨d,m3⟩:S)=.ok (.lst i,⟨d,m4⟩):=by rw[D];exact H
 have o4:m4[w]?=U ⟨b.ob.c,b.ob.fs.set 12<|.val<|.lst i⟩:=by rw[D];exact dQ (by rw[eU];exact ĝ)
 have b4:∀{k ob},k≠w->k≠b.lg->m3[k]?=U ob->m4[k]?=U ob:=λy h2 h=>by
  rw[D,cJ<|Ne.symm y,cJ<|Ne.symm h2];exact h
 have G:=ę (f:=27) (j:=10) (kb:=b.su) (u:=.cC X.ky X.vs) (E m4) o4 J J (b4 e.a1 e.a2 e.su) J;obtain⟨m5,C⟩:∃m5,m5=(m4.set b.su ⟨M.bc,[]⟩).set w ⟨b.ob.c,(b.ob.fs.set 12<|.val<|.lst i).set 10<|.val<|.cC X.ky X.vs⟩:=⟨_,J⟩;have G:jB M.bc M.P.tab 27 zD (⟨d,m4⟩:S)=.ok (.cC X.ky X.vs,⟨d,m5⟩):=by rw[C];exact G
 have l4:m4.length=m3.length:=by rw[D,eU,eU]
 have o5:m5[w]?=U ⟨b.ob.c,(b.ob.fs.set 12<|.val<|.lst i).set 10<|.val<|.cC X.ky X.vs⟩:=by rw[C];exact dQ (by rw[eU,l4];exact ĝ)
 have b5:m5[b.no]?=U ⟨M.bc,[.ol X.no]⟩:=by
  rw[C,cJ<|Ne.symm e.a3,cJ e.a5];exact b4 e.a3 e.a4 e.no
 have F:=ę (f:=28) (j:=11) (kb:=b.no) (u:=.lst X.no) (E m5) o5 J J b5 J;obtain⟨m6,x⟩:∃m6,m6=(m5.set b.no ⟨M.bc,[]⟩).set w ⟨b.ob.c,((b.ob.fs.set 12<|.val<|.lst i).set 10<|.val<|.cC X.ky X.vs).set 11<|.val<|.lst X.no⟩:=⟨_,J⟩;have F:jB M.bc M.P.tab 28 zD (⟨d,m5⟩:S)=.ok (.lst X.no,⟨d,m6⟩):=by rw[x];exact F
 have l5:m5.length=m3.length:=by rw[C,eU,eU,l4]
 have o6:m6[w]?=U ⟨b.ob.c,((b.ob.fs.set 12<|.val<|.lst i).set 10<|.val<|.cC X.ky X.vs).set 11<|.val<|.lst X.no⟩:=by rw[x];exact dQ (by rw[eU,l5];exact ĝ)
 have x4:jB M.bc M.P.tab 29 zD (⟨d,m6⟩:S)=.ok (.lst i,⟨d,m6⟩):=fx2 (j:=12) (E m6) o6 J J J;have xg:aq (cN (n+25) 24) [] (k1<|jB M.bc M.P.tab 29 zD) (⟨d,m3⟩:S)=.ok (.lst<|(rows++HB X L).map T.str,⟨d,m4⟩):=lM (s':=(⟨d,m4⟩:S)) (m':=m4) (ts:=[.lst i]) (aC H J) (by rw[dw];exact Hb (n+24) G3<|by lia)
 rw[<- Q,<- Ě];refine⟨i,sEq N J ?_ ?_,e.ok.le<|by lia⟩
 .show(aH ((rows++HB X L).map T.str)&&(aH (X.zs.map T.int)&&(aH X.no&&(aH i&&O))))=O
  rw[e8,q_,Cf,G3.no];rfl
 refine V3 er<|V3 eN<|gM<|fV<|W.of (a:=(dO 1<|(iT rows.length).map T.own,(⟨[sv P,sv t0,sv<|.lst<|(iT rows.length).map T.own,sv<|.own w,Y,Y],m1⟩:S))) J<|W.of e2 ⟨J,?_⟩;refine gM<|dE (s:=⟨[sv P,sv t0,sv<|.lst<|(iT rows.length).map T.own,sv<|.own w,u,I],m2⟩) (Av (k:=w) J v.w0.s.o J J e3) ⟨J,?_⟩;show WB _ ⟨[sv P,sv t0,sv<|.lst<|(iT rows.length).map T.own,sv<|.own w,u,I],m3⟩ _;rw[<- Ro];exact QD (s':=⟨d,m6⟩) (dU (aC xg<|aC G<|aC F<|aC x4 J) J) J
def Ww(i:Int):10∉jz i:=by
 have b:∀n:Nat,10∉jz (n:Int):=λn h=>by
  rw[GQ]at h;obtain⟨d,e,c⟩:=gA.mp h;have h:=Nat.isDigit_of_mem_toDigits (by decide) (by decide) e
  unfold Char.isDigit at h;simp only[dj,eP,ge_iff_le,UInt32.le_iff_toNat_le]at h;have a:48<=d.toNat:=h.1;rw[c]at a
  lia
 cases i with
 |ofNat n=>exact b n
 |negSucc n=>
  rw[GS,bK,tW];exact⟨by decide,b<|n+1⟩
def md{a b:Int}(h:0<b):bO .Mod (.int a) (.int b)=U (.int<|a % b):=ji h
def fd{a b:Int}(h:0<b/\b<1073741824):bO .FloorDiv (.int a) (.int b)=U (.int<|a/b):=ji h
def ml{a b:Int}(h:-(2^64)<b/\b<2^64):bO .Mult (.int a) (.int b)=U (.int<|a*b):=ji<|.inl<|.inr h
def pick{xs:Ap}{P:B1->Prop}{z n:Int}(e:n=xs.length)(h:0<n)(d:∀w∈xs,P w):∃w,P w/\jw (.lst<|xs.map T.str) (.int<|z % n)=U (.str w):=by
 have g:=yL z (b:=n) (by lia)
 have f:=yM z h;obtain⟨k,c⟩:∃k:Nat,z % n=(k:Int):=⟨(z % n).toNat,by lia⟩
 have a:k<xs.length:=by lia
 refine⟨xs[k],d _<|wQ a,?_⟩;rw[c];show atT (xs.map T.str) (k:Int)=_;rw[ib<|by rw[bX];exact a,dH,cD a];rfl
def TX(k:Nat)(w:B1):Prop:=w.length<=k/\10∉w
instance {k:Nat} {w:B1}:Decidable<|TX k w:=by unfold TX;infer_instance
def TX.app{j k:Nat}{a b:B1}(h:TX j a)(c:TX k b):TX (j+k)<|a++b:=⟨by rw[dg];exact Nat.add_le_add h.1 c.1,by rw[ir,tW];exact⟨h.2,c.2⟩⟩
def TX.le{j k:Nat}{a:B1}(h:TX j a)(l:j<=k):TX k a:=⟨dq h.1 l,h.2⟩
def Hd{i:Int}(h:i.natAbs<=10^60):strN [.int i]=U (.str<|jz i)/\TX 67 (jz i):=
 have:=Ng (c:=1) (by decide) (i:=i) (by rw[Nat.one_mul];exact h)
 ⟨this.1,this.2,Ww i⟩
def mod_le{z n:Int}{k:Nat}(h:0<n)(a:n.natAbs<=k):(z % n).natAbs<=k:=by
 have d:=yL z (b:=n) (by lia)
 have c:=yM z h
 lia
def KQ{v:Int}(h:v=0\/v=1\/v=2\/v=71\/v=72\/v=73):∃w,TX 2 w/\cN (n+1) 43 [.int v] m=.ok (.str w,m):=by
 rw[vW];rcases h with rfl|rfl|rfl|rfl|rfl|rfl
 .exact⟨[97],by decide,by kernel_rfl⟩
 .exact⟨[98,97],by decide,by kernel_rfl⟩
 .exact⟨[99],by decide,by kernel_rfl⟩
 .exact⟨[98,97],by decide,by kernel_rfl⟩
 .exact⟨[99],by decide,by kernel_rfl⟩
 .exact⟨[100,98],by decide,by kernel_rfl⟩
def m3(q:Int):q % 3=0\/q % 3=1\/q % 3=2:=by lia
def ten:Ap:=[dN 60 57,dN 61 57,[45],[45,45,53],[53,45],[43,53],[49,46,48],[45,48],45::dN 61 48,45::dN 60 55]
def KR(c:Int) :W (cN (n+2) 44 [.int c] m) λp=>∃w,TX 70 w/\p=(.str w,m):=by
 rw[w44];refine vV J<|sW J<|bS (t:=.int<|c % 8) (av J J<|md<|by decide)<|bS (t:=.int<|c/8) (av J J<|fd<|by decide) ?_
 generalize c % 8=r
 generalize c/8=q
 have a:∀k:Int,b9 (oE zB<|cI k) (⟨[sv<|.int c,sv<|.int r,sv<|.int q],[]⟩:S)=.ok (decide<|r=k,⟨[sv<|.int c,sv<|.int r,sv<|.int q],[]⟩):=λk=>lN<|av (t:=.int r) (u:=.int k) J J<|GZ r k;show D.WB _ ⟨[sv<|.int c,sv<|.int r,sv<|.int q],[]⟩ _;by_cases h0:r=0
 .obtain⟨e,t⟩:=Hd<|mod_le (z:=q*982451653) (n:=10^60) (k:=10^60) (by decide)<|by decide
  exact QE ((a 0).trans<|by rw[dr h0])<|bR (dU (aC (av (av J J<|ml<|by decide) J<|md<|by decide) J) e) ⟨J,_,t.le<|by decide,J⟩
 refine bN ((a 0).trans<|by rw[dd h0]) ?_
 by_cases h1:r=1
 .obtain⟨e,t⟩:=Hd<|mod_le (z:=q) (n:=1000) (k:=10^60) (by decide)<|by decide
  have t2:TX (1+67)<|[45]++jz (q % 1000):=TX.app (by decide) t
  exact QE ((a 1).trans<|by rw[dr h1])<|bR (av J (dU (aC (av J J<|md<|by decide) J) e)<|lP<|by have:=t.1;show 1+_<=_;lia) ⟨J,_,t2.le<|by decide,J⟩
 refine bN ((a 1).trans<|by rw[dd h1]) ?_
 by_cases h2:r=2
 .obtain⟨e,t⟩:=Hd<|mod_le (z:=q/3) (n:=100) (k:=10^60) (by decide)<|by decide
  obtain⟨w,b,d⟩:=pick (xs:=[[48],[48,48],[]]) (P:=TX 2) (z:=q) (n:=3) J (by decide) (by decide)
  have t2:=b.app t;exact QE ((a 2).trans<|by rw[dr h2])<|bR (av (av (t:=.lst<|[[48],[48,48],[]].map T.str) J (av J J<|md<|by decide) d) (dU (aC (av (av J J<|fd<|by decide) J<|md<|by decide) J) e)<|lP<|by have:=t2.1;rw[dg]at this;lia) ⟨J,_,t2.le<|by decide,J⟩
 refine bN ((a 2).trans<|by rw[dd h2]) ?_
 by_cases h3:r=3
 .obtain⟨w,b,d⟩:=pick (xs:=ten) (P:=TX 62) (z:=q) (n:=10) J (by decide) (by decide)
  exact QE ((a 3).trans<|by rw[dr h3])<|bR (av (t:=.lst<|ten.map T.str) J (av J J<|md<|by decide) d) ⟨J,_,b.le<|by decide,J⟩
 refine bN ((a 3).trans<|by rw[dd h3]) ?_
 have f:q % 3+71*(q % 2)=0\/q % 3+71*(q % 2)=1\/q % 3+71*(q % 2)=2\/q % 3+71*(q % 2)=71\/q % 3+71*(q % 2)=72\/q % 3+71*(q % 2)=73:=by
  rcases m3 q with h|h|h<;>rcases L0 q with k|k<;>rw[h,k]<;>decide
 obtain⟨w,b,d⟩:=KQ n (m:=[]) f;have g:-(2^64)<q % 2/\q % 2<2^64:=by rcases L0 q with k|k<;>rw[k]<;>decide
 exact bR (cE (ts:=[.int<|q % 3+71*(q % 2)]) (aC (av (av J J<|md<|by decide) (av J (av J J<|md<|by decide)<|ml g) J) J) d) ⟨J,_,b.le<|by decide,J⟩
end K37
namespace K37
open D PySem
variable(n:Nat){m:List _root_.D.Ob}
def Hg{l:B1}{c:Nat}(h:c∈(mM ⟨l.toArray⟩).cps.toList):c∈l:=by
 unfold mM Txt.stripBy at h;split at h
 .exact h
 .unfold PySem.stripped ra at h
  simp at h;exact yz<|yx h
def rf{l:B1}:(mM ⟨l.toArray⟩).cps.toList.length<=l.length:=by
 unfold mM Txt.stripBy;split
 .exact bW _
 .unfold PySem.stripped ra
  simp
  lia
def KS{l:B1}(h:TX 1000 l):∃w,TX 1000 w/\Ag (.str l)=U (.str w):=by
 refine⟨_,⟨dq rf h.1,λz=>h.2<|Hg z⟩,ji<|dr ?_⟩
 have:=rf (l:=l)
 have a:=h.1;show((mM ⟨l.toArray⟩).cps.size)<=1000000;rw[<- eo]
 lia
def Np(a b:Int):bO .Add (.int a) (.int b)=U (.int<|a+b):=J
theorem Hh(n:Nat){c:Int}:∀(ks:B1)(r:B1)(z:Int)(u:Option C),(∀k∈ks,k<=5)->r.length+73*ks.length<=1000->10∉r->W (b7 (setG 3) (V7<|cN<|n+2) (ks.map λk=>T.int (k:Nat)) ⟨[sv<|.int c,sv<|.str r,sv<|.int z,u],[]⟩) λp=>p.1=.nx/\∃r z u,TX 1000 r/\p.2=⟨[sv<|.int c,sv<|.str r,sv<|.int z,u],[]⟩
 |[],r,z,u,_,e,d=>⟨_,J,J,r,z,u,⟨by simpa using e,d⟩,J⟩
 |k::ks,r,z,u,h,e,d=>by
  rw[bI]at e;have o:=h k<|bC ..;have l:(0:Int)<10^40+7+2*(k:Nat)*(k:Nat):=by
   have:(0:Int)<=2*(k:Nat)*(k:Nat):=Int.mul_nonneg (by lia) (by lia)
   lia
  have b1:-(2^64)<((k:Nat):Int)/\((k:Nat):Int)<2^64:=by lia
  obtain⟨a,y⟩:∃a,a=z*48271 % (10^40+7+2*((k:Nat):Int)*(k:Nat)):=⟨_,J⟩;have x:oM (a_ (bO .Mult) zC<|cI 48271) (oA (oA (a_ (bO .Pow) (cI 10)<|cI 40)<|cI 7)<|a_ (bO .Mult) (a_ (bO .Mult) (cI 2) zD) zD) (⟨[sv<|.int c,sv<|.str r,sv<|.int z,sv<|.int (k:Nat)],[]⟩:S)=.ok (.int a,⟨[sv<|.int c,sv<|.str r,sv<|.int z,sv<|.int (k:Nat)],[]⟩):=by
   rw[y];exact av (av J J<|ml<|by decide) (av (av (t:=.int<|10^40) (u:=.int 7) J J<|Np _ _) (av (av J J<|ml b1) J<|ml b1)<|Np _ _)<|md l
  obtain⟨⟨t,A⟩,s,w,f,i⟩:=KR n a (m:=[]);cases i;obtain⟨b,g,v⟩:=pick (xs:=[[32],[32,32]]) (P:=TX 2) (z:=a/5) (n:=2) J (by decide) (by decide)
  have l1:=f.1;have l2:=g.1;have t3:TX (r.length+70+2)<|r++w++b:=TX.app (TX.app ⟨bW _,d⟩ f) g;refine ig (r:=[sv<|.int c,sv<|.str r,sv<|.int z,sv<|.int (k:Nat)]) J<|wS x<|W.of (vY (t:=.str<|r++w++b)<|av (av (t:=.str r) (u:=.str w) J (cE (ts:=[.int a]) J s)<|lP<|by lia) (av (t:=.lst<|[[32],[32,32]].map T.str) J (av (av (t:=.int a) J J<|fd<|by decide) J<|md<|by decide) v)<|lP<|by rw[dg];lia) ⟨J,Hh n ks (r++w++b) a _ (λq j=>h q<|eE _ j) ?_ t3.2⟩
  rw[dg,dg]
  lia
def KU(c:Int) :W (cN (n+3) 45 [.int c] m) λp=>∃r,TX 1000 r/\p=(.str r,m):=by
 rw[w45];obtain⟨a,t0,q⟩:=pick (xs:=[[32],[]]) (P:=TX 1) (z:=c/6) (n:=2) J (by decide) (by decide)
 have d:=yL c (b:=6) (by decide)
 have s:=yM c (b:=6) (by decide)
 have o:mj [.int<|c % 6]=U ((bZ (c % 6).toNat).map λk=>T.int (k:Nat)):=by
  refine(ji<|by lia).trans ?_
  unfold lW;exact cm U<|uh λk _=>by rw[uG]
 refine vV J<|sW J<|bS (t:=.str a) (av (t:=.lst<|[[32],[]].map T.str) J (av (av (t:=.int c) J J<|fd<|by decide) J<|md<|by decide) q)<|bS (t:=.int c) J<|gM<|fV<|W.of (QO (ts:=[.int<|c % 6]) (aC (av J J<|md<|by decide) J) o)<|(Hh n (bZ (c % 6).toNat) a c Y (λk j=>?_) ?_ t0.2).mono λp i=>?_
 .have:=gu.mp j;lia
 .have:=t0.1;rw[nh];lia
 .obtain⟨d,r,z,u,t,e⟩:=i
  refine⟨d,?_⟩;rw[e];have f:b9 (oE (oM (oD zA<|cI 12)<|cI 2) zO) (⟨[sv<|.int c,sv<|.str r,sv<|.int z,u],[]⟩:S)=.ok (decide<|c/12 % 2=0,⟨[sv<|.int c,sv<|.str r,sv<|.int z,u],[]⟩):=lN<|av (av (av (t:=.int c) J J<|fd<|by decide) J<|md<|by decide) J<|GZ _ _
  by_cases h:c/12 % 2=0
  .obtain⟨w,g,l⟩:=KS t
   exact QE (f.trans<|by rw[dr h])<|bR (o1E (t:=.str r) J l) ⟨J,w,g,J⟩
  .exact bN (f.trans<|by rw[dd h])<|bR (t:=.str r) J ⟨J,r,t,J⟩
def sgn(c:Nat):B1:=if c=0 then[]else[96+c]
def wJ(p:Nat):LN->T
 |.ad c i j=>.tup [.int (i:Nat),.int (j:Nat),.str<|sgn c,.int<|(p:Nat)+1]
 |.te=>.non
def bg:Nat->List LN->FC
 |_,[]=>[]
 |p,q::r=>wJ p q::bg (p+1) r
def LN.Ad(q:LN):Prop:=q.ok/\q.en?=Zb
theorem rh:∀(p:Nat)(L:List LN)(q:LN),bg p (L++[q])=bg p L++[wJ (p+L.length) q]
 |_,[],_=>J
 |p,x::L,q=>by
  rw[uo,bg,rh (p+1) L q,bI,show p+1+L.length=p+(L.length+1) by lia];rfl
theorem kE:∀(p:Nat)(L:List LN),(bg p L).length=L.length
 |_,[]=>J
 |p,x::L=>cm (· + 1)<|kE (p+1) L
theorem wC:∀(p:Nat)(L:List LN),aH (bg p L)=O
 |_,[]=>J
 |p,x::L=>by
  show(noOwn (wJ p x)&&aH (bg (p+1) L))=O;rw[wC (p+1) L];cases x<;>rfl
theorem AW{N mo:Int}{a:Option C}(o:N/7 % 2=0/\mo=9\/N/7 % 2=1/\mo=3):∀(zs:Dx)(L:List LN)(u e d:Option C),(∀q∈L,q.Ad)->L.length+zs.length<=1000->W (b7 (setG 3) V8 (zs.map T.int) ⟨[a,sv<|.int N,U<|.ol<|bg 0 L,u,e,d],[]⟩) λp=>p.1=.nx/\∃m u e d,(∀q∈m,q.Ad)/\m.length=L.length+zs.length/\p.2=⟨[a,sv<|.int N,U<|.ol<|bg 0 m,u,e,d],[]⟩
 |[],L,u,e,d,h,_=>⟨_,J,J,L,u,e,d,h,J,J⟩
 |z::zs,L,u,e,d,h,B=>by
  rw[bI]at B;have K:oI (bA jq<|k2 (cI 9)<|cI 3) (oM (oD zB<|cI 7)<|cI 2) (⟨[a,sv<|.int N,U<|.ol<|bg 0 L,sv<|.int z,e,d],[]⟩:S)=.ok (.int mo,⟨[a,sv<|.int N,U<|.ol<|bg 0 L,sv<|.int z,e,d],[]⟩):=by
   refine av (t:=.lst [.int 9,.int 3]) (u:=.int<|N/7 % 2) J (av (av (t:=.int N) J J<|fd<|by decide) J<|md<|by decide) ?_
   rcases o with⟨k,f⟩|⟨k,f⟩<;>rw[k,f]<;>rfl
  obtain⟨c,n,I⟩:∃c,c<=2/\oI (bA jq<|bH (cS [])<|k3 (cS []) (cS [97])<|cS [98]) (oM zD<|cI 4) (⟨[a,sv<|.int N,U<|.ol<|bg 0 L,sv<|.int z,sv<|.int mo,d],[]⟩:S)=.ok (.str<|sgn c,⟨[a,sv<|.int N,U<|.ol<|bg 0 L,sv<|.int z,sv<|.int mo,d],[]⟩):=by
   have v:z % 4=0\/z % 4=1\/z % 4=2\/z % 4=3:=by lia
   have go:∀c,jw (.lst [.str [],.str [],.str [97],.str [98]]) (.int<|z % 4)=U (.str<|sgn c)->oI (bA jq<|bH (cS [])<|k3 (cS []) (cS [97])<|cS [98]) (oM zD<|cI 4) (⟨[a,sv<|.int N,U<|.ol<|bg 0 L,sv<|.int z,sv<|.int mo,d],[]⟩:S)=.ok (.str<|sgn c,⟨[a,sv<|.int N,U<|.ol<|bg 0 L,sv<|.int z,sv<|.int mo,d],[]⟩):=λc n=>av (u:=.int<|z % 4) J (av (t:=.int z) J J<|md<|by decide) n
   rcases v with q|q|q|q
   .exact⟨0,by decide,go 0<|by rw[q];rfl⟩
   .exact⟨0,by decide,go 0<|by rw[q];rfl⟩
   .exact⟨1,by decide,go 1<|by rw[q];rfl⟩
   .exact⟨2,by decide,go 2<|by rw[q];rfl⟩
  have Ğ:0<mo/\mo<=9:=by rcases o with⟨_,f⟩|⟨_,f⟩<;>rw[f]<;>decide
  have l:∀y:Int,∃i:Nat,(1<=i/\i<=9)/\1+y % mo=(i:Int):=λy=>by
   have k:=yL y (b:=mo) (by lia)
   have f:=yM y Ğ.1;exact⟨(1+y % mo).toNat,by lia,by lia⟩
  obtain⟨i,hi,G⟩:=l<|z/4;obtain⟨j,hj,F⟩:=l<|z/(4*mo);have D:(LN.ad c i j).Ad:=⟨⟨n,hi,hj⟩,J⟩;have H:bA fX (bH (oA zI<|oM (oD zD<|cI 4)<|vF 4)<|k3 (oA zI<|oM (oD zD<|a_ (bO .Mult) (cI 4)<|vF 4)<|vF 4) (vF 5)<|oA (BZ 2) zI) (⟨[a,sv<|.int N,U<|.ol<|bg 0 L,sv<|.int z,sv<|.int mo,sv<|.str<|sgn c],[]⟩:S)=.ok (wJ L.length<|.ad c i j,⟨[a,sv<|.int N,U<|.ol<|bg 0 L,sv<|.int z,sv<|.int mo,sv<|.str<|sgn c],[]⟩):=by
   have a1:oA zI (oM (oD zD<|cI 4)<|vF 4) (⟨[a,sv<|.int N,U<|.ol<|bg 0 L,sv<|.int z,sv<|.int mo,sv<|.str<|sgn c],[]⟩:S)=.ok (.int (i:Nat),(⟨[a,sv<|.int N,U<|.ol<|bg 0 L,sv<|.int z,sv<|.int mo,sv<|.str<|sgn c],[]⟩:S)):=by
    rw[<- G];exact av J (av (av (t:=.int z) J J<|fd<|by decide) (u:=.int mo) J<|md Ğ.1) J
   have a2:oA zI (oM (oD zD<|a_ (bO .Mult) (cI 4)<|vF 4)<|vF 4) (⟨[a,sv<|.int N,U<|.ol<|bg 0 L,sv<|.int z,sv<|.int mo,sv<|.str<|sgn c],[]⟩:S)=.ok (.int (j:Nat),(⟨[a,sv<|.int N,U<|.ol<|bg 0 L,sv<|.int z,sv<|.int mo,sv<|.str<|sgn c],[]⟩:S)):=by
    rw[<- F];exact av J (av (av (t:=.int z) J (av (u:=.int mo) J J<|ml<|by lia)<|fd<|by lia) (u:=.int mo) J<|md Ğ.1) J
   have a3:BZ 2 (⟨[a,sv<|.int N,U<|.ol<|bg 0 L,sv<|.int z,sv<|.int mo,sv<|.str<|sgn c],[]⟩:S)=.ok (.int (L.length:Nat),(⟨[a,sv<|.int N,U<|.ol<|bg 0 L,sv<|.int z,sv<|.int mo,sv<|.str<|sgn c],[]⟩:S)):=by
    show Res.ok (T.int ((bg 0 L).length:Nat),_)=_;rw[kE]
   exact dU (ts:=[.int (i:Nat),.int (j:Nat),.str<|sgn c,.int<|(L.length:Nat)+1]) (aC a1<|aC a2<|aC J<|aC (av (t:=.int (L.length:Nat)) (u:=.int 1) a3 J J) J) J
  have x:=QM (i:=2) (MR:=bg 0 L) (ts:=bg 0 L) (s:=(⟨[a,sv<|.int N,U<|.ol<|bg 0 L,sv<|.int z,sv<|.int mo,sv<|.str<|sgn c],[]⟩:S)) J H J (by rw[kE];lia)
  have w:=rh 0 L<|.ad c i j;rw[pK]at w;rw[<- w]at x;refine ig (r:=[a,sv<|.int N,U<|.ol<|bg 0 L,sv<|.int z,e,d]) J<|wS K<|wS I<|W.of x ⟨J,?_⟩;refine(AW o zs (L++[.ad c i j]) _ _ _ (λq g=>?_)<|by rw[dg,ng];lia).mono λp A=>?_
  .rcases ir.mp g with g|g
   .exact h q g
   .rw[iw.mp g];exact D
  .obtain⟨k,m,u,e,d,f,E,v⟩:=A
   exact⟨k,m,u,e,d,f,by rw[E,dg,ng,bI];lia,v⟩
def soE{a:FE}{s:S}{i:Int}(h:a s=.ok (.int i,s)):jh a s=.ok (U i,s):=by unfold jh;rw[h];rfl
def KW{ns:Dx}{k:Int}(h:0<=k/\k<=6):(bM ns (U 1)<|U<|1+k).length<=6:=by
 unfold bM gO;dsimp only;rw[ag<|show ¬ (1:Int)<0 by decide,ag<|show ¬ 1+k<0 by lia,eT,jL]
 lia
def Hi(ns:Dx)(N:Int) :W (cN (n+1) 48 [.scr ns,.int N] m) λp=>∃L:List LN,(∀q∈L,q.Ad)/\L.length<=6/\p=(.lst<|bg 0 L,m):=by
 rw[w48];have c:0<=N % 7/\N % 7<=6:=by lia
 have l:=KW (ns:=ns) c;obtain⟨mo,b⟩:∃mo:Int,N/7 % 2=0/\mo=9\/N/7 % 2=1/\mo=3:=by
  have:N/7 % 2=0\/N/7 % 2=1:=by lia
  rcases this with h|h
  .exact⟨9,.inl ⟨h,J⟩⟩
  .exact⟨3,.inr ⟨h,J⟩⟩
 have i:iL (lH zA (jh zI)<|jh<|oA zI<|oM zB<|cI 7) (⟨[sv<|.scr ns,sv<|.int N,U<|.ol [],Y,Y,Y],[]⟩:S)=.ok ((bM ns (U 1)<|U<|1+N % 7).map T.int,⟨[sv<|.scr ns,sv<|.int N,U<|.ol [],Y,Y,Y],[]⟩):=Xy (t:=.lst<|(bM ns (U 1)<|U<|1+N % 7).map T.int) (Xx (t:=.scr ns) (x:=U 1) (y:=U<|1+N % 7) J J (soE<|av (t:=.int 1) (u:=.int<|N % 7) J (av (t:=.int N) J J<|md<|by decide) J) J) J
 refine vV J<|sW J<|gM<|W.of J ⟨J,gM<|fV<|W.of i<|(AW b _ [] Y Y Y (λ_ h=>(by cases h))<|by rw[uv];lia).mono λp a=>?_⟩
 obtain⟨g,L,u,k,j,f,e,d⟩:=a;refine⟨g,?_⟩;rw[d];exact QD (t:=.lst<|bg 0 L) J ⟨wC 0 L,L,f,by rw[e,uv];lia,J⟩
def Nq{i:Nat}(h:1<=i/\i<=9):strN [.int (i:Nat)]=U (.str [48+i]):=by
 rcases d9 h with rfl|rfl|rfl|rfl|rfl|rfl|rfl|rfl|rfl<;>kernel_rfl
def wD{p:Nat}{q:LN}(h:q.Ad):cN (n+1) 49 [wJ p q] m=.ok (.str<|q.txt++[10],m):=by
 obtain⟨ok,e⟩:=h;cases q with
 |te=>cases e
 |ad c i j=>
  rw[w49];obtain⟨g,hi,hj⟩:=ok;have f:∀s:Fh,oA (oA (oA (oA (cS [97,100,100,32])<|bA strN<|k1<|oI zA zO)<|cS [32])<|bA strN<|k1<|oI zA zI) (cS [10]) (⟨sv (wJ p<|.ad c i j)::s,[]⟩:S)=.ok (.str<|vX i j++[10],⟨sv (wJ p<|.ad c i j)::s,[]⟩):=λs=>av (av (av (av J (dU (ts:=[.int (i:Nat)]) J<|Nq hi) J) J J) (dU (ts:=[.int (j:Nat)]) J<|Nq hj) J) J J;refine sEq J J J<|bS (f [Y]) ?_;have b:b9 (oE (oI zA<|cI 2)<|cS []) (⟨[sv<|wJ p<|.ad c i j,sv<|.str<|vX i j++[10]],[]⟩:S)=.ok (decide<|sgn c=[],⟨[sv<|wJ p<|.ad c i j,sv<|.str<|vX i j++[10]],[]⟩):=lN<|av (t:=.str<|sgn c) (u:=.str []) J J<|J2 _ _;by_cases h0:c=0
  .subst h0
   exact bY b<|bR J J
  .have a:sgn c=[96+c]:=ag h0
   have d:(LN.ad c i j).txt++[10]=[47]++[96+c]++[47,58,32]++(vX i j++[10]):=by
    show Gq c (vX i j)++[10]=_;unfold Gq;rw[ag h0];rfl
   rw[d];have e4:oI zA (cI 2) (⟨[sv<|wJ p<|.ad c i j,sv<|.str<|vX i j++[10]],[]⟩:S)=.ok (.str [96+c],⟨[sv<|wJ p<|.ad c i j,sv<|.str<|vX i j++[10]],[]⟩):=by rw[<- a];rfl
   exact bN (b.trans<|by rw[a];rfl)<|bR (av (t:=.str<|[47]++[96+c]++[47,58,32]) (u:=.str<|vX i j++[10]) (av (t:=.str<|[47]++[96+c]) (u:=.str [47,58,32]) (av (t:=.str [47]) (u:=.str [96+c]) J e4 J) J J) J J) J
def lm(x:BX):FR:=[⟨M.bc,[.od x.ky x.vs]⟩,⟨M.bc,[.ol x.no]⟩]
def KY(l:B1)(i j:Nat):T:=if(iS l).length<i\/(iS l).length<j then .non else lA (wd l j)
def Ra(l:B1)(i j:Nat):mi (KY l i j)=bad l i j:=by
 unfold bad KY lA;by_cases h:(iS l).length<i
 .rw[bt<|.inl h,dr h];rfl
 .by_cases k:(iS l).length<j
  .rw[bt<|.inr k,dr k,dd h];rfl
  .rw[ag<|not_or.mpr ⟨h,k⟩,dd h,dd k]
   cases gj (wd l j)<;>rfl
def KZ{l:B1}{i j:Nat}(h:bad l i j=Zb):KY l i j=.int (fL<|wd l j)/\i<=(iS l).length:=by
 unfold bad at h;simp only[uF,gs,yK]at h;unfold KY lA;rw[ag<|not_or.mpr ⟨h.1,h.2.1⟩,bt h.2.2];exact⟨J,by lia⟩
def ğ(a b:Int):aP .LtE (.int a) (.int b)=U (.bl<|decide<|a<=b):=J
def yf{x:BX}{e p c i j:Nat}{l:B1}{a:Int}(ok:x.ok e)(he:e<900000)(A:l.length<=1000)(hi:1<=i)(hj:1<=j):W (cN (n+2) 47 [wJ p<|.ad c i j,.str l,.int a,.own 0,.own 1]<|lm x) λr=>r=(.non,lm<|x.add l i j (a+1)<|(p:Nat)+1):=by
 rw[w47];obtain⟨q,f⟩:∃q,q=wJ p (.ad c i j):=⟨_,J⟩;rw[<- f];have y:∀u v m,oI zA zO (⟨[sv q,sv<|.str l,sv<|.int a,sv<|.own 0,sv<|.own 1,u,v],m⟩:S)=.ok (.int (i:Nat),⟨[sv q,sv<|.str l,sv<|.int a,sv<|.own 0,sv<|.own 1,u,v],m⟩):=λu v m=>by rw[f];rfl
 have q1:∀u v m,oI zA zI (⟨[sv q,sv<|.str l,sv<|.int a,sv<|.own 0,sv<|.own 1,u,v],m⟩:S)=.ok (.int (j:Nat),⟨[sv q,sv<|.str l,sv<|.int a,sv<|.own 0,sv<|.own 1,u,v],m⟩):=λu v m=>by rw[f];rfl
 have D:∀u v m,oI zA (cI 3) (⟨[sv q,sv<|.str l,sv<|.int a,sv<|.own 0,sv<|.own 1,u,v],m⟩:S)=.ok (.int<|(p:Nat)+1,⟨[sv q,sv<|.str l,sv<|.int a,sv<|.own 0,sv<|.own 1,u,v],m⟩):=λu v m=>by rw[f];rfl
 have C:=wm (i:=1) (l:=l) (s:=(⟨[sv q,sv<|.str l,sv<|.int a,sv<|.own 0,sv<|.own 1,Y,Y],lm x⟩:S)) J A;obtain⟨d,g⟩:∃d,d=T.lst ((iS l).map T.str):=⟨_,J⟩;rw[<- g]at C;have w:∀v m,bA cV (k1<|vF 5) (⟨[sv q,sv<|.str l,sv<|.int a,sv<|.own 0,sv<|.own 1,sv d,v],m⟩:S)=.ok (.int ((iS l).length:Nat),⟨[sv q,sv<|.str l,sv<|.int a,sv<|.own 0,sv<|.own 1,sv d,v],m⟩):=λv m=>dU (ts:=[d]) J (by rw[g];show U (T.int (((iS l).map T.str).length:Nat))=_;rw[bX])
 have k:b9 (a_ (aP .LtE) (bA E2<|k2 (oI zA zO)<|oI zA zI)<|bA cV<|k1<|vF 5) (⟨[sv q,sv<|.str l,sv<|.int a,sv<|.own 0,sv<|.own 1,sv d,sv .non],lm x⟩:S)=.ok (decide<|¬ ((iS l).length<i\/(iS l).length<j),⟨[sv q,sv<|.str l,sv<|.int a,sv<|.own 0,sv<|.own 1,sv d,sv .non],lm x⟩):=by
  refine lN<|av (t:=.int<|if((j:Nat):Int) > (i:Nat)then((j:Nat):Int)else(i:Nat)) (u:=.int ((iS l).length:Nat)) (dU (ts:=[.int (i:Nat),.int (j:Nat)]) (aC (y _ _ _)<|aC (q1 _ _ _) J) J) (w _ _) ?_
  rw[ğ];refine cm (λb=>U<|T.bl b)<|decide_eq_decide.mpr ?_;split<;>lia
 refine eB J<|wS C<|wS J<|jE ?_;have H:W (bB (b9<|a_ (aP .LtE) (bA E2<|k2 (oI zA zO)<|oI zA zI)<|bA cV<|k1<|vF 5) (aN 6<|aq (cN (n+1) 46) []<|k1<|oI (vF 5)<|a_ (bO .Sub) (oI zA zI) zI) aI (⟨[sv q,sv<|.str l,sv<|.int a,sv<|.own 0,sv<|.own 1,sv d,sv .non],lm x⟩:S)) λr=>r=(.nx,⟨[sv q,sv<|.str l,sv<|.int a,sv<|.own 0,sv<|.own 1,sv d,sv<|KY l i j],lm x⟩):=by
  unfold KY;by_cases h:(iS l).length<i\/(iS l).length<j
  .rw[dd λz=>z h]at k
   rw[bt h];exact e7 k ⟨_,J,J⟩
  .rw[dr h]at k
   rw[ag h];refine qe k<|W.of (vY (t:=lA<|wd l j)<|cE (ts:=[.str<|wd l j]) (aC (av (t:=d) (u:=.int ((j:Nat)-1:Int)) J (av (t:=.int (j:Nat)) (q1 _ _ _) J J)<|by rw[g];exact ĕ hj<|by lia) J)<|qh n<|dq (GP _)<|dq (GO l j) A) J
 refine H.mono λr hr=>?_;rw[hr];refine⟨J,?_⟩;have e4:b9 (a_ (aP .Is) (vF 6)<|cF .non) (⟨[sv q,sv<|.str l,sv<|.int a,sv<|.own 0,sv<|.own 1,sv d,sv<|KY l i j],lm x⟩:S)=.ok (bad l i j,⟨[sv q,sv<|.str l,sv<|.int a,sv<|.own 0,sv<|.own 1,sv d,sv<|KY l i j],lm x⟩):=by
  rw[<- Ra];exact lN<|av (t:=KY l i j) (u:=.non) J J<|XE _
 have cs:=ok.cs;have cn:=ok.cn;unfold BX.add;cases o:bad l i j with
 |true=>
  rw[o]at e4;rw[bt J];refine qe e4<|W.of (Nd (kb:=1) (t:=.tup [.int<|a+1,.int<|(p:Nat)+1]) (ts:=x.no) J J (dU (aC (av (t:=.int a) J J J)<|aC (D _ _ _) J) J)<|by unfold BX.no;rw[bX];lia) ⟨J,?_⟩
  show(T.non,[_,(⟨M.bc,[.ol<|x.no++[.tup [.int<|a+1,.int<|(p:Nat)+1]]]⟩:Ob)])=_;unfold lm BX.no BX.ky BX.vs;rw[i6];rfl
 |false=>
  rw[o]at e4;obtain⟨F,E⟩:=KZ o;rw[F]at e4 ⊢;rw[ag cK];have B:oI (vF 5) (a_ (bO .Sub) (oI zA zO) zI) (⟨[sv q,sv<|.str l,sv<|.int a,sv<|.own 0,sv<|.own 1,sv d,sv<|.int<|fL<|wd l j],lm x⟩:S)=.ok (.str<|wd l i,⟨[sv q,sv<|.str l,sv<|.int a,sv<|.own 0,sv<|.own 1,sv d,sv<|.int<|fL<|wd l j],lm x⟩):=av (t:=d) (u:=.int ((i:Nat)-1:Int)) J (av (t:=.int (i:Nat)) (y _ _ _) J J) (by rw[g];exact ĕ hi E)
  have G:sC M.bc zD (oI (vF 5)<|a_ (bO .Sub) (oI zA zO) zI) zO (⟨[sv q,sv<|.str l,sv<|.int a,sv<|.own 0,sv<|.own 1,sv d,sv<|.int<|fL<|wd l j],lm x⟩:S)=.ok (.int<|df x.ks x.zs<|wd l i,⟨[sv q,sv<|.str l,sv<|.int a,sv<|.own 0,sv<|.own 1,sv d,sv<|.int<|fL<|wd l j],lm x⟩):=by
   rw[<- mY];exact Wn (kb:=0) (t:=.str<|wd l i) (ks:=x.ky) (ts:=x.vs) J B J J J
  refine e7 e4<|W.of (Wo (kb:=0) (u:=.int<|df x.ks x.zs (wd l i)+fL (wd l j)) (t:=.str<|wd l i) (ky:=.s<|wd l i) (ks:=x.ky) (ts:=x.vs) (av (u:=.int<|fL<|wd l j) G J J) J B J J<|by unfold BX.ky;rw[bX];lia) ⟨J,?_⟩
  show(T.non,[(⟨M.bc,[.od (fD x.ky x.vs (.s<|wd l i)<|.int<|df x.ks x.zs (wd l i)+fL (wd l j)).1 (fD x.ky x.vs (.s<|wd l i)<|.int<|df x.ks x.zs (wd l i)+fL (wd l j)).2]⟩:Ob),_])=_;unfold lm BX.no BX.ky BX.vs;rw[Nf]
def K0(l:B1):tU [] l=O:=by
 unfold tU;rw[C1];exact⟨0,gu.mpr<|by lia,J⟩
def K1(l:B1)(c i j:Nat):tU (sgn c) l=LN.HA l (.ad c i j):=by
 unfold LN.HA sgn;dsimp only;by_cases h:c=0
 .rw[bt h,bt h,K0]
 .rw[ag h,ag h]
theorem AX{l:B1}{tk:Int}(a:l.length<=1000):∀(r:List<|LN×Bool)(p e:Nat)(x:BX),x.ok e->(jg l tk p r x).ok (e+r.length)
 |[],_,_,_,h=>h
 |(q,b)::r,p,e,x,h=>by
  rw[jg,bI,show e+(r.length+1)=e+1+r.length by lia]
  refine AX a r (p+1) (e+1) _ ?_;cases q with
  |te=>exact h.le<|cH ..
  |ad c i j=>
   show(if b then x.add l i j tk _ else x).ok _
   cases b with
   |true=>exact h.add a
   |false=>exact h.le<|cH ..
theorem AY{l:B1}{tk:Int}{b:Bool}:∀(r:List<|LN×Bool)(p:Nat)(x:BX),jg l tk p (r++[(.te,b)]) x=jg l tk p r x
 |[],_,_=>J
 |(q,b')::r,p,x=>by rw[uo,jg,jg,AY r]
theorem AZ{L:List LN}:∀(rows:Ap)(k:Nat)(x:BX),allB (L++[.te]) k rows x=allB L k rows x
 |[],_,_=>J
 |l::r,k,x=>by
  rw[allB,allB,AZ r];unfold jf;rw[i6,Ly<|by rw[bX]]
  exact cm (allB L (k+1) r)<|AY ..
section
variable{A0 A1 A2 A4 A5 A6:T}{rows:Ap}{L:List LN}
abbrev st(A0 A1 A2:T)(rows:Ap)(A4 A5 A6:T)(B:Fh)(m:FR):S:=⟨sv A0::sv A1::sv A2::sv (.lst<|rows.map T.str)::sv A4::sv A5::sv A6::B,m⟩
def Hj{B:Fh}{u c b:Option C}{k:Nat}(a:k<rows.length):oI zD (vF 9) (st A0 A1 A2 rows A4 A5 A6 (c::b::sv (.int (k:Nat))::B) m)=.ok (.str rows[k],st A0 A1 A2 rows A4 A5 A6 (c::b::sv (.int (k:Nat))::B) m):=av (t:=.lst<|rows.map T.str) (u:=.int (k:Nat)) J J (by
 show atT (rows.map T.str) ((k:Nat):Int)=_;rw[ib<|by rw[bX];exact a,dH,cD a];rfl)
theorem pe(n:Nat){k:Nat}(g:k<rows.length)(f:rows[k].length<=1000){Cu Cv Cw Cy:Option C}:∀(L:List LN)(p e:Nat)(x:BX)(u:Option C),(∀q∈L,q.Ad)->x.ok e->e+L.length<900000->W (b7 (setG 12) (QH<|cN<|n+2) (bg p L)<|st A0 A1 A2 rows A4 A5 A6 [sv<|.own 0,sv<|.own 1,sv<|.int (k:Nat),Cu,Cv,u,Cw,Cy]<|lm x) λr=>r.1=.nx/\∃u,r.2=st A0 A1 A2 rows A4 A5 A6 [sv<|.own 0,sv<|.own 1,sv<|.int (k:Nat),Cu,Cv,u,Cw,Cy] (lm<|jg rows[k] ((k:Nat)+1) p (L.zip<|jf rows[k] L) x)
 |[],p,e,x,u,_,_,_=>⟨_,J,J,u,J⟩
 |.te::L,p,e,x,u,h,_,_=>by cases(h _<|bC ..).2
 |.ad c i j::L,p,e,x,u,h,ok,v=>by
  rw[bI]at v;obtain⟨d,_⟩:=h _<|bC ..;obtain⟨q,m⟩:∃q,q=wJ p (.ad c i j):=⟨_,J⟩;have s:=yf n (p:=p) (c:=c) (a:=(k:Nat)) ok (by lia) f d.2.1.1 d.2.2.1
  rw[<- m]at s;have o:b9 (a_ (aP .In) (oI (vF 12)<|cI 2)<|oI zD<|vF 9) (st A0 A1 A2 rows A4 A5 A6 [sv<|.own 0,sv<|.own 1,sv<|.int (k:Nat),Cu,Cv,sv q,Cw,Cy]<|lm x)=.ok (LN.HA rows[k]<|.ad c i j,st A0 A1 A2 rows A4 A5 A6 [sv<|.own 0,sv<|.own 1,sv<|.int (k:Nat),Cu,Cv,sv q,Cw,Cy]<|lm x):=by
   rw[<- K1];exact lN<|av (t:=.str<|sgn c) (u:=.str rows[k]) (by rw[m];rfl) (Hj (u:=Y) g) J
  have A:bg p (.ad c i j::L)=q::bg (p+1) L:=by rw[m];rfl
  have z:jg rows[k] ((k:Nat)+1) p ((LN.ad c i j::L).zip<|jf rows[k]<|.ad c i j::L) x=jg rows[k] ((k:Nat)+1) (p+1) (L.zip<|jf rows[k] L) (LN.bx rows[k] ((k:Nat)+1) ((p:Nat)+1) (.ad c i j) (LN.HA rows[k]<|.ad c i j) x):=J;rw[A,z]
  generalize LN.HA rows[k] (.ad c i j)=b at o ⊢
  refine ig (r:=(st A0 A1 A2 rows A4 A5 A6 [sv<|.own 0,sv<|.own 1,sv<|.int (k:Nat),Cu,Cv,sv q,Cw,Cy]<|lm x).r) J ?_;cases b with
  |false=>exact e7 o ⟨_,J,J,pe n g f L (p+1) e x _ (λy l=>h y<|eE _ l) ok<|by lia⟩
  |true=>
   obtain⟨r,w,hr⟩:=s;cases hr;exact qe o<|dE (lM (ts:=[q,.str rows[k],.int (k:Nat),.own 0,.own 1]) (s':=st A0 A1 A2 rows A4 A5 A6 [sv<|.own 0,sv<|.own 1,sv<|.int (k:Nat),Cu,Cv,sv q,Cw,Cy]<|lm x) (aC J<|aC (Hj (u:=Y) g)<|aC J<|aC J<|aC J J)<|by rw[dw];exact w) ⟨J,pe n g f L (p+1) (e+1) _ _ (λy l=>h y<|eE _ l) (ok.add f)<|by lia⟩
theorem wF(n:Nat)(j:∀q∈L,q.Ad)(l:L.length<=6)(h:∀r∈rows,r.length<=1000)(hr:rows.length<=30){Cu Cv Cw Cy:Option C}:∀(d k:Nat)(x:BX)(c b:Option C),k+d=rows.length->x.ok (6*k)->W (b7 (setG 9) (fq (iL zC) (setG 12)<|QH<|cN<|n+2) ((yH k d).map λk=>T.int (k:Nat))<|st A0 A1 (.lst<|bg 0 L) rows A4 A5 A6 [sv<|.own 0,sv<|.own 1,c,Cu,Cv,b,Cw,Cy]<|lm x) λr=>r.1=.nx/\∃c b,r.2=st A0 A1 (.lst<|bg 0 L) rows A4 A5 A6 [sv<|.own 0,sv<|.own 1,c,Cu,Cv,b,Cw,Cy] (lm<|allB L k (rows.drop k) x)
 |0,k,x,c,b,hd,_=>by
  have e:k=rows.length:=by lia
  subst e;rw[yv];exact⟨_,J,J,c,b,J⟩
 |d+1,k,x,c,b,hd,ok=>by
  have e:k<rows.length:=by lia
  have i:=h _<|wQ e;rw[LO,dG,jN e];refine ig (r:=(st A0 A1 (.lst<|bg 0 L) rows A4 A5 A6 [sv<|.own 0,sv<|.own 1,sv<|.int (k:Nat),Cu,Cv,b,Cw,Cy]<|lm x).r) J<|fV<|W.of (a:=(bg 0 L,st A0 A1 (.lst<|bg 0 L) rows A4 A5 A6 [sv<|.own 0,sv<|.own 1,sv<|.int (k:Nat),Cu,Cv,b,Cw,Cy]<|lm x)) J<|(pe n e i L 0 (6*k) x b j ok<|by lia).mono λr g=>?_
  obtain⟨o,u,m⟩:=g;refine⟨o,?_⟩;rw[m];have f:=AX (tk:=(k:Nat)+1) i (L.zip<|jf rows[k] L) 0 (6*k) x ok;have p:(L.zip<|jf rows[k] L).length<=6:=by rw[nk];lia
  exact wF n j l h hr d (k+1) _ _ _ (by lia)<|f.le<|by lia
end
theorem mW:∀l:Ap,strsOf (l.map T.str)=U l
 |[]=>J
 |x::l=>by
  show(strsOf<|l.map T.str).map (x::·)=_
  rw[mW l];rfl
theorem join_nil:∀l:Ap,fS [] l=l.flatten
 |[]=>J
 |[a]=>by simp[fS]
 |a::b::r=>by
  rw[fS,join_nil<|b::r,dw];rfl
def join_eq{l:Ap}(h:l.flatten.length<=1000000):joinM [] [.lst<|l.map T.str]=U (.str l.flatten):=by
 show(strsOf _).bind _=_;rw[mW];show gd _ _=_;rw[join_nil];refine ji ?_;rw[Lq]at h;show _+l.length*0<=_
 lia
def K2(ns:Dx) :∃N,cN (n+1) 41 [.scr ns,.int 0] m=.ok (.int N,m):=by
 rw[w41];cases ns with
 |nil=>exact⟨0,J⟩
 |cons a r=>exact⟨a,sEq J J J<|bY (lN<|av (t:=.int 0) (u:=.int ((a::r).length:Nat)) J J<|by rw[Wb,dr<|by rw[bI];lia])<|bR (av (t:=.scr<|a::r) (u:=.int 0) J J<|by
  show(atT (a::r) ((0:Nat):Int)).map T.int=_;rw[ib<|by rw[bI];lia];rfl) J⟩
def Hk{ns:Dx}:(bM ns (U 7)<|U 37).length<=30:=by
 unfold bM gO;dsimp only;rw[ag<|show ¬ (7:Int)<0 by decide,ag<|show ¬ (37:Int)<0 by decide,eT,jL]
 lia
def yh(ns:Dx):∃rows:Ap,(∀r∈rows,TX 1000 r)/\rows.length<=30/\∀B:Fh,dB (bQ (iL<|lH zA (jh<|cI 7)<|jh<|cI 37) 2 [] (setG 1) dM<|aq (cN (n+3) 45) []<|k1 zB) (⟨sv (.scr ns)::B,[]⟩:S)=.ok (.lst<|rows.map T.str,⟨sv (.scr ns)::B,[]⟩):=by
 have j:=Hk (ns:=ns);obtain⟨⟨us,c⟩,e,b,h,a⟩:=ű (gg:=setG 1) (e:=aq (cN (n+3) 45) []<|k1 zB) (r:=[Y,Y]) (I:=λm=>m=[]) (R:=λt=>∃r,TX 1000 r/\t=.str r) (ts:=(bM ns (U 7)<|U 37).map T.int) (λt d m g=>by
  obtain⟨z,_,rfl⟩:=gA.mp d;subst g;obtain⟨⟨t1,m1⟩,i,r,tr,hr⟩:=KU n z (m:=[]);cases hr;exact⟨_,J,W.of (cE (ts:=[.int z]) (s:=⟨[Y,sv<|.int z],[]⟩) J i) ⟨⟨r,tr,J⟩,J⟩⟩) [] J
 have a:c=[]:=a;subst a;obtain⟨rows,rfl,hr⟩:=M8 (f:=T.str) (P:=TX 1000) (us:=us) h;have b:(rows.map T.str).length=((bM ns (U 7)<|U 37).map T.int).length:=b;rw[bX,bX]at b;exact⟨rows,hr,by lia,λB=>QP (ts:=(bM ns (U 7)<|U 37).map T.int) (Xy (t:=.lst<|(bM ns (U 7)<|U 37).map T.int) (Xx (t:=.scr ns) (x:=U 7) (y:=U 37) J J J J) J) (by rw[bX];lia) J e⟩
theorem A3(n:Nat):∀(L:List LN)(p:Nat),(∀q∈L,q.Ad)->bz (setG 1) dM (aq (cN (n+1) 49) []<|k1 zB) [Y,Y] (bg p L) []=.ok ((L.map LN.txt).map λx=>T.str<|x++[10],[])
 |[],_,_=>J
 |q::L,p,h=>Xw (b1:=[Y,sv<|wJ p q]) J (cE (ts:=[wJ p q]) J<|wD n<|h q<|bC ..)<|A3 n L (p+1) λy a=>h y<|eE _ a
def A7(l:Ap):(l.map λx=>T.str<|x++[10])=(l.map (·++[10])).map T.str:=by rw[iu];rfl
def Cg{L:List LN}(a:∀q∈L,q.Ad)(b:L.length<=6){A0 A1:T}{B:Fh}:j9 joinM (cS []) (k1<|dB<|bQ (iL zC) 2 [] (setG 1) dM<|aq (cN (n+1) 49) []<|k1 zB) (⟨sv A0::sv A1::sv (.lst<|bg 0 L)::B,[]⟩:S)=.ok (.str<|fZ<|L.map LN.txt,⟨sv A0::sv A1::sv (.lst<|bg 0 L)::B,[]⟩):=by
 refine RK (l:=[]) (ts:=[.lst<|((L.map LN.txt).map (·++[10])).map T.str]) J (aC (QP (ts:=bg 0 L) J (by rw[kE];lia) J ?_) J)<|join_eq ?_
 .rw[<- A7]
  exact A3 n L 0 a
 .have:=kB L
  have e:(fZ<|L.map LN.txt).length<=1000000:=by lia
  exact e
def yi{rows:Ap}(a:∀r∈rows,r.length<=1000)(hr:rows.length<=30){A0 A1 A2:T}{B:Fh}:j9 joinM (cS []) (k1<|dB<|bQ (iL zD) 2 [] (setG 1) dM<|oA zB<|cS [10]) (⟨sv A0::sv A1::sv A2::sv (.lst<|rows.map T.str)::B,[]⟩:S)=.ok (.str<|fZ rows,⟨sv A0::sv A1::sv A2::sv (.lst<|rows.map T.str)::B,[]⟩):=by
 have go:∀rows:Ap,(∀r∈rows,r.length<=1000)->bz (setG 1) dM (oA zB<|cS [10]) [Y,Y] (rows.map T.str) []=.ok (rows.map λx=>T.str<|x++[10],[]):=λrows=>by
  induction rows with
  |nil=>exact λ_=>J
  |cons r rows b=>exact λh=>Xw (b1:=[Y,sv<|.str r]) J (av (t:=.str r) (u:=.str [10]) J J<|lP<|by have:=h r<|bC ..;show _+1<=_;lia)<|b λq c=>h q<|eE _ c
 refine RK (l:=[]) (ts:=[.lst<|(rows.map (·++[10])).map T.str]) J (aC (QP (ts:=rows.map T.str) J (by rw[bX];lia) J ?_) J)<|join_eq ?_
 .rw[<- A7]
  exact go rows a
 .have:=tQ a
  have e:(fZ rows).length<=1000000:=by lia
  exact e
def Rb(L:List LN)(b:Bool):List LN:=if b then L++[.te]else L
def K3(L:List LN)(b:Bool):fZ ((Rb L b).map LN.txt)=fZ (L.map LN.txt)++(dN (if b then 1 else 0)<|qX++[10]).flatten:=by
 cases b with
 |false=>show fZ _=_++[];rw[dw];rfl
 |true=>
  show fZ ((L++[LN.te]).map LN.txt)=_;unfold fZ;rw[i6,i6,uC];rfl
def A8{L:List LN}{b:Bool}(rows:Ap):allB (Rb L b) 0 rows mO=allB L 0 rows mO:=by
 cases b with
 |false=>rfl
 |true=>exact AZ ..
def K4{L:List LN}{b:Bool}(x:BX)(a:∀q∈L,q.Ad):HB x (Rb L b)=if b then x.tell else[]:=by
 have e:∀L:List LN,(∀q∈L,q.Ad)->HB x L=[]:=λL h=>by
  unfold HB;exact List.flatMap_eq_nil_iff.mpr λq c=>by rw[(h q c).2];rfl
 cases b with
 |false=>exact e L a
 |true=>
  show HB x (L++[LN.te])=x.tell
  have:=e L a
  unfold HB at this ⊢;rw[De,this];show[]++(x.tell++[])=_;rw[dw];rfl
def Hl{L:List LN}{b:Bool}(c:∀q∈L,q.Ad):∀q∈Rb L b,q.ok:=λq a=>by
 cases b with
 |false=>exact(c q a).1
 |true=>
  rcases ir.mp a with a|a
  .exact(c q a).1
  .rw[iw.mp a];trivial
def K5{L:List LN}{b:Bool}(h:L.length<=6):(Rb L b).length<=7:=by
 cases b with
 |false=>exact dq h (by decide)
 |true=>show(L++[LN.te]).length<=7;rw[dg];exact uc h 1
def yj{L:List LN}{b:Bool}{rows:Ap}(a:∀q∈L,q.Ad)(f:L.length<=6)(c:∀r∈rows,TX 1000 r)(hr:rows.length<=30){A0 A1 A2:T}{B:Fh}:∃lt,aq (cN (n+26) 26) [] (k2 (aq (cN (n+26) 37) []<|k1<|oA (vF 4)<|a_ (bO .Mult) (cS [101,110,100,58,32,116,101,108,108,10])<|bA mz<|k1<|vF 5)<|j9 joinM (cS [])<|k1<|dB<|bQ (iL zD) 2 [] (setG 1) dM<|oA zB<|cS [10]) (⟨sv A0::sv A1::sv A2::sv (.lst<|rows.map T.str)::sv (.str<|fZ<|L.map LN.txt)::sv (.bl b)::B,[]⟩:S)=.ok (.tup [.lst<|(rows++if b then(allB L 0 rows mO).tell else[]).map T.str,.cC (allB L 0 rows mO).ky (allB L 0 rows mO).vs,.lst (allB L 0 rows mO).no,.lst lt],⟨sv A0::sv A1::sv A2::sv (.lst<|rows.map T.str)::sv (.str<|fZ<|L.map LN.txt)::sv (.bl b)::B,[]⟩)/\(allB L 0 rows mO).ok 900:=by
 have d:∀r∈rows,r.length<=1000:=λr hr=>(c r hr).1;have h:=K5 (b:=b) f;obtain⟨lt,e,ok⟩:=KP n (L:=Rb L b) (rows:=rows) (m:=[]) (Hl a) (by lia) hr d λr hr=>(c r hr).2
 rw[A8,K4 _ a]at e;rw[A8]at ok;refine⟨lt,?_,ok⟩;have rd:=J_ (n+4) (m:=[]) (Hl (b:=b) a) (by lia)
 rw[K3]at rd;have g:=kB L;refine cE (ts:=[Xz<|Rb L b,.str<|fZ rows]) (aC (cE (ts:=[.str<|fZ (L.map LN.txt)++(dN (if b then 1 else 0)<|qX++[10]).flatten]) (aC (av (t:=.str<|fZ<|L.map LN.txt) (u:=.str (dN (if b then 1 else 0)<|qX++[10]).flatten) J (av (t:=.str [101,110,100,58,32,116,101,108,108,10]) (u:=.int<|if b then 1 else 0) J (dU (ts:=[.bl b]) J J) ?_)<|lP ?_) J) rd)<|aC (yi d hr) J) e
 .cases b<;>rfl
 .have:(dN (if b then 1 else 0)<|qX++[10]).flatten.length<=10:=by cases b<;>decide
  lia
end K37
namespace K37
open D PySem L2
variable(n:Nat){m:List _root_.D.Ob}
def Wx{n i:Nat}{F:FS}{s s2:S}{Q:Out×S->Prop}(h:Jw n i s=U s2)(k:W (F s2) Q):W (B4 n i F s) Q:=by unfold B4;rw[h];exact k
theorem wG{x:BX}{c:Nat}(a:c<=900000)(d:x.ok c){m:FR}:∀l:Ap,(∀k∈l,k∈x.ks)->bz (setG 1) dM (oA (oA zB<|cS [32])<|bA strN<|k1<|a_ u7 zC zB) [Y,Y,sv<|.cC x.ky x.vs] (l.map T.str) m=.ok ((l.map x.row).map T.str,m)
 |[],_=>J
 |k::l,h=>Xw (b1:=[Y,sv<|.str k,sv<|.cC x.ky x.vs]) J (GX a d (h k<|bC ..) J<|av (t:=.cC x.ky x.vs) (u:=.str k) J J<|GW d<|h k<|bC ..)<|wG a d l λq b=>h q<|eE _ b
def Hm(b:Bool){a:FC}(h:a.length<=1000):bO .Mult (.lst a) (.int<|if b then 1 else 0)=U (.lst<|if b then a else[]):=by
 cases b with
 |false=>
  show gd ((0:Int)<1000000/\-1000000<(0:Int)/\a.length*(0:Int).toNat<=1000000) (T.lst (dN 0 a).flatten)=_;exact ji ⟨by decide,by decide,by show a.length*0<=_;lia⟩
 |true=>
  show gd ((1:Int)<1000000/\-1000000<(1:Int)/\a.length*(1:Int).toNat<=1000000) (T.lst<|a++[])=_;rw[ji ⟨by decide,by decide,by show a.length*1<=_;lia⟩,dw];rfl
theorem pj:∀l:Ap,all2 (shape 4) (l.map T.str) (l.map T.str)=O
 |[]=>J
 |x::l=>by
  show(O&&all2 (shape 4) (l.map T.str) (l.map T.str))=O;rw[pj l];rfl
def Hn(x:BX):all2 (shape 4) x.no x.no=O:=by
 have e:∀l:List<|Int×Int,all2 (shape 4) (l.map λp=>T.tup [.int p.1,.int p.2]) (l.map λp=>T.tup [.int p.1,.int p.2])=O:=λl=>by
  induction l with
  |nil=>rfl
  |cons p l a=>
   show(O&&all2 (shape 4) (l.map λp=>T.tup [.int p.1,.int p.2]) (l.map λp=>T.tup [.int p.1,.int p.2]))=O;rw[a];rfl
 exact e x.nt
def eqL{ts:FC}(h:all2 (shape 4) ts ts=O):aP .Eq (.lst ts) (.lst ts)=U (.bl O):=by
 show gd (shape 5 (.lst ts) (.lst ts)=O) _=_;rw[ji<|show shape 5 (.lst ts) (.lst ts)=O from h,u6]
theorem Ho:∀l:Dx,qT (l.map T.int)=U l
 |[]=>J
 |x::l=>by
  show(qT<|l.map T.int).map (x::·)=_
  rw[Ho l];rfl
def Rf(x:BX):B5 (.cC x.ky x.vs) (.cC x.ky x.vs)=U (.bl O):=by
 show(if x.ky=x.ky then _ else Y)=_
 rw[bt J];unfold BX.vs;rw[Ho];show U (T.bl<|decide<|x.zs=x.zs)=_;rw[dr J]
theorem Hq:∀(ks:Ap)(zs:Dx),ks.length=zs.length->(∀k∈ks,k.length<=1000)->vK (ks.map Ky.s) (zs.map T.int)=U ((ks.zip zs).map λp=>.tup [.str p.1,.int p.2])
 |[],[],_,_=>J
 |[],_::_,h,_=>by cases h
 |_::_,[],h,_=>by cases h
 |k::ks,z::zs,h,a=>by
  have b:=Hq ks zs (pL.inj h) λq c=>a q<|eE _ c;show(VJ<|.s k).bind (λu=>(vK (ks.map Ky.s)<|zs.map T.int).map λr=>.tup [u,.int z]::r)=_;rw[b,show VJ (.s k)=U (.str k)from ji<|dr<|dq (a k<|bC ..)<|by decide]
  rfl
def pA(z:Int) :cN (n+1) 42 [.int z] m=.ok (.bl O,m):=by
 rw[w42];rfl
def Hr(h:n<1000000):mj [.int (n:Nat)]=U ((yH 0 n).map λk=>T.int (k:Nat)):=by
 refine(ji<|by lia).trans ?_
 unfold lW;rw[qm,LP];exact cm U<|uh λk _=>by rw[uG]
def Nr{a b:FE}{s:S}{t:T}(h:a s=.ok (.bl O,s))(c:b s=.ok (t,s)):pZ a b s=.ok (t,s):=by
 unfold pZ;rw[h];exact c
def Rg(ns:Dx):cN (n+27) 50 [.scr ns] []=.ok (.bl O,[]):=by
 rw[w50];obtain⟨N,P⟩:=K2 (n+25) ns (m:=[]);obtain⟨⟨S,V⟩,Q,L,w,o,l⟩:=Hi (n+25) ns N (m:=[]);cases l;obtain⟨c,x,hr,H⟩:=yh (n+23) ns;have R:∀r∈c,r.length<=1000:=λr hr=>(x r hr).1;obtain⟨b,E⟩:∃b,b=decide (N/14 % 2=1):=⟨_,J⟩;refine sEq J J J<|bS (t:=.int N) (cE (ts:=[.scr ns,.int 0]) J P)<|bS (t:=.lst<|bg 0 L) (cE (ts:=[.scr ns,.int N]) J Q)<|bS (H [sv<|.int N,sv<|.lst<|bg 0 L,Y,Y,Y,Y,Y,Y,Y,Y,Y,Y,Y,Y])<|bS (Cg (n+25) w o)<|bS (t:=.bl b) ?_ ?_
 .rw[E]
  exact av (av (av (t:=.int N) J J<|fd<|by decide) J<|md<|by decide) J<|GZ _ _
 obtain⟨lt,C,ok⟩:=yj n (b:=b) (B:=[Y,Y,Y,Y,Y,Y,Y,Y,Y]) (A0:=.scr ns) (A1:=.int N) (A2:=.lst<|bg 0 L) w o x hr;refine bS C ?_;have go:=wF (n+24) (A0:=.scr ns) (A1:=.int N) (A4:=.str<|fZ<|L.map LN.txt) (A5:=.bl b) (A6:=.tup [.lst<|(c++if b then(allB L 0 c mO).tell else[]).map T.str,.cC (allB L 0 c mO).ky (allB L 0 c mO).vs,.lst (allB L 0 c mO).no,.lst lt]) (Cu:=Y) (Cv:=Y) (Cw:=Y) (Cy:=Y) w o R hr c.length 0 mO Y Y (by lia) Hc
 rw[um]at go
 generalize allB L 0 c mO=X at ok go ⊢
 obtain⟨D0,z⟩:∃D0,D0=c++if b then X.tell else[]:=⟨_,J⟩
 obtain⟨d,h⟩:∃t,t=T.tup [.lst<|(c++if b then X.tell else[]).map T.str,.cC X.ky X.vs,.lst X.no,.lst lt]:=⟨_,J⟩
 rw[<- h]at go ⊢;rw[<- z]at h;refine V3 (t:=.own 0) (s':=⟨[sv<|.scr ns,sv<|.int N,sv<|.lst<|bg 0 L,sv<|.lst<|c.map T.str,sv<|.str<|fZ<|L.map LN.txt,sv<|.bl b,sv d,Y,Y,Y,Y,Y,Y,Y,Y],[⟨M.bc,[.od [] []]⟩]⟩) J<|V3 (t:=.own 1) (s':=⟨[sv<|.scr ns,sv<|.int N,sv<|.lst<|bg 0 L,sv<|.lst<|c.map T.str,sv<|.str<|fZ<|L.map LN.txt,sv<|.bl b,sv d,sv<|.own 0,Y,Y,Y,Y,Y,Y,Y],lm mO⟩) J ?_;refine gM<|fV<|W.of (QO (ts:=[.int (c.length:Nat)]) (s1:=st (.scr ns) (.int N) (.lst<|bg 0 L) c (.str<|fZ<|L.map LN.txt) (.bl b) d [sv<|.own 0,sv<|.own 1,Y,Y,Y,Y,Y,Y]<|lm mO) (aC (dU (ts:=[.lst<|c.map T.str]) J<|by show U (T.int ((c.map T.str).length:Nat))=_;rw[bX]) J)<|Hr c.length<|by lia)<|go.mono λp i=>?_
 obtain⟨F,f,g,A⟩:=i;refine⟨F,?_⟩;rw[A];clear go A C;have cs:=ok.cs;have j:X.tell.length<=900:=by
  unfold BX.tell;rw[bX,(eM X.ks).length_eq];exact cs
 have K:∀m,oA zD (a_ (bO .Mult) (dB<|bQ (iL<|B3<|vF 7) 2 [7] (setG 1) dM<|oA (oA zB<|cS [32])<|bA strN<|k1<|a_ u7 zC zB)<|bA mz<|k1<|vF 5) (st (.scr ns) (.int N) (.lst<|bg 0 L) c (.str<|fZ<|L.map LN.txt) (.bl b) d [sv<|.cC X.ky X.vs,sv<|.lst X.no,f,Y,Y,g,Y,Y] m)=.ok (.lst<|D0.map T.str,st (.scr ns) (.int N) (.lst<|bg 0 L) c (.str<|fZ<|L.map LN.txt) (.bl b) d [sv<|.cC X.ky X.vs,sv<|.lst X.no,f,Y,Y,g,Y,Y] m):=λm=>by
  have G:iL (B3<|vF 7) (st (.scr ns) (.int N) (.lst<|bg 0 L) c (.str<|fZ<|L.map LN.txt) (.bl b) d [sv<|.cC X.ky X.vs,sv<|.lst X.no,f,Y,Y,g,Y,Y] m)=.ok ((jd X.ks).map T.str,st (.scr ns) (.int N) (.lst<|bg 0 L) c (.str<|fZ<|L.map LN.txt) (.bl b) d [sv<|.cC X.ky X.vs,sv<|.lst X.no,f,Y,Y,g,Y,Y] m):=by
   refine Xy (t:=.lst<|(jd X.ks).map T.str) ?_ J;unfold B3;refine cQ ?_;show Res.bind (aW<|xR<|X.ks.map Ky.s) _=_;rw[Nh ok.kl];rfl
  refine av (t:=.lst<|c.map T.str) (u:=.lst<|if b then X.tell.map T.str else[]) J (av (t:=.lst<|X.tell.map T.str) (u:=.int<|if b then 1 else 0) (QP G (by rw[bX,(eM X.ks).length_eq];lia) J<|wG (by decide) ok _ λk D=>(eM X.ks).mem_iff.mp D) (dU (ts:=[.bl b]) J J)<|Hm b<|by rw[bX];lia) ?_
  refine(ji ?_).trans ?_
  .rw[bX]
   have:(if b then X.tell.map T.str else[]).length<=900:=by
    cases b with
    |true=>show(X.tell.map T.str).length<=900;rw[bX];exact j
    |false=>exact gq _
   lia
  .rw[z,i6]
   cases b<;>rfl
 refine gM<|Wx (s2:=st (.scr ns) (.int N) (.lst<|bg 0 L) c (.str<|fZ<|L.map LN.txt) (.bl b) d [sv<|.cC X.ky X.vs,sv<|.own 1,f,Y,Y,g,Y,Y] [⟨M.bc,[]⟩,⟨M.bc,[.ol X.no]⟩]) J<|Wx (s2:=st (.scr ns) (.int N) (.lst<|bg 0 L) c (.str<|fZ<|L.map LN.txt) (.bl b) d [sv<|.cC X.ky X.vs,sv<|.lst X.no,f,Y,Y,g,Y,Y] [⟨M.bc,[]⟩,⟨M.bc,[]⟩]) J<|W.of (vY<|K _) ⟨J,?_⟩
 generalize ([⟨M.bc,[]⟩,⟨M.bc,[]⟩]:FR)=m0
 subst h;refine bN (s:=st (.scr ns) (.int N) (.lst<|bg 0 L) c (.str<|fZ<|L.map LN.txt) (.bl b) (.tup [.lst<|D0.map T.str,.cC X.ky X.vs,.lst X.no,.lst lt]) [sv<|.cC X.ky X.vs,sv<|.lst X.no,f,sv<|.lst<|D0.map T.str,Y,g,Y,Y] m0) J ?_;refine gM<|fV<|W.of (a:=((X.ks.zip X.zs).map λp=>T.tup [.str p.1,.int p.2],st (.scr ns) (.int N) (.lst<|bg 0 L) c (.str<|fZ<|L.map LN.txt) (.bl b) (.tup [.lst<|D0.map T.str,.cC X.ky X.vs,.lst X.no,.lst lt]) [sv<|.cC X.ky X.vs,sv<|.lst X.no,f,sv<|.lst<|D0.map T.str,Y,g,Y,Y] m0)) ?_<|(QF (I:=λs=>∃u v,s=st (.scr ns) (.int N) (.lst<|bg 0 L) c (.str<|fZ<|L.map LN.txt) (.bl b) (.tup [.lst<|D0.map T.str,.cC X.ky X.vs,.lst X.no,.lst lt]) [sv<|.cC X.ky X.vs,sv<|.lst X.no,f,sv<|.lst<|D0.map T.str,Y,g,u,v] m0) (λt h s q=>?_) ⟨Y,Y,J⟩).mono λp i=>⟨i.1,?_⟩
 .show Res.bind (aW<|vK (X.ks.map Ky.s)<|X.zs.map T.int) _=_
  rw[Hq _ _ ok.len ok.kl];rfl
 .obtain⟨u,v,rfl⟩:=q
  obtain⟨p,_,rfl⟩:=gA.mp h;refine⟨_,J,e7 (s':=st (.scr ns) (.int N) (.lst<|bg 0 L) c (.str<|fZ<|L.map LN.txt) (.bl b) (.tup [.lst<|D0.map T.str,.cC X.ky X.vs,.lst X.no,.lst lt]) [sv<|.cC X.ky X.vs,sv<|.lst X.no,f,sv<|.lst<|D0.map T.str,Y,g,sv<|.str p.1,sv<|.int p.2] m0) (Xv J<|QN<|J4<|cE (ts:=[.int p.2]) J<|pA (n+25) p.2) ⟨_,J,J,_,_,J⟩⟩
 obtain⟨u,v,e⟩:=i.2;rw[e];refine gM<|fV<|W.of (a:=(X.no,st (.scr ns) (.int N) (.lst<|bg 0 L) c (.str<|fZ<|L.map LN.txt) (.bl b) (.tup [.lst<|D0.map T.str,.cC X.ky X.vs,.lst X.no,.lst lt]) [sv<|.cC X.ky X.vs,sv<|.lst X.no,f,sv<|.lst<|D0.map T.str,Y,g,u,v] m0)) J<|(QF (I:=λs=>∃y,s=st (.scr ns) (.int N) (.lst<|bg 0 L) c (.str<|fZ<|L.map LN.txt) (.bl b) (.tup [.lst<|D0.map T.str,.cC X.ky X.vs,.lst X.no,.lst lt]) [sv<|.cC X.ky X.vs,sv<|.lst X.no,f,sv<|.lst<|D0.map T.str,y,g,u,v] m0) (λt h s q=>?_) ⟨Y,J⟩).mono λp i=>⟨i.1,?_⟩
 .obtain⟨y,rfl⟩:=q
  obtain⟨p,_,rfl⟩:=gA.mp h;refine⟨_,J,e7 (s':=st (.scr ns) (.int N) (.lst<|bg 0 L) c (.str<|fZ<|L.map LN.txt) (.bl b) (.tup [.lst<|D0.map T.str,.cC X.ky X.vs,.lst X.no,.lst lt]) [sv<|.cC X.ky X.vs,sv<|.lst X.no,f,sv<|.lst<|D0.map T.str,sv<|.tup [.int p.1,.int p.2],g,u,v] m0) (Xv J<|Xv J<|Xv (QN<|J4<|cE (ts:=[.int p.1]) J<|pA (n+25) p.1)<|QN<|J4<|cE (ts:=[.int p.2]) J<|pA (n+25) p.2) ⟨_,J,J,_,J⟩⟩
 obtain⟨y,e⟩:=i.2;rw[e];exact bR (Nr (av (t:=.lst<|D0.map T.str) (u:=.lst<|D0.map T.str) J J<|eqL<|pj D0)<|Nr (av (t:=.cC X.ky X.vs) (u:=.cC X.ky X.vs) J J<|Rf X)<|av (t:=.lst X.no) (u:=.lst X.no) J J<|eqL<|Hn X) J
end K37
namespace K37
open PySem D L2
variable(n:Nat){m:List _root_.D.Ob}
set_option maxHeartbeats 0
def K6:∀P,Qy (KH.K P) M Ft It=O:=λP=>by kernel_rfl
def K7:∀P,M.cs.all (JX<|KH.K P)=O:=λP=>by kernel_rfl
def K8:∀P,Ft.map (M5<|KH.K P)=Ft.map λe=>(M5 (KH.K P) e).map<|Gh e:=λP=>by kernel_rfl
set_option maxHeartbeats 0
def BnL:List Fe->Prop
 |[]=>True
 |e::r=>Bn e/\BnL r
theorem Nt:∀{l:List Fe},BnL l->∀e∈l,Bn e
 |e::r,h,x,a=>by
  rcases bK.mp a with z|z
  .rw[z];exact h.1
  .exact Nt h.2 x z
def lz0{P:B2->Prop}(h:P []):∀us:B2,us.length=0->P us
 |[],_=>h
 |_::_,e=>by cases e
def Wy{n:Nat}{P:B2->Prop}(h:∀a,∀us:B2,us.length=n->P (a::us)):∀us:B2,us.length=n+1->P us
 |[],e=>by cases e
 |a::us,e=>h a us<|pL.inj e
def lz1{P:B2->Prop}(h:∀a,P [a]):∀us:B2,us.length=1->P us:=Wy λa=>lz0<|h a
def lz2{P:B2->Prop}(h:∀a b,P [a,b]):∀us:B2,us.length=2->P us:=Wy λa=>lz1<|h a
def lz3{P:B2->Prop}(h:∀a b c,P [a,b,c]):∀us:B2,us.length=3->P us:=Wy λa=>lz2<|h a
def lz4{P:B2->Prop}(h:∀a b c d,P [a,b,c,d]):∀us:B2,us.length=4->P us:=Wy λa=>lz3<|h a
def lz5{P:B2->Prop}(h:∀a b c d e,P [a,b,c,d,e]):∀us:B2,us.length=5->P us:=Wy λa=>lz4<|h a
def Ci:Bn ⟨Y,"stretch","stretch",top 64,["one","row","start","ends","begin"],["one","row","start"],[],O,[.int 0]⟩:=λ_ _ _ _ _ _ s a o f n b c hd e g=>by
 obtain⟨d,rfl⟩:=List.length_eq_one_iff.mp<|show f.length=1 from e;have h:(b++[d]).length=3:=g;rw[dg]at h
 match b,pL.inj h with
 |x::b,h=>
  match b,pL.inj h with
  |y::b,h=>
   cases Dd (pL.inj h);exact .of_defaults J c hd J J
def bn:∀e∈Ft,Bn e:=Nt (by
 repeat' first|exact trivial|refine And.intro ?_ ?_
 all_goals first|exact λ_ _ _ _ _ _=>lz0 J|exact λ_ _ _ _ _ _=>lz1 λ_=>J|exact λ_ _ _ _ _ _=>lz2 λ_ _=>J|exact λ_ _ _ _ _ _=>lz3 λ_ _ _=>J|exact λ_ _ _ _ _ _=>lz4 λ_ _ _ _=>J|exact λ_ _ _ _ _ _=>lz5 λ_ _ _ _ _=>J|exact Ci)
end K37
end
open PySem PySem.W PyProof.Rows
set_option maxRecDepth 100000 in
set_option maxHeartbeats 0 in
theorem PySem.Challenge.cw_rowblade_k37_boxes_and_faults_holds : PySem.Challenge.rw_rowblade_k37_boxes_and_faults.Holds := by
 w_on
 refine holds_law (by
  unfold OpenLaw.wellSaid OpenRow.wellSaid OpenRow.partSaid looksOpen
  repeat' (with_reducible refine look_both ?_ ?_)
  all_goals decide +kernel) λaaj=>?_
 refine holds_open (q:=KH.vw) (loose:=KH.lz) (Xt:=KH.Xt) (XP:=XL KH.vw []) (Yf:=Hook.obs<|kHook KH.K KH.as KH.Rp) (Ya:=Hook.val<|kHook KH.K KH.as KH.Rp) (YP:=Hook.says<|kHook KH.K KH.as KH.Rp) (N:=22008) KH.left (Hook.of<|kHook KH.K KH.as KH.Rp) (Hook.keeps<|kHook KH.K KH.as KH.Rp) (λs e=>xl_of s (Bool.and_eq_true_iff.mp e).1) XL.keeps (by rfl) (by rfl) (by rfl) (λs e=>recFacts_of (Bool.and_eq_true_iff.mp e).2) (by rfl) (by first|assumption|decide +kernel) (by decide +kernel) ⟨J,J,J,J,J,by decide +kernel⟩ ?hw ?hc
 (case hw=>w_witness2)
 k_fill
 refine _root_.D.VZ (l:=PySem.Challenge.rw_rowblade_k37_boxes_and_faults) (m:=63) (n:=27) (K:=KH.K) (M:=K37.M) (Ft:=K37.Ft) (It:=K37.It) (i:=50) J (by decide) J ⟨J,by decide,by decide⟩ (λw h a=>PySem.W.kIn_of a) J J J J J (λP=>⟨⟨K37.K6 P,K37.K8 P,K37.bn⟩,K37.K7 P⟩) λns _ _=>⟨[],K37.Rg 0 ns⟩
