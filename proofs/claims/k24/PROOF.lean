import PyProof.Rows.All
import Wide.All
import OpenK.AllK
import Wide.FinOn
import Lean
import PyProof.EqAt
import PyProof.EqKinds
import PyProof.TupleCall
import PyProof.Rows.EnumRows
import PyProof.EnumMake
import KE.KIntText
import KE.KEqDict
import PyProof.StrBlock
import PyProof.MinMaxWalk
import PyProof.WalkInts
import PyProof.ExcInit
import PyProof.ExcClass2
import KE.KTryMore
import PySem.Challenge.RW_rowblade_k24_what_is_refused
set_option Elab.async false
set_option linter.all false
set_option maxRecDepth 100000
set_option compiler.extract_closed false
noncomputable section
set_option genSizeOf false
set_option bootstrap.genMatcherCode false
local macro_rules|`(def $x $s:optDeclSig $v:declVal)=>do return(←`(noncomputable def $x $s:optDeclSig $v:declVal)).raw.rewriteBottomUp (·.setInfo .none)
local macro_rules|`(abbrev $x $s:optDeclSig $v:declVal)=>do return(←`(noncomputable abbrev $x $s:optDeclSig $v:declVal)).raw.rewriteBottomUp (·.setInfo .none)
open PySem renaming Shared→ag,Value→ar,wpAny_bind→av,Addr→bp,model→b8,Expr→cb,sizeLine→cq,wpAny→cv,starEach→cw,wpAny_pure→cC,Program→cW,World→c4,FuncData→dy,Around→dA,Heap→ed,compareOp→eh,wpAny_Call_Name_kw→ek,mainGlobals→en,wpAny_mono→et,sizeLine_eq→ez,foldedSetIterable→eH,wpAny_holding→eI,codeAny_call_builtin→eJ,behindInMarks→eP,swapsWith→eR,eval→e6,wpAny_call→fv,codeAny_mono→fA,treeTable→f3,Scope→gg,Stmt→gL,backTo→hB,mem_of_lookup→hF,wpAny_loadPart_at→hG,bootBuiltins→hH,codeAny→hQ,assignEach→hU,wpAny_passesOwn→hW,wpAny_execs_nil→hX,wpAny_standAt→hZ,wpAny_truthy_bool→ik,wpAny_pyIter_list→ip,sysModules→iq,OsState→i4,binaryOp→ke,attributeBase→kf,wpAny_getItem_str_slice→ko,excClassObj→kv,CmpOp→kA,wpAny_execs_cons→kS,checkBuiltinCall→ll,PassesOwn→lx,Params→ma,sliceBounds→mq,keywordEach→mr,cLine→mx,wpAny_ite_false→mI,codeAny_builtin→mM,typeIs_str→n0,Within→n7,fromIndex→oa,Thread→oi,scanBound→ox,NameKind→oB,Str→oP,rawInt→oW,isInstance→o4,wpAny_loadPart'→o7,post_val_or_str→o8,letOwnedTupleGo→pa,Expr→pd,wpAny_setField→pk,wpAny_of_eq→pv,wpAny_field→pz,unbindBehindTheSuite→pB,reprText→p0,recursionLimit→qd,boundAndCalled→q0,backToKw→ra,PassesOwnAt→rb,Operator→rg,noteFrame→ry,wpAny_isSubtype_exc→rX,swappedStores→so,typeOf→sx,typeLookup→sT,tupleKind_room_in1→sZ,builtinsNs→tb,wpAny_pyIter_enum→td,standAt→tf,callerA→th,boot_len→ti,Keyword→tv,plainObj_wpAny_Assign_Attribute→tK,tupleKind→ui,setFlight→uj,getMethod→uk,assign→u6,Model→vk,importedModules→vt,codeAny_of_tree→vu,valueAt→wk,leaving→wq,BindsTo→xp,wpAny_newFunctionEnv_cells→xY,wpAny_loadPart→x8,call_meets→yA,wpAny_attempt→y8,ExceptHandler→zv,raiseStmt→A1,cellsFrom→CU,bindL→C9,bindC→Df,atKey→Dp,relabel→FD,isTrue→FX,holding→F1,getAttr→F2,Result→GK,Paired→GX,weight_type_call_type→He,codeAny_call_function→Hm
open PySem.Heap renaming get?_push_of_some→ax,lt_size→b9,get?_push_size→de,get?_update_other→f5,size_push→ih,get?_none_of_le→ij,get?_update_self→kx,SetOf→pf,get?_push_at→rD,SameBut→rE,MadeExcOf→ub,get?_update_ne→zl
open PySem.Builtin.Str renaming occurrences→dn,strSliceIndices→fw,strKind→gN
open PySem.W.Fast renaming te10110043849684766642→dv
open Ne renaming symm→ew
open False renaming elim→ey
open PySem.Obj renaming mapFields→fc,data_mapFields→ro,isFreed_of_fields→y4
open ForInStep renaming yield→fu
open Array renaming length_toList→fC,toList→rr,getElem?_setIfInBounds_ne→rS,find?_toList→z5
open PySem.Value renaming none→f7,builtin→gV,type→n4,bool→pb,float→yD
open True renaming intro→gb
open PySem.Str renaming ofString→g_,empty→n6
open PySem.Unicode renaming upperOf→hJ
open PySem.Builtin.Int renaming intBits→hV
open PySem.W renaming looks_pair→iv,looks_findIn→kz,segRun_of→la,piece_app→lb,hideAll→me,piecesOf→n3,hideAll_get→n8,SharedT→n9,boot_heap→oy,segRunT→oT,looks_mroIn→qx,findIn→qW,Looks→sr,Frag→v3,of_hideAll→yd,any_some→yB,emptyDict→CC
open PySem.Code renaming quiet_builtin→i5,isFrame→xk
open PySem.StrLaws renaming sliceText→jM,subAt_eq→kn,occ_eq→Gf
open PySem.Flow renaming next→ka
open PyProof.Rows renaming AllBare→kl,envOfC→u0,subscriptTail_builtinR→Ej,IntsAre→G6
open PySem.F renaming excBase_ValueError→lp,type_list_append→tj,slot_list_append→tq,plainAttrs_list→tN,plainAttrs_str→u9
open PySem.SeqAt renaming EqAt→mB,RcNeAt→vx,RcAt→zi
open PySem.Txt renaming find3→n5,startswith→o5,find→o6,slice_le→r0,endswith→sb,slice→xa
open PySem.W.Looks renaming ld→oC
open Sum renaming inr→si,inl→sk
open PySem.SeqAt.RcAt renaming lists_lengths→sq,tuples→vy,lists→xi
open PySem.Calls renaming Name_function_global→tJ,callWith_builtin→wh,evalArgs_plain→y0,spliced_cons→z3,Constant_str→z4
open PySem.EntryCells renaming newEntry→va
open PySem.SeqAt.EqAt renaming str_int→vb,int_str→vi
open PySem.Around renaming under→vr,under_plainId→xB,frames_deeper→xI,under_plain→y6
open PySem.Heap.IsList renaming push→vT
open PySem.Heap.Ns1 renaming of_empty→yL
open Char renaming toNat→D1
open PySem.Builtin.ObjectAttr renaming find→Hz,dataDescriptor?→HD
def aR:=@of_decide_eq_true
def a9:=@decide_eq_false
def bt:=@decide_eq_true
def b0:=@if_neg
def b7:=@if_pos
def cx:=@decide_eq_true_eq
def dk:=@absurd
def ej:=@congrFun
def eD:=@congrArg
def nr:=@beq_self_eq_true
def nL:=@or_false
def og:=@of_decide_eq_false
def yj:=@funext
def BA:=@if_true
def F6:=@beq_iff_eq
open Option renaming some→U,none→Y
open Bool renaming true→O,false→Zn
theorem J.{u}{α:Sort u}{a:α}:a=a:=rfl
abbrev Ap:=List<|List Nat
abbrev B1:=List Nat
abbrev B2:=List PySem.Value
abbrev Bi:=List oP
abbrev Bz:=List pd
abbrev BM:=List PySem.Addr
abbrev D2:=Option PySem.Value
abbrev Dx:=Option Int
abbrev Ee:=List Int
abbrev Fh:=List PySem.Stmt
abbrev Fm:=List Bool
namespace Z0
end Z0
open PySem.W renaming Frag→a_,findIn→eQ,keepIn→jA,kitOne→mJ,kia_one→mK,nsIn→mL,emptyDict→qI,instObj→sC,isFn→Ah,mroIn→Ai,fnOf→Aj,exmOne→Ak,plainGet→BG,hasDictIn→BH,makesIn→BI,lookIn→xu,specialIn→xw,takesIn→xx,callWith_K→xy,methodObj→BJ,plainGet_of→BK,plainOver→BL,takerIn→BN,any_some→BO,callWith_K0→BP,codeIn→BQ,kitAny→BR,handedIn→Kf,Looks→Kg,kitx_list→Kh,kitx_dict→Kl,kitx_own→Km,methodCall_KW→Ko,cellsFrom_some→Kp,excIn→Kq,Dflts→Kr
open Option renaming bind_eq_some_iff→bh,map_eq_some_iff→cL,bind→e9,ite_none_right_eq_some→h_,some→mO,map→o9,isNone_iff_eq_none→sF,elim_none→Al,isSome_iff_exists→BS,isSome_map→BU,map_some→BV,getD_none→Ks,none→Ku,bind_some→Kv,bind_none→Kw
open Bool renaming and_eq_true→bT,false_ne_true→ia,and_eq_true_iff→vC,not_eq_true'→BW,or_eq_true→BX,eq_iff_iff→xA,true_and→xC,or_eq_false_iff→xF,false_and→BY,false_or→BZ,or_true→Kz,and_false→KA,and_true→KC,eq_false_or_eq_true→KD,not_true→KG,not_false→KI
open List renaming length_map→ck,length_append→dq,mem_cons_self→eu,mem_cons_of_mem→eE,length_cons→eS,mem_cons→bu,append_nil→bz,append_assoc→bD,all_eq_true→bF,size_toArray→cP,replicate→dN,getElem?_eq_some_iff→dR,all_cons→d_,map_cons→eF,getElem?_eq_getElem→fH,prefix_rfl→fV,range→gk,getElem?_map→gA,mem_of_getElem?→gB,getElem?_set_self→ib,getElem?_set_ne→ic,lookup→ir,getElem?_append_right→iu,mem_map→iw,lookup_cons→i9,getElem?_append_left→jB,length_singleton→jC,length_set→jD,mem_singleton→kq,mem_append→lD,mem_append_right→lE,nodup_cons→lF,any_cons→mP,not_mem_nil→o_,map_map→pe,flatten→qJ,zip_cons_cons→qK,isEmpty_iff→qL,mem_range→sH,length→sI,map_append→sJ,set→sL,filterMap_cons→vD,length_replicate→Am,length_drop→An,map→Ao,find?_cons→Aq,nil_append→Ar,mem_filterMap→B0,getElem?_replicate→B3,length_range→B4,all_map→B5,any_map→B6,length_nil→B7,drop_zero→B8,contains_iff_mem→B9,mem_append_left→G7,of_mem_zip→xG,length_take→xH,forIn_cons→xJ,getD_eq_getElem?_getD→xK,ext_getElem?→xM,drop_eq_getElem_cons→xN,map_nil→B_,range_succ_eq_map→Cb,map_eq_nil_iff→Cc,drop_length→Cd,length_zip→Ce,mem_of_mem_drop→Cf,range'→Cg,take→Ci,flatten_append→Cj,mem_filter→KJ,take_append_drop→KL,contains_cons→KN,any_eq_true→KO,replicate_succ→KP,flatten_cons→KQ,length_flatten→KR,length_eq_zero_iff→KS,map_congr_left→KU,idxOf?→KW,findIdx?_eq_some_iff_getElem→KY,zip_nil_right→KZ,nodup_append→K0,cons_append→K1,set_set→K2,set_comm→K3,range'_succ→K4,drop_left→K5,take_succ_cons→K6,length_dropLast→K7,mem_of_getLast?→K8,length_pos_iff→K9
open Nat renaming le_refl→dS,le_trans→eT,ne_of_lt→dO,lt_of_lt_of_le→ee,le_add_right→fk,zero_le→i_,lt_succ_self→mQ,lt_irrefl→sN,ne_of_gt→As,le_of_eq→Au,zero_add→Av,lt_of_le_of_lt→Cm,le_succ→xO,le_of_not_lt→xP,le_add_left→xQ,sub_lt_sub_left→xR,sub_self→xS,min_eq_left→xT,le_of_lt→Cn,lt_succ_of_lt→Co,le_antisymm→Cp,succ→Cq,mul_le_mul→K_,min_self→La,not_lt_zero→Lb,length_toDigits_le_iff→Ld
open Int renaming ofNat→lG,emod_nonneg→Cr,emod_lt_of_pos→xU
open PyProof.Rows renaming boot_isinstance→Cs,callWith_type1→xV,boot_list→Ct,envOfC→Cu,callWith_builtin1→Le,recsOf→Lf,drecsOf→Lg,boot_enumerate→Lh,boot_str→Li,boot_int→Lj
namespace Z1
end Z1
abbrev dE:=List<|PySem.Addr×PySem.Obj
abbrev aV(x:oP):Prop:=(x == ("__debug__":oP))=Zn
abbrev fW(x:oP):Prop:=(x == ("__classdict__":oP))=Zn
namespace L2
open PySem PySem.Spec PyProof.Rows
abbrev Key:=Sum Int Str
def pM:Key->ar->Bool
 |.inl k,v=>Value.isInt k v
 |.inr x,v=>Value.isStrOf x v
def WE(w:c4):Key->Int
 |.inl k=>hashInt k
 |.inr x=>hashStr w x
def bU:∀{k:Key}{v:ar},pM k v=O->(∃i t,k=sk i/\v=Value.int i t)\/(∃x t,k=si x/\v=Value.str x t)
 |.inl i,v,h=>by
  obtain⟨t,e⟩:=Value.isInt_shape (k:=i) (v:=v) h;exact .inl ⟨i,t,J,e⟩
 |.inr x,v,h=>by
  obtain⟨t,e⟩:=Value.isStrOf_shape (x:=x) (v:=v) h;exact .inr ⟨x,t,J,e⟩
def Aw(i:Int)(t:Tok):pM (.inl i) (.int i t)=O:=by simp[pM,Value.isInt]
def Ax(x:Str)(t:Tok):pM (.inr x) (.str x t)=O:=by simp[pM,Value.isStrOf]
def MJ(a b:Int):decide ((sk a:Key)=sk b)=(a == b):=by
 by_cases e:a=b
 .subst e;simp
 .have h:¬ (sk a:Key)=sk b:=λq=>e<|Sum.inl.inj q
  rw[a9 h];exact(beq_eq_false_iff_ne.mpr e).symm
def MK(a b:Str):decide ((si a:Key)=si b)=decide (a=b):=by
 by_cases e:a=b
 .subst e;simp
 .have h:¬ (si a:Key)=si b:=λq=>e<|Sum.inr.inj q
  rw[a9 h,a9 e]
def ML(a:Int)(b:Str):decide ((sk a:Key)=si b)=Zn:=a9 (λq=>nomatch q)
def MM(a:Str)(b:Int):decide ((si a:Key)=sk b)=Zn:=a9 (λq=>nomatch q)
def cY(prog:cW)(w:c4):PySem.KeyKind prog w Key where
 is:=pM
 hash:=WE w
 inj:=λv a b g d=>by
  rcases bU g with⟨i,t,rfl,rfl⟩|⟨x,t,rfl,rfl⟩
  .rcases bU d with⟨j,u,rfl,e⟩|⟨y,u,rfl,e⟩
   .injection e with e1 _;rw[e1]
   .exact nomatch e
  .rcases bU d with⟨j,u,rfl,e⟩|⟨y,u,rfl,e⟩
   .exact nomatch e
   .injection e with e1 _;rw[e1]
 byValue:=λk v h=>by
  rcases bU h with⟨i,t,rfl,rfl⟩|⟨x,t,rfl,rfl⟩<;>rfl
 pyHash:=λc h=>by
  rcases bU c with⟨i,t,rfl,rfl⟩|⟨x,t,rfl,rfl⟩
  .exact wpAny_pyHash_int h
  .exact wpAny_pyHash_str h
 eqBool:=λf c h=>by
  rcases bU f with⟨i,t,rfl,rfl⟩|⟨x,t,rfl,rfl⟩
  .rcases bU c with⟨j,u,rfl,rfl⟩|⟨y,u,rfl,rfl⟩
   .rw[MJ]at h;exact wpAny_eqBool_int h
   .rw[ML]at h;exact vi i t y u _ _ _ _ h
  .rcases bU c with⟨j,u,rfl,rfl⟩|⟨y,u,rfl,rfl⟩
   .rw[MM]at h;exact vb x t j u _ _ _ _ h
   .rw[MK]at h;exact wpAny_eqBool_str h
 «strs»:=λk x t v h=>by
  rcases bU h with⟨i,u,rfl,e⟩|⟨y,u,rfl,e⟩
  .exact nomatch e
  .injection e with e1 _
   subst e1;cases v<;>rfl
def sO(prog:cW)(w:c4)(i:Int)(t:Tok):(cY prog w).is (.inl i) (.int i t)=O:=Aw i t
def sP(prog:cW)(w:c4)(x:Str)(t:Tok):(cY prog w).is (.inr x) (.str x t)=O:=Ax x t
inductive V where
 |non|bl (b:Bool)|int (i:Int)|str (x:Str)|byt (b:Array UInt8)|flt (b:UInt64)|ref (a:bp)|ty (n:String)
 deriving DecidableEq
def RelV:V->ar->Prop
 |.non,u=>u=f7
 |.bl b,u=>u=pb b
 |.int i,u=>∃t,u=Value.int i t
 |.str x,u=>∃t,u=Value.str x t
 |.byt b,u=>∃t,u=Value.bytes b t
 |.flt b,u=>∃t,u=yD b t
 |.ref a,u=>u=Value.ref a
 |.ty n,u=>u=n4 n
abbrev Vals:List V->B2->Prop:=GX RelV
theorem Vals.length{xs:List V}{us:B2}(r:Vals xs us):xs.length=us.length:=Paired.length r
theorem Vals.get:∀{xs:List V}{us:B2}{i:Nat}{x:V},Vals xs us->xs[i]?=U x->∃u,us[i]?=U u/\RelV x u
 |_,_,_,_,.nil,e=>by simp at e
 |_,_,0,_,.cons r _,e=>by simp at e;subst e;exact⟨_,J,r⟩
 |_,_,i+1,x,.cons _ t,e=>by
  obtain⟨u,b,a⟩:=Vals.get (i:=i) (x:=x) t (by simpa using e)
  exact⟨u,by simpa using b,a⟩
theorem Vals.append:∀{xs ys:List V}{us a:B2},Vals xs us->Vals ys a->Vals (xs++ys) (us++a)
 |_,_,_,_,.nil,s=>s
 |_,_,_,_,.cons r t,s=>.cons r<|Vals.append t s
theorem Vals.take:∀{xs:List V}{us:B2}(n:Nat),Vals xs us->Vals (xs.take n) (us.take n)
 |_,_,0,_=>.nil
 |_,_,_+1,.nil=>.nil
 |_,_,n+1,.cons r t=>.cons r<|Vals.take n t
theorem Vals.drop:∀{xs:List V}{us:B2}(n:Nat),Vals xs us->Vals (xs.drop n) (us.drop n)
 |_,_,0,r=>r
 |_,_,_+1,.nil=>.nil
 |_,_,n+1,.cons _ t=>Vals.drop n t
def iy:Option V->D2->Prop
 |some v,some u=>RelV v u
 |none,none=>True
 |_,_=>False
def KV{a:Type}:List (a×V)->List (a×ar)->Prop:=GX λ(p:a×V) (q:a×ar)=>p.1=q.1/\RelV p.2 q.2
def kV:Key->V
 |.inl i=>.int i
 |.inr x=>.str x
inductive HO where
 |lst (xs:List V)
 |tup (xs:List V)
 |dK (aP:List<|Key×V)|dT (aP:List<|List Key×V)
 |set (S:Int->Bool) (n:Nat)
 |ins (C dx:bp) (fs:List<|Str×V)
 |own (x:bp)
 |xd (fs:List<|Str×V)
 |met (f x:bp)
 |sQ (lo hi:Int)
 |jE (o:Obj) (u:HO)
 |tbl (ps:Array ar)
 |ext (φ:ed->Prop)
abbrev Hp:=bp->Option HO
def upd(H:Hp)(a:bp)(o:HO):Hp:=λb=>if b=a then U o else H b
def ao{H:Hp}{a:bp}{o:HO}:upd H a o a=U o:=by unfold upd;rw[b7 J]
def af{H:Hp}{a b:bp}{o:HO}(h:b≠a):upd H a o b=H b:=by unfold upd;rw[b0 h]
def qM{H:Hp}{a:bp}{o u:HO}:upd (upd H a o) a u=upd H a u:=by
 funext b;unfold upd;split<;>rfl
def Rg{H:Hp}{a b:bp}{o u:HO}(h:H a=U o)(h':H b=U u)(d:o≠u):a≠b:=by
 intro e;subst e;rw[h]at h';exact d<|mO.inj h'
def aJ{H:Hp}{a b:bp}{o:HO}(h:H a=U o)(h':H b=Y):a≠b:=by
 intro e;subst e;rw[h]at h';cases h'
section
variable(P:cW)(w:c4)
def bK(H:Hp)(h:ed)(a:bp):HO->Prop
 |.lst xs=>xs.length<=cq/\∃(aG:B2)(n:Nat),Vals xs aG/\h.get? a=U {cls:=.type "list",data:=.seq aG.toArray n}
 |.tup xs=>xs.length<=cq/\∃aG:B2,Vals xs aG/\IsTup h a aG.toArray
 |.dK c=>c.length<=cq/\(a == iq)=Zn/\∃g,KV c g/\h.DictOf (cY P w) a g
 |.dT c=>c.length<=cq/\(a == iq)=Zn/\∃xs:List (List Key×bp×ar),
   GX (λ(p:List Key×V) (q:List Key×bp×ar)=>p.1=q.1/\H q.2.1=U (.tup<|p.1.map kV)/\RelV p.2 q.2.2) c xs /\
   ∃o k m,h.get? a=U o/\o.ExactDict/\o.data=.dict k m/\k.toList=xs.map (entryOfKey<|ui<|cY P w)/\(xs.map (·.1)).Nodup
 |.set S n=>h.SetOf (intKind P w) a S n
 |.ins C d fs=>H d=U (.own a)/\fs.length<=1000/\d≠a/\h.get? a=U (sC C d) /\
   ∃b,h.Ns1 d b/\(∀f,iy (fs.lookup f)<|b f)/\n7 b (fs.map (·.1))
 |.own _=>∃o,h.get? a=U o
 |.xd fs=>∃b,h.Ns1 a b/\∀f,iy (fs.lookup f)<|b f
 |.sQ lo l=>∃t u v,h.get? a=U {cls:=.type "range",data:=.fields #[.int lo t,.int l u,.int 1 v]}
 |.jE o u=>h.get? a=U o/\bK H h a u
 |.tbl ps=>h.get? a=U {cls:=.none,data:=.fields ps}
 |.met f x=>h.get? a=U (BJ (.ref f)<|.ref x)
 |.ext e=>e h/\(∃o,h.get? a=U o)/\∀j i:ed,e j->(∀o,j.get? a=U o->i.get? a=U o)->e i
def ja(H:Hp)(h:ed):Prop:=∀a o,H a=U o->bK P w H h a o
end
variable{C a dx f x:bp}{A:dA}{b e o:cb}{h h':ed}{H H':Hp}{aa:dE}{R:Bz}{p pos:Pos}{P:cW}{s:ag}{E:ar->ag->Prop}{w:c4}
section
variable{o:HO}
theorem bK.lt(x:bK P w H h a o):a<h.objs.size:=by
 cases o with
 |lst xs=>obtain⟨_,_,_,_,e⟩:=x;exact b9 e
 |tup xs=>obtain⟨_,_,_,p⟩:=x;exact p.lt
 |dK b=>obtain⟨_,_,_,_,o,_,_,e,_⟩:=x;exact b9 e
 |dT b=>obtain⟨_,_,_,_,o,_,_,e,_⟩:=x;exact b9 e
 |set S n=>obtain⟨o,_,_,_,e,_⟩:=x;exact b9 e
 |ins C dx fs=>obtain⟨_,_,_,e,_⟩:=x;exact b9 e
 |own y=>obtain⟨_,e⟩:=x;exact b9 e
 |xd fs=>obtain⟨_,⟨_,_,_,e,_⟩,_⟩:=x;exact b9 e
 |sQ lo d=>obtain⟨_,_,_,e⟩:=x;exact b9 e
 |jE ob u=>obtain⟨e,_⟩:=x;exact b9 e
 |tbl ps=>exact b9<|show h.get? a=U _ from x
 |met f y=>exact b9<|show h.get? a=U _ from x
 |ext c=>obtain⟨_,⟨_,e⟩,_⟩:=x;exact b9 e
theorem Paired.MN{α e:Type}{F G:α->e->Prop}:∀{d:List α}{c:List e},GX F d c->(∀a b,F a b->G a b)->GX G d c
 |_,_,.nil,_=>.nil
 |_,_,.cons r t,f=>.cons (f _ _ r)<|Paired.MN t f
def bK.mR(x:bK P w H h a o)(k:∀b u,(b=a\/H b=U (.own a))->h.get? b=U u->h'.get? b=U u)
  (s:∀b,H b=U (.own a)->H' b=U (.own a)) (m:∀b xs,H b=U (.tup xs)->H' b=U (.tup xs)):bK P w H' h' a o:=by
 induction o with
 |lst xs=>obtain⟨z,aG,n,r,e⟩:=x;exact⟨z,aG,n,r,k _ _ (.inl J) e⟩
 |tup xs=>obtain⟨z,aG,r,ob,e,c⟩:=x;exact⟨z,aG,r,ob,k _ _ (.inl J) e,c⟩
 |dK B=>obtain⟨z,y,j,r,ob,R,g,e,c⟩:=x;exact⟨z,y,j,r,ob,R,g,k _ _ (.inl J) e,c⟩
 |dT B=>
  obtain⟨z,y,xs,r,ob,R,g,e,c⟩:=x;exact⟨z,y,xs,Paired.MN r λp q z=>⟨z.1,m _ _ z.2.1,z.2.2⟩,ob,R,g,k _ _ (.inl J) e,c⟩
 |set S n=>obtain⟨ob,R,g,t,e,c⟩:=x;exact⟨ob,R,g,t,k _ _ (.inl J) e,c⟩
 |ins C dx fs=>
  obtain⟨d,z,ne,e,i,⟨od,R,g,A,c⟩,r⟩:=x;exact⟨s _ d,z,ne,k _ _ (.inl J) e,i,⟨od,R,g,k _ _ (.inr d) A,c⟩,r⟩
 |own y=>obtain⟨ob,e⟩:=x;exact⟨ob,k _ _ (.inl J) e⟩
 |xd fs=>obtain⟨i,⟨od,R,g,e,c⟩,r⟩:=x;exact⟨i,⟨od,R,g,k _ _ (.inl J) e,c⟩,r⟩
 |sQ lo E=>obtain⟨t,u,v,e⟩:=x;exact⟨t,u,v,k _ _ (.inl J) e⟩
 |jE ob u l=>obtain⟨e,q⟩:=x;exact⟨k _ _ (.inl J) e,l q⟩
 |tbl ps=>
  have e:h.get? a=U {cls:=.none,data:=.fields ps}:=x;show h'.get? a=U {cls:=.none,data:=.fields ps};exact k a _ (.inl J) e
 |met f y=>
  have e:h.get? a=U (BJ (.ref f)<|.ref y):=x;show h'.get? a=U (BJ (.ref f)<|.ref y);exact k a _ (.inl J) e
 |ext D=>obtain⟨p,⟨o,e⟩,st⟩:=x;exact⟨st _ _ p λo q=>k _ _ (.inl J) q,⟨o,k _ _ (.inl J) e⟩,st⟩
theorem ja.lt(x:ja P w H h)(e:H a=U o):a<h.objs.size:=(x a o e).lt
def ja.fresh(x:ja P w H h)(e:h.objs.size<=a):H a=Y:=by
 cases q:H a with
 |none=>rfl
 |some u=>exact dk (ee (x.lt q) e)<|sN _
def ja.kept(x:ja P w H h)(k:∀b u,h.get? b=U u->h'.get? b=U u):ja P w H h':=λa o e=>
 (x a o e).mR (λb u _ q=>k b u q) (λ_ q=>q) λ_ _ q=>q
def ja.laid(x:ja P w H h)(k:∀b u,h.get? b=U u->h'.get? b=U u)(f:h.objs.size<=a)(new:bK P w (upd H a o) h' a o):ja P w (upd H a o) h':=λb u e=>by
 have d:=x.fresh f;by_cases hb:b=a
 .subst hb;rw[ao]at e;cases e;exact new
 .rw[af hb]at e
  exact(x b u e).mR (λc v _ q=>k c v q) (λc q=>by rw[af<|aJ q d];exact q) λc xs q=>by rw[af<|aJ q d];exact q
end
def Rd(H:Hp)(a:bp)(u:HO):Prop:=H a=U u\/∃o,H a=U (.jE o u)
def Rd.ok{P:cW}{w:c4}{H:Hp}{h:ed}{a:bp}{u:HO}(r:Rd H a u)(x:ja P w H h):bK P w H h a u:=by
 rcases r with r|⟨o,r⟩
 .exact x a u r
 .obtain⟨_,q⟩:=x a _ r
  exact q
def Ri:Option HO->Prop
 |U<|.lst _=>True
 |U<|.dK _=>True
 |U<|.dT _=>True
 |U<|.set _ _=>True
 |U<|.ins _ _ _=>True
 |U<|.ext _=>True
 |_=>False
section
variable{e:bp}{j:HO}
def ja.write(ok:ja P w H h)(mu:Ri<|H x)(he:e=x\/H e=U (.own x))(k:∀b u,b≠e->h.get? b=U u->h'.get? b=U u)(g:∃u,h'.get? e=U u)
  (new:bK P w (upd H x j) h' x j):ja P w (upd H x j) h':=λb u q=>by
 have Rj:∀c y,H c=U (.own y)->c≠x:=λc y r z=>by subst z;rw[r]at mu;exact mu
 have WG:∀c xs,H c=U (.tup xs)->c≠x:=λc xs r z=>by subst z;rw[r]at mu;exact mu
 by_cases hb:b=x
 .subst hb;rw[ao]at q;cases q;exact new
 .rw[af hb]at q
  by_cases hbe:b=e
  .have d:H b=U (.own x):=by
    rcases he with z|z
    .exact dk (hbe.trans z) hb
    .rw[hbe];exact z
   rw[q]at d;cases d;obtain⟨v,f⟩:=g;exact⟨v,by rw[hbe];exact f⟩
  .refine(ok b u q).mR (λc v a r=>k c v ?_ r) (λc r=>by rw[af<|Rj c b r];exact r) λc xs r=>by rw[af<|WG c xs r];exact r
   rcases a with rfl|a
   .exact hbe
   .rintro rfl
    rcases he with z|z
    .exact Rj c b a z
    .rw[a]at z;cases z;exact hb J
end
structure Un(fs ex:BM)(H H':Hp)(h h':ed):Prop where
 keep:∀b o,h.get? b=U o->H b=Y->b∉fs->b∉ex->h'.get? b=U o
 slot:∀b o,h.get? b=U o->H b=Y->b∈fs->b∉ex->∃sl,h'.get? b=U {o with slots:=sl}
 free:∀b o,h.get? b=U o->H b=Y->b∉ex->H' b=Y
 there:∀b o,h.get? b=U o->b∉ex->∃o',h'.get? b=U o'
 lH:∀b xs,H b=U (.tup xs)->H' b=U (.tup xs)
 kr:∀b o u,H b=U (.jE o u)->H' b=U (.jE o u)
 lI:∀b ps,H b=U (.tbl ps)->∃more,H' b=U (.tbl<|ps++more)
section
variable{fs n ex j:BM}{H1 t:Hp}{d u:ed}{e:bp}{o:HO}
def Un.any(u:Un fs ex H H1 h d){b:bp}{ob:Obj}(q:h.get? b=U ob)(n:H b=Y)(a:b∉ex):∃sl,d.get? b=U {ob with slots:=sl}:=by
 by_cases hb:b∈fs
 .exact u.slot b ob q n hb a
 .exact⟨ob.slots,u.keep b ob q n hb a⟩
def Un.kept(k:∀b u,h.get? b=U u->h'.get? b=U u):Un fs ex H H h h':=
 ⟨λb ob q _ _ _=>k b ob q,λb ob q _ _ _=>⟨ob.slots,k b ob q⟩,λ_ _ _ n _=>n,λb ob q _=>⟨ob,k b ob q⟩,λ_ _ q=>q,λ_ _ _ q=>q,λ_ ps q=>⟨#[],by rw[q];simp⟩⟩
def Un.refl:Un fs ex H H h h:=Un.kept λ_ _ q=>q
def Un.laid(k:∀b u,h.get? b=U u->h'.get? b=U u)(d:h.objs.size<=a)(c:H a=Y):Un fs ex H (upd H a o) h h' where
 keep:=λb u q _ _ _=>k b u q
 slot:=λb u q _ _ _=>⟨u.slots,k b u q⟩
 free:=λb u q n _=>by rw[af<|dO<|ee (b9 q) d];exact n
 there:=λb u q _=>⟨u,k b u q⟩
 lH:=λb xs q=>by rw[af<|aJ q c];exact q
 kr:=λb u xs q=>by rw[af<|aJ q c];exact q
 lI:=λb ps q=>⟨#[],by rw[af<|aJ q c,q];simp⟩
def Un.write(mu:Ri<|H x)(he:e=x\/H e=U (.own x))(k:∀b u,b≠e->h.get? b=U u->h'.get? b=U u)(f:∃u,h'.get? e=U u):Un fs ex H (upd H x o) h h':=by
 have c:∀b,H b=Y->b≠x:=λb n z=>by subst z;rw[n]at mu;exact mu
 have d:∀b,H b=Y->b≠e:=λb n z=>by
  subst z;rcases he with r|r
  .exact c b n r
  .rw[n]at r;cases r
 have a:∀b u,H b=U u->¬ Ri (U u)->b≠x:=λb u q nm z=>by subst z;rw[q]at mu;exact nm mu
 refine⟨λb u q n _ _=>k b u (d b n) q,λb u q n _ _=>⟨u.slots,k b u (d b n) q⟩,λb u q n _=>by rw[af<|c b n];exact n,λb u q _=>?_,
  λb xs q=>by rw[af<|a b _ q λz=>z];exact q,λb u xs q=>by rw[af<|a b _ q λz=>z];exact q,λb ps q=>⟨#[],by rw[af<|a b _ q λz=>z,q];simp⟩⟩
 by_cases hbe:b=e
 .subst hbe;exact f
 .exact⟨u,k b u hbe q⟩
end
def GR(h:ed)(H:Hp):BM:=(gk h.objs.size).filter λa=>(H a).isSome
def qN(h:ed)(H:Hp):ed:=PySem.W.hideAll h<|GR h H
def Ay(h:ed)(H:Hp):(qN h H).objs.size=h.objs.size:=PySem.W.hideAll_size _ _
def Cw{h:ed}{H:Hp}{b:bp}{o:Obj}(e:h.get? b=U o)(n:H b=Y):(qN h H).get? b=U o:=
 PySem.W.hideAll_get _ e λa=>by
  have q:(H b).isSome=O:=(KJ.mp a).2;rw[n]at q;simp at q
def G8{h:ed}{H:Hp}{b:bp}{o:Obj}(e:(qN h H).get? b=U o):h.get? b=U o/\H b=Y:=by
 have a:h.get? b=U o:=PySem.W.of_hideAll (GR h H) e;refine⟨a,?_⟩;cases q:H b with
 |none=>rfl
 |some x=>
  have c:b∈GR h H:=KJ.mpr ⟨sH.mpr<|b9 a,by simp[q]⟩
  have z:(qN h H).get? b=Y:=PySem.W.hideAll_none (GR h H) c;rw[z]at e;cases e
def G9(g h:ed)(L:bp):dE:=(gk h.objs.size).filterMap λa=>if a=L\/(g.get? a).isSome=O then Y else(h.get? a).map λo=>(a,o)
def rest(g h:ed)(L d:bp):dE:=(G9 g h L).filter λp=>decide<|p.1≠d
structure Mod(K:a_)(mg:Str->D2)(base:ed):Prop where
 kin:K.In base
 glob:base.Ns en mg
 blt:∃mb,base.Ns tb mb/\∀x:Str,x ≠ "__name__" -> mb x=hH x
 nolimit:base.NoLimit
structure Cx where
 prog:cW
 w:c4
 K:a_
 mg:Str->D2
 base:ed
 A:dA
 N:Bi
 s₀:ag
 H₀:Hp
 env:Env
 outer:List Env
 stack:List Env
 ex:BM
 fn:Str->Bool
 calm:Bool
 pn:dE
 xe:ar->ag->Prop
def jF(l:List Env):BM:=l.filterMap (·.frame)
abbrev Cx.fs(X:Cx):BM:=jF X.outer
def lR(sc:gg)(x:Str):Prop:=sc.names.lookup x=U .local\/sc.names.lookup x=U .cell\/sc.names.lookup x=U .free
def Loc(sc:gg)(x:Str):Prop:=sc.names.lookup x=U .local\/sc.names.lookup x=U .cell
def Look(env:Env)(h:ed)(m:Str->D2)(x:Str)(u:ar):Prop:=
 (env.kindOf x=U .local/\m x=U u)\/((env.kindOf x=U .cell\/env.kindOf x=U .free)/\∃c,env.cells.lookup x=U c/\h.IsCell c (U u))
structure Cx.Ok(X:Cx):Prop where
 mod:Mod X.K X.mg X.base
 kind:X.env.scope.kind=.function
 glob:X.env.globals=en
 blt:X.env.builtins=tb
 above:X.s₀.heap.objs.size<=X.env.locals
 inj:∀x y c,X.env.cells.lookup x=U c->X.env.cells.lookup y=U c->x=y
 has:∀x,(X.env.kindOf x=U .cell\/X.env.kindOf x=U .free)->∃c,X.env.cells.lookup x=U c
 cab:∀x c,X.fn x=O->X.env.cells.lookup x=U c->X.s₀.heap.objs.size<=c
 hd:X.calm=O->X.A.handled=Y
 frames:X.A.frames=U X.stack
 stk:X.stack=X.outer\/(X.stack=X.env::X.outer/\X.env.frame=U X.env.locals)
 exf:∀b∈X.ex,b≠X.env.locals/\∀x c,X.env.cells.lookup x=U c->c≠b
 bs:∀b o,X.base.get? b=U o->X.s₀.heap.get? b=U o/\X.H₀ b=Y
 bsz:X.base.objs.size<=X.s₀.heap.objs.size
 noex:∀b o,X.base.get? b=U o->b∉X.ex
 exfs:∀b∈X.ex,b∉X.fs
 jb:X.s₀.heap.FunFrames X.base X.outer
 frf:∀b∈X.fs,X.H₀ b=Y
structure Inv(X:Cx)(aa:dE)(σ:List<|Option V)(H:Hp)(s:ag):Prop where
 ok:X.Ok
 os:s.os=X.s₀.os
 bare:kl s.gens
 base:Un X.fs X.ex X.H₀ H X.s₀.heap s.heap
 loc:∃m,s.heap.Ns X.env.locals m/\∀(i:Nat)(x:Str)(v:V),X.N[i]?=U x->σ[i]?=U (U v)->lR X.env.scope x->∃u,RelV v u/\Look X.env s.heap m x u
 cell:∀x c,X.env.cells.lookup x=U c->∃v,s.heap.IsCell c v
 free:H X.env.locals=Y
 freeC:∀x c,X.env.cells.lookup x=U c->H c=Y
 pin:∀p∈X.pn++aa,s.heap.get? p.1=U p.2/\H p.1=Y/\p.1≠X.env.locals/\p.1∉X.fs/\∀v,p.2.data≠.cell v
 bj:ja X.prog X.w H s.heap
 len:σ.length=X.N.length
section
variable{X:Cx}{σ:List<|Option V}
def Cx.Ok.WH(ok:X.Ok){b:bp}{o:Obj}(e:X.base.get? b=U o):b∉X.fs:=λa=>by
 have:=(ok.jb.mem a).1
 rw[e]at this;cases this
theorem Inv.bs(I:Inv X aa σ H s):∀b o,X.base.get? b=U o->s.heap.get? b=U o/\H b=Y:=λb o e=>
 ⟨I.base.keep b o (I.ok.bs b o e).1 (I.ok.bs b o e).2 (I.ok.WH e)<|I.ok.noex b o e,I.base.free b o (I.ok.bs b o e).1 (I.ok.bs b o e).2<|I.ok.noex b o e⟩
def Inv.bk(I:Inv X aa σ H s):∀b o,X.base.get? b=U o->s.heap.get? b=U o:=λb o e=>(I.bs b o e).1
theorem Inv.mod(I:Inv X aa σ H s):Mod X.K X.mg X.base:=I.ok.mod
def Inv.gQ(I:Inv X aa σ H s):X.K.In s.heap:=I.ok.mod.kin.keeps I.bk
theorem Inv.lt(I:Inv X aa σ H s):X.env.locals<s.heap.objs.size:=let⟨_,hn,_⟩:=I.loc;hn.lt
def Inv.sz(I:Inv X aa σ H s):X.s₀.heap.objs.size<=s.heap.objs.size:=eT I.ok.above<|Cn I.lt
def Inv.WI(I:Inv X aa σ H s){a:bp}(h:s.heap.objs.size<=a):a∉X.fs:=λc=>by
 obtain⟨_,o,b,_⟩:=I.ok.jb.mem c;exact dk (ee (b9 b)<|eT I.sz h)<|sN _
def Inv.G_(I:Inv X aa σ H s):∀x c,X.env.cells.lookup x=U c->c≠X.env.locals:=λx c e z=>by
 obtain⟨v,o,a,hd⟩:=I.cell x c e;obtain⟨m,⟨f,R,g,b,d,_⟩,_⟩:=I.loc;rw[z,b]at a;cases a;rw[d]at hd;cases hd
theorem Inv.jb(I:Inv X aa σ H s):s.heap.FunFrames X.base X.outer:=by
 have all:∀(l:List Env),(∀b∈jF l,b∈X.fs)->X.s₀.heap.FunFrames X.base l->s.heap.FunFrames X.base l:=by
  intro l
  induction l with
  |nil=>intro _ _;trivial
  |cons env r g=>
   intro f hl;obtain⟨k,⟨L,o,a,j,i,hd⟩,h⟩:=hl;have d:L∈X.fs:=f L (by unfold jF;rw[vD,a];exact eu)
   obtain⟨sl,e⟩:=I.base.slot L o i (I.ok.frf L d) d λz=>I.ok.exfs L z d;exact⟨k,⟨L,_,a,j,e,hd⟩,g (λb c=>f b<|by unfold jF;rw[vD,a];exact eE _ c) h⟩
 exact all X.outer (λ_ c=>c) I.ok.jb
theorem Inv.stack(I:Inv X aa σ H s):s.heap.FunFrames X.base X.stack:=by
 rcases I.ok.stk with e|⟨e,b⟩
 .rw[e];exact I.jb
 .rw[e]
  obtain⟨m,a,_⟩:=I.loc;refine .cons (by rw[I.ok.kind];decide) b a ?_ I.jb
  exact ij<|eT I.ok.bsz I.ok.above
def Inv.jc(I:Inv X aa σ H s):∀b∈jF X.stack,b∈X.env.locals::X.fs:=λb a=>by
 rcases I.ok.stk with e|⟨e,c⟩
 .rw[e]at a;exact eE _ a
 .rw[e]at a
  unfold jF at a;rw[vD,c]at a;exact a
def Inv.lS(I:Inv X aa σ H s):∀b∈jF X.stack,H b=Y:=λb a=>by
 rcases bu.mp (I.jc b a)with e|a
 .rw[e];exact I.free
 .obtain⟨_,o,c,_⟩:=I.ok.jb.mem a
  exact I.base.free b o c (I.ok.frf b a) λz=>I.ok.exfs b z a
def Inv.step{g':Array GenState}{t':Nat}{d':Drawn}{ch:BM}(I:Inv X aa σ H s)
  (C:∀b∈ch,(b∈X.ex\/X.s₀.heap.objs.size<=b)/\b≠X.env.locals/\(∀x c,X.env.cells.lookup x=U c->c≠b)/\∀p∈X.pn++aa,p.1≠b)
  (keep:∀b o,b≠X.env.locals->b∉X.fs->b∉ch->s.heap.get? b=U o->H b=Y->h'.get? b=U o)
  (slot:∀b o,b≠X.env.locals->b∈X.fs->b∉ch->s.heap.get? b=U o->H b=Y->∃sl,h'.get? b=U {o with slots:=sl}) (free:∀b o,b∉ch->s.heap.get? b=U o->H b=Y->H' b=Y)
  (there:∀b o,b∉ch->s.heap.get? b=U o->∃t,h'.get? b=U t)
  (lH:∀b xs,H b=U (.tup xs)->H' b=U (.tup xs)) (kr:∀b o u,H b=U (.jE o u)->H' b=U (.jE o u)) (lI:∀b ps,H b=U (.tbl ps)->∃y,H' b=U (.tbl<|ps++y))
  (ns:∀m,s.heap.Ns X.env.locals m->h'.Ns X.env.locals m) (bj:ja X.prog X.w H' h') (L:kl g') :
  Inv X aa σ H' {s with heap:=h',gens:=g',drawn:=d',toks:=t'}:=by
 have F:∀b o,X.s₀.heap.get? b=U o->b≠X.env.locals:=λb o e=>dO<|ee (b9 e) I.ok.above;have D:∀b o,X.s₀.heap.get? b=U o->b∉X.ex->b∉ch:=λb o e a h=>by
  rcases(C b h).1 with z|z
  .exact a z
  .exact dk (ee (b9 e) z)<|sN _
 have f:∀x c,X.env.cells.lookup x=U c->∀v,s.heap.IsCell c v->h'.IsCell c v:=λx c e v G=>by
  obtain⟨o,j,hd⟩:=G;have B:c∉ch:=λz=>(C c z).2.2.1 x c e J;by_cases hc:c∈X.fs
  .obtain⟨sl,q⟩:=slot c o (I.G_ x c e) hc B j<|I.freeC x c e
   exact⟨_,q,hd⟩
  .exact⟨o,keep c o (I.G_ x c e) hc B j<|I.freeC x c e,hd⟩
 refine⟨I.ok,I.os,L,⟨λb o e n h a=>?_,λb o e n h a=>?_,λb o e n a=>?_,λb o e a=>?_,λb xs e=>lH b xs<|I.base.lH b xs e,λb o xs e=>kr b o xs<|I.base.kr b o xs e,λb ps e=>?_⟩,?_,λx c e=>?_,?_,λx c e=>?_,λp E=>?_,bj,I.len⟩
 .exact keep b o (F b o e) h (D b o e a) (I.base.keep b o e n h a)<|I.base.free b o e n a
 .obtain⟨sl,g⟩:=I.base.slot b o e n h a
  obtain⟨N,A⟩:=slot b _ (F b o e) h (D b o e a) g<|I.base.free b o e n a;exact⟨N,A⟩
 .obtain⟨t,g⟩:=I.base.there b o e a
  exact free b t (D b o e a) g<|I.base.free b o e n a
 .obtain⟨t,g⟩:=I.base.there b o e a
  exact there b t (D b o e a) g
 .obtain⟨m1,g⟩:=I.base.lI b ps e
  obtain⟨m2,A⟩:=lI b _ g;exact⟨m1++m2,by rw[A,Array.append_assoc]⟩
 .obtain⟨m,K,hl⟩:=I.loc
  refine⟨m,ns m K,λi x v g A M=>?_⟩;obtain⟨u,r,l⟩:=hl i x v g A M;refine⟨u,r,?_⟩;rcases l with l|⟨k,c,e,z⟩
  .exact .inl l
  .exact .inr ⟨k,c,e,f x c e _ z⟩
 .obtain⟨v,z⟩:=I.cell x c e
  exact⟨v,f x c e v z⟩
 .obtain⟨m,⟨o,_,_,j,_⟩,_⟩:=I.loc
  exact free _ o (λz=>(C _ z).2.1 J) j I.free
 .obtain⟨v,o,j,hd⟩:=I.cell x c e
  exact free c o (λz=>(C c z).2.2.1 x c e J) j<|I.freeC x c e
 .obtain⟨e,n,ne,nf,d⟩:=I.pin p E
  have B:p.1∉ch:=λz=>(C p.1 z).2.2.2 p E J;exact⟨keep p.1 p.2 ne nf B e n,free p.1 p.2 B e n,ne,nf,d⟩
def Inv.un{t':Nat}(I:Inv X aa σ H s)(u:Un X.fs [] H H' s.heap h')(bj:ja X.prog X.w H' h'):Inv X aa σ H' {s with heap:=h',toks:=t'}:=by
 obtain⟨m,⟨o,R,p,d,r⟩,_⟩:=id I.loc;obtain⟨sl,h⟩:=u.any d I.free (by simp)
 exact I.step (g':=s.gens) (d':=s.drawn) (ch:=[]) (λ_ z=>nomatch z) (λb o _ a _ e n=>u.keep b o e n a<|by simp) (λb o _ a _ e n=>u.slot b o e n a<|by simp) (λb o _ e n=>u.free b o e n<|by simp) (λb o _ e=>u.there b o e<|by simp) u.lH u.kr u.lI (λl g=>by
  obtain⟨k,j,i,c,f⟩:=g;rw[d]at c;cases c;exact⟨_,j,i,h,f⟩) bj I.bare
def Inv.call{g':Array GenState}{t':Nat}{d':Drawn}{ch:BM}(I:Inv X aa σ H s)(u:Un (jF X.stack) ch H H' s.heap h')(bj:ja X.prog X.w H' h')(k:kl g')
  (h:∀b∈ch,(b∈X.ex\/X.s₀.heap.objs.size<=b)/\b≠X.env.locals/\(∀x c,X.env.cells.lookup x=U c->c≠b)/\∀p∈X.pn++aa,p.1≠b) :
  Inv X aa σ H' {s with heap:=h',gens:=g',drawn:=d',toks:=t'}:=by
 obtain⟨m,⟨o,R,A,g,r⟩,_⟩:=id I.loc;obtain⟨sl,d⟩:=u.any g I.free λz=>(h _ z).2.1 J;exact I.step (ch:=ch) h (λb o d l a e n=>u.keep b o e n (λz=>(bu.mp<|I.jc b z).elim d l) a) (λb o _ _ a e n=>u.any e n a) (λb o a e n=>u.free b o e n a) (λb o a e=>u.there b o e a) u.lH u.kr u.lI (λy j=>by
  obtain⟨v,t,q,f,i⟩:=j;rw[g]at f;cases f;exact⟨_,t,q,d,i⟩) bj k
def Inv.turned{t':Nat}{it:bp}(I:Inv X aa σ H s)(k:∀b o,b≠it->s.heap.get? b=U o->h'.get? b=U o)(h:H it=Y)(d:it≠X.env.locals)
  (w:it∈X.ex\/X.s₀.heap.objs.size<=it) (t:∀x c,X.env.cells.lookup x=U c->c≠it) (l:∀p∈X.pn++aa,p.1≠it):Inv X aa σ H {s with heap:=h',toks:=t'}:=by
 have f:∀b u,H b=U u->b≠it:=λb u e z=>by rw[z,h]at e;cases e
 refine I.step (g':=s.gens) (d':=s.drawn) (ch:=[it]) (λb j=>?_) (λb o _ _ a e _=>k b o (λz=>a<|by simp[z]) e) (λb o _ _ a e _=>⟨o.slots,k b o (λz=>a<|by simp[z]) e⟩) (λ_ _ _ _ n=>n)
  (λb o a e=>⟨o,k b o (λz=>a<|by simp[z]) e⟩) (λ_ _ e=>e) (λ_ _ _ e=>e) (λb ps e=>⟨#[],by rw[e];simp⟩) (λm i=>?_) (λb u e=>?_) I.bare
 .have e:b=it:=by simpa using j
  subst e;exact⟨w,d,t,l⟩
 .obtain⟨o,R,y,g,r⟩:=i
  exact⟨o,R,y,k _ o (ew d) g,r⟩
 .refine(I.bj b u e).mR (λc v a q=>k c v ?_ q) (λ_ q=>q) λ_ _ q=>q
  rcases a with z|z
  .rw[z];exact f b u e
  .exact f c _ z
def Inv.tok(I:Inv X aa σ H s)(t:Nat):Inv X aa σ H {s with toks:=t}:=I.un (h':=s.heap) (t':=t) Un.refl I.bj
theorem Inv.kept{t':Nat}(I:Inv X aa σ H s)(k:∀b u,s.heap.get? b=U u->h'.get? b=U u):Inv X aa σ H {s with heap:=h',toks:=t'}:=I.un (Un.kept k)<|I.bj.kept k
theorem Inv.laid{a:bp}{o:HO}{t':Nat}(I:Inv X aa σ H s)(k:∀b u,s.heap.get? b=U u->h'.get? b=U u)(c:s.heap.objs.size<=a)(new:bK X.prog X.w (upd H a o) h' a o) :
  Inv X aa σ (upd H a o) {s with heap:=h',toks:=t'}:=I.un (Un.laid k c<|I.bj.fresh c)<|I.bj.laid k c new
theorem Inv.write{x e:bp}{o:HO}{t':Nat}(I:Inv X aa σ H s)(mu:Ri<|H x)(he:e=x\/H e=U (.own x))(k:∀b u,b≠e->s.heap.get? b=U u->h'.get? b=U u)(a:∃u,h'.get? e=U u)
  (new:bK X.prog X.w (upd H x o) h' x o):Inv X aa σ (upd H x o) {s with heap:=h',toks:=t'}:=I.un (Un.write mu he k a)<|I.bj.write mu he k a new
def Inv.weak{a:List<|Option V}(I:Inv X aa σ H s)(hl:a.length=σ.length)(w:∀(i:Nat)v,a[i]?=U (U v)->σ[i]?=U (U v)):Inv X aa a H s:=
 ⟨I.ok,I.os,I.bare,I.base,let⟨m,hn,Az⟩:=I.loc;⟨m,hn,λi x v d c b=>Az i x v d (w i v c) b⟩,I.cell,I.free,I.freeC,I.pin,I.bj,hl.trans I.len⟩
def Inv.xW{a:dE}(I:Inv X aa σ H s)(h:∀p∈a,s.heap.get? p.1=U p.2/\H p.1=Y/\p.1≠X.env.locals/\p.1∉X.fs/\∀v,p.2.data≠.cell v):Inv X a σ H s:=
 ⟨I.ok,I.os,I.bare,I.base,I.loc,I.cell,I.free,I.freeC,λp b=>(lD.mp b).elim (λz=>I.pin p<|G7 _ z)<|h p,I.bj,I.len⟩
def mS{N:Bi}(c:N.Nodup){i j:Nat}{x:Str}(a:N[i]?=U x)(b:N[j]?=U x):i=j:=by
 obtain⟨g,e⟩:=dR.mp a;obtain⟨f,d⟩:=dR.mp b;exact(List.getElem_inj c).mp<|e.trans d.symm
def pN{M:vk}{A:dA}{E:ar->ag->Prop}{i:Nat}{x:Str}{v:V}{u:ar}{Q:Unit->ag->Prop}(I:Inv X aa σ H s)(hN:X.N.Nodup)(K:X.N[i]?=U x)(B:Loc X.env.scope x)(r:RelV v u)
  (h:∀s',Inv X aa (σ.set i<|U v) H s'->(∃a,rE a s.heap s'.heap/\(a=X.env.locals\/X.env.cells.lookup x=U a))->Q () s') (hf:X.fn x=O\/X.env.scope.names.lookup x=U .local:=by first|exact .inl J|exact .inr J|assumption):cv M A (storeName X.env x u) Q E s:=by
 obtain⟨m,hn,hl⟩:=id I.loc;have MP:(X.env.scope.kind == .class ||(X.env.scope.kind == .module&&X.env.locals != X.env.globals))=Zn:=by rw[I.ok.kind];rfl
 have F:i<σ.length:=by rw[I.len];exact(dR.mp K).1
 have G_:=I.G_;have g:∀{a:bp}{h':ed},(∃o,s.heap.get? a=U o/\H a=Y)->rE a s.heap h'->ja X.prog X.w H h':=λ{a h'} ha f b ob e=>by
  obtain⟨_,_,pO⟩:=ha;refine(I.bj b ob e).mR (λc L t q=>(f.2 c ?_).trans q) (λ_ q=>q) λ_ _ q=>q
  rintro rfl
  rcases t with rfl|t
  .rw[pO]at e;cases e
  .rw[pO]at t;cases t
 rcases B with D|D
 .refine wpAny_storeName_local D hn (λh' QR f=>?_) MP
  obtain⟨oL,_,_,ZW,_⟩:=id hn;refine h _ ⟨I.ok,I.os,I.bare,⟨λb o e n G B=>?_,λb o e n G B=>?_,I.base.free,λb o e B=>?_,I.base.lH,I.base.kr,I.base.lI⟩,⟨_,QR,λj y R l C e3=>?_⟩,λy c e=>?_,I.free,I.freeC,λp Z=>?_,g ⟨oL,ZW,I.free⟩ f,by simpa using I.len⟩ ⟨_,f,.inl J⟩
  .exact(f.2 b<|dO<|ee (b9 e) I.ok.above).trans<|I.base.keep b o e n G B
  .obtain⟨sl,l⟩:=I.base.slot b o e n G B
   exact⟨sl,(f.2 b<|dO<|ee (b9 e) I.ok.above).trans l⟩
  .obtain⟨W,l⟩:=I.base.there b o e B
   exact⟨W,(f.2 b<|dO<|ee (b9 e) I.ok.above).trans l⟩
  .by_cases hj:j=i
   .subst hj
    rw[K]at l;cases l;rw[ib F]at C;cases C;exact⟨u,r,.inl ⟨D,by simp⟩⟩
   .rw[ic<|ew hj]at C
    obtain⟨S,T,q⟩:=hl j y R l C e3;refine⟨S,T,?_⟩;rcases q with⟨k,e⟩|⟨k,c,e,z⟩
    .refine .inl ⟨k,?_⟩
     have:y≠x:=λe=>hj<|mS hN l<|e▸K
     simp[this,e]
    .exact .inr ⟨k,c,e,z.sameBut f<|G_ y c e⟩
  .obtain⟨L,z⟩:=I.cell y c e
   exact⟨L,z.sameBut f<|G_ y c e⟩
  .obtain⟨e,n,ne,nf,d⟩:=I.pin p Z
   exact⟨(f.2 p.1 ne).trans e,n,ne,nf,d⟩
 .have Rl:X.fn x=O:=by
   rcases hf with z|z
   .exact z
   .rw[z]at D;cases D
  obtain⟨c,t⟩:=I.ok.has x<|.inl D;obtain⟨L,z⟩:=I.cell x c t;refine wpAny_storeName_cell I.ok.kind D t z λh' ZX f=>?_;obtain⟨oc,ZY,WL⟩:=id z;refine h {s with heap:=h'} ⟨I.ok,I.os,I.bare,⟨λb o e n G B=>?_,λb o e n G B=>?_,I.base.free,λb o e B=>?_,I.base.lH,I.base.kr,I.base.lI⟩,⟨m,hn.sameBut f<|ew<|G_ x c t,λj y R l C e3=>?_⟩,λy P e=>?_,I.free,I.freeC,λp Z=>?_,g ⟨oc,ZY,I.freeC x c t⟩ f,by simpa using I.len⟩ ⟨c,f,.inr t⟩
  .exact(f.2 b<|dO<|ee (b9 e)<|I.ok.cab x c Rl t).trans<|I.base.keep b o e n G B
  .obtain⟨sl,l⟩:=I.base.slot b o e n G B
   exact⟨sl,(f.2 b<|dO<|ee (b9 e)<|I.ok.cab x c Rl t).trans l⟩
  .obtain⟨W,l⟩:=I.base.there b o e B
   exact⟨W,(f.2 b<|dO<|ee (b9 e)<|I.ok.cab x c Rl t).trans l⟩
  .by_cases hj:j=i
   .subst hj
    rw[K]at l;cases l;rw[ib F]at C;cases C;exact⟨u,r,.inr ⟨.inl D,c,t,ZX⟩⟩
   .rw[ic<|ew hj]at C
    obtain⟨S,T,q⟩:=hl j y R l C e3;refine⟨S,T,?_⟩;rcases q with q|⟨k,P,e,z'⟩
    .exact .inl q
    .refine .inr ⟨k,P,e,z'.sameBut f ?_⟩
     rintro rfl
     exact hj<|mS hN l<|I.ok.inj _ _ _ e t▸K
  .by_cases hcc:P=c
   .subst hcc;exact⟨_,ZX⟩
   .obtain⟨w2,z2⟩:=I.cell y P e
    exact⟨w2,z2.sameBut f hcc⟩
  .obtain⟨e,n,ne,nf,d⟩:=I.pin p Z
   refine⟨(f.2 p.1 ?_).trans e,n,ne,nf,d⟩;intro q;rw[q,ZY]at e;have q':oc=p.2:=mO.inj e;exact d L (by rw[<- q'];exact WL)
def jG{M:vk}{A:dA}{E:ar->ag->Prop}{i:Nat}{x:Str}{v:V}{u:ar}{Q:Unit->ag->Prop}(I:Inv X aa σ H s)(d:X.N.Nodup)(b:X.N[i]?=U x)(a:Loc X.env.scope x)(r:RelV v u)
  (h:∀s',Inv X aa (σ.set i<|U v) H s'->Q () s') (c:X.fn x=O\/X.env.scope.names.lookup x=U .local:=by first|exact .inl J|exact .inr J|assumption):cv M A (storeName X.env x u) Q E s:=
 pN I d b a r (λs' e _=>h s' e) c
def Inv.Cy{s':ag}{ch:BM}(I:Inv X aa σ H s)(d:s'.os=s.os)(u:Un (jF X.stack) ch H H' s.heap s'.heap)(bj:ja X.prog X.w H' s'.heap)(f:kl s'.gens)
  (g:∀b∈ch,(b∈X.ex\/X.s₀.heap.objs.size<=b)/\b≠X.env.locals/\(∀x c,X.env.cells.lookup x=U c->c≠b)/\∀p∈X.pn++aa,p.1≠b):Inv X aa σ H' s':=by
 obtain⟨h',g',d',t',a⟩:=s';have e:a=s.os:=d;subst e;exact I.call (g':=g') (t':=t') (d':=d') u bj f g
end
abbrev XK:=ar->Option bp->Hp->Prop
abbrev St:=List<|Option V
abbrev VK:=V->Hp->Prop
abbrev TE:=St->Hp->VK->Prop
abbrev TT:=St->Hp->(Bool->Hp->Prop)->Prop
abbrev TA:=St->Hp->(List V->Hp->Prop)->Prop
structure Ends where
 nx:St->Hp->Prop
 rt:VK
 bk:St->Hp->Prop:=λ_ _=>False
 ct:St->Hp->Prop:=λ_ _=>False
abbrev TS:=Ends->St->Hp->Prop
def EP(X:Cx)(aa:dE)(a:St)(Q:VK)(u:ar)(s':ag):Prop:=∃v H',Inv X aa a H' s'/\RelV v u/\Q v H'
def TP(X:Cx)(aa:dE)(a:St)(Q:Bool->Hp->Prop)(b:Bool)(s':ag):Prop:=∃H',Inv X aa a H' s'/\Q b H'
def AP(X:Cx)(aa:dE)(b:St)(Q:List V->Hp->Prop)(us:B2)(s':ag):Prop:=∃a H',Inv X aa b H' s'/\Vals a us/\Q a H'
def SP(X:Cx)(aa:dE)(D:Ends)(f:Flow)(s':ag):Prop:=
 match f with
 |.next=>∃a H',Inv X aa a H' s'/\D.nx a H'
 |.brk=>∃a H',Inv X aa a H' s'/\D.bk a H'
 |.cont=>∃a H',Inv X aa a H' s'/\D.ct a H'
 |.ret u=>∃v a H',Inv X aa a H' s'/\RelV v u/\D.rt v H'
def PE(X:Cx)(e:cb)(t:TE):Prop:=
 ∀(aa:dE)(s:ag)(a:St)(H:Hp)(Q:VK),Inv X aa a H s->t a H Q->cv (b8 X.prog X.w) X.A (e6 e X.env) (EP X aa a Q) X.xe s
def PT(X:Cx)(e:cb)(t:TT):Prop:=
 ∀(aa:dE)(s:ag)(a:St)(H:Hp)(Q:Bool->Hp->Prop),Inv X aa a H s->t a H Q->cv (b8 X.prog X.w) X.A (FX e X.env<|e6 e X.env) (TP X aa a Q) X.xe s
def PW(X:Cx)(e:cb)(t:TT):Prop:=
 ∀(b:Sem ar)(aa:dE)(s:ag)(a:St)(H:Hp)(Q:Bool->Hp->Prop),Inv X aa a H s->t a H Q->cv (b8 X.prog X.w) X.A (FX e X.env b) (TP X aa a Q) X.xe s
def PW.pt{X:Cx}{e:cb}{t:TT}(h:PW X e t):PT X e t:=h _
def PA(X:Cx)(R:Bz)(t:TA):Prop:=
 ∀(pos:Pos)(aa:dE)(s:ag)(a:St)(H:Hp)(Q:List V->Hp->Prop),Inv X aa a H s->t a H Q->cv (b8 X.prog X.w) X.A (spliced<|hB pos<|cw R X.env) (AP X aa a Q) X.xe s
def PS(X:Cx)(st:gL)(t:TS):Prop:=
 ∀(aa:dE)(s:ag)(a:St)(H:Hp)(D:Ends),Inv X aa a H s->t D a H->cv (b8 X.prog X.w) X.A (exec st X.env) (SP X aa D) X.xe s
def gz(X:Cx)(st:Fh)(t:TS):Prop:=
 ∀(aa:dE)(s:ag)(a:St)(H:Hp)(D:Ends),Inv X aa a H s->t D a H->cv (b8 X.prog X.w) X.A (execs st X.env) (SP X aa D) X.xe s
def cK{α:Type}{t:Sem α}{Q b:α->ag->Prop}{M:vk}{A:dA}{E:ar->ag->Prop}{s:ag}(h:cv M A t Q E s)(c:∀a s,Q a s->b a s):cv M A t b E s:=et h c λ_ _ x=>x
section
variable{X:Cx}
def vH(i:Nat):TE:=λa H Q=>∃v,a[i]?=U (U v)/\Q v H
def tC(v:V):TE:=λ_ H Q=>Q v H
def bZ{i:Nat}{x:Str}{pos:Pos}(n:X.N[i]?=U x)(g:lR X.env.scope x)(hd:aV x:=by decide)(o:fW x:=by decide):PE X (.Name x pos)<|vH i:=by
 intro aa s f H Q I h;obtain⟨v,e,h⟩:=h;obtain⟨m,j,hl⟩:=I.loc;obtain⟨u,r,l⟩:=hl i x v n e g;have fin:EP X aa f Q u s:=⟨v,H,I,r,h⟩;rcases l with⟨b,k⟩|⟨b,c,d,a⟩
 .exact wpAny_Name (wpAny_loadName_local I.ok.kind b j k fin) hd
 .rcases b with b|b
  .exact wpAny_Name (wpAny_loadName_cell I.ok.kind b d a fin) hd
  .exact wpAny_Name (wpAny_loadName_free I.ok.kind b d a fin o) hd
def Cz{i j pos}:PE X (.Constant (.int i) j pos)<|tC<|.int i:=λ_ _ _ H _ I h=>wpAny_Constant_int ⟨.int i,H,I.tok _,⟨_,J⟩,h⟩
def Lm{b j pos}:PE X (.Constant (.bool b) j pos)<|tC<|.bl b:=λ_ _ _ H _ I h=>Constant_bool ⟨.bl b,H,I,J,h⟩
def MQ{j pos}:PE X (.Constant .none j pos)<|tC .non:=λ_ _ _ H _ I h=>Constant_none ⟨.non,H,I,J,h⟩
def MR{x j pos}:PE X (.Constant (.str x) j pos)<|tC<|.str x:=λ_ _ _ H _ I h=>z4 ⟨.str x,H,I.tok _,⟨_,J⟩,h⟩
def Gl(X:Cx)(x:Str):Prop:=X.env.kindOf x=U .globalImplicit
def eO{E:ar->ag->Prop}{aa:dE}{s:ag}{a:St}{H:Hp}{x:Str}{u:ar}{pos:Pos}{Q:ar->ag->Prop}(I:Inv X aa a H s)(c:Gl X x)(b:X.mg x=U u)(h:Q u s)
  (hd:aV x:=by decide):cv (b8 X.prog X.w) X.A (e6 (.Name x pos) X.env) Q E s:=
 tJ I.ok.kind c (Calls.loadGlobal_global (by rw[I.ok.glob];exact I.mod.glob.keeps I.bk) b h) hd
def iz{E:ar->ag->Prop}{aa:dE}{s:ag}{a:St}{H:Hp}{x:Str}{u:ar}{pos:Pos}{Q:ar->ag->Prop}(I:Inv X aa a H s)(e:Gl X x)(d:X.mg x=Y)(b:hH x=U u)(h:Q u s)
  (c:x ≠ "__name__" := by decide) (hd:aV x:=by decide):cv (b8 X.prog X.w) X.A (e6 (.Name x pos) X.env) Q E s:=by
 obtain⟨mb,g,f⟩:=I.mod.blt;exact tJ I.ok.kind e (Calls.loadGlobal_builtin (by rw[I.ok.glob];exact I.mod.glob.keeps I.bk) d (by rw[I.ok.blt];exact g.keeps I.bk) ((f x c).trans b) h) hd
def lT{x:Str}{v:V}{u:ar}{pos:Pos}(b:Gl X x)(a:X.mg x=U u)(r:RelV v u)(hd:aV x:=by decide):PE X (.Name x pos)<|tC v:=
 λ_ _ _ H _ I h=>eO I b a ⟨v,H,I,r,h⟩ hd
def xX{x:Str}{v:V}{u:ar}{pos:Pos}(d:Gl X x)(c:X.mg x=Y)(a:hH x=U u)(r:RelV v u)(b:x ≠ "__name__" := by decide)(hd:aV x:=by decide):PE X (.Name x pos)<|tC v:=
 λ_ _ _ H _ I h=>iz I d c a ⟨v,H,I,r,h⟩ b hd
variable{a:cb}{ta n:TE}
def PC(X:Cx)(op:kA)(a b:cb)(t:TE):Prop:=
 ∀(aa:dE)(s:ag)(e:St)(H:Hp)(Q:VK),Inv X aa e H s->t e H Q ->
  cv (b8 X.prog X.w) X.A (e6 a X.env) (λv d=>cv (b8 X.prog X.w) X.A (e6 b X.env) (λu c=>cv (b8 X.prog X.w) X.A (eh op v u) (EP X aa e Q) X.xe c) X.xe d) X.xe s
def tB(t:TE):TT:=λa H Q=>t a H λx H1=>∃c,x=.bl c/\Q c H1
variable{tA t:TT}{rest:Bz}
def WM(t u:TT):TT:=λa H Q=>t a H λc H1=>if c=O then u a H1 Q else Q Zn H1
def ĝ(t u:TT):TT:=λa H Q=>t a H λc H1=>if c=O then Q O H1 else u a H1 Q
def WN(t:TT):TT:=λa H Q=>t a H λc H1=>Q (!c) H1
def Hb(d:PT X a tA):PW X (.BoolOp .And [a] pos) tA:=by
 intro f aa s b H Q I h;refine isTrue_and<|cK (d aa s b H Q I h) λc g e=>?_;cases c with
 |true=>exact isTrue_and_nil e
 |false=>exact e
def MS(d:PT X a tA):PW X (.BoolOp .Or [a] pos) tA:=by
 intro f aa s b H Q I h;refine isTrue_or<|cK (d aa s b H Q I h) λc g e=>?_;cases c with
 |false=>exact isTrue_or_nil e
 |true=>exact e
def MT(k:PT X a tA)(j:PW X (.BoolOp .And (b::rest) pos) t):PW X (.BoolOp .And (a::b::rest) pos)<|WM tA t:=by
 intro g aa s d H Q I h;refine isTrue_and<|cK (k aa s d H _ I h) λc i f=>?_;obtain⟨H1,e,q1⟩:=f;cases c with
 |true=>exact j g aa i d H1 Q e q1
 |false=>exact⟨H1,e,q1⟩
def Rm(k:PT X a tA)(j:PW X (.BoolOp .Or (b::rest) pos) t):PW X (.BoolOp .Or (a::b::rest) pos)<|ĝ tA t:=by
 intro g aa s d H Q I h;refine isTrue_or<|cK (k aa s d H _ I h) λc i f=>?_;obtain⟨H1,e,q1⟩:=f;cases c with
 |true=>exact⟨H1,e,q1⟩
 |false=>exact j g aa i d H1 Q e q1
def MU(d:PT X a tA):PT X (.UnaryOp .Not a pos)<|WN tA:=by
 intro aa s b H Q I h;exact isTrue_not<|d aa s b H (λc H1=>Q (!c) H1) I h
def Rn(ta n:TE):TE:=λa H Q=>ta a H λx H1=>∃c,x=.bl c/\if c=O then n a H1 Q else Q (.bl Zn) H1
def WO(ta n:TE):TE:=λa H Q=>ta a H λx H1=>∃c,x=.bl c/\if c=O then Q (.bl O) H1 else n a H1 Q
def Ro(ta:TE):TE:=λa H Q=>ta a H λx H1=>∃c,x=.bl c/\Q (.bl<|!c) H1
def MV{op}{t:TE}(h:PE X a t):PE X (.BoolOp op [a] pos) t:=λaa s b H Q I c=>BoolOp_one<|h aa s b H Q I c
def MW(k:PE X a ta)(j:PE X (.BoolOp .And (b::rest) pos) n):PE X (.BoolOp .And (a::b::rest) pos)<|Rn ta n:=by
 intro aa s d H Q I h;refine BoolOp_and<|cK (k aa s d H _ I h) λv g f=>?_;obtain⟨x,H1,e,i,q1⟩:=f;obtain⟨c,rfl,q1⟩:=q1;cases i;refine ik ?_;cases c with
 |true=>exact j aa g d H1 Q e q1
 |false=>exact⟨.bl Zn,H1,e,J,q1⟩
def Rp(k:PE X a ta)(j:PE X (.BoolOp .Or (b::rest) pos) n):PE X (.BoolOp .Or (a::b::rest) pos)<|WO ta n:=by
 intro aa s d H Q I h;refine BoolOp_or<|cK (k aa s d H _ I h) λv g f=>?_;obtain⟨x,H1,e,i,q1⟩:=f;obtain⟨c,rfl,q1⟩:=q1;cases i;refine ik ?_;cases c with
 |false=>exact j aa g d H1 Q e q1
 |true=>exact⟨.bl O,H1,e,J,q1⟩
def MX(f:PE X a ta):PE X (.UnaryOp .Not a pos)<|Ro ta:=by
 intro aa s b H Q I h;refine UnaryOp_<|cK (f aa s b H _ I h) λv i d=>?_;obtain⟨x,H1,g,e,q1⟩:=d;obtain⟨c,rfl,q1⟩:=q1;cases e;exact not_of<|ik ⟨.bl<|!c,H1,g,J,q1⟩
def Ğ(t:TT)(ta n:TE):TE:=λa H Q=>t a H λc H1=>if c=O then ta a H1 Q else n a H1 Q
def CA{c:cb}(j:PT X c tA)(l:PE X a ta)(k:PE X b n):PE X (.IfExp c a b pos)<|Ğ tA ta n:=by
 intro aa s e H Q I h;refine wpAny_IfExp<|cK (j aa s e H _ I h) λd f i=>?_;obtain⟨H1,g,q1⟩:=i;cases d with
 |true=>exact l aa f e H1 Q g q1
 |false=>exact k aa f e H1 Q g q1
end
def dM(K:a_)(H:Hp)(a:bp)(xs:List V):Prop:=
 Rd H a (.lst xs) \/
  ∃(o:Obj)(aG:Array ar)(n:Nat),K.lookup a=U o/\o.cls=.type "list" /\ o.dict=Y/\o.data=.seq aG n/\aG.size<=cq/\Vals xs aG.toList
def k7(K:a_)(H:Hp)(a:bp)(xs:List V):Prop:=
 Rd H a (.tup xs) \/
  ∃(o:Obj)(aG:Array ar)(n:Nat),K.lookup a=U o/\o.cls=.type "tuple" /\ o.data=.seq aG n/\aG.size<=cq/\Vals xs aG.toList
def WQ:ar->Option V
 |.none=>U .non
 |.bool b=>U<|.bl b
 |.int i _=>U<|.int i
 |.str x _=>U<|.str x
 |.bytes b _=>U<|.byt b
 |.float b _=>U<|.flt b
 |.ref a=>U<|.ref a
 |.type n=>U<|.ty n
 |_=>Y
def RelV.abs{x:V}{u:ar}(r:RelV x u):WQ u=U x:=by
 cases x with
 |non=>cases r;rfl
 |bl _=>cases r;rfl
 |int _=>obtain⟨t,rfl⟩:=r;rfl
 |str _=>obtain⟨t,rfl⟩:=r;rfl
 |byt _=>obtain⟨t,rfl⟩:=r;rfl
 |flt _=>obtain⟨t,rfl⟩:=r;rfl
 |ref _=>cases r;rfl
 |ty _=>cases r;rfl
theorem RelV.inj{x y:V}{u:ar}(r:RelV x u)(q:RelV y u):x=y:=mO.inj<|r.abs.symm.trans q.abs
theorem Vals.inj:∀{xs ys:List V}{us:B2},Vals xs us->Vals ys us->xs=ys
 |_,_,_,.nil,.nil=>J
 |_,_,_,.cons r t,.cons b a=>by rw[r.inj b,Vals.inj t a]
section
variable{X:Cx}{t:St}{xs ys:List V}
def dM.of{K:a_}(h:H a=U (.lst xs)):dM K H a xs:=.inl<|.inl h
def k7.of{K:a_}(h:H a=U (.tup xs)):k7 K H a xs:=.inl<|.inl h
def Inv.list(I:Inv X aa t H s)(h:dM X.K H a xs):∃aG:B2,Vals xs aG/\PlainL s.heap a aG.toArray/\xs.length<=cq:=by
 rcases h with h|⟨o,aG,n,c,d,hd,b,f,r⟩
 .obtain⟨z,aG,n,r,e⟩:=h.ok I.bj
  exact⟨aG,r,⟨_,n,e,J,J,J⟩,z⟩
 .refine⟨aG.toList,r,⟨o,n,I.gQ a o c,d,hd,by simpa using b⟩,?_⟩
  have e:=r.length;simp only[fC]at e
  lia
def Inv.tuple(I:Inv X aa t H s)(h:k7 X.K H a xs):∃aG:B2,Vals xs aG/\IsTup s.heap a aG.toArray/\xs.length<=cq:=by
 rcases h with h|⟨o,aG,n,c,d,b,f,r⟩
 .obtain⟨z,aG,r,p⟩:=h.ok I.bj
  exact⟨aG,r,p,z⟩
 .refine⟨aG.toList,r,⟨o,I.gQ a o c,d,n,by simpa using b⟩,?_⟩
  have e:=r.length;simp only[fC]at e
  lia
def Inv.CF(I:Inv X aa t H s)(h:dM X.K H a xs)(h':dM X.K H a ys):xs=ys:=by
 obtain⟨aG,r,⟨o,n,e,_,_,d⟩,_⟩:=I.list h;obtain⟨b,g,⟨i,j,c,_,_,f⟩,_⟩:=I.list h';rw[e]at c;cases c;rw[d]at f;injection f with d1 _
 have:aG=b:=by simpa using eD rr d1
 subst this;exact r.inj g
def Inv.pP(I:Inv X aa t H s)(h:k7 X.K H a xs)(h':k7 X.K H a ys):xs=ys:=by
 obtain⟨aG,r,⟨o,e,_,n,d⟩,_⟩:=I.tuple h;obtain⟨b,g,⟨i,c,_,j,f⟩,_⟩:=I.tuple h';rw[e]at c;cases c;rw[d]at f;injection f with d1 _
 have:aG=b:=by simpa using eD rr d1
 subst this;exact r.inj g
end
abbrev Cx.lJ(X:Cx)(E:ar->ag->Prop):Cx:={X with xe:=E}
abbrev Cx.ph(X:Cx):Cx:=X.lJ λ_ _=>False
theorem Cx.Ok.lJ{X:Cx}(ok:X.Ok)(E:ar->ag->Prop):(X.lJ E).Ok:=
 ⟨ok.mod,ok.kind,ok.glob,ok.blt,ok.above,ok.inj,ok.has,ok.cab,ok.hd,ok.frames,ok.stk,ok.exf,ok.bs,ok.bsz,ok.noex,ok.exfs,ok.jb,ok.frf⟩
def Cx.Ok.gp{X:Cx}{E:ar->ag->Prop}(ok:(X.lJ E).Ok):X.Ok:=
 ⟨ok.mod,ok.kind,ok.glob,ok.blt,ok.above,ok.inj,ok.has,ok.cab,ok.hd,ok.frames,ok.stk,ok.exf,ok.bs,ok.bsz,ok.noex,ok.exfs,ok.jb,ok.frf⟩
section
variable{X:Cx}{d:St}
theorem Inv.lJ(I:Inv X aa d H s)(E:ar->ag->Prop):Inv (X.lJ E) aa d H s:=⟨I.ok.lJ E,I.os,I.bare,I.base,I.loc,I.cell,I.free,I.freeC,I.pin,I.bj,I.len⟩
theorem Inv.gp(I:Inv (X.lJ E) aa d H s):Inv X aa d H s:=⟨I.ok.gp,I.os,I.bare,I.base,I.loc,I.cell,I.free,I.freeC,I.pin,I.bj,I.len⟩
theorem SP.gp{D:Ends}{f:Flow}{s':ag}(h:SP (X.lJ E) aa D f s'):SP X aa D f s':=by
 cases f with
 |next=>obtain⟨a,H',I,q⟩:=h;exact⟨a,H',I.gp,q⟩
 |brk=>obtain⟨a,H',I,q⟩:=h;exact⟨a,H',I.gp,q⟩
 |cont=>obtain⟨a,H',I,q⟩:=h;exact⟨a,H',I.gp,q⟩
 |ret u=>obtain⟨v,a,H',I,r,q⟩:=h;exact⟨v,a,H',I.gp,r,q⟩
theorem gz.ph{st:Fh}{t:TS}(h:gz X.ph st t):gz X st t:=λaa s d H D I a=>
 et (h aa s d H D (I.lJ _) a) (λ_ _ q=>q.gp) λ_ _ z=>ey z
end
section
variable{X:Cx}{st:gL}{rest:Fh}{t u:TS}{j:TE}
def CG:TS:=λD a H=>D.nx a H
def Rq(t u:TS):TS:=λD a H=>t {D with nx:=u D} a H
def lU:gz X [] CG:=λ_ _ a H _ I h=>hX ⟨a,H,I,h⟩
def gC(e:PS X st t)(d:gz X rest u):gz X (st::rest)<|Rq t u:=by
 intro aa s b H D I h;refine kS<|cK (e aa s b H {D with nx:=u D} I h) λf c q=>?_
 cases f with
 |next=>
  obtain⟨a,H',g,q⟩:=q;exact d aa c a H' D g q
 |ret v=>exact q
 |brk=>exact q
 |cont=>exact q
def iP(b:PS X st t):gz X [st] t:=by
 intro aa s a H D I h;refine kS<|cK (b aa s a H D I h) λf c q=>?_;cases f with
 |next=>exact hX q
 |ret v=>exact q
 |brk=>exact q
 |cont=>exact q
def Hc:PS X (.Pass pos) CG:=λ_ _ a H _ I h=>wpAny_Pass ⟨a,H,I,h⟩
def Inv.quiet{aa:dE}{a:St}{H:Hp}{s:ag}(I:Inv X aa a H s):interactive X.env=Zn:=by simp[interactive,I.ok.kind]
def Rr(j:TE):TS:=λD a H=>j a H λ_ H1=>D.nx a H1
def lV(he:PE X e j)(b:eR e Y pos.line X.env=pure Zn:=by rfl):PS X (.Expr e pos)<|Rr j:=by
 intro aa s a H D I h;exact wpAny_Expr_any (cK (he aa s a H _ I h)<|by rintro v d ⟨x,H1,c,f,q1⟩;exact⟨a,H1,c,q1⟩) I.quiet b
def WR(j:TE):TS:=λD a H=>j a H D.rt
def CH(he:PE X e j):PS X (.Return (U e) pos)<|WR j:=by
 intro aa s a H D I h;exact wpAny_Return_some<|cK (he aa s a H _ I h)<|by rintro v d ⟨x,H1,c,b,q1⟩;exact⟨x,a,H1,c,b,q1⟩
def Rt:TS:=λD _ H=>D.rt .non H
def Hd:PS X (.Return Y pos) Rt:=λ_ _ a H _ I h=>wpAny_Return_none ⟨.non,a,H,I,J,h⟩
def WS(c:TT)(t u:TS):TS:=λD a H=>c a H λb H1=>if b=O then t D a H1 else u D a H1
def CI{c:cb}{a b:Fh}{tc:TT}(j:PT X c tc)(l:gz X a t)(k:gz X b u):PS X (.If c a b pos)<|WS tc t u:=by
 intro aa s e H D I h;refine wpAny_If<|cK (j aa s e H _ I h) λd f i=>?_;obtain⟨H1,g,q1⟩:=i;cases d with
 |true=>exact l aa f e H1 D g q1
 |false=>exact k aa f e H1 D g q1
end
abbrev TG:=V->St->Hp->(St->Hp->Prop)->Prop
abbrev Ln:=List V->St->Hp->(St->Hp->Prop)->Prop
def PG(X:Cx)(a:cb)(t:TG):Prop:=
 ∀(aa:dE)(s:ag)(c:St)(H:Hp)(v:V)(u:ar)(Q:St->Hp->Prop),Inv X aa c H s->RelV v u->t v c H Q ->
  cv (b8 X.prog X.w) X.A (u6 a X.env u) (λ_ d=>∃b H',Inv X aa b H' d/\Q b H') X.xe s
def Ru(X:Cx)(ts:Bz)(t:Ln):Prop:=
 ∀(aa:dE)(s:ag)(b:St)(H:Hp)(c:List V)(d:B2)(Q:St->Hp->Prop),Inv X aa b H s->Vals c d->t c b H Q ->
  cv (b8 X.prog X.w) X.A (assignInOrder ((hU ts X.env).map (·.2)) d) (λ_ e=>∃a H',Inv X aa a H' e/\Q a H') X.xe s
abbrev VX:=V->V->Hp->VK->Prop
def ZZ(X:Cx)(op:rg)(t:VX):Prop:=
 ∀(aa:dE)(s:ag)(a:St)(H:Hp)(x y:V)(v u:ar)(Q:VK),Inv X aa a H s->RelV x v->RelV y u->t x y H Q ->
  cv (b8 X.prog X.w) X.A (inplaceOp op v u) (EP X aa a Q) X.xe s
section
variable{X:Cx}
def sU(i:Nat):TG:=λv a H Q=>Q (a.set i<|U v) H
def qO{i:Nat}{x:Str}(d:X.N.Nodup)(b:X.N[i]?=U x)(a:Loc X.env.scope x)(c:X.fn x=O\/X.env.scope.names.lookup x=U .local:=by first|exact .inl J|exact .inr J|assumption):PG X (.Name x pos)<|sU i:=by
 intro aa s f H v u Q I r h;exact wpAny_assign_Name<|jG I d b a r (λg e=>⟨_,H,e,h⟩) c
def Rv:Ln:=λb a H Q=>b=[]/\Q a H
def Lo(t:TG)(u:Ln):Ln:=λc b H Q=>∃v r,c=v::r/\t v b H λa H'=>u r a H' Q
def Hf:Ru X [] Rv:=by
 intro aa s a H b c Q I r h;obtain⟨e,h⟩:=h;subst e;cases r;exact assignInOrder_nil ⟨a,H,I,h⟩
def CJ{e:cb}{R:Bz}{t:TG}{u:Ln}(j:PG X e t)(i:Ru X R u)
  (g:(hU (e::R) X.env).map (·.2)=u6 e X.env::(hU R X.env).map (·.2):=by rfl):Ru X (e::R)<|Lo t u:=by
 intro aa s b H m o Q I r h;obtain⟨v,n,k,h⟩:=h;subst k;cases r with
 |cons r f=>
  rw[g];refine assignInOrder_cons<|cK (j aa s b H _ _ _ I r h) λ_ d c=>?_;obtain⟨a,H1,l,q1⟩:=c;exact i aa d a H1 _ _ Q l f q1
def MY(K:a_)(n:Nat)(t:Ln):TG:=λv b H Q=>∃a xs,v=.ref a/\k7 K H a xs/\xs.length=n/\t xs b H Q
def CK{R:Bz}{k:Nat}{t:Ln}{n:Nat}(m:X.calm=O)(h:Ru X R t)
  (l:(hU R X.env).length=n:=by rfl) (w:(hU R X.env).findIdx? (·.1)=Y:=by rfl):PG X (.Tuple R k pos)<|MY X.K n t:=by
 intro aa s d H v u Q I r c;obtain⟨a,xs,p,j,hl,c⟩:=c;subst p;cases r;obtain⟨aG,f,i,x⟩:=I.tuple j;refine assign_Tuple_tuple (I.ok.hd m) i (by simp[l,<- hl,f.length]) w λh' g=>?_
 have q:Inv X aa d H {s with heap:=h'}:=I.kept (t':=s.toks) λb o e=>g b o (dO<|b9 e) e
 exact h aa _ d H xs _ Q q (by simpa using f) c
def Rx(b:TE)(g:TG):TS:=λD a H=>b a H λx H1=>g x a H1 D.nx
def MZ{tg e:cb}{b:TE}{g:TG}(he:PE X e b)(k:PG X tg g)(j:swapsWithSole [tg] e pos.line X.env=pure Zn:=by rfl)(i:so [tg] e X.env=pure Y:=by rfl)
  (l:(hU [tg] X.env).map (·.2)=[u6 tg X.env]:=by rfl):PS X (.Assign [tg] e pos)<|Rx b g:=by
 intro aa s a H D I h;refine wpAny_Assign_stores (cK (he aa s a H _ I h) λv d c=>?_) j i;obtain⟨x,H1,m,f,q1⟩:=c;rw[l];exact cK (k aa d a H1 x v _ m f q1) λ_ s2 q=>q
def iA{i:Nat}{x:Str}{e:cb}{a:TE}{b:Pos}(m:X.N.Nodup)(k:X.N[i]?=U x)(g:Loc X.env.scope x)(he:PE X e a)(j:eR e (U<|.Name x b) pos.line X.env=pure Zn:=by rfl)(l:X.fn x=O\/X.env.scope.names.lookup x=U .local:=by first|exact .inl J|exact .inr J|assumption) :
  PS X (.Assign [.Name x b] e pos)<|Rx a<|sU i:=by
 intro aa s c H D I h;refine wpAny_Assign_Name (cK (he aa s c H _ I h) λv p d=>?_) j;obtain⟨y,H1,o,f,q1⟩:=d;exact jG o m k g f (λs2 n=>⟨_,H1,n,q1⟩) l
def WU(i:Nat)(c:TE)(b:VX):TS:=λD a H=>∃x,a[i]?=U (U x)/\c a H λy H1=>b x y H1 λz d=>D.nx (a.set i<|U z) d
def M0{i:Nat}{x:Str}{e:cb}{p:TE}{op:rg}{o:VX}{Q:Pos}(M:X.N.Nodup)(q:X.N[i]?=U x)(j:Loc X.env.scope x)(he:PE X e p)(E:ZZ X op o)(K:X.fn x=O\/X.env.scope.names.lookup x=U .local:=by first|exact .inl J|exact .inr J|assumption) :
  PS X (.AugAssign (.Name x Q) op e pos)<|WU i p o:=by
 intro aa s n H D I h;obtain⟨v,P,h⟩:=h;obtain⟨m,F,hl⟩:=I.loc;have R:lR X.env.scope x:=by rcases j with k|k;exact .inl k;exact .inr<|.inl k
 obtain⟨u,r,l⟩:=hl i x v q P R;refine wpAny_AugAssign_Name ?_;have go:cv (b8 X.prog X.w) X.A (e6 e X.env) (λw f=>cv (b8 X.prog X.w) X.A (inplaceOp op u w) (λr d=>cv (b8 X.prog X.w) X.A (storeName X.env x r) (λ_=>SP X aa D .next) X.xe d) X.xe f) X.xe s:=by
  refine cK (he aa s n H _ I h) λw t g=>?_;obtain⟨y,H1,V,C,q1⟩:=g;refine cK (E aa t n H1 v y u w _ V r C q1) λz s2 g=>?_;obtain⟨Z,W,T,B,q2⟩:=g;exact jG T M q j B (λs3 S=>⟨_,W,S,q2⟩) K
 rcases l with⟨a,G⟩|⟨a,c,L,b⟩
 .exact wpAny_loadName_local I.ok.kind a F G go
 .rcases a with a|a
  .exact wpAny_loadName_cell I.ok.kind a L b go
  .rcases j with k|k
   .have:X.env.scope.names.lookup x=U .free:=a
    rw[k]at this;cases this
   .have:X.env.scope.names.lookup x=U .free:=a
    rw[k]at this;cases this
def ğ(f:Int->Int->Int):VX:=λx y H Q=>∃i j,x=.int i/\y=.int j/\Q (.int<|f i j) H
def M1:ZZ X .Add<|ğ λi j=>i+j:=by
 intro aa s e H x y v u Q I b a h;obtain⟨i,j,d,c,q⟩:=h;subst d;subst c;obtain⟨t,rfl⟩:=b;obtain⟨f,rfl⟩:=a;exact iadd_int ⟨.int _,H,I.tok _,⟨_,J⟩,q⟩
end
section
variable{X:Cx}
def M3(c:TT)(f:TS):TS:=λD a H=>∃W:Nat->St->Hp->Prop,(∃m,W m a H)/\∀m a H,W m a H ->
 c a H λb H1=>if b=O then ∃N:St->Hp->Prop,(∀d H',N d H'->∃e,e<m/\W e d H')/\f {D with nx:=N,ct:=N,bk:=D.nx} a H1 else D.nx a H1
def sV{c:cb}{e:Fh}{tc:TT}{q:TS}(r:lx (b8 X.prog X.w) X.A X.env X.xe)(E:PT X c tc)(F:gz X e q):PS X (.While c e [] pos)<|M3 tc q:=by
 intro aa s y H D I h;obtain⟨W,⟨m0,w0⟩,i⟩:=h;refine wpAny_While<|codeAny_whileLoop (λn C=>∃g H',Inv X aa g H' C/\W n g H') ?_ m0 ⟨y,H,I,w0⟩
 rintro n B ⟨d,H1,G,w1⟩
 refine hW r<|cK (E aa B d H1 _ G<|i n d H1 w1) λb s2 z=>?_;obtain⟨x,u,q2⟩:=z;cases b with
 |true=>
  obtain⟨N,t,q2⟩:=q2;rw[b7 J];refine hW r<|cK (F aa s2 d x _ u q2) λf K k=>?_;cases f with
  |next=>
   obtain⟨a,j,p,l⟩:=k;obtain⟨m,o,w3⟩:=t a j l;exact⟨m,o,a,j,p,w3⟩
  |cont=>
   obtain⟨a,j,p,l⟩:=k;obtain⟨m,o,w3⟩:=t a j l;exact⟨m,o,a,j,p,w3⟩
  |brk=>exact k
  |ret v=>exact k
 |false=>
  rw[b0 ia];exact hX ⟨d,x,u,q2⟩
end
structure It where
 go:Nat->Hp->Prop
 yld:Nat->Hp->V->Hp->Prop
 stop:Nat->Hp->Prop
def mT(X:Cx)(aa:dE)(H:Hp)(b:bp):Prop:=
 H b=Y/\b≠X.env.locals/\b∉X.fs/\(b∈X.ex\/X.s₀.heap.objs.size<=b)/\(∀x c,X.env.cells.lookup x=U c->c≠b)/\∀p∈X.pn++aa,p.1≠b
def Inv.vI{X:Cx}{aa:dE}{d:St}{H H':Hp}{s:ag}{b:bp}(I:Inv X aa d H s)(a:s.heap.objs.size<=b)(g:H' b=Y):mT X aa H' b:=by
 refine⟨g,As<|ee I.lt a,I.WI a,.inr<|eT I.sz a,λx c e z=>?_,λp f z=>?_⟩
 .obtain⟨v,q⟩:=I.cell x c e
  exact dk (ee q.lt<|by rw[z];exact a)<|sN _
 .exact dk (ee (b9 (I.pin p f).1)<|by rw[z];exact a)<|sN _
structure Turn(P:cW)(w:c4)(K:a_)(tg:cb)(a:It)(fp:BM)(it:bp)(tn:Nat->ed->Prop):Prop where
 mem:it∈fp
 obj:∀i h,tn i h->∀b∈fp,∃o,h.get? b=U o/\∀v,o.data≠.cell v
 keep:∀i h h',tn i h->(∀b∈fp,∀o,h.get? b=U o->h'.get? b=U o)->tn i h'
 item:∀(X:Cx),X.prog=P->X.w=w->X.K=K->X.calm=O->∀(i:Nat)(aa:dE)(s:ag)(σ:St)(H:Hp)(E:ar->ag->Prop),Inv X aa σ H s->(∀b∈fp,mT X aa H b)->tn i s.heap->a.go i H ->
  cv (b8 P w) X.A (pyNext<|.ref it) (λr s1=>∃u,r=U u /\
   cv (b8 P w) X.A (pa tg (.ref it) u) (λ_ s2=>∃x H',Inv X aa σ H' s2/\RelV x u/\a.yld i H x H'/\tn (i+1) s2.heap/\∀b∈fp,H' b=Y) E s1) E s
 done:∀(X:Cx),X.prog=P->X.w=w->X.K=K->X.calm=O->∀(i:Nat)(aa:dE)(s:ag)(σ:St)(H:Hp)(E:ar->ag->Prop),Inv X aa σ H s->(∀b∈fp,mT X aa H b)->tn i s.heap->a.stop i H ->
  cv (b8 P w) X.A (pyNext<|.ref it) (λr s1=>r=Y/\Inv X aa σ H s1) E s
 self:∀(A:dA)(i:Nat)(s:ag)(Q:ar->ag->Prop)(E:ar->ag->Prop),tn i s.heap->Q (.ref it) s->cv (b8 P w) A (pyIter<|.ref it) Q E s
abbrev TI:=St->Hp->(It->Hp->Prop)->Prop
def Z2(X:Cx)(aa:dE)(c:St)(tg:cb)(R:It->Hp->Prop)(d:ar)(s2:ag):Prop:=
 ∃(it:bp)(a:BM)(tn:Nat->ed->Prop)(e:It)(H':Hp),d=.ref it/\Inv X aa c H' s2/\Turn X.prog X.w X.K tg e a it tn/\tn 0 s2.heap/\(∀b∈a,mT X aa H' b)/\R e H'
def PI(X:Cx)(tg a:cb)(c:TI):Prop:=
 ∀(aa:dE)(s:ag)(b:St)(H:Hp)(R:It->Hp->Prop),Inv X aa b H s->c b H R ->
  cv (b8 X.prog X.w) X.A (e6 a X.env) (λv d=>cv (b8 X.prog X.w) X.A (pyIter v) (Z2 X aa b tg R) X.xe d) X.xe s
def CL{M:vk}{A:dA}{E:ar->ag->Prop}{s:ag}{tg:cb}{it:bp}{u:ar}{o:Obj}{n:String}{vs:Array ar}{Q:Unit->ag->Prop}(b:s.heap.get? it=U o)(d:o.cls=.type n)(hd:o.data=.fields vs)
  (c:["enumerate","zip","dict_itemiterator","dict_reverseitemiterator","odict_iterator","itertools.zip_longest","itertools.pairwise"].contains n=Zn) (a:Q () s):cv M A (pa tg (.ref it) u) Q E s:=by
 unfold pa;cases tg<;>first
  |exact cC a
  | (cases u<;>first
    |exact cC a
    | (refine av<|wpAny_load b ?_
       rw[d,hd];show cv M A (if(["enumerate","zip","dict_itemiterator","dict_reverseitemiterator","odict_iterator","itertools.zip_longest","itertools.pairwise"].contains n&&vs[0]? == U (oW _))=O then _ else _) Q E s
       rw[b0 (by intro h;rw[c,BY]at h;cases h)]
       exact cC a))
def VY(K:a_)(a:bp):It:=
 ⟨λi H=>∃xs x,dM K H a xs/\xs[i]?=U x,λi H x H'=>H'=H/\∀xs,dM K H a xs->xs[i]?=U x,λi H=>∃xs,dM K H a xs/\xs.length<=i⟩
def WW(K:a_)(a:bp):It:=
 ⟨λi H=>∃xs x,k7 K H a xs/\xs[i]?=U x,λi H x H'=>H'=H/\∀xs,k7 K H a xs->xs[i]?=U x,λi H=>∃xs,k7 K H a xs/\xs.length<=i⟩
def VZ(lo:Int)(n:Nat):It:=⟨λi _=>i<n,λi H x H'=>H'=H/\x=.int (lo+i),λi _=>n<=i⟩
def AA{P:cW}{w:c4}{K:a_}{tg:cb}(a it:bp):Turn P w K tg (VY K a) [it] it λi h=>h.IsListIter it a i where
 mem:=by simp
 obj:=λi h st b f=>by
  have e:b=it:=by simpa using f
  subst e;obtain⟨o,e,c,d⟩:=st;exact⟨o,e,λv z=>by rw[d]at z;cases z⟩
 keep:=λi h h' st k=>st.at λo e=>k it (by simp) o e
 item:=by
  intro X r n t L i aa s F H E I j st q;subst r n t;obtain⟨xs,x,g,m⟩:=q;obtain⟨aG,l,p,Q⟩:=I.list g;obtain⟨u,S,N⟩:=l.get m;obtain⟨D,C,T,B,A,y⟩:=j it (by simp)
  refine wpAny_pyNext_list_item st p.isList (x:=u) (by simpa using S) λh' G M=>?_
  have W:Inv X aa F H {s with heap:=h'}:=I.turned (t':=s.toks) (λb o f e=>(M.2 b f).trans e) D C B A y
  obtain⟨o,e,c,d⟩:=id G;exact⟨u,J,CL (s:={s with heap:=h'}) e c d (by decide) ⟨x,H,W,N,⟨J,λys R=>by rw[I.CF R g];exact m⟩,G,λb f=>(j b f).1⟩⟩
 done:=by
  intro X r n t L i aa s F H E I j st q;subst r n t;obtain⟨xs,g,m⟩:=q;obtain⟨aG,l,p,Q⟩:=I.list g;obtain⟨D,C,T,B,A,y⟩:=j it (by simp)
  have hl:=l.length;exact wpAny_pyNext_list_end (I.ok.hd L) st p.isList (by simp;lia) λh' V=>⟨J,I.turned (t':=s.toks) (λb o f e=>V b o f e) D C B A y⟩
 self:=λ_ _ _ _ _ st h=>wpAny_pyIter_listiter st h
def vJ{P:cW}{w:c4}{K:a_}{tg:cb}(a it:bp):Turn P w K tg (WW K a) [it] it λi h=>h.IsTupleIter it a i where
 mem:=by simp
 obj:=λi h st b f=>by
  have e:b=it:=by simpa using f
  subst e;obtain⟨o,e,c,d⟩:=st;exact⟨o,e,λv z=>by rw[d]at z;cases z⟩
 keep:=λi h h' st k=>st.at λo e=>k it (by simp) o e
 item:=by
  intro X r n t L i aa s F H E I j st q;subst r n t;obtain⟨xs,x,g,m⟩:=q;obtain⟨aG,l,p,Q⟩:=I.tuple g;obtain⟨u,S,N⟩:=l.get m;obtain⟨D,C,T,B,A,y⟩:=j it (by simp)
  refine wpAny_pyNext_tuple_item st (show s.heap.IsTuple a aG.toArray from p) (x:=u) (by simpa using S) λh' G M=>?_
  have W:Inv X aa F H {s with heap:=h'}:=I.turned (t':=s.toks) (λb o f e=>(M.2 b f).trans e) D C B A y
  obtain⟨o,e,c,d⟩:=id G;exact⟨u,J,CL (s:={s with heap:=h'}) e c d (by decide) ⟨x,H,W,N,⟨J,λys R=>by rw[I.pP R g];exact m⟩,G,λb f=>(j b f).1⟩⟩
 done:=by
  intro X r n t L i aa s F H E I j st q;subst r n t;obtain⟨xs,g,m⟩:=q;obtain⟨aG,l,p,Q⟩:=I.tuple g;obtain⟨D,C,T,B,A,y⟩:=j it (by simp)
  have hl:=l.length;exact wpAny_pyNext_tuple_end (I.ok.hd L) st (show s.heap.IsTuple a aG.toArray from p) (by simp;lia) λh' V=>⟨J,I.turned (t':=s.toks) (λb o f e=>V b o f e) D C B A y⟩
 self:=λ_ _ _ _ _ st h=>wpAny_pyIter_tupleiter st h
def vK{P:cW}{w:c4}{K:a_}{tg:cb}(it:bp)(lo:Int)(n:Nat):Turn P w K tg (VZ lo n) [it] it λi h=>IsRangeIter h it (lo+(i:Nat)*1) ((n:Int)-(i:Nat)) 1 where
 mem:=by simp
 obj:=λi h st b a=>by
  have e:b=it:=by simpa using a
  subst e;exact⟨_,st,λv z=>by
   have A:Data.fields _=Data.cell v:=z;cases A⟩
 keep:=λi h h' st k=>k it (by simp) _ st
 item:=by
  intro X j d l g i aa s x H E I c st f;subst j d l;obtain⟨u,r,D,q,p,m⟩:=c it (by simp)
  have W:=Walks.range (prog:=X.prog) (w:=X.w) (I.ok.hd g) it lo 1 n;refine W.item i s _ _ f st λv h' tk C y B=>?_;obtain⟨t,rfl⟩:=C;have G:Inv X aa x H {s with heap:=h',toks:=tk}:=I.turned (λb o a e=>B b o (by simpa using a) e) u r q p m
  refine⟨_,J,CL (s:={s with heap:=h',toks:=tk}) (n := "range_iterator") y J J (by decide) ⟨.int<|lo+i,H,G,⟨t,?_⟩,⟨J,J⟩,y,λb a=>(c b a).1⟩⟩
  rw[Int.mul_one]
 done:=by
  intro X j d l g i aa s x H E I c st f;subst j d l;obtain⟨u,r,D,q,p,m⟩:=c it (by simp)
  exact wpAny_pyNext_range_end (I.ok.hd g) st (by have:n<=i:=f;lia) λh' F=>⟨J,I.turned (t':=s.toks) (λb o a e=>F b o a e) u r q p m⟩
 self:=λ_ _ _ _ _ st h=>wpAny_pyIter_rangeiter st h
section
variable{X:Cx}{tg:cb}
def Ry(K:a_)(tl:TE):TI:=λb H R=>tl b H λx H1=>∃a,x=.ref a/\(∃xs,dM K H1 a xs)/\R (VY K a) H1
def WX(K:a_)(tl:TE):TI:=λb H R=>tl b H λx H1=>∃a,x=.ref a/\(∃xs,k7 K H1 a xs)/\R (WW K a) H1
def Hg{l:cb}{tl:TE}(hl:PE X l tl):PI X tg l<|Ry X.K tl:=by
 intro aa s d H R I h;refine cK (hl aa s d H _ I h) λv c f=>?_;obtain⟨x,H1,I1,g,q1⟩:=f;obtain⟨a,e,⟨xs,i⟩,q⟩:=q1;subst e;cases g;obtain⟨aG,k,p,m⟩:=I1.list i;refine ip p.isList ?_;refine⟨c.heap.objs.size,[c.heap.objs.size],_,_,H1,J,I1.kept (t':=c.toks) λb o e=>ax _ e,AA a _,⟨_,de _ J,J,J⟩,λb j=>?_,q⟩;have e:b=c.heap.objs.size:=by simpa using j
 subst e;exact I1.vI (dS _)<|I1.bj.fresh<|dS _
def M4{l:cb}{tl:TE}(hl:PE X l tl):PI X tg l<|WX X.K tl:=by
 intro aa s d H R I h;refine cK (hl aa s d H _ I h) λv c f=>?_;obtain⟨x,H1,I1,g,q1⟩:=f;obtain⟨a,e,⟨xs,i⟩,q⟩:=q1;subst e;cases g;obtain⟨aG,k,p,m⟩:=I1.tuple i;refine wpAny_pyIter_tuple (show c.heap.IsTuple a aG.toArray from p) ?_;refine⟨c.heap.objs.size,[c.heap.objs.size],_,_,H1,J,I1.kept (t':=c.toks) λb o e=>ax _ e,vJ a _,⟨_,de _ J,J,J⟩,λb j=>?_,q⟩;have e:b=c.heap.objs.size:=by simpa using j
 subst e;exact I1.vI (dS _)<|I1.bj.fresh<|dS _
def CM{aa:dE}{c:St}{H:Hp}{s:ag}{R:It->Hp->Prop}{E:ar->ag->Prop}{lo a:Int}{t u v:Tok}{tk:Nat}(I:Inv X aa c H s)(i:-(2^62)<=lo)(h:lo<2^62)(g:-(2^62)<=a)(f:a<2^62)
  (q:R (VZ lo (a-lo).toNat) H):cv (b8 X.prog X.w) X.A (pyIter<|.ref s.heap.objs.size) (Z2 X aa c tg R) E {s with heap:=s.heap.push {cls:=.type "range",data:=.fields #[.int lo t,.int a u,.int 1 v]},toks:=tk}:=by
 refine wpAny_pyIter_range (IsRange.new ..) (small_one i h g f) ?_;have I1:Inv X aa c H {s with heap:=s.heap.push {cls:=.type "range",data:=.fields #[.int lo t,.int a u,.int 1 v]},toks:=tk}:=I.kept λb o e=>ax _ e
 refine⟨(s.heap.push {cls:=.type "range",data:=.fields #[.int lo t,.int a u,.int 1 v]}).objs.size,[(s.heap.push {cls:=.type "range",data:=.fields #[.int lo t,.int a u,.int 1 v]}).objs.size],_,_,H,J,
  I1.kept (t':=tk) λb o e=>ax _ e,vK _ lo (a-lo).toNat,?_,λb d=>?_,q⟩
 .have k:lo+((0:Nat):Int)*1=lo:=by simp
  have j:(((a-lo).toNat:Nat):Int)-((0:Nat):Int)=Builtin.Range.rangeSize lo a 1:=by rw[rangeSize_one];split<;>lia
  show IsRangeIter _ _ (lo+((0:Nat):Int)*1) ((((a-lo).toNat:Nat):Int)-((0:Nat):Int)) 1;rw[k,j];exact de _ J
 .have e:b=(s.heap.push {cls:=.type "range",data:=.fields #[.int lo t,.int a u,.int 1 v]}).objs.size:=by simpa using d
  subst e;exact I1.vI (dS _)<|I1.bj.fresh<|dS _
def Rz(ta:TA):TI:=λa H R=>ta a H λb H1=>∃j:Int,b=[.int j]/\-(2^62)<=j/\j<2^62/\R (VZ 0 j.toNat) H1
def AB{a:cb}{ta:TA}{p pos:Pos}(k:Gl X "range")(i:X.mg "range" = Y)(l:PA X [a] ta)(g:cw [a] X.env=[(Zn,e6 a X.env)]:=by rfl):PI X tg (.Call (.Name "range" p) [a] [] pos)<|Rz ta:=by
 intro aa s b H R I h;refine Call_<|iz I k i boot_range<|xV (cK (l pos aa s b H _ I h) λo u c=>?_) g J;obtain⟨n,H1,m,f,q1⟩:=c;obtain⟨j,e,q1,q2,q⟩:=q1;subst e;cases f with
 |cons r d=>
  cases d;obtain⟨t,rfl⟩:=r;exact call_range_1<|CM m (by lia) (by lia) q1 q2<|by simpa using q
def WY(e:TI)(g:TG)(f:TS):TS:=λD a H=>e a H λj H1=>∃W:Nat->Nat->St->Hp->Prop,(∃m,W 0 m a H1)/\∀i m a H,W i m a H ->
 (j.stop i H/\D.nx a H)\/(j.go i H/\∃N:St->Hp->Prop,(∀b H',N b H'->∃d,d<m/\W (i+1) d b H')/\∀x H',j.yld i H x H'->g x a H' λc h=>f {D with nx:=N,ct:=N,bk:=D.nx} c h)
def mU(a:BM)(h:ed):dE:=a.filterMap λb=>(h.get? b).map λo=>(b,o)
def gR{a:BM}{h:ed}{b:bp}{o:Obj}(c:b∈a)(e:h.get? b=U o):(b,o)∈mU a h:=B0.mpr ⟨b,c,by rw[e];rfl⟩
def AD{a:BM}{h:ed}{p:bp×Obj}(c:p∈mU a h):p.1∈a/\h.get? p.1=U p.2:=by
 obtain⟨b,d,e⟩:=B0.mp c;cases q:h.get? b with
 |none=>rw[q]at e;cases e
 |some o=>
  rw[q]at e;have f:(b,o)=p:=mO.inj e;subst f;exact⟨d,q⟩
def Inv.pinned{aa:dE}{c:St}{H:Hp}{s:ag}{a:BM}(I:Inv X aa c H s)(j:∀b∈a,mT X aa H b)(i:∀b∈a,∃o,s.heap.get? b=U o/\∀v,o.data≠.cell v):Inv X (aa++mU a s.heap) c H s:=
 I.xW λp h=>(lD.mp h).elim (λz=>I.pin p<|lE _ z) λz=>by
  obtain⟨f,e⟩:=AD z;obtain⟨m,l,k,_⟩:=j p.1 f;obtain⟨o,g,d⟩:=i p.1 f;rw[e]at g;cases g;exact⟨e,m,l,k,d⟩
def Inv.jH{aa pl:dE}{a:St}{H:Hp}{s:ag}(I:Inv X (aa++pl) a H s):Inv X aa a H s:=I.xW λp b=>I.pin p<|lE _<|G7 _ b
def CO{k:cb}{t:Fh}{S:TI}{g:TG}{V:TS}{pos:Pos}(E:lx (b8 X.prog X.w) X.A X.env X.xe)(hc:X.calm=O)(hi:PI X tg k S)(hg:PG X tg g)(l:gz X t V)
  (hs:∀x,eH k X.env x=pure x:=by intro _;rfl):PS X (.For tg k t [] pos)<|WY S g V:=by
 intro aa s R H D I h;refine wpAny_For (cK (hi aa s R H _ I h) λv s1 h1=>cK h1 λWV s2 h2=>?_) hs;obtain⟨it,G,tn,ql,H2,e,I2,T,GU,f2,W,⟨m0,w0⟩,z⟩:=h2;subst e;have M:∀{H':Hp},(∀b∈G,H' b=Y)->∀b∈G,mT X aa H' b:=λhn b l=>⟨hn b l,(f2 b l).2⟩;refine codeAny_forLoop_any (λn s'=>∃i j H',Inv X aa j H' s'/\tn i s'.heap/\(∀b∈G,H' b=Y)/\W i n j H') ?_ m0 ⟨0,R,H2,I2,GU,λb l=>(f2 b l).1,w0⟩
 rintro n Z ⟨i,c,K,I3,B,F,w3⟩
 rcases z i n c K w3 with⟨stop,qn⟩|⟨go,N,hN,step⟩
 .refine hW E<|cK (T.done X J J J hc i aa Z c K X.xe I3 (M F) B stop) λr s4 y=>?_
  obtain⟨P,I4⟩:=y;subst P;exact hX ⟨c,K,I4,qn⟩
 .refine hW E<|cK (T.item X J J J hc i aa Z c K X.xe I3 (M F) B go) λr s4 y=>?_
  obtain⟨u,P,h4⟩:=y;subst P;refine hW E<|cK h4 λ_ s5 y=>?_;obtain⟨x,H5,I5,r5,y5,Q,V0⟩:=y;have Ġ:=I5.pinned (M V0)<|T.obj _ _ Q;refine hW E<|cK (hg _ s5 c H5 x u _ Ġ r5<|step x H5 y5) λ_ s6 y=>?_;obtain⟨L,H6,I6,q6⟩:=y;refine hW E<|cK (l _ s6 L H6 _ I6 q6) λf s7 q7=>?_;have again:∀{a:St}{q:Hp},Inv X (aa++mU G s5.heap) a q s7->N a q->∃m,m<n/\∃i j H',Inv X aa j H' s7/\tn i s7.heap/\(∀b∈G,H' b=Y)/\W i m j H':=λ{a q} p C=>by
   obtain⟨m',hm,w7⟩:=hN a q C;refine⟨m',hm,i+1,a,q,p.jH,T.keep _ _ _ Q λb l o e=>(p.pin (b,o)<|lE _<|lE _<|gR l e).1,λb l=>?_,w7⟩;obtain⟨o,e,d⟩:=T.obj _ _ Q b l;exact(p.pin (b,o)<|lE _<|lE _<|gR l e).2.1
  cases f with
  |next=>obtain⟨a,q,p,C⟩:=q7;exact again p C
  |cont=>obtain⟨a,q,p,C⟩:=q7;exact again p C
  |brk=>obtain⟨a,q,p,q7⟩:=q7;exact⟨a,q,p.jH,q7⟩
  |ret v=>obtain⟨x7,a,q,p,r7,q7⟩:=q7;exact⟨x7,a,q,p.jH,r7,q7⟩
end
abbrev R2:=V->V->Hp->VK->Prop
def f6(X:Cx)(f:ar->ar->Sem ar)(r:R2):Prop:=
 ∀(aa:dE)(s:ag)(a:St)(H:Hp)(x y:V)(v u:ar)(Q:VK),Inv X aa a H s->RelV x v->RelV y u->r x y H Q ->
  cv (b8 X.prog X.w) X.A (f v u) (EP X aa a Q) X.xe s
def V1(X:Cx)(f:ar->Sem ar)(r:V->Hp->VK->Prop):Prop:=
 ∀(aa:dE)(s:ag)(a:St)(H:Hp)(x:V)(v:ar)(Q:VK),Inv X aa a H s->RelV x v->r x H Q ->
  cv (b8 X.prog X.w) X.A (f v) (EP X aa a Q) X.xe s
def fJ(X:Cx)(f:ar)(r:List V->Hp->VK->Prop):Prop:=
 ∀(aa:dE)(s:ag)(a:St)(H:Hp)(xs:List V)(b:B2)(Q:VK),Inv X aa a H s->Vals xs b->r xs H Q ->
  cv (b8 X.prog X.w) X.A (call f b) (EP X aa a Q) X.xe s
def WZ(X:Cx)(r:V->Hp->(Bool->Hp->Prop)->Prop):Prop:=
 ∀(aa:dE)(s:ag)(a:St)(H:Hp)(x:V)(v:ar)(Q:Bool->Hp->Prop),Inv X aa a H s->RelV x v->r x H Q ->
  cv (b8 X.prog X.w) X.A (truthy v) (TP X aa a Q) X.xe s
def GV(r:R2)(ta b:TE):TE:=λa H Q=>ta a H λx H1=>b a H1 λy c=>r x y c Q
def Z3(r:V->Hp->VK->Prop)(ta:TE):TE:=λa H Q=>ta a H λx H1=>r x H1 Q
def rI(C:Int->Int->Prop)(g:Int->Int->V):R2:=λx y H Q=>∃i j,x=.int i/\y=.int j/\C i j/\Q (g i j) H
def Bv(g:Int->Int->V):R2:=λx y H Q=>∃i j,x=.int i/\y=.int j/\Q (g i j) H
def rU(g:Int->V):V->Hp->VK->Prop:=λx H Q=>∃i,x=.int i/\Q (g i) H
section
variable{X:Cx}{a c:cb}{ta t tc:TE}
def M5(o:PE X a ta)(n:PE X b t){aa:dE}{s:ag}{c:St}{H:Hp}{R:V->V->Hp->Prop}(I:Inv X aa c H s)
  (h:ta c H λx H1=>t c H1 λy d=>R x y d) {Q:ar->ag->Prop} {f:ar->ar->Sem ar}
  (m:∀v u s2 x y d,Inv X aa c d s2->RelV x v->RelV y u->R x y d->cv (b8 X.prog X.w) X.A (f v u) Q X.xe s2) :
  cv (b8 X.prog X.w) X.A (e6 a X.env) (λv g=>cv (b8 X.prog X.w) X.A (e6 b X.env) (λu e=>cv (b8 X.prog X.w) X.A (f v u) Q X.xe e) X.xe g) X.xe s:=by
 refine cK (o aa s c H _ I h) λv j i=>?_;obtain⟨x,H1,q,l,q1⟩:=i;refine cK (n aa j c H1 _ q q1) λu s2 i=>?_;obtain⟨y,d,p,k,q2⟩:=i;exact m v u s2 x y d p l k q2
def k8{op:rg}{r:R2}(f:f6 X (ke op) r)(i:PE X a ta)(g:PE X b t):PE X (.BinOp a op b pos)<|GV r ta t:=by
 intro aa s c H Q I h;exact wpAny_BinOp<|M5 i g I h λv u s2 x y k j e d q=>f aa s2 c k x y v u Q j e d q
def RA{op:UnaryOp}{r:V->Hp->VK->Prop}(e:V1 X (unaryOp op) r)(f:PE X a ta):PE X (.UnaryOp op a pos)<|Z3 r ta:=by
 intro aa s b H Q I h;exact UnaryOp_<|cK (f aa s b H _ I h)<|by rintro v c ⟨x,H1,g,d,q1⟩;exact e aa c b H1 x v Q g d q1
def V2{f:ar->ar->Sem ar}{C:Int->Int->Prop}{g:Int->Int->Int}
  (rule:∀(i j:Int)(t u:Tok)(s:ag)(Q:ar->ag->Prop)(E:ar->ag->Prop),C i j->Q (.int (g i j) s.toks) {s with toks:=s.toks+1}->cv (b8 X.prog X.w) X.A (f (.int i t)<|.int j u) Q E s) :
  f6 X f<|rI C λi j=>.int<|g i j:=by
 intro aa s e H x y v u Q I c b h;obtain⟨i,j,rfl,rfl,d,q⟩:=h;obtain⟨t,rfl⟩:=c;obtain⟨a,rfl⟩:=b;exact rule i j t a s _ _ d ⟨.int<|g i j,H,I.tok _,⟨_,J⟩,q⟩
def RC{f:ar->ar->Sem ar}{g:Int->Int->Int}
  (rule:∀(i j:Int)(t u:Tok)(s:ag)(Q:ar->ag->Prop)(E:ar->ag->Prop),Q (.int (g i j) s.toks) {s with toks:=s.toks+1}->cv (b8 X.prog X.w) X.A (f (.int i t)<|.int j u) Q E s) :
  f6 X f<|Bv λi j=>.int<|g i j:=by
 intro aa s d H x y v u Q I c b h;obtain⟨i,j,rfl,rfl,q⟩:=h;obtain⟨t,rfl⟩:=c;obtain⟨a,rfl⟩:=b;exact rule i j t a s _ _ ⟨.int<|g i j,H,I.tok _,⟨_,J⟩,q⟩
def Hi{f:ar->ar->Sem ar}{g:Int->Int->Bool}
  (rule:∀(i j:Int)(t u:Tok)(s:ag)(Q:ar->ag->Prop)(E:ar->ag->Prop),Q (.bool<|g i j) s->cv (b8 X.prog X.w) X.A (f (.int i t)<|.int j u) Q E s) :
  f6 X f<|Bv λi j=>.bl<|g i j:=by
 intro aa s d H x y v u Q I c b h;obtain⟨i,j,rfl,rfl,q⟩:=h;obtain⟨t,rfl⟩:=c;obtain⟨a,rfl⟩:=b;exact rule i j t a s _ _ ⟨.bl<|g i j,H,I,J,q⟩
def RD(i j:Int):Prop:=0<j/\j<1073741824
def RG(i j:Int):Prop:=0<=j/\j<=1000000/\i.natAbs<2^64
def M6(i j:Int):Prop:=(-(2^64)<i/\i<2^64)\/(-(2^64)<j/\j<2^64)
def M6.ok{i j:Int}(h:M6 i j):IntMulOk i j:=by
 rcases h with⟨b,a⟩|⟨b,a⟩
 .exact .of_left<|intBits_le_64 b a
 .exact .of_right<|intBits_le_64 b a
def M7:f6 X (ke .Add)<|Bv λi j=>.int<|i+j:=RC λ_ _ _ _ _ _ _ q=>add_int q
def M8:f6 X (ke .Sub)<|Bv λi j=>.int<|i-j:=RC λ_ _ _ _ _ _ _ q=>sub_int q
def Hj:f6 X (ke .FloorDiv)<|rI RD λi j=>.int<|i/j:=V2 λi j _ _ _ _ _ a q=>by
 have c:(0:Int)<j:=a.1;have b:j<1073741824:=a.2;exact floordiv_int (by lia) (by rw[Int.fdiv_eq_ediv_of_nonneg i<|by lia];exact q)<|.inl<|PyProof.noPylong_small<|by lia
def M9:f6 X (ke .Mod)<|rI (λ_ j=>0<j) λi j=>.int<|i % j:=V2 λi j _ _ _ _ _ a q=>by
 have b:(0:Int)<j:=a;exact mod_int' (by lia) (by rw[Int.fmod_eq_emod_of_nonneg i<|by lia];exact q)
def M_:f6 X (ke .Pow)<|rI RG λi j=>.int<|i^j.toNat:=V2 λ_ _ _ _ _ _ _ a q=>pow_int_small a.1 a.2.1 a.2.2 q
def Z4{f:ar->Sem ar}{g:Int->Int}
  (rule:∀(i:Int)(t:Tok)(s:ag)(Q:ar->ag->Prop)(E:ar->ag->Prop),Q (.int (g i) s.toks) {s with toks:=s.toks+1}->cv (b8 X.prog X.w) X.A (f<|.int i t) Q E s) :
  V1 X f<|rU λi=>.int<|g i:=by
 intro aa s b H x v Q I a h;obtain⟨i,rfl,q⟩:=h;obtain⟨t,rfl⟩:=a;exact rule i t s _ _ ⟨.int<|g i,H,I.tok _,⟨_,J⟩,q⟩
def Na:V1 X (unaryOp .USub)<|rU λi=>.int<|-i:=Z4 λ_ _ _ _ _ q=>neg_int q
def vM:V1 X (unaryOp .Invert)<|rU λi=>.int<|Builtin.bitNot i:=Z4 λ_ _ _ _ _ q=>invert_int q
end
section
variable{X:Cx}{a c:cb}{ta F tc:TE}
def iB{aa:dE}{a:St}{H:Hp}{s:ag}{Q:VK}{k b:Bool}(I:Inv X aa a H s)(q:Q (.bl k) H)(e:k=b):EP X aa a Q (.bool b) s:=by
 subst e;exact⟨.bl k,H,I,J,q⟩
def RH:f6 X (eh .Lt)<|Bv λi j=>.bl<|decide<|i<j:=Hi λ_ _ _ _ _ _ _ q=>lt_int q
def RI:f6 X (eh .LtE)<|Bv λi j=>.bl<|decide<|i<=j:=Hi λ_ _ _ _ _ _ _ q=>le_int q
def RJ:f6 X (eh .Gt)<|Bv λi j=>.bl<|decide<|j<i:=Hi λ_ _ _ _ _ _ _ q=>gt_int q
def RK:f6 X (eh .GtE)<|Bv λi j=>.bl<|decide<|j<=i:=Hi λ_ _ _ _ _ _ _ q=>ge_int q
def AE:f6 X (eh .In) λx y H Q=>∃i j,x=.str i/\y=.str j/\Q (.bl<|!(dn j i 0 j.length 1).isEmpty) H:=by
 intro aa s c H x y v u Q I b a h;obtain⟨i,j,rfl,rfl,q⟩:=h;obtain⟨t,rfl⟩:=b;obtain⟨d,rfl⟩:=a;exact in_str<|iB I q J
def Nb:f6 X (eh .Is) λx y H Q=>y=.non/\Q (.bl<|decide<|x=.non) H:=by
 intro aa s c H x y v u Q I a b h;obtain⟨rfl,q⟩:=h;cases b;refine is_none_gen<|iB I q ?_;cases x<;>first
  |(cases a;rfl)
  |(obtain⟨t,rfl⟩:=a;rfl)
def Hk:f6 X (eh .IsNot) λx y H Q=>y=.non/\Q (.bl<|!decide (x=.non)) H:=by
 intro aa s c H x y v u Q I a b h;obtain⟨rfl,q⟩:=h;cases b;refine isnot_none_gen<|iB I q ?_;cases x<;>first
  |(cases a;rfl)
  |(obtain⟨t,rfl⟩:=a;rfl)
def qP:f6 X (eh .NotIn) λx y H Q=>∃i j,x=.str i/\y=.str j/\Q (.bl<|!(!(dn j i 0 j.length 1).isEmpty)) H:=by
 intro aa s c H x y v u Q I b a h;obtain⟨i,j,rfl,rfl,q⟩:=h;obtain⟨t,rfl⟩:=b;obtain⟨d,rfl⟩:=a;exact notIn_str<|iB I q J
def f6.or{f:ar->ar->Sem ar}{r d:R2}(h:f6 X f r)(h':f6 X f d):f6 X f λx y H Q=>r x y H Q\/d x y H Q:=by
 intro aa s a H x y v u Q I c b q;rcases q with q|q
 .exact h aa s a H x y v u Q I c b q
 .exact h' aa s a H x y v u Q I c b q
def lW{op:kA}{r:R2}(f:f6 X (eh op) r)(j:PE X a ta)(i:PE X b F)(g:eP op b=Zn):PE X (.Compare a [op] [b] pos)<|GV r ta F:=by
 intro aa s c H Q I h;exact wpAny_Compare1 (M5 j i I h λv u s2 x y l k e d q=>f aa s2 c l x y v u Q k e d q) g
def RL(t:TE):TT:=λa H Q=>t a H λx H'=>∃k,x=.bl k/\Q k H'
def jI{op:kA}{r:R2}(m:f6 X (eh op) r)(p:PE X a ta)(o:PE X b F)(n:eP op b=Zn):PT X (.Compare a [op] [b] pos)<|RL<|GV r ta F:=by
 intro aa s d H Q I h;refine wpAny_isTrue_Compare1 (cK (p aa s d H _ I h) λv f ⟨x,H1,w,j,q1⟩=>cK (o aa f d H1 _ w q1) λu s2 ⟨y,B,t,i,q2⟩=>
  cK (m aa s2 d B x y v u _ t j i q2) λc C ⟨z,A,q,g,k,e,l⟩=>?_) n
 subst e;cases g;exact ik ⟨A,q,l⟩
def Nc(K:a_)(x:V)(H:Hp)(k:Bool):Prop:=
 match x with
 |.non=>k=Zn
 |.bl b=>k=b
 |.int i=>k=(i != 0)
 |.str y=>y.length<=cq/\k=((y.length:Int) != 0)
 |.byt y=>y.size<=cq/\k=((y.size:Int) != 0)
 |.ref p=>(∃xs,dM K H p xs/\k=!xs.isEmpty)\/(∃xs,k7 K H p xs/\k=!xs.isEmpty)\/∃a,H p=U (.dK a)/\k=!a.isEmpty
 |_=>False
def vN{a:Type}{b:List<|a×V}{vs:List<|a×ar}(r:KV b vs):(!vs.isEmpty)=!b.isEmpty:=by
 cases r<;>rfl
def mV{xs:List V}{aG:B2}(r:Vals xs aG):(!aG.toArray.isEmpty)=!xs.isEmpty:=by
 cases r<;>simp
def mW:(cq:Nat)<2^63:=by rw[ez];decide
def Nd:WZ X λx H Q=>∃k,Nc X.K x H k/\Q k H:=by
 intro aa s z H x v Q I c h;obtain⟨k,e,q⟩:=h;have hl:=mW;have A:cq=16777216:=ez;cases x with
 |non=>
  cases c;have a:k=Zn:=e;subst a;exact truthy_none ⟨H,I,q⟩
 |bl b=>
  cases c;have a:k=b:=e;subst a;exact ik ⟨H,I,q⟩
 |int i=>
  obtain⟨t,rfl⟩:=c;have a:k=(i != 0):=e;subst a;exact PySem.P.truthy_int ⟨H,I,q⟩
 |str y=>
  obtain⟨t,rfl⟩:=c;obtain⟨o,a⟩:y.length<=cq/\k=((y.length:Int) != 0):=e;subst a;exact PySem.P.truthy_str (by lia) ⟨H,I.tok _,q⟩
 |byt y=>
  obtain⟨t,rfl⟩:=c;obtain⟨o,a⟩:y.size<=cq/\k=((y.size:Int) != 0):=e;subst a;exact PySem.W.truthy_bytes (by lia) ⟨H,I.tok _,q⟩
 |ref p=>
  cases c;have a:(∃xs,dM X.K H p xs/\k=!xs.isEmpty)\/(∃xs,k7 X.K H p xs/\k=!xs.isEmpty)\/∃d,H p=U (.dK d)/\k=!d.isEmpty:=e;rcases a with⟨xs,f,a⟩|⟨xs,f,a⟩|⟨d,f,a⟩
  .subst a
   obtain⟨aG,r,j,l⟩:=I.list f;have n:=r.length;exact wpAny_truthy_list j.isList (by simp only[cP];lia) ⟨H,I.tok _,by rw[mV r];exact q⟩
  .subst a
   obtain⟨aG,r,j,l⟩:=I.tuple f;have n:=r.length;exact truthy_tuple j (by simp only[cP];lia) ⟨H,I.tok _,by rw[mV r];exact q⟩
  .subst a
   obtain⟨l,u,g,r,m⟩:d.length<=cq/\(p == iq)=Zn/\∃g,KV d g/\s.heap.DictOf (cY X.prog X.w) p g:=I.bj p _ f;have n:d.length=g.length:=Paired.length r;exact wpAny_truthy_dict u m (by lia) ⟨H,I.tok _,by rw[vN r];exact q⟩
 |_=>exact(show False from e).elim
def CP(f:PE X a ta)(he:∀c,FX a X.env c=(do let v <- c;tf a.pos;F1 [v] (truthy v))) :
  PT X a λb H Q=>ta b H λx H'=>∃k,Nc X.K x H' k/\Q k H':=by
 intro aa s b H Q I h;exact isTrue_plain (cK (f aa s b H _ I h)<|by rintro v d ⟨x,H1,g,e,q1⟩;exact Nd aa d b H1 x v Q g e q1)<|he _
def vO:f6 X (ke .Add) λx y H Q=>∃i j,x=.str i/\y=.str j/\i.length+j.length<=cq/\Q (.str<|i++j) H:=by
 intro aa s e H x y v u Q I c b h;obtain⟨i,j,rfl,rfl,d,q⟩:=h;obtain⟨t,rfl⟩:=c;obtain⟨a,rfl⟩:=b;exact add_str (λa tk=>⟨.str<|i++j,H,I.tok _,⟨_,J⟩,q⟩) d
def vals1{x:V}{us:B2}(r:Vals [x] us):∃u,us=[u]/\RelV x u:=by
 cases r with
 |cons b a=>cases a;exact⟨_,J,b⟩
def vals2{x y:V}{us:B2}(r:Vals [x,y] us):∃u a,us=[u,a]/\RelV x u/\RelV y a:=by
 cases r with
 |cons e d=>
  cases d with
  |cons c b=>cases b;exact⟨_,_,J,e,c⟩
def qQ:fJ X (.type "str") λxs H Q=>∃i,xs=[.int i]/\i.natAbs.log2<1920/\Q (.str<|toString i) H:=by
 intro aa s b H xs c Q I r h;obtain⟨i,rfl,a,q⟩:=h;obtain⟨u,rfl,t,rfl⟩:=vals1 r;exact PySem.P.str_of_int a ⟨.str _,H,I.tok _,⟨_,J⟩,q⟩
def RM(K:a_)(x:V)(H:Hp)(n:Nat):Prop:=
 match x with
 |.str y=>y.length<=cq/\n=y.length
 |.byt y=>y.size<=cq/\n=y.size
 |.ref p=>(∃xs,dM K H p xs/\n=xs.length)\/∃xs,k7 K H p xs/\n=xs.length
 |_=>False
def sW:fJ X (.builtin "len") λxs H Q=>∃x n,xs=[x]/\RM X.K x H n/\Q (.int n) H:=by
 intro aa s k H xs l Q I r h;obtain⟨x,n,rfl,e,q⟩:=h;obtain⟨u,rfl,b⟩:=vals1 r;have hl:=mW;have m:cq=16777216:=ez;cases x with
 |str y=>
  obtain⟨t,rfl⟩:=b;obtain⟨j,a⟩:y.length<=cq/\n=y.length:=e;subst a;exact len_str (by lia) ⟨.int _,H,I.tok _,⟨_,J⟩,q⟩
 |byt y=>
  obtain⟨t,rfl⟩:=b;obtain⟨j,a⟩:y.size<=cq/\n=y.size:=e;subst a;exact PySem.W.len_bytes (by lia) ⟨.int _,H,I.tok _,⟨_,J⟩,q⟩
 |ref p=>
  cases b;have a:(∃xs,dM X.K H p xs/\n=xs.length)\/∃xs,k7 X.K H p xs/\n=xs.length:=e;rcases a with⟨xs,f,a⟩|⟨xs,f,a⟩
  .subst a
   obtain⟨aG,c,d,i⟩:=I.list f;have g:=c.length;exact Calls.call_len_list d.isList (by simp only[cP];lia) ⟨.int xs.length,H,I.tok _,⟨_,by simp only[cP];rw[g]⟩,q⟩
  .subst a
   obtain⟨aG,c,d,i⟩:=I.tuple f;have g:=c.length;exact len_tuple d (by simp only[cP];lia) ⟨.int xs.length,H,I.tok _,⟨_,by simp only[cP];rw[g]⟩,q⟩
 |_=>exact(show False from e).elim
end
structure vP(h:ed)(x dx C:bp)(mA:Str->D2):Prop where
 obj:h.get? x=U (sC C dx)
 ns:h.Ns1 dx mA
 ne:dx≠x
def pQ{h:ed}{dx:bp}{b:Str->D2}(n:h.Ns1 dx b):∃od,h.get? dx=U od/\∀name,xu name od=U (b name):=by
 obtain⟨o,R,k,d,hd,g,_,f⟩:=n;refine⟨o,d,λname=>?_⟩;have e:=f name;unfold nsFind findBy at e;rw[<- z5]at e;unfold xu;rw[hd];dsimp only;split
 .rename_i y q
  rw[q]at e;exact eD U e
 .rename_i q
  rw[q]at e;have a:R.toList.any (·.refKey)=Zn:=by
   rw[List.any_eq_false];intro y c;obtain⟨z,t,j⟩:=g y<|Array.mem_toList_iff.mp c;simp[DictEntry.refKey,j]
  have i:¬ R.toList.any (·.refKey)=O:=by rw[a];exact ia
  rw[b0 i];exact eD U e
def vP.look{h:ed}{x dx C:bp}{a:Str->D2}(I:vP h x dx C a):∃od,PySem.W.InstAt h x (sC C dx) C (U od)/\∀name,xu name od=U (a name):=
 let⟨od,ho,hl⟩:=pQ I.ns
 ⟨od,⟨I.obj,J,J,ho⟩,hl⟩
section
variable{prog:cW}{K:a_}{t:Str->D2}{name:Str}{v:ar}
def get_map{a:Bool}{Q:ar->ag->Prop}(X:K.In s.heap)(I:vP s.heap x dx C t)(d:BG K C name=O)(c:BH K C=O)
  (e:eQ K (.ref C) name=U Y) (b:t name=U v) (ġ:Kf v=O) (h:Q v {s with toks:=s.toks+1}) :
  cv (b8 prog w) A (F2 (.ref x) name a) Q E s:=by
 obtain⟨od,f,hl⟩:=I.look;exact PySem.W.get_value X f (BK d).1 (PySem.W.findObj_own c e J<|by rw[hl,b]) ġ h
def CQ{pl:Sem Bool}{Q:ar×B2->ag->Prop}(X:K.In s.heap)(I:vP s.heap x dx C t)(a:BG K C name=O)
  (d:eQ K (.ref C) name=U (U<|.ref f)) (c:Ah K (.ref f)=O) (b:t name=Y) (h:Q (.ref f,[.ref x]) s) :
  cv (b8 prog w) A (uk (.ref x) name pl) Q E s:=by
 obtain⟨od,e,hl⟩:=I.look;exact PySem.W.method_fn X e (BK a).1 (BK a).2 d (beq_iff_eq.mp c) (by show(xu name od).map (·.isSome)=U Zn;rw[hl,b];rfl) h
def Hl{ns:Bi}{Q:Unit->ag->Prop}(X:K.In s.heap)(I:vP s.heap x dx C t)
  (i:eQ K (.ref C) "__setattr__" = U (U<|.builtin "object.__setattr__")) (j:BL K C=O) (g:BN K C name=U Y) (k:BH K C=O)
  (f:n7 t ns) (hsz:ns.length<=cq)
  (h:∀h',vP h' x dx C (λy=>if y=name then U v else t y)->rE dx s.heap h'->Q () {s with heap:=h',toks:=s.toks+2}) :
  cv (b8 prog w) A (setAttr (.ref x) name v) Q E s:=by
 obtain⟨od,u,hl⟩:=I.look;refine PySem.W.set_plain X u i<|PySem.W.osa_open (s:={s with toks:=s.toks+1}) (r:=Y) X u j g λb=>?_
 obtain⟨q,l,o⟩:=BO k;have e:s.heap.get? x=U ⟨.ref C,U dx,.plain,#[]⟩:=I.obj;refine av<|cC<|av<|av<|x8 e<|av<|Kg.here (s:={s with toks:=s.toks+1}) (PySem.W.looks_clsIn X l) ?_
 rw[o];refine cC (a:=U dx)<|av<|cC<|av ?_;refine wpAny_nsSet1 (s:={s with toks:=s.toks+1}) I.ns λh' d c=>?_
 obtain⟨oD,Ģ,ģ,n,m,p⟩:=d.count<|PySem.Within.cons name v f;refine av<|wpAny_lookBehind n (by rw[m];exact pastItsLine_dict<|eT p<|by rw[eS];lia) ?_
 exact cC<|h _ ⟨(c.2 _<|ew I.ne).trans I.obj,d,I.ne⟩ c
def CV{R:GK->ag->Prop}{vs:B2}{a:List<|Str×ar}(X:K.In s.heap)(b:BI K C=O)
  (c:eQ K (.ref C) "__init__" = U (U<|.ref f)) (e:PySem.W.typeIn K (.ref f)=U (.type "function"))
  (h:hQ (b8 prog w) (A.under<|.builtin "type.__call__" ⟨.ref C::vs,a⟩) (.call (.ref f) ⟨.ref (s.heap.objs.size+1)::vs,a⟩) (PySem.W.InitBack (s.heap.objs.size+1) R)
   {s with heap:=(s.heap.push qI).push (sC C s.heap.objs.size)}) :
  hQ (b8 prog w) A (.call (.ref C) ⟨vs,a⟩) R s:=by
 obtain⟨i,g,d,t,os⟩:=s;exact PySem.W.make_core (PySem.W.makes_of X b) (PySem.W.looks_findIn X c) (λself=>PySem.W.bind_fn X self e) (.inl J) h
end
def eU(f:Str)(v:V):List (Str×V)->List (Str×V)
 |[]=>[(f,v)]
 |(g,x)::r=>if g=f then(g,v)::r else(g,x)::eU f v r
theorem k9(f g:Str)(v:V):∀fs:List<|Str×V,(eU f v fs).lookup g=if g=f then U v else fs.lookup g
 |[]=>by
  show ir g [(f,v)]=_;by_cases h:g=f
  .have a:(g == f)=O:=beq_iff_eq.mpr h
   simp only[ir,a,b7 h]
  .have a:(g == f)=Zn:=beq_eq_false_iff_ne.mpr h
   simp only[ir,a,b0 h]
 |(k,x)::r=>by
  have b:=k9 f g v r;rw[show eU f v ((k,x)::r)=(if k=f then(k,v)::r else(k,x)::eU f v r)from J]
  by_cases hk:k=f
  .rw[b7 hk]
   by_cases h:g=k
   .have a:(g == k)=O:=beq_iff_eq.mpr h
    simp only[ir,a,b7<|h.trans hk]
   .have a:(g == k)=Zn:=beq_eq_false_iff_ne.mpr h
    simp only[ir,a,b0 λe:g=f=>h<|e.trans hk.symm]
  .rw[b0 hk]
   by_cases h:g=k
   .have a:(g == k)=O:=beq_iff_eq.mpr h
    simp only[ir,a,b0 λe:g=f=>hk<|h.symm.trans e]
   .have a:(g == k)=Zn:=beq_eq_false_iff_ne.mpr h
    simp only[ir,a];exact b
theorem ku(f:Str)(v:V):∀fs:List<|Str×V,f∈(eU f v fs).map (·.1)/\∀g,g∈fs.map (·.1)->g∈(eU f v fs).map (·.1)
 |[]=>⟨by simp[eU],λg h=>by simp at h⟩
 |(k,x)::r=>by
  obtain⟨b,a⟩:=ku f v r;rw[show eU f v ((k,x)::r)=(if k=f then(k,v)::r else(k,x)::eU f v r)from J]
  by_cases hk:k=f
  .rw[b7 hk]
   subst hk;exact⟨by simp,λg h=>by simpa using h⟩
  .rw[b0 hk]
   refine⟨?_,λg h=>?_⟩
   .rw[eF]
    exact eE _ b
   .rw[eF]at h ⊢
    rcases bu.mp h with e|e
    .exact bu.mpr<|.inl e
    .exact eE _<|a g e
theorem k_(f:Str)(v:V):∀fs:List<|Str×V,(eU f v fs).length<=fs.length+1
 |[]=>by simp[eU]
 |(k,x)::r=>by
  have a:=k_ f v r;rw[show eU f v ((k,x)::r)=(if k=f then(k,v)::r else(k,x)::eU f v r)from J]
  by_cases hk:k=f
  .rw[b7 hk,eS,eS];lia
  .rw[b0 hk,eS,eS];lia
def iy.some_of{v:V}{o:D2}(r:iy (U v) o):∃u,o=U u/\RelV v u:=by
 cases o with
 |none=>exact(show False from r).elim
 |some u=>exact⟨u,J,r⟩
def iy.none_of{o:D2}(r:iy Y o):o=Y:=by
 cases o with
 |none=>rfl
 |some u=>exact(show False from r).elim
def pR{v:V}{u:ar}(r:RelV v u):Kf u=O:=by
 cases v with
 |non=>cases(show u=f7 from r);rfl
 |bl b=>cases(show u=pb b from r);rfl
 |int i=>obtain⟨t,e⟩:=(show ∃t,u=Value.int i t from r);cases e;rfl
 |str x=>obtain⟨t,e⟩:=(show ∃t,u=Value.str x t from r);cases e;rfl
 |byt b=>obtain⟨t,e⟩:=(show ∃t,u=Value.bytes b t from r);cases e;rfl
 |flt b=>obtain⟨t,e⟩:=(show ∃t,u=yD b t from r);cases e;rfl
 |ref a=>cases(show u=Value.ref a from r);rfl
 |ty n=>cases(show u=n4 n from r);rfl
section
variable{fs d:List<|Str×V}
def jJ(bj:ja P w H h)(e:H a=U (.ins C dx fs)):∃b,vP h a dx C b/\(∀f,iy (fs.lookup f)<|b f)/\n7 b (fs.map (·.1))/\fs.length<=1000/\H dx=U (.own a):=by
 obtain⟨d,z,ne,ob,b,n,r,q⟩:=(show bK P w H h a (.ins C dx fs)from bj a _ e);exact⟨b,⟨ob,n,ne⟩,r,q,z,d⟩
end
structure pS(K:a_)(C:bp):Prop where
 pg:BG K C n6=O
 hd:BH K C=O
 po:BL K C=O
 sa:eQ K (.ref C) "__setattr__" = U (U<|.builtin "object.__setattr__")
def pS.get{K:a_}{C:bp}(c:pS K C)(f:Str):BG K C f=O:=c.pg
def cz(K:a_)(C:bp)(f:Str):Prop:=eQ K (.ref C) f=U Y
def cz.RN{K:a_}{C:bp}{f:Str}(n:cz K C f):BN K C f=U Y:=by
 unfold BN;rw[show eQ K (.ref C) f=U Y from n];rfl
structure Meth(K:a_)(C:bp)(m:Str)(f:bp):Prop where
 at_:eQ K (.ref C) m=U (U<|.ref f)
 fn:Ah K (.ref f)=O
 kp:jA K (.ref f)=O
section
variable{X:Cx}{B:St}{fs:List<|Str×V}{f:Str}{v:V}
def vQ{b:Bool}{Q:ar->ag->Prop}(I:Inv X aa B H s)(e:H a=U (.ins C dx fs))(c:pS X.K C)(n:cz X.K C f)(l:fs.lookup f=U v)
  (h:∀u s',Inv X aa B H s'->RelV v u->Q u s'):cv (b8 X.prog X.w) A (F2 (.ref a) f b) Q E s:=by
 obtain⟨g,j,r,_,_,_⟩:=jJ I.bj e;obtain⟨u,i,d⟩:=iy.some_of (v:=v) (o:=g f) (by rw[<- l];exact r f)
 exact get_map I.gQ j (c.get f) c.hd n i (pR d)<|h u _ (I.tok _) d
def mX{m:Str}{g:bp}{pl:Sem Bool}{Q:ar×B2->ag->Prop}(I:Inv X aa B H s)(e:H a=U (.ins C dx fs))(c:pS X.K C)(k:Meth X.K C m g)(l:fs.lookup m=Y)
  (h:Q (.ref g,[.ref a]) s):cv (b8 X.prog X.w) A (uk (.ref a) m pl) Q E s:=by
 obtain⟨b,f,r,_,_,_⟩:=jJ I.bj e;have d:b m=Y:=iy.none_of (by rw[<- l];exact r m)
 exact CQ I.gQ f (c.get m) k.at_ k.fn d h
def vR{y:V}{u:ar}{Q:Unit->ag->Prop}(I:Inv X aa B H s)(e:H a=U (.ins C dx fs))(c:pS X.K C)(n:cz X.K C f)(hl:fs.length<1000)(m:RelV y u)
  (h:∀s',Inv X aa B (upd H a<|.ins C dx<|eU f y fs) s'->Q () s'):cv (b8 X.prog X.w) A (setAttr (.ref a) f u) Q E s:=by
 obtain⟨j,D,r,i,_,k⟩:=jJ I.bj e;have p:(fs.map (·.1)).length<=cq:=by rw[ck,ez];lia
 refine Hl I.gQ D c.sa c.po n.RN c.hd i p λh' d l=>h _ ?_;have hd:∃o,h'.get? dx=U o:=let⟨o,_,_,e',_⟩:=d.ns;⟨o,e'⟩;refine I.write (x:=a) (e:=dx) (by rw[e];exact gb) (.inr k) (λb q v z=>(l.2 b v).trans z) hd ?_
 refine⟨by rw[af D.ne];exact k,?_,D.ne,d.obj,_,d.ns,λg=>?_,λg t=>?_⟩
 .have:=k_ f y fs;lia
 .show iy ((eU f y fs).lookup g)<|if g=f then U u else j g
  rw[k9];by_cases q:g=f
  .rw[b7 q,b7 q];exact m
  .rw[b0 q,b0 q];exact r g
 .by_cases q:g=f
  .rw[q];exact(ku f y fs).1
  .refine(ku f y fs).2 g<|i g λz=>t ?_
   show(if g=f then U u else j g)=Y
   rw[b0 q];exact z
def Inv.made(I:Inv X aa B H s):Inv X aa B (upd (upd H s.heap.objs.size<|.own<|s.heap.objs.size+1) (s.heap.objs.size+1)<|.ins C s.heap.objs.size [])
  {s with heap:=(s.heap.push qI).push (sC C s.heap.objs.size)}:=by
 have c:(s.heap.push qI).get? s.heap.objs.size=U qI:=de s.heap J;have h:((s.heap.push qI).push<|sC C s.heap.objs.size).get? (s.heap.objs.size+1)=U (sC C s.heap.objs.size):=by
  have:=de (s.heap.push qI) (o:=sC C s.heap.objs.size) J
  rwa [ih]at this
 have g:(s.heap.push qI).Ns s.heap.objs.size λ_=>Y:=⟨qI,#[],_,c,J,(λe f=>dk f<|by simp),λ_=>J⟩
 have i:=I.laid (a:=s.heap.objs.size) (o:=.own<|s.heap.objs.size+1) (h':=s.heap.push qI) (t':=s.toks) (λb u q=>ax _ q) (dS _) ⟨_,c⟩;refine i.laid (a:=s.heap.objs.size+1) (o:=.ins C s.heap.objs.size []) (t':=s.toks) (λb u q=>ax _ q) (Au<|ih _ _) ?_;have ne:s.heap.objs.size≠s.heap.objs.size+1:=dO<|mQ _;refine⟨by rw[af ne,ao],i_ _,ne,h,λ_=>Y,(yL g).at λo q=>ax _ q,λ_=>gb,λy d=>dk J d⟩
def xZ{prog:cW}{w:c4}{env:Env}{e:cb}{f:Str}{pos:Pos}{s:ag}{Q:ar->ag->Prop}(b:kf e f env (e6 e env)=e6 e env)
  (h:cv (b8 prog w) A (e6 e env) (λo a=>cv (b8 prog w) A (F2 o f O) Q E a) E s):cv (b8 prog w) A (e6 (.Attribute e f pos) env) Q E s:=
 Attribute_any_ h (by rw[arm_eval_Attribute,b])
end
def W3(K:a_)(ta:TE)(f:Str):TE:=λb H Q=>ta b H λx H1=>∃a C dx fs v,x=.ref a/\H1 a=U (.ins C dx fs)/\pS K C/\cz K C f/\fs.lookup f=U v/\Q v H1
def RO(K:a_)(ta d:TE)(f:Str):TS:=λD b H=>d b H λy H1=>ta b H1 λx c=>∃a C dx fs,x=.ref a/\c a=U (.ins C dx fs)/\pS K C/\cz K C f/\fs.length<1000 /\
 D.nx b (upd c a<|.ins C dx<|eU f y fs)
section
variable{X:Cx}{B:cb}{f:Str}{F d:Pos}{ta Q:TE}
def Ng(he:PE X e ta)(j:kf e f X.env (e6 e X.env)=e6 e X.env):PE X (.Attribute e f pos)<|W3 X.K ta f:=by
 intro aa s b H Q I h;refine xZ j<|cK (he aa s b H _ I h) λu r d=>?_;obtain⟨x,H1,o,g,a,C,dx,fs,v,ex,k,c,n,l,q⟩:=d;subst ex
 obtain rfl:u=Value.ref a:=g
 exact vQ o k c n l λp s2 m i=>⟨v,H1,m,i,q⟩
def vS(m:PE X o ta)(j:PE X B Q)(k:eR B (U<|.Attribute o f F) pos.line X.env=pure Zn):PS X (.Assign [.Attribute o f F] B pos)<|RO X.K ta Q f:=by
 intro aa s b H D I h;refine tK (cK (j aa s b H _ I h) λu e d=>?_) k;obtain⟨y,H1,v,g,q⟩:=d;refine cK (m aa e b H1 _ v q) λov s2 d=>?_;obtain⟨x,z,t,i,a,C,dx,fs,ex,p,c,n,l,q2⟩:=d;subst ex
 obtain rfl:ov=Value.ref a:=i
 exact vR t p c n l g λw r=>⟨b,_,r,q2⟩
end
section
variable{X:Cx}{G:St}{Q:ar->ag->Prop}{c:ar}{b:Bool}
inductive iZ(K:a_)(H:Hp):V->ar->Prop where
 |non:iZ K H .non<|.type "NoneType"
 |bl (x:Bool):iZ K H (.bl x)<|.type "bool"
 |int (i:Int):iZ K H (.int i)<|.type "int"
 |str (x:Str):iZ K H (.str x)<|.type "str"
 |flt (x:UInt64):iZ K H (.flt x)<|.type "float"
 |lst {a:bp} {xs:List V} (e:H a=U (.lst xs)):iZ K H (.ref a)<|.type "list"
 |jE {a:bp} {o:Obj} {xs:List V} (e:H a=U (.jE o<|.lst xs)):iZ K H (.ref a)<|.type "list"
 |tup {a:bp} {xs:List V} (e:k7 K H a xs):iZ K H (.ref a)<|.type "tuple"
 |dK {a:bp} {aP:List<|Key×V} (e:H a=U (.dK aP)):iZ K H (.ref a)<|.type "dict"
 |dT {a:bp} {aP:List<|List Key×V} (e:H a=U (.dT aP)):iZ K H (.ref a)<|.type "dict"
 |ins {a C dx:bp} {fs:List<|Str×V} (e:H a=U (.ins C dx fs)) (cl:pS K C) (ha:eQ K (.ref C) "__class__" = U (U<|.builtin "object.__class__"))
   (hn:xw K (.builtin "object.__class__") "__get__" = U (U<|.builtin "getset_descriptor.__get__")) (V3:xx K (.builtin "object.__class__")=U O)
   (hm:Ai K C (.type "object")=U O):iZ K H (.ref a)<|.ref C
def pT{x:V}{u t:ar}(I:Inv X aa G H s)(d:RelV x u)(ty:iZ X.K H x t)(e:mJ X.K t c=U b)(h:∀tk,Q (.bool b) {s with toks:=tk}) :
  cv (b8 X.prog X.w) A (call (.builtin "isinstance") [u,c]) Q E s:=by
 cases ty with
 |non=>cases(show u=f7 from d);exact mK PySem.W.kitx_none I.gQ gb e (λz=>nomatch z) h
 |bl y=>cases(show u=pb y from d);exact mK PySem.W.kitx_bool I.gQ gb e (λz=>nomatch z) h
 |int i=>obtain⟨t,q⟩:=(show ∃t,u=Value.int i t from d);cases q;exact mK PySem.W.kitx_int I.gQ gb e (λz=>nomatch z) h
 |str y=>obtain⟨t,q⟩:=(show ∃t,u=Value.str y t from d);cases q;exact mK PySem.W.kitx_str I.gQ gb e (λz=>nomatch z) h
 |flt y=>obtain⟨t,q⟩:=(show ∃t,u=yD y t from d);cases q;exact mK PySem.W.kitx_float I.gQ gb e (λz=>nomatch z) h
 | @lst a xs f=>
  cases(show u=Value.ref a from d);obtain⟨_,_,n,_,g⟩:=(show bK X.prog X.w H s.heap a (.lst xs)from I.bj a _ f);exact mK Kh I.gQ ⟨_,g,J⟩ e (λz=>nomatch z) h
 | @jE a ob xs f=>
  cases(show u=Value.ref a from d);obtain⟨_,_,_,n,_,g⟩:=(show bK X.prog X.w H s.heap a (.jE ob<|.lst xs)from I.bj a _ f);exact mK Kh I.gQ ⟨_,g,J⟩ e (λz=>nomatch z) h
 | @tup a xs f=>
  cases(show u=Value.ref a from d);obtain⟨_,_,p,_⟩:=I.tuple f;obtain⟨o,g,j,_⟩:=p;exact mK PySem.W.kitx_tuple I.gQ ⟨o,g,j⟩ e (λz=>nomatch z) h
 | @dK a k f=>
  cases(show u=Value.ref a from d);obtain⟨_,_,D,_,p⟩:=(show bK X.prog X.w H s.heap a (.dK k)from I.bj a _ f);obtain⟨o,R,v,g,j,_⟩:=p;exact mK Kl I.gQ ⟨o,g,j.1⟩ e (λz=>nomatch z) h
 | @dT a k f=>
  cases(show u=Value.ref a from d);obtain⟨_,_,xs,_,o,R,v,g,j,_⟩:=(show bK X.prog X.w H s.heap a (.dT k)from I.bj a _ f);exact mK Kl I.gQ ⟨o,g,j.1⟩ e (λz=>nomatch z) h
 | @ins a C dx fs f cl r l B m=>
  cases(show u=Value.ref a from d);obtain⟨F,L,_⟩:=jJ I.bj f;obtain⟨od,M,_⟩:=L.look;exact mK (Km (cl.get _) cl.hd r l B m) I.gQ M e (λz=>nomatch z) h
end
structure bo(k:Nat)(A:dA):Prop where
 hd:A.handled=Y
 dp:A.depth+3*k+5<qd
 un:A.units+16*k+200<mx
def bo.mono{j k:Nat}{A:dA}(r:bo k A)(h:j<=k):bo j A:=⟨r.hd,by have:=r.dp;lia,by have:=r.un;lia⟩
theorem bo.deeper{k:Nat}{A:dA}(r:bo (k+1) A)(env:Env):bo k<|A.deeper env:=
 ⟨r.hd,by have:=r.dp;show A.depth+1+3*k+5<_;lia,by have:=r.un;show A.units+3+16*k+200<_;lia⟩
def vU{A:dA}{C:bp}{us:B2}{a:List<|Str×ar}:(A.under<|.builtin "type.__call__" ⟨.ref C::us,a⟩).depth=A.depth+1:=by
 first|rfl|simp[vr,Code.weight,Code.isCreation,Code.isGuard,Code.isCaller,Code.frames,xk,guardIds]
def vV{A:dA}{C:bp}{us:B2}{a:List<|Str×ar}:(A.under<|.builtin "type.__call__" ⟨.ref C::us,a⟩).units=A.units+1:=by
 first|rfl|simp[vr,Code.cUnits,Code.frames,xk]
def bo.make{k:Nat}{A:dA}(r:bo (k+1) A)(C:bp)(us:B2)(a:List<|Str×ar):bo k<|A.under<|.builtin "type.__call__" ⟨.ref C::us,a⟩:=
 ⟨r.hd,by have:=r.dp;rw[vU];lia,by have:=r.un;rw[vV];lia⟩
theorem bo.depth{k:Nat}{A:dA}(r:bo k A):A.depth<qd:=by have:=r.dp;lia
theorem bo.units{k:Nat}{A:dA}(r:bo k A):A.units+64<mx:=by have:=r.un;lia
def Hn:TA:=λ_ H Q=>Q [] H
def RQ(ta:TE)(tr:TA):TA:=λa H Q=>ta a H λx H1=>tr a H1 λxs b=>Q (x::xs) b
section
variable{X:Cx}{v:TE}{t:TA}
def dc:PA X [] Hn:=λ_ _ _ _ H Q I h=>Calls.spliced_nil ⟨[],H,I,.nil,h⟩
def bf(j:PE X e v)(i:PA X R t)(g:cw (e::R) X.env=(Zn,e6 e X.env)::cw R X.env:=by rfl):PA X (e::R)<|RQ v t:=by
 intro pos aa s a H Q I h;rw[g];show cv _ _ (spliced<|(Zn,e6 e X.env)::hB pos (cw R X.env)) _ _ s;refine z3<|cK (j aa s a H _ I h) λu c b=>?_;obtain⟨x,H1,l,f,q1⟩:=b;exact cK (i pos aa c a H1 _ l q1) (by rintro n s2 ⟨xs,m,k,d,q2⟩;exact⟨x::xs,m,k,.cons f d,q2⟩)
def W4(t:TA):TE:=λa H Q=>t a H λxs H1=>xs.length<=cq/\∀p,H1 p=Y->Q (.ref p) (upd H1 p<|.tup xs)
def Ho(t:TA):TE:=λa H Q=>t a H λxs H1=>xs.length<=cq/\∀p,H1 p=Y->Q (.ref p) (upd H1 p<|.lst xs)
def CW{g}(h:PA X R t):PE X (.Tuple R g pos)<|W4 t:=by
 intro aa s d H Q I j;refine wpAny_Tuple_spliced<|cK (h pos aa s d H _ I j) λi a f=>?_;obtain⟨xs,H1,c,r,z,q⟩:=f;refine⟨by rw[<- r.length];exact z,?_⟩
 have k:H1 a.heap.objs.size=Y:=c.bj.fresh<|dS _;refine⟨.ref a.heap.objs.size,upd H1 a.heap.objs.size<|.tup xs,c.laid (t':=a.toks) (λb u e=>ax _ e) (dS _) ?_,J,q _ k⟩;exact⟨z,i,r,⟨_,de _ J,J,_,J⟩⟩
def mY(h:PA X R t):PE X (.List R pos)<|Ho t:=by
 intro aa s d H Q I i;refine wpAny_List_spliced<|cK (h pos aa s d H _ I i) λg a f=>?_;obtain⟨xs,H1,c,r,z,q⟩:=f;refine⟨by rw[<- r.length];exact z,?_⟩
 have j:H1 a.heap.objs.size=Y:=c.bj.fresh<|dS _;refine⟨.ref a.heap.objs.size,upd H1 a.heap.objs.size<|.lst xs,c.laid (t':=a.toks) (λb u e=>ax _ e) (dS _) ?_,J,q _ j⟩;exact⟨z,g,0,r,de _ J⟩
end
abbrev Sp:=List V->Hp->VK->XK->Prop
abbrev Bw:=List Env->Hp->ag->XK->ar->ag->Prop
structure pj(P:cW)(w:c4)(K:a_)(mg:Str->D2)(base:ed)(A:dA)(outer:List Env)(s:ag)(H:Hp):Prop where
 frames:A.frames=U outer
 mod:Mod K mg base
 bs:∀b o,base.get? b=U o->s.heap.get? b=U o/\H b=Y
 bsz:base.objs.size<=s.heap.objs.size
 jb:s.heap.FunFrames base outer
 frf:∀b∈jF outer,H b=Y
 bj:ja P w H s.heap
 bare:kl s.gens
def CE(outer:List Env)(P:cW)(w:c4)(H:Hp)(s:ag)(Q:VK)(u:ar)(s':ag):Prop:=
 ∃v H',s'.os=s.os/\kl s'.gens/\Un (jF outer) [] H H' s.heap s'.heap/\ja P w H' s'.heap/\RelV v u/\Q v H'
def CR(CX:Bw)(outer:List Env)(P:cW)(w:c4)(H:Hp)(s:ag)(Q:VK)(E:XK)(r:GK)(s':ag):Prop:=
 match r with
 |.ok<|.ret u=>CE outer P w H s Q u s'
 |.ok _=>False
 |.error e=>CX outer H s E e s'
structure bV(P:cW)(w:c4)(K:a_)(mg:Str->D2)(base:ed)(CX:Bw)(k:Nat)(f:bp)(fd:dy)(ps:Bi)(sp:Sp):Prop where
 len:∀vs H Q E,sp vs H Q E->vs.length=ps.length
 run:∀(A:dA)(outer:List Env)(s:ag)(H:Hp)(args:Args)(us:B2)(vs:List V)(Q:VK)(E:XK),bo k A->pj P w K mg base A outer s H->xp s fd args (ps.zip us)->Vals vs us->sp vs H Q E ->
  hQ (b8 P w) A (.call (.ref f) args) (CR CX outer P w H s Q E) s
def bV.imp{P:cW}{w:c4}{K:a_}{mg:Str->D2}{base:ed}{CX:Bw}{k:Nat}{f:bp}{fd:dy}{ps:Bi}{sp b:Sp}(F:bV P w K mg base CX k f fd ps sp)
  (h:∀vs H Q E,b vs H Q E->sp vs H Q E):bV P w K mg base CX k f fd ps b:=
 ⟨λvs H Q E q=>F.len vs H Q E<|h _ _ _ _ q,λA outer s H a c vs Q E g i j d e=>F.run A outer s H a c vs Q E g i j d<|h _ _ _ _ e⟩
def pj.make{P:cW}{w:c4}{K:a_}{mg:Str->D2}{base:ed}{A:dA}{outer:List Env}{s:ag}{H:Hp}(e:pj P w K mg base A outer s H)(C:bp)(us:B2)(a:List<|Str×ar) :
  pj P w K mg base (A.under<|.builtin "type.__call__" ⟨.ref C::us,a⟩) outer s H:=⟨by first|exact e.frames|(simpa[vr,Code.envs,xk,pushEnvs]using e.frames),e.mod,e.bs,e.bsz,e.jb,e.frf,e.bj,e.bare⟩
section
variable{X:Cx}{j:St}{s':ag}
def Inv.CY(I:Inv X aa j H s):pj X.prog X.w X.K X.mg X.base X.A X.stack s H:=
 ⟨I.ok.frames,I.ok.mod,I.bs,eT I.ok.bsz I.sz,I.stack,I.lS,I.bj,I.bare⟩
def Inv.after{Q:VK}{u:ar}(I:Inv X aa j H s)(h:CE X.stack X.prog X.w H s Q u s'):EP X aa j Q u s':=by
 obtain⟨v,H',os,bare,un,bj,r,q⟩:=h;obtain⟨a,g,d,t,Ĥ⟩:=s'
 obtain rfl:Ĥ=s.os:=os
 exact⟨v,H',I.call (h':=a) (g':=g) (d':=d) (t':=t) (ch:=[]) un bj bare λb z=>dk z<|by simp,r,q⟩
end
def Lp(sp:Sp)(c:List V)(E:XK)(t:TA):TE:=λa H Q=>t a H λb H1=>sp (b++c) H1 Q E
def sX(C:bp)(m:Str)(sp:Sp)(d:List V)(E:XK)(ta:TE)(t:TA):TE:=λb H Q=>ta b H λx H1=>∃a dx fs,x=.ref a/\H1 a=U (.ins C dx fs)/\fs.lookup m=Y /\
 t b H1 λc e=>sp (x::(c++d)) e Q E
def RS(C:bp)(sp:Sp)(c:List V)(E:XK)(t:TA):TE:=λa H Q=>t a H λb H1=>∀x dx,H1 x=Y->H1 dx=Y->dx≠x ->
 sp (.ref x::(b++c)) (upd (upd H1 dx<|.own x) x<|.ins C dx []) (λv d=>v=.non/\Q (.ref x) d) E
def Binds(K:a_)(fd:dy)(ps:Bi)(ds:B2):Prop:=
 ∀(s:ag)(a:B2),K.In s.heap->(a++ds).length=ps.length->xp s fd ⟨a,[]⟩ (ps.zip<|a++ds)
def Binds.all{K:a_}{fd:dy}{ps:Bi}(h:∀us:B2,us.length=ps.length->bindArgs fd ⟨us,[]⟩=pure (ps.zip us)):Binds K fd ps []:=λs us _ hl=>by
 rw[bz]at hl ⊢;exact .of_eq<|h us hl
def Passes(CX:Bw)(X:Cx)(E:XK):Prop:=∀(aa:dE)(b:St)(H:Hp)(s:ag)(e:ar)(a:ag),Inv X aa b H s->CX X.stack H s E e a->X.xe e a
section
variable{X:Cx}{CX:Bw}{k:Nat}{fd:dy}{ps:Bi}{sp:Sp}{N:List V}{ds:B2}{E:XK}{x m:Str}{S:Pos}{ta:TE}{t:TA}
def qR{aa:dE}{b:St}{H:Hp}{s:ag}{Q:VK}{us:B2}{vs:List V}(F:bV X.prog X.w X.K X.mg X.base CX k f fd ps sp)(i:bo k X.A)(j:Binds X.K fd ps ds)(hd:Vals N ds)(g:Passes CX X E)
  (I:Inv X aa b H s) (r:Vals vs us) (h:sp (vs++N) H Q E):cv (b8 X.prog X.w) X.A (call (.ref f) us) (EP X aa b Q) X.xe s:=by
 have c:Vals (vs++N)<|us++ds:=r.append hd;have hl:(us++ds).length=ps.length:=by rw[<- c.length];exact F.len _ _ _ _ h
 refine fv<|fA (F.run X.A X.stack s H ⟨us,[]⟩ (us++ds) (vs++N) Q E i I.CY (j s us I.gQ hl) c h) λr d a=>?_;cases r with
 |error e=>exact g aa b H s e d I a
 |ok fl=>
  cases fl with
  |ret u=>exact I.after a
  |next=>exact ey a
  |brk=>exact ey a
  |cont=>exact ey a
def x9(F:bV X.prog X.w X.K X.mg X.base CX k f fd ps sp)(g:bo k X.A)(l:Gl X x)(i:X.mg x=U (.ref f))(j:jA X.K (.ref f)=O)(m:Binds X.K fd ps ds)(hd:Vals N ds)(d:Passes CX X E)
  (n:PA X (e::R) t) (o:aV x:=by decide) (he:cw (e::R) X.env=(Zn,e6 e X.env)::cw R X.env:=by rfl) (hpl:(hB pos<|cw R X.env).any (·.1)=Zn:=by rfl) :
  PE X (.Call (.Name x p) (e::R) [] pos)<|Lp sp N E t:=by
 intro aa s b H Q I h;refine ek<|eO I l i ?_ o;refine xy (h₀:=X.base) I.ok.mod.kin j (cK (n pos aa s b H _ I h) λv y c=>?_) he hpl;obtain⟨u,H1,a,r,q⟩:=c;refine⟨a.gQ,?_⟩;exact qR F g m hd d a r q
def CZ(F:bV X.prog X.w X.K X.mg X.base CX k f fd ps sp)(b:bo k X.A)(e:Gl X x)(c:X.mg x=U (.ref f))(d:jA X.K (.ref f)=O)(g:Binds X.K fd ps ds)(hd:Vals N ds)(a:Passes CX X E)
  (i:aV x:=by decide):PE X (.Call (.Name x p) [] [] pos)<|Lp sp N E Hn:=by
 intro aa s j H Q I h;refine ek<|eO I e c ?_ i;exact BP I.gQ d<|qR (us:=[]) F b g hd a I .nil h
def x_{pl:Sem Bool}(he:PE X o ta)(c:pS X.K C)(g:Meth X.K C m f)(F:bV X.prog X.w X.K X.mg X.base CX k f fd ps sp)(z:bo k X.A)(B:Binds X.K fd ps ds)(hd:Vals N ds)(v:Passes CX X E)(D:PA X (e::R) t)
  (L:cw (e::R) X.env=(Zn,e6 e X.env)::cw R X.env:=by rfl) (hpl:(hB pos<|cw R X.env).any (·.1)=Zn:=by rfl)
  (y:e6 (.Call (.Attribute o m S) (e::R) [] pos) X.env=(do
   let ov <- e6 o X.env
   tf S.atName
   let(f,first) <- F1 [ov] (uk ov m pl)
   callWith pos f first (hB pos<|cw (e::R) X.env) (ra pos<|mr [] X.env)):=by rfl) :
  PE X (.Call (.Attribute o m S) (e::R) [] pos)<|sX C m sp N E ta t:=by
 intro aa s d H Q I h;refine Ko (pl:=pl) (cK (he aa s d H _ I h) λu n b=>?_) y;obtain⟨x,H1,j,p,a,dx,fs,ex,G,l,q⟩:=b;subst ex
 obtain rfl:u=Value.ref a:=p
 refine mX j G c g l ?_;refine xy (first:=[.ref a]) (h₀:=X.base) I.ok.mod.kin g.kp (cK (D pos aa n d H1 _ j q) λus s2 b=>?_) L hpl
 obtain⟨vs,M,i,r,q2⟩:=b;refine⟨i.gQ,?_⟩;exact qR (us:=.ref a::us) (vs:=.ref a::vs) F z B hd v i (.cons J r) q2
def sY{pl:Sem Bool}(he:PE X o ta)(c:pS X.K C)(d:Meth X.K C m f)(F:bV X.prog X.w X.K X.mg X.base CX k f fd ps sp)(p:bo k X.A)(r:Binds X.K fd ps ds)(hd:Vals N ds)(j:Passes CX X E)
  (n:e6 (.Call (.Attribute o m S) [] [] pos) X.env=(do
   let ov <- e6 o X.env
   tf S.atName
   let(f,first) <- F1 [ov] (uk ov m pl)
   callWith pos f first (hB pos<|cw [] X.env) (ra pos<|mr [] X.env)):=by rfl) :
  PE X (.Call (.Attribute o m S) [] [] pos)<|sX C m sp N E ta Hn:=by
 intro aa s e H Q I h;refine Ko (pl:=pl) (cK (he aa s e H _ I h) λu v g=>?_) n;obtain⟨x,H1,b,i,a,dx,fs,ex,t,l,q⟩:=g;subst ex
 obtain rfl:u=Value.ref a:=i
 refine mX b t c d l ?_;exact BP (first:=[.ref a]) b.gQ d.kp<|qR (us:=[.ref a]) (vs:=[.ref a]) F p r hd j b (.cons J .nil) q
structure Mk(K:a_)(C f:bp):Prop where
 makes:BI K C=O
 init:eQ K (.ref C) "__init__" = U (U<|.ref f)
 fn:Ah K (.ref f)=O
 kp:jA K (.ref C)=O
def C0{aa:dE}{c:St}{H:Hp}{s:ag}{Q:VK}{us:B2}{vs:List V}(M:Mk X.K C f)(F:bV X.prog X.w X.K X.mg X.base CX k f fd ps sp)(n:bo (k+1) X.A)(o:Binds X.K fd ps ds)(hd:Vals N ds)
  (m:Passes CX X E) (I:Inv X aa c H s) (r:Vals vs us)
  (h:∀x dx,H x=Y->H dx=Y->dx≠x->sp (.ref x::(vs++N)) (upd (upd H dx<|.own x) x<|.ins C dx []) (λv q=>v=.non/\Q (.ref x) q) E) :
  cv (b8 X.prog X.w) X.A (call (.ref C) us) (EP X aa c Q) X.xe s:=by
 have g:=h (s.heap.objs.size+1) s.heap.objs.size (I.bj.fresh<|xO _) (I.bj.fresh<|dS _)<|dO<|mQ _;have b:=Inv.made (C:=C) I;have d:Vals (V.ref (s.heap.objs.size+1)::(vs++N))<|Value.ref (s.heap.objs.size+1)::(us++ds):=.cons J<|r.append hd;have hl:(Value.ref (s.heap.objs.size+1)::us++ds).length=ps.length:=by
  have e:=d.length;rw[F.len _ _ _ _ g]at e;exact e.symm
 refine fv<|CV (f:=f) I.gQ M.makes M.init (beq_iff_eq.mp M.fn)<|fA (F.run _ X.stack _ _ ⟨Value.ref (s.heap.objs.size+1)::us,[]⟩ (Value.ref (s.heap.objs.size+1)::(us++ds)) _ _ E (n.make C us [])
  (b.CY.make C us []) (o _ (Value.ref (s.heap.objs.size+1)::us) b.gQ hl) d g) λr i a=>?_
 cases r with
 |error e=>exact m aa c _ _ e i b a
 |ok fl=>
  cases fl with
  |ret u=>
   obtain⟨v,H',p,j,ev,l⟩:=b.after a;subst ev;exact⟨j,⟨V.ref<|s.heap.objs.size+1,H',p,J,l⟩⟩
  |next=>exact ey a
  |brk=>exact ey a
  |cont=>exact ey a
def lX(M:Mk X.K C f)(F:bV X.prog X.w X.K X.mg X.base CX k f fd ps sp)(g:bo (k+1) X.A)(j:Gl X x)(i:X.mg x=U (.ref C))(l:Binds X.K fd ps ds)(hd:Vals N ds)(d:Passes CX X E)
  (m:PA X (e::R) t) (n:aV x:=by decide) (he:cw (e::R) X.env=(Zn,e6 e X.env)::cw R X.env:=by rfl) (hpl:(hB pos<|cw R X.env).any (·.1)=Zn:=by rfl) :
  PE X (.Call (.Name x p) (e::R) [] pos)<|RS C sp N E t:=by
 intro aa s b H Q I h;refine ek<|eO I j i ?_ n;refine xy (h₀:=X.base) I.ok.mod.kin M.kp (cK (m pos aa s b H _ I h) λu v c=>?_) he hpl;obtain⟨o,H1,a,r,q⟩:=c;refine⟨a.gQ,?_⟩;exact C0 M F g l hd d a r q
end
section
variable{X:Cx}{CX:Bw}{k:Nat}{fd:dy}{ps ks:Bi}{sp:Sp}{E:XK}{x m:Str}{j ĥ:Pos}{d:List tv}{n ta:TE}{t tk:TA}{nm:Option Str}
variable{g:B2->B2->B2}{u:List V->List V->List V}
end
structure fm(N P:Bi)(sc:gg):Prop where
 kind:sc.kind=.function
 co:sc.isCoroutine=Zn
 gen:sc.isGenerator=Zn
 nd:N.Nodup
 pre:N.take P.length=P
 par:∀x∈P,sc.names.lookup x=U .local\/sc.names.lookup x=U .cell
 nofree:∀y∈sc.names,y.2≠.free
theorem pU{kindOf:Str->Option oB}{x:Str}:∀{a:List<|Str×ar}{m:Str->D2},(∀v,(x,v)∉a)->C9 kindOf a m x=m x
 |[],_,_=>J
 |(n,v)::r,m,h=>by
  unfold C9;rw[pU λw b=>h w<|eE _ b];split
  .have:x≠n:=by rintro rfl;exact h v eu
   simp[this]
  .rfl
theorem pV{kindOf:Str->Option oB}{x:Str}:∀{a:List<|Str×ar}{m:Str->D2},(∀v,(x,v)∉a)->Df kindOf a m x=m x
 |[],_,_=>J
 |(n,v)::r,m,h=>by
  unfold Df;rw[pV λw b=>h w<|eE _ b];split
  .rfl
  .have:x≠n:=by rintro rfl;exact h v eu
   simp[this]
theorem pW{kindOf:Str->Option oB}{x:Str}{v:ar}:∀{P:Bi}{vs:B2}{i:Nat}{m:Str->D2},P.Nodup->P[i]?=U x->vs[i]?=U v->kindOf x=U .local ->
  C9 kindOf (P.zip vs) m x=U v
 |[],_,_,_,_,h,_,_=>by simp at h
 |_::_,[],_,_,_,_,h,_=>by simp at h
 |p::P,w::vs,0,m,nd,b,a,c=>by
  simp at b a;subst b;subst a;show C9 kindOf ((p,w)::P.zip vs) m p=_;unfold C9;rw[pU λv d=>(lF.mp nd).1 (xG d).1,b7 c];simp
 |p::P,w::vs,i+1,m,nd,b,a,c=>by
  show C9 kindOf ((p,w)::P.zip vs) m x=_;unfold C9;exact pW (i:=i) (lF.mp nd).2 (by simpa using b) (by simpa using a) c
theorem pX{kindOf:Str->Option oB}{x:Str}{v:ar}:∀{P:Bi}{vs:B2}{i:Nat}{m:Str->D2},P.Nodup->P[i]?=U x->vs[i]?=U v->kindOf x≠U .local ->
  Df kindOf (P.zip vs) m x=U v
 |[],_,_,_,_,h,_,_=>by simp at h
 |_::_,[],_,_,_,_,h,_=>by simp at h
 |p::P,w::vs,0,m,nd,b,a,c=>by
  simp at b a;subst b;subst a;show Df kindOf ((p,w)::P.zip vs) m p=_;unfold Df;rw[pV λv d=>(lF.mp nd).1 (xG d).1,b0 c];simp
 |p::P,w::vs,i+1,m,nd,b,a,c=>by
  show Df kindOf ((p,w)::P.zip vs) m x=_;unfold Df;exact pX (i:=i) (lF.mp nd).2 (by simpa using b) (by simpa using a) c
def start(N:Bi)(vs:List V):St:=vs.map U++dN (N.length-vs.length) Y
def ie(CX:Bw)(P:cW)(w:c4)(K:a_)(mg:Str->D2)(base:ed)(N:Bi)(qual:Str)(scope:gg)(f:bp)(a:ar)(A:dA)(outer:List Env)(s:ag)(H:Hp)(E:XK):Cx where
 prog:=P
 w:=w
 K:=K
 mg:=mg
 base:=base
 A:=A.deeper (u0 qual scope s.heap.objs.size f a)
 N:=N
 s₀:=s
 H₀:=H
 env:=u0 qual scope s.heap.objs.size f a
 outer:=outer
 stack:=u0 qual scope s.heap.objs.size f a::outer
 ex:=[]
 calm:=O
 fn:=λ_=>O
 pn:=[]
 xe:=λe c=>cv (b8 P w) (A.deeper<|u0 qual scope s.heap.objs.size f a) (wq (u0 qual scope s.heap.objs.size f a) e) (λ_ b=>CX outer H s E e b) (λd b=>CX outer H s E d b) c
def s_{sc:gg}{n:Nat}{x:Str}(h:sc.names.lookup x=U .cell):∃c,(CU n sc.names []).lookup x=U c:=by
 have q:=Kp sc.names n []<|.inl h;exact BS.mp q
def pY{CX:Bw}{P:cW}{w:c4}{K:a_}{mg:Str->D2}{base:ed}{N ps:Bi}{qual:Str}{scope:gg}{f:bp}{t:ar}{A:dA}{outer:List Env}{s s1:ag}{H:Hp}{E:XK}{us:B2}{vs:List V}
  (S:fm N ps scope) (hd:A.handled=Y) (g:pj P w K mg base A outer s H) (hl:vs.length=ps.length) (r:Vals vs us)
  (x:InCallC s s.heap.objs.size (C9 (u0 qual scope s.heap.objs.size f t).kindOf (ps.zip us) λ_=>Y) (CU (s.heap.objs.size+1) scope.names []) (Df (u0 qual scope s.heap.objs.size f t).kindOf (ps.zip us) λ_=>Y) s1) :
  Inv (ie CX P w K mg base N qual scope f t A outer s H E) [] (start N vs) H s1:=by
 have G:ps.length<=N.length:=by have:=eD sI S.pre;rw[xH]at this;lia
 obtain⟨o,tk,rfl,C⟩:=x.done;have RT:∀b:bp,b∉(ie CX P w K mg base N qual scope f t A outer s H E).ex:=λb z=>dk (show b∈([]:BM)from z) (by simp)
 refine⟨⟨g.mod,S.kind,J,J,dS _,λy z c o d=>?_,λy j=>?_,λy c _ h=>?_,λ_=>hd,xI g.frames,.inr ⟨J,J⟩,λb z=>dk z<|RT b,g.bs,g.bsz,λb _ _=>RT b,λb z=>dk z<|RT b,g.jb,g.frf⟩,
  J,g.bare,Un.kept C,⟨_,x.toInCall.ns,λi y v o d L=>?_⟩,λy c h=>⟨_,x.cell y c h⟩,g.bj.fresh<|dS _,λy c h=>?_,λp l=>dk (show p∈([]:dE)from l)<|by simp,g.bj.kept C,?_⟩
 .exact name_of_addr x.apart (hF o)<|hF d
 .have j:scope.names.lookup y=U .cell\/scope.names.lookup y=U .free:=j
  rcases j with j|j
  .exact s_ j
  .exact dk J<|S.nofree _<|hF j
 .exact Cn<|x.above y c<|hF h
 .have m:i<vs.length:=by
   unfold start at d;by_cases m:i<vs.length
   .exact m
   .rw[iu<|by simpa using m]at d
    rw[B3]at d;split at d<;>cases d
  have I:vs[i]?=U v:=by
   unfold start at d;rw[jB<|by simpa using m,gA]at d
   cases e:vs[i]? with
   |none=>rw[e]at d;cases d
   |some a=>rw[e]at d;cases d;rfl
  obtain⟨u,B,F⟩:=r.get I;have l:ps[i]?=U y:=by
   rw[<- S.pre,List.getElem?_take_of_lt<|by lia];exact o
  have D:ps.Nodup:=by rw[<- S.pre];exact S.nd.sublist<|List.take_sublist _ _
  refine⟨u,F,?_⟩;rcases S.par y (gB l)with k|k
  .exact .inl ⟨k,pW D l B k⟩
  .obtain⟨c,e⟩:=s_ (n:=s.heap.objs.size+1) k
   refine .inr ⟨.inl k,c,e,?_⟩;have q:=x.cell y c e;rw[pX D l B<|by show scope.names.lookup y≠_;rw[k];decide]at q
   exact q
 .exact g.bj.fresh<|Cn<|x.above y c<|hF h
 .unfold start
  show _=N.length;rw[dq,ck,Am]
  lia
def Lq{CX:Bw}{P:cW}{w:c4}{K:a_}{mg:Str->D2}{base:ed}{k:Nat}{f:bp}{name qual:Str}{a:Arguments}{c:Fh}{scope:gg}{D kV j C g ct R:ar}{an od:Option bp}
  {T:Array D2} {N ps:Bi} {sp:Sp} (X:K.lookup f=U ⟨R,od,.func<|Aj name qual a c scope D kV j C an g ct,T⟩) (fZ:BQ K g qual=O) (S:fm N ps scope)
  (len:∀vs H Q E,sp vs H Q E->vs.length=ps.length)
  (C3:∀(A:dA)(outer:List Env)(s:ag)(H:Hp)(vs:List V)(Q:VK)(E:XK),bo k (A.deeper<|u0 qual scope s.heap.objs.size f g)->sp vs H Q E ->
   ∃t,gz (ie CX P w K mg base N qual scope f g A outer s H E) c t/\t {nx:=λ_ H'=>Q .non H',rt:=Q} (start N vs) H) :
  bV P w K mg base CX (k+1) f (Aj name qual a c scope D kV j C an g ct) ps sp:=by
 refine⟨len,λA outer s H F M vs Q E z i hb r G=>?_⟩;have hl:=len _ _ _ _ G;have L:K.In s.heap:=i.mod.kin.keeps λb o e=>(i.bs b o e).1;have p:s.heap.NoLimit:=i.mod.nolimit.keeps λb o e=>(i.bs b o e).1;have C4:∀y∈ps.zip M,scope.names.lookup y.1=U .local\/(scope.names.lookup y.1=U .cell/\((CU (s.heap.objs.size+1) scope.names []).lookup y.1).isSome=O):=λ⟨n,v⟩ Z=>by
  rcases S.par n (xG Z).1 with q|q
  .exact .inl q
  .exact .inr ⟨q,Kp _ _ _<|.inl q⟩
 refine Hm z.depth (L _ _ X) J S.co S.gen J (PySem.W.codeRec_of L fZ)<|hb _ _ _ _ ?_;refine xY S.kind C4 λenv he B x=>?_;subst he;refine⟨p.keeps x.toInCall.keep,codeAny_func ?_⟩;obtain⟨t,ht,hq⟩:=C3 A outer s H vs Q E (z.deeper _) G;have I:Inv (ie CX P w K mg base N qual scope f g A outer s H E) [] (start N vs) H B:=pY S z.hd i hl r x;refine et (ht [] B (start N vs) H _ I hq) (λfl l h=>?_) λe l h=>h;have fin:∀{d:St}{H':Hp}{v:V}{u:ar},Inv (ie CX P w K mg base N qual scope f g A outer s H E) [] d H' l->RelV v u->Q v H'->CE outer P w H s Q u l:=
  λ{d H' v u} ql m q=>⟨v,H',ql.os,ql.bare,ql.base,ql.bj,m,q⟩
 cases fl with
 |ret u=>
  obtain⟨v,d,H',ql,m,q⟩:=h;exact fin ql m q
 |next=>
  obtain⟨d,H',ql,q⟩:=h;exact fin (v:=V.non) (u:=f7) ql J q
 |brk=>
  obtain⟨_,_,_,q⟩:=h;exact ey q
 |cont=>
  obtain⟨_,_,_,q⟩:=h;exact ey q
section
variable{X:Cx}{x:Str}{t:TA}{id T:String}{r:List V->Hp->VK->Prop}
def W5(r:List V->Hp->VK->Prop)(t:TA):TE:=λa H Q=>t a H λb H1=>r b H1 Q
def fK(l:fJ X (.builtin id) r)(k:Gl X x)(j:X.mg x=Y)(g:hH x=U (.builtin id))(m:PA X (e::R) t)(i:x ≠ "__name__" := by decide)(n:aV x:=by decide)
  (he:cw (e::R) X.env=(Zn,e6 e X.env)::cw R X.env:=by rfl) (hpl:(hB pos<|cw R X.env).any (·.1)=Zn:=by rfl):PE X (.Call (.Name x p) (e::R) [] pos)<|W5 r t:=by
 intro aa s a H Q I h;refine ek<|iz I k j g ?_ i n;exact Le (cK (m pos aa s a H _ I h)<|by rintro c d ⟨b,H1,o,f,q1⟩;exact l aa d a H1 b c Q o f q1) he hpl
def pZ(l:fJ X (.type T) r)(k:Gl X x)(j:X.mg x=Y)(g:hH x=U (.type T))(m:PA X (e::R) t)(i:x ≠ "__name__" := by decide)(n:aV x:=by decide)
  (he:cw (e::R) X.env=(Zn,e6 e X.env)::cw R X.env:=by rfl) (hpl:(hB pos<|cw R X.env).any (·.1)=Zn:=by rfl):PE X (.Call (.Name x p) (e::R) [] pos)<|W5 r t:=by
 intro aa s a H Q I h;refine ek<|iz I k j g ?_ i n;exact xV (cK (m pos aa s a H _ I h)<|by rintro c d ⟨b,H1,o,f,q1⟩;exact l aa d a H1 b c Q o f q1) he hpl
end
end L2
namespace HT
open PySem PyProof.Rows
section
open PySem.SeqAt
open PySem.AutoSeq1 (wpAny_loadPart')
open PySem.MeetsSeq PySem.MeetsSeq2 PySem.MeetsSeq3
end
section
variable{prog:cW}{w:c4}{A:dA}{E:ar->ag->Prop}{s:ag}
def f9(n d:Nat):Dx->Nat
 |none=>d
 |some v=>if v<0 then(v+(n:Int)).toNat else min v.toNat n
end
end HT
namespace L2
open PySem PySem.Spec PyProof.Rows
abbrev TO:=St->Hp->(Dx->Hp->Prop)->Prop
def PO(X:Cx)(e:Option cb)(t:TO):Prop:=
 ∀(b:dE)(s:ag)(a:St)(H:Hp)(Q:Dx->Hp->Prop),Inv X b a H s->t a H Q ->
  cv (b8 X.prog X.w) X.A (evalPart e X.env) (λu d=>∃o c,Inv X b a c d/\IsPart u o/\Q o c) X.xe s
def Hr:TO:=λ_ H Q=>Q Y H
def RU(t:TE):TO:=λa H Q=>t a H λx H1=>∃i,x=.int i/\Q (U i) H1
def intsAre_of{ns:Ee}:∀{us:B2},Vals (ns.map V.int) us->G6 us ns:=by
 induction ns with
 |nil=>intro us r;rw[B_]at r;cases r;exact .nil
 |cons n ns c=>
  intro us r;rw[eF]at r;cases r with
  |cons b a=>
   obtain⟨t,e⟩:=b;subst e;exact .cons n t<|c a
variable{X:Cx}
section
variable{e:cb}{L:TE}{R K:Option cb}{tl M:TO}{pos N:Pos}
def ya:PO X Y Hr:=by
 intro b s a H Q I h;rw[evalPart_none];exact cC ⟨Y,H,I,.none,h⟩
def yb(h:PE X e L):PO X (U e)<|RU L:=by
 intro f s a H Q I d;rw[evalPart_some];refine cK (h f s a H _ I d) λu j b=>?_;obtain⟨x,H1,g,c,q1⟩:=b;obtain⟨i,rfl,q⟩:=q1;obtain⟨t,rfl⟩:=c;exact⟨U i,H1,g,.int i t,q⟩
def Lr(X:Cx)(r:V->Dx->Dx->Hp->VK->Prop):Prop:=
 ∀(c:dE)(s:ag)(a:St)(H:Hp)(x:V)(v vl b:ar)(R K:Dx)(sl:bp)(Q:VK),Inv X c a H s->RelV x v->s.heap.IsSliceOf sl vl b .none->IsPart vl R->IsPart b K->r x R K H Q ->
  ∃T id,sT (.type T) "__getitem__" = pure (U<|.builtin id)/\s.TypeIs v T/\cv (b8 X.prog X.w) X.A (getItem v<|.ref sl) (EP X c a Q) X.xe s
def Lr.or{r d:V->Dx->Dx->Hp->VK->Prop}(h:Lr X r)(h':Lr X d):Lr X λx R K H Q=>r x R K H Q\/d x R K H Q:=by
 intro i s a H x v vl b R K sl Q I c g f e q;rcases q with q|q
 .exact h i s a H x v vl b R K sl Q I c g f e q
 .exact h' i s a H x v vl b R K sl Q I c g f e q
def Ħ(r:V->Dx->Dx->Hp->VK->Prop)(L:TE)(tl M:TO):TE:=λa H Q=>L a H λx H1=>tl a H1 λl c=>M a c λu b=>r x l u b Q
def tm{r:V->Dx->Dx->Hp->VK->Prop}(y:Lr X r)(he:PE X e L)(hl:PO X R tl)(p:PO X K M):PE X (.Subscript e (.Slice R K Y N) pos)<|Ħ r L tl M:=by
 intro d s c H Q I h;refine Subscript_<|cK (he d s c H _ I h) λv j f=>?_;obtain⟨x,H1,F,k,q1⟩:=f;refine wpAny_Slice<|cK (hl d j c H1 _ F q1) λvl s2 f=>?_;obtain⟨l,G,E,o,q2⟩:=f;refine cK (p d s2 c G _ E q2) λg a f=>?_;obtain⟨u,i,D,n,m⟩:=f;rw[evalPart_none];refine cC ?_;have C:Inv X d c i {a with heap:=a.heap.push {cls:=.type "slice",data:=.fields #[vl,g,.none]}}:=D.kept (t':=a.toks) λb ob q=>ax _ q
 obtain⟨T,id,B,t,z⟩:=y d {a with heap:=a.heap.push {cls:=.type "slice",data:=.fields #[vl,g,.none]}} c i x v vl g l u a.heap.objs.size Q C k (Heap.IsSliceOf.new ..) o n m
 show cv (b8 X.prog X.w) X.A (subscriptTail e (.Slice R K Y N) v<|.ref a.heap.objs.size) (EP X d c Q) X.xe {a with heap:=a.heap.push {cls:=.type "slice",data:=.fields #[vl,g,.none]}}
 exact tail_any (ops:=[.ref a.heap.objs.size,v]) t B z (by with_unfolding_all rfl)
def qS(xs:List V)(R K:Dx):List V:=(xs.drop<|HT.f9 xs.length 0 R).take<|HT.f9 xs.length xs.length K-HT.f9 xs.length 0 R
def tu(xs:List V)(R K:Dx):(qS xs R K).length<=xs.length:=by
 unfold qS;rw[xH,An]
 lia
end
def Nh(n:Nat)(i:Int):Option Nat:=if 0<=i then(if i<n then U i.toNat else Y)else if -(n:Int)<=i then U (i+n).toNat else Y
def C5{α:Type}(xs:List α)(i:Int):Option α:=(Nh xs.length i).bind λj=>xs[j]?
def Hs{n:Nat}{i:Int}{j:Nat}(h:Nh n i=U j):seqIndex? i n=U j/\j<n/\-(n:Int)<=i/\i<n:=by
 unfold Nh at h;by_cases h0:0<=i
 .rw[b7 h0]at h
  by_cases h1:i<n
  .rw[b7 h1]at h
   have e:i.toNat=j:=mO.inj h;exact⟨by rw[seqIndex_of h0 h1,e],by lia,by lia,h1⟩
  .rw[b0 h1]at h;cases h
 .rw[b0 h0]at h
  by_cases h1:-(n:Int)<=i
  .rw[b7 h1]at h
   have e:(i+n).toNat=j:=mO.inj h;exact⟨by rw[seqIndex_neg (by lia) h1,e],by lia,h1,by lia⟩
  .rw[b0 h1]at h;cases h
def qT{α:Type}{xs:List α}{i:Int}{v:α}(h:C5 xs i=U v):∃j,seqIndex? i xs.length=U j/\xs[j]?=U v/\j<xs.length/\-(xs.length:Int)<=i/\i<xs.length:=by
 unfold C5 at h;cases e:Nh xs.length i with
 |none=>rw[e]at h;cases h
 |some j=>
  rw[e]at h;obtain⟨d,c,b,a⟩:=Hs e;exact⟨j,d,h,c,b,a⟩
def lY(b:cb):Prop:=∀o i,subscripted b Zn o i=operate [o,i] (getItem o i)
def Ht(X:Cx)(r:R2):Prop:=
 ∀(b a:cb)(d:dE)(s:ag)(c:St)(H:Hp)(x y:V)(v u:ar)(Q:VK),Inv X d c H s->RelV x v->RelV y u->r x y H Q ->
  subscripted a Zn v u=operate [v,u] (getItem v u)->cv (b8 X.prog X.w) X.A (subscriptTail b a v u) (EP X d c Q) X.xe s
def vq(X:Cx)(id:String)(r:V->List V->Hp->VK->Prop):Prop:=
 ∀(c:dE)(s:ag)(a:St)(H:Hp)(x:V)(xs:List V)(v:ar)(b:B2)(Q:VK),Inv X c a H s->RelV x v->Vals xs b->r x xs H Q ->
  cv (b8 X.prog X.w) X.A (call (.builtin id)<|v::b) (EP X c a Q) X.xe s
section
variable{a b:cb}{ta n:TE}{pos:Pos}
def Ht.or{r f:R2}(h:Ht X r)(h':Ht X f):Ht X λx y H Q=>r x y H Q\/f x y H Q:=by
 intro a b i s c H x y v u Q I e d q g;rcases q with q|q
 .exact h a b i s c H x y v u Q I e d q g
 .exact h' a b i s c H x y v u Q I e d q g
def RV{r:R2}(g:Ht X r)(j:PE X a ta)(i:PE X b n)(f:lY b):PE X (.Subscript a b pos)<|GV r ta n:=by
 intro k s c H Q I h;exact Subscript_<|M5 j i I h λv u s2 x y m l e d q=>g a b k s2 c m x y v u Q l e d q<|f _ _
def RW(K:a_):R2:=λx y H Q=>∃p xs i v,x=.ref p/\y=.int i/\dM K H p xs/\C5 xs i=U v/\Q v H
def RY(K:a_):R2:=λx y H Q=>∃p xs i v,x=.ref p/\y=.int i/\k7 K H p xs/\C5 xs i=U v/\Q v H
def RZ:R2:=λx y H Q=>∃z i c,x=.str z/\y=.int i/\z.length<=cq/\C5 z.cps.toList i=U c/\Q (.str ⟨#[c]⟩) H
def Hu:Ht X<|RW X.K:=by
 intro b c l s f H x y v u Q I o n h g;obtain⟨p,xs,i,z,rfl,rfl,A,B,q⟩:=h;cases o;obtain⟨t,rfl⟩:=n;obtain⟨aG,r,d,G⟩:=I.list A;obtain⟨j,a,E,M,D,C⟩:=qT B;obtain⟨w,k,F⟩:=r.get E;have hl:=r.length;have L:=mW;have fin:EP X l f Q w s:=⟨z,H,I,F,q⟩;by_cases h0:0<=i
 .have e:i.toNat=j:=by
   rw[seqIndex_of h0 C]at a;exact mO.inj a
  exact item_listR d.isList h0 (by lia) (by rw[e];simpa using k) fin g
 .have e:(i+(aG.toArray.size:Int)).toNat=j:=by
   rw[seqIndex_neg (by lia) D]at a
   rw[cP,<- hl];exact mO.inj a
  exact Ej (x:=w) d.isList.typeIs slot_list_getitem.lookup
   (wpAny_getItem_list_neg (Q:=λr m=>r=w/\EP X l f Q r m) d.isList (by lia) (by rw[cP]<;>lia) (by lia) (by rw[e];simpa using k) ⟨J,fin⟩) g
def Ni:Ht X<|RY X.K:=by
 intro a b e s c H x y v u Q I k g h l;obtain⟨p,xs,i,z,rfl,rfl,m,n,q⟩:=h;cases k;obtain⟨t,rfl⟩:=g;obtain⟨aG,r,d,D⟩:=I.tuple m;obtain⟨j,A,o,L,G,F⟩:=qT n;obtain⟨w,B,C⟩:=r.get o;have hl:=r.length;have E:=mW;have fin:EP X e c Q w s:=⟨z,H,I,C,q⟩;exact Ej (x:=w) d.typeIs slot_tuple_getitem.lookup
  (getItem_tuple (j:=j) (Q:=λr f=>r=w/\EP X e c Q r f) d (by lia) (by lia) (by rw[cP,<- hl];exact A) (by simpa using B) ⟨J,fin⟩) l
def Nj:Ht X RZ:=by
 intro a b D s r H x y v u Q I f e h g;obtain⟨z,i,c,rfl,rfl,A,k,q⟩:=h;obtain⟨t,rfl⟩:=f;obtain⟨w,rfl⟩:=e;obtain⟨j,d,n,C,m,l⟩:=qT k;have hl:z.cps.toList.length=z.length:=by simp[Str.length]
 rw[hl]at d m l;have B:=mW;exact tail_any (n0 s z t) slot_str_getitem.lookup (getItem_str (c:=c) (by
  have p:decide (i < -(2^63:Int))=Zn:=a9 (by lia)
  have o:decide (i ≥ 2^63)=Zn:=a9 (by lia)
  rw[p,o,Bool.or_false]) (by rw[d];simpa using n) ⟨.str ⟨#[c]⟩,H,I.tok _,⟨_,J⟩,q⟩) g
def Z7(K:a_):R2:=λx y H Q=>RW K x y H Q\/RY K x y H Q\/RZ x y H Q
def Nk:Ht X<|Z7 X.K:=Hu.or<|Ni.or Nj
def qU(lo a:Dx)(n:Nat):(mq lo a Y n).1=((HT.f9 n 0 lo:Nat):Int)/\(mq lo a Y n).2.1=((HT.f9 n n a:Nat):Int)/\(mq lo a Y n).2.2=1:=by
 refine⟨?_,?_,J⟩
 .cases lo with
  |none=>simp[mq,HT.f9]
  |some i=>
   simp only[mq,HT.f9,Ks,show(1:Int) > 0 by decide,BA]
   by_cases h:i<0
   .simp only[h,BA]<;>lia
   .simp only[h,if_false]<;>lia
 .cases a with
  |none=>simp[mq,HT.f9]
  |some i=>
   simp only[mq,HT.f9,Ks,show(1:Int) > 0 by decide,BA]
   by_cases h:i<0
   .simp only[h,BA]<;>lia
   .simp only[h,if_false]<;>lia
def pA(aG:B2)(lo a:Dx):slicePick aG.toArray lo a Y=((aG.drop<|HT.f9 aG.length 0 lo).take<|HT.f9 aG.length aG.length a-HT.f9 aG.length 0 lo).toArray:=by
 obtain⟨d,c,b⟩:=qU lo a aG.toArray.size;unfold slicePick;rw[d,c,b];simp only[sliceRange_one,pick_run,cP]<;>rfl
def R1(K:a_):V->Dx->Dx->Hp->VK->Prop:=λx lo b H Q=>∃a xs,x=.ref a/\dM K H a xs/\∀p,H p=Y->Q (.ref p) (upd H p<|.lst<|qS xs lo b)
def yc:Lr X<|R1 X.K:=by
 intro p s m H x v vl n lo c sl Q I e k g f h;obtain⟨a,xs,rfl,j,q⟩:=h;cases e;obtain⟨aG,r,d,i⟩:=I.list j;have l:=r.length;refine⟨"list",_,slot_list_getitem.lookup,d.isList.typeIs,?_⟩;refine wpAny_getItem_list_slice d.isList k g f .none (by simp) ?_ (by rw[cP]<;>lia)
 rw[pA,<- l];refine⟨.ref s.heap.objs.size,_,I.laid (t':=s.toks) (o:=.lst<|qS xs lo c) (λb ob q=>ax _ q) (dS _) ?_,J,q _<|I.bj.fresh<|dS _⟩;exact⟨eT (tu xs lo c) i,_,0,(r.drop<|HT.f9 xs.length 0 lo).take<|HT.f9 xs.length xs.length c-HT.f9 xs.length 0 lo,de _ J⟩
def eA:V->Bool
 |.non=>O
 |.bl _=>O
 |.int _=>O
 |.str _=>O
 |_=>Zn
def C6:V->V->Bool
 |.non,.non=>O
 |.bl a,.bl b=>a == b
 |.bl a,.int b=>(if a then 1 else 0) == b
 |.int a,.bl b=>a == (if b then 1 else 0)
 |.int a,.int b=>a == b
 |.str a,.str b=>a == b
 |_,_=>Zn
def vW{A:dA}{s:ag}{y x:V}{u v:ar}(e:RelV y u)(c:RelV x v)(f:eA y=O)(fx:eA x=O):mB A s u v<|C6 y x:=by
 cases y with
 |non=>
  cases e;cases x with
  |non=>cases c;exact SeqAt.EqAt.same _
  |bl b=>cases c;exact SeqAt.EqAt.none_bool b
  |int b=>obtain⟨t,rfl⟩:=c;exact SeqAt.EqAt.none_int b t
  |str b=>obtain⟨t,rfl⟩:=c;exact SeqAt.EqAt.none_str b t
  |_=>exact dk (show Zn=O from fx) ia
 |bl a=>
  cases e;cases x with
  |non=>cases c;exact SeqAt.EqAt.bool_none a
  |bl b=>cases c;exact SeqAt.EqAt.bool_bool a b
  |int b=>obtain⟨t,rfl⟩:=c;exact SeqAt.EqAt.bool_int a b t
  |str b=>obtain⟨t,rfl⟩:=c;exact SeqAt.EqAt.bool_str a b t
  |_=>exact dk (show Zn=O from fx) ia
 |int a=>
  obtain⟨d,rfl⟩:=e;cases x with
  |non=>cases c;exact SeqAt.EqAt.int_none a d
  |bl b=>cases c;exact SeqAt.EqAt.int_bool a d b
  |int b=>obtain⟨t,rfl⟩:=c;exact SeqAt.EqAt.int_int a d b t
  |str b=>obtain⟨t,rfl⟩:=c;exact vi a d b t
  |_=>exact dk (show Zn=O from fx) ia
 |str a=>
  obtain⟨d,rfl⟩:=e;cases x with
  |non=>cases c;exact SeqAt.EqAt.str_none a d
  |bl b=>cases c;exact SeqAt.EqAt.str_bool a d b
  |int b=>obtain⟨t,rfl⟩:=c;exact vb a d b t
  |str b=>obtain⟨t,rfl⟩:=c;exact SeqAt.EqAt.str_str a d b t
  |_=>exact dk (show Zn=O from fx) ia
 |_=>exact dk (show Zn=O from f) ia
def vX(x:V)(u:ar):Bool:=match u with
 |.none=>C6 .non x
 |.bool b=>C6 (.bl b) x
 |.int i _=>C6 (.int i) x
 |.str z _=>C6 (.str z) x
 |_=>Zn
def C7{x y:V}{u:ar}(r:RelV y u)(f:eA y=O):vX x u=C6 y x:=by
 cases y with
 |non=>cases r;rfl
 |bl b=>cases r;rfl
 |int i=>obtain⟨t,rfl⟩:=r;rfl
 |str z=>obtain⟨t,rfl⟩:=r;rfl
 |_=>exact dk (show Zn=O from f) ia
theorem jK{x:V}:∀{xs:List V}{us:B2},Vals xs us->xs.all eA=O->us.any (vX x)=xs.any λy=>C6 y x
 |_,_,.nil,_=>J
 |y::xs,u::us,.cons r t,f=>by
  rw[d_,bT]at f;rw[mP,mP,C7 r f.1,jK t f.2]
theorem iC{A:dA}{s:ag}{x:V}{v:ar}(b:RelV x v)(fx:eA x=O):∀{xs:List V}{us:B2},Vals xs us->xs.all eA=O->∀u∈us,mB A s u v (vX x u)
 |_,_,.nil,_=>λu a=>by cases a
 |y::xs,u::us,.cons r t,f=>λc a=>by
  rw[d_,bT]at f;rcases bu.mp a with rfl|a
  .rw[C7 r f.1];exact vW r b f.1 fx
  .exact iC b fx t f.2 c a
def QV(x:V)(xs:List V):Bool:=xs.any λy=>C6 y x
def V4(K:a_)(a:Bool):R2:=λx y H Q=>∃p xs,y=.ref p/\(dM K H p xs\/k7 K H p xs)/\eA x=O/\xs.all eA=O/\Q (.bl<|if a then !QV x xs else QV x xs) H
def p9:f6 X (eh .In)<|V4 X.K Zn:=by
 intro i s g H x y v u Q I d e h;obtain⟨p,xs,rfl,a,fx,fs,q⟩:=h;cases e;rcases a with a|a
 .obtain⟨aG,r,b,f⟩:=I.list a
  refine SeqAt.in_listAt (vX x) b.isList (λw c=>iC d fx r fs w<|by simpa using c) ⟨.bl _,H,I,J,?_⟩
  rw[show aG.toArray.any (vX x)=aG.any (vX x) by simp,jK r fs]
  exact q
 .obtain⟨aG,r,b,f⟩:=I.tuple a
  refine SeqAt.in_tupleAt (vX x) b (λw c=>iC d fx r fs w<|by simpa using c) ⟨.bl _,H,I,J,?_⟩
  rw[show aG.toArray.any (vX x)=aG.any (vX x) by simp,jK r fs]
  exact q
def qV:f6 X (eh .NotIn)<|V4 X.K O:=by
 intro i s g H x y v u Q I d e h;obtain⟨p,xs,rfl,a,fx,fs,q⟩:=h;cases e;rcases a with a|a
 .obtain⟨aG,r,b,f⟩:=I.list a
  refine SeqAt.notIn_listAt (vX x) b.isList (λw c=>iC d fx r fs w<|by simpa using c) ⟨.bl _,H,I,J,?_⟩
  rw[show aG.toArray.any (vX x)=aG.any (vX x) by simp,jK r fs]
  exact q
 .obtain⟨aG,r,b,f⟩:=I.tuple a
  refine SeqAt.notIn_tupleAt (vX x) b (λw c=>iC d fx r fs w<|by simpa using c) ⟨.bl _,H,I,J,?_⟩
  rw[show aG.toArray.any (vX x)=aG.any (vX x) by simp,jK r fs]
  exact q
def jL:fJ X (.type "list") λxs H Q=>∃p ys,xs=[.ref p]/\(dM X.K H p ys\/k7 X.K H p ys)/\∀l,H l=Y->Q (.ref l) (upd H l<|.lst ys):=by
 intro y s t H xs z Q I r h;obtain⟨p,ys,rfl,g,q⟩:=h;obtain⟨u,rfl,v⟩:=vals1 r;cases v;have fin:∀(aG:B2),Vals ys aG->ys.length<=cq->∀(a:ed)(d:Nat),(∀b m,s.heap.get? b=U m->a.get? b=U m) ->
   a.get? s.heap.objs.size=U {cls:=.type "list",dict:=Y,data:=.seq aG.toArray d,slots:=#[]}->EP X y t Q (.ref s.heap.objs.size) {s with heap:=a}:=λaG c f a d kp e=>
  ⟨.ref s.heap.objs.size,_,I.laid (t':=s.toks) kp (dS _)<|show bK X.prog X.w _ a _ (.lst ys)from⟨f,aG,d,c,e⟩,J,q _<|I.bj.fresh<|dS _⟩
 rcases g with g|g
 .obtain⟨aG,c,i,f⟩:=I.list g
  have x:=c.length;obtain⟨o,j,k,n,hd⟩:=i.isList;exact call_list_seq p (.inl J) j k hd (λa d kp e=>fin aG c f a d kp e) (by simp only[cP]<;>lia)
 .obtain⟨aG,c,i,f⟩:=I.tuple g
  have x:=c.length;obtain⟨o,j,k,n,hd⟩:=i;exact call_list_seq p (.inr J) j k hd (λa d kp e=>fin aG c f a d kp e) (by simp only[cP]<;>lia)
def W6(K:a_)(T:String)(x:V)(H:Hp):Prop:=match x with
 |.str _=>T = "str"
 |.int _=>T = "int"
 |.ref p=>(T = "list" /\ ∃xs,dM K H p xs)\/(T = "tuple" /\ ∃o,K.lookup p=U o/\o.cls=.type "tuple" /\ o.dict=Y) \/
   (T = "dict" /\ ((∃a,H p=U (.dK a))\/∃a,H p=U (.dT a)))\/(T = "set" /\ ∃S n,H p=U (.set S n))
 |_=>False
def C8{k:dE}{g:St}{H:Hp}{s:ag}{T:String}{x:V}{v:ar}(I:Inv X k g H s)(r:RelV x v)(ty:W6 X.K T x H) :
  s.TypeIs v T/\∀a,v=.ref a->∃ob,s.heap.get? a=U ob/\ob.dict=Y:=by
 cases x with
 |str z=>
  obtain⟨t,rfl⟩:=r;cases(show T = "str"from ty);exact⟨n0 s z t,λ_ e=>nomatch e⟩
 |int i=>
  obtain⟨t,rfl⟩:=r;cases(show T = "int"from ty);exact⟨typeIs_int s i t,λ_ e=>nomatch e⟩
 |ref p=>
  cases r;rcases ty with⟨rfl,xs,h⟩|⟨rfl,o,b,j,hd⟩|⟨rfl,b⟩|⟨rfl,S,n,b⟩
  .obtain⟨aG,_,f,_⟩:=I.list h
   refine⟨f.isList.typeIs,λa e=>?_⟩;cases e;obtain⟨o,n,e,c,hd,_⟩:=f;exact⟨o,e,hd⟩
  .refine⟨⟨o,I.gQ p o b,j⟩,λa e=>?_⟩
   cases e;exact⟨o,I.gQ _ o b,hd⟩
  .have z:∃o,s.heap.get? p=U o/\o.ExactDict:=by
    rcases b with⟨l,b⟩|⟨l,b⟩
    .obtain⟨_,_,_,_,o,_,_,e,ex,_⟩:=I.bj p _ b
     exact⟨o,e,ex⟩
    .obtain⟨_,_,_,_,o,_,_,e,ex,_⟩:=I.bj p _ b
     exact⟨o,e,ex⟩
   obtain⟨o,e,ex⟩:=z;refine⟨⟨o,e,ex.1⟩,λa d=>?_⟩;cases d;exact⟨o,e,ex.2.1⟩
  .obtain⟨o,_,_,_,e,ex,_⟩:=I.bj p _ b
   refine⟨⟨o,e,ex.1⟩,λa d=>?_⟩;cases d;exact⟨o,e,ex.2.1⟩
 |_=>exact ey ty
def W7(K:a_)(T:String)(r:V->List V->Hp->VK->Prop)(to:TE):TE:=λa H Q=>to a H λx H1=>W6 K T x H1/\r x [] H1 Q
def Z8(K:a_)(T:String)(r:V->List V->Hp->VK->Prop)(to:TE)(t:TA):TE:=λa H Q=>to a H λx H1=>W6 K T x H1/\t a H1 λxs b=>r x xs b Q
variable{o e:cb}{G:Bz}{to:TE}{t:TA}{name:Str}{L R:Pos}{T id:String}{r:V->List V->Hp->VK->Prop}
def Nl(g:PlainAttrs T)(slot:Slot T name id)(n:sx (.builtin id)=pure (.type "method_descriptor"))(k:vq X id r)(j:PE X o to)
  (p:kf o name X.env (e6 o X.env)=e6 o X.env:=by rfl) (i:(L.endLine == R.line)=O:=by rfl):PE X (.Call (.Attribute o name L) [] [] R)<|W7 X.K T r to:=by
 intro c s a H Q I h;refine wpAny_Call_method0_late p i<|cK (j c s a H _ I h) λv f e=>?_;obtain⟨x,H1,d,b,ty,q1⟩:=e;obtain⟨m,l⟩:=C8 d b ty;exact⟨T,id,g,slot,n,m,l,wh J<|PySem.evalArgs_none<|k c f a H1 x [] v [] Q d b .nil q1⟩
def C_(m:PlainAttrs T)(slot:Slot T name id)(D:sx (.builtin id)=pure (.type "method_descriptor"))(u:vq X id r)(q:PE X o to)(w:PA X (e::G) t)
  (F:kf o name X.env (e6 o X.env)=e6 o X.env:=by rfl)
  (A:((hB R<|cw (e::G) X.env).all (λx=>!x.1)&&(ra R<|mr [] X.env).all (λx=>x.1.isSome)
   && decide ((e::G).length+([]:List tv).length+(if([]:List tv).isEmpty then 0 else 1)<30))=O:=by rfl)
  (n:(L.endLine == R.line)=O:=by rfl) (p:cw (e::G) X.env=(Zn,e6 e X.env)::cw G X.env:=by rfl) (B:(hB R<|cw G X.env).any (·.1)=Zn:=by rfl) :
  PE X (.Call (.Attribute o name L) (e::G) [] R)<|Z8 X.K T r to t:=by
 intro b s a H Q I h;refine wpAny_Call_method_late F A n J<|cK (q b s a H _ I h) λv k g=>?_;obtain⟨x,H1,f,c,ty,q1⟩:=g;obtain⟨z,y⟩:=C8 f c ty;refine⟨T,id,m,slot,D,z,y,?_⟩;have d:=w R b k a H1 _ f q1;rw[p]at d ⊢;refine wh (by show(Zn ||(hB R<|cw G X.env).any (·.1))=Zn;rw[B]<;>rfl)<|y0 ?_
 exact cK d (by rintro j s2 ⟨i,E,C,l,q2⟩;exact u b s2 a E x i v j Q C c l q2)
end
def ħ(X:Cx)(id:String)(r:V->List V->Hp->VK->Prop):Prop:=
 ∀(c:dE)(s:ag)(a:St)(H:Hp)(x:V)(xs:List V)(v:ar)(b:B2)(Q:VK),Inv X c a H s->RelV x v->Vals xs b->r x xs H Q ->
  cv (b8 X.prog X.w) X.A (call (.builtin id)<|v::b) (EP X c a Q) X.xe s
def Vals.one:∀{x:V}{us:B2},Vals [x] us->∃u,us=[u]/\RelV x u:=by
 intro x us h;cases h with
 |cons r t=>cases t;exact⟨_,J,r⟩
def Vals.two:∀{x y:V}{us:B2},Vals [x,y] us->∃u v,us=[u,v]/\RelV x u/\RelV y v:=by
 intro x y us h;cases h with
 |cons r t=>
  obtain⟨v,rfl,q⟩:=Vals.one t;exact⟨_,_,J,r,q⟩
section
variable{j:dE}{t:St}{H:Hp}{s:ag}{l b:bp}{xs ys zs:List V}
def Inv.W9{aG its':B2}{n:Nat}{f:Array ar->Array ar}{t':Nat}(I:Inv X j t H s)(h:H l=U (.lst xs))
  (e:s.heap.get? l=U {cls:=.type "list",data:=.seq aG.toArray n}) (d:f aG.toArray=its'.toArray) (b:Vals ys its') (a:ys.length<=cq) :
  Inv X j t (upd H l<|.lst ys) {s with heap:=s.heap.update l (Obj.mapSeq f),toks:=t'}:=by
 have q:=PySem.IsL.update e f;rw[d]at q;refine I.write (x:=l) (e:=l) (by rw[h];exact trivial) (.inl J) (λi u g c=>(f5 s.heap (Obj.mapSeq f)<|ew g).trans c) ⟨_,q⟩ ?_
 exact⟨a,its',_,b,q⟩
def Inv.Dc{aG:B2}{t':Nat}(I:Inv X j t H s)(b:Vals ys aG)(a:ys.length<=cq) :
  Inv X j t (upd H s.heap.objs.size<|.lst ys) {s with heap:=s.heap.push {cls:=.type "list",data:=.seq aG.toArray},toks:=t'}:=
 I.laid (λ_ _ q=>ax _ q) (dS _) ⟨a,aG,0,b,de _ J⟩
theorem Inv.fresh(I:Inv X j t H s):H s.heap.objs.size=Y:=I.bj.fresh<|dS _
def Inv.Nn(I:Inv X j t H s)(a:H l=U (.lst xs)):xs.length<=cq/\∃(aG:B2)(n:Nat),Vals xs aG/\xs.length=aG.length/\s.heap.get? l=U {cls:=.type "list",data:=.seq aG.toArray n}:=by
 obtain⟨z,aG,n,r,e⟩:=I.bj l _ a;exact⟨z,aG,n,r,r.length,e⟩
end
section
def Hw:V->List V->Hp->VK->Prop:=λx a H Q=>∃l xs y,x=.ref l/\a=[y]/\H l=U (.lst xs)/\xs.length<cq/\Q .non (upd H l<|.lst<|xs++[y])
def ky:ħ X "list.append" Hw:=by
 intro k s f H x g v i Q I b c h;obtain⟨l,xs,y,rfl,rfl,a,j,q⟩:=h;cases b;obtain⟨u,rfl,d⟩:=c.one;obtain⟨z,aG,n,r,hl,e⟩:=I.Nn a;refine yA F.slot_list_append ⟨_,e,J⟩ F.entry_list_append (F.args_list_append_2 _ _) (PySem.list_append l aG.toArray n u<|by rw[cP];lia) ⟨e,?_⟩
 refine⟨.non,_,I.W9 (its':=aG++[u]) a e (by simp) (r.append<|.cons d .nil) ?_,J,q⟩
 rw[dq,jC]
 lia
def R3:R2:=λx y H Q=>∃l b xs a,x=.ref l/\y=.ref b/\H l=U (.lst xs)/\H b=U (.lst a)/\xs.length+a.length<=cq/\∀p,H p=Y->Q (.ref p) (upd H p<|.lst<|xs++a)
def vY:f6 X (ke .Add) R3:=by
 intro A s m H x y v u Q I d c h;obtain⟨l,b,xs,o,rfl,rfl,g,i,w,q⟩:=h;cases d;cases c;obtain⟨z,aG,n,r,hl,e⟩:=I.Nn g;obtain⟨p,a,t,f,B,k⟩:=I.Nn i;refine PySem.P.add_list e k ?_ (by rw[cP,cP];lia)
 have j:aG.toArray++a.toArray=(aG++a).toArray:=by simp
 rw[j];exact⟨.ref _,_,I.Dc (t':=s.toks) (r.append f)<|by rw[dq];lia,J,q _ I.fresh⟩
end
section
variable{prog:cW}{w:c4}{A:dA}{E:ar->ag->Prop}{s:ag}
end
end L2
namespace Att
open PySem PySem.W PySem.Calls PyProof.Rows
def lK{P:ma}{h:ed}:∀(ns:Ee)(vs:B2),WellAll P h vs (ns.map WData.int)->G6 vs ns:=by
 intro ns
 induction ns with
 |nil=>
  intro vs w;rw[B_]at w;cases w;exact .nil
 |cons n ns c=>
  intro vs w;rw[eF]at w;cases w with
  |cons a b=>
   cases a;exact .cons _ _<|c _ b
def AF{l:OpenLaw}{n:Nat}(j:l.most=U n){P:ma}{h:ed}{args:List WData}{vals:B2}
  (f:l.row.toRowW.claim.pre args=O) (s:WellAll P h vals args) :
  ∃a vs ns,vals=[Value.ref a]/\args=[WData.list<|ns.map WData.int]/\h.get? a=U {cls:=.type "list",data:=.seq vs.toArray}/\G6 vs ns/\ns.length<=n:=by
 have Ĩ:WShape.hasAll [] args [.list .int]=O:=(pre_splitW f).1;have e:l.pre.holds [] {args:=args}=O:=(pre_splitW f).2;obtain⟨d,r,rfl,o,m⟩:=hasAllW_cons Ĩ
 obtain rfl:=hasAllW_nil m
 obtain⟨xs,rfl,k⟩:=hasW_list o;obtain⟨ns,rfl⟩:=items_int k;have p:ns.length<=n:=by
  unfold OpenLaw.pre at e;have c:(WTm.not<|.lt (.lit<|.int (n:Int))<|.len<|.arg 0).holds [] {args:=[.list<|ns.map .int]}=O:=by
   have c:=(holds_andW e).1;rw[j]at c;exact c
  have b:=condW_of c<|w_not<|w_lt w_lit<|w_len_list<|w_arg J;rw[ck]at b;refine xP λq=>?_;have g:(n:Int)<((ns.length:Nat):Int):=by lia
  first
   |(rw[bt g]at b;exact dk b<|by decide)
   |(simp at b;lia)
 cases s with
 |cons w1 w2=>
  cases w2;cases w1 with
  |list i t=>exact⟨_,_,ns,J,J,i,lK ns _ t,p⟩
def AG(l:OpenLaw)(args:List WData):l.row.toRowW.claim.post args (.bool O) args=O:=
 postW_of (r:=l.row.toRowW) (X:=(O == O))
  (show WShape.has [] (.bool O) .bool=O by first|rfl|decide|simp[WShape.has,WShape.arms,WShape.armsAll])
  (show(WTm.eq .res<|.lit<|.bool O).value [] {args:=args,res:=U (.bool O),after:=args}=U (.bool<|O == O)from w_eq_bool (w_res J) w_lit) J
section
variable{prog:cW}{w:c4}{A:dA}{E:ar->ag->Prop}{s:ag}{K:v3}
end
end Att
namespace L2
open PySem PySem.Spec PyProof.Rows
theorem p_:∀{vs:B2}{ns:Ee},G6 vs ns->Vals (ns.map V.int) vs
 |_,_,.nil=>.nil
 |_,_,.cons n t h=>.cons ⟨t,J⟩<|p_ h
def Np(H:Hp):Prop:=∀b,H b=Y\/∃o xs,H b=U (.jE o<|.lst xs)
def Dd{P:cW}{w:c4}{K:a_}{mg mb:Str->D2}{CX:Bw}{k:Nat}{A a:bp}{fd:dy}{x:Str}{sp:Sp}{c:ag}{vs:B2}{ns:Ee}
  (Q:K.In c.heap) (D:c.heap.Ns en mg) (f:c.heap.Ns tb mb) (ĩ:∀x:Str,x ≠ "__name__" -> mb x=hH x) (Xa:c.heap.NoLimit) (X:c.gens=#[])
  (t:c.heap.get? a=U {cls:=.type "list",data:=.seq vs.toArray}) (G:G6 vs ns) (hl:ns.length<=cq) (W:bo k th)
  (F:∀base:ed,K.In base->base.Ns en mg->bV P w K mg base CX k A fd [x] sp) (R5:∀(s:ag)(u:ar),xp s fd ⟨[u],[]⟩ [(x,u)])
  (QU:∀H:Hp,Np H->dM K H a (ns.map V.int)->sp [.ref a] H (λv _=>v=.bl O) λ_ _ _=>False)
  (Ī:∀H e g,CX [] H c (λ_ _ _=>False) e g->False) :
  hQ (b8 P w) th (.call (.ref A) ⟨[.ref a],[]⟩) (λr g=>r=.ok (.ret<|.bool O)/\OldK c.heap g.heap/\g.os=c.os/\kl g.gens) c:=by
 have E:=p_ G;have Xb:=G.length;have i:∀H:Hp,Np H->dM K H a (ns.map V.int)->ja P w H c.heap->(∀b,H b≠Y->b=a)->(H a≠Y->K.lookup a=Y) ->
   hQ (b8 P w) th (.call (.ref A) ⟨[.ref a],[]⟩) (λr g=>r=.ok (.ret<|.bool O)/\OldK c.heap g.heap/\g.os=c.os/\kl g.gens) c:=by
  intro H I Z bj L hK;have C:∀{b:bp}{o:Obj},c.heap.get? b=U o->H b=Y->(qN c.heap H).get? b=U o:=λe n=>Cw e n;have RT:∀{b:bp}{o:Obj}{l:Array DictEntry}{p:Nat},c.heap.get? b=U o->o.data=.dict l p->H b=Y:=λ{b o l p} e d=>by
   cases q:H b with
   |none=>rfl
   |some u=>
    have B:b=a:=L b (by rw[q];simp)
    subst B;rw[t]at e;cases e;have d':Data.seq vs.toArray _=Data.dict l p:=d;cases d'
  have V5:∀{b:bp}{m:Str->D2},c.heap.Ns b m->(qN c.heap H).Ns b m:=λ{b m} ⟨o,l,p,e,d,r⟩=>⟨o,l,p,C e<|RT e d,d,r⟩;have N:K.In<|qN c.heap H:=λb o e=>C (Q b o e) (by
   cases q:H b with
   |none=>rfl
   |some u=>
    have B:b=a:=L b (by rw[q];simp)
    subst B;rw[hK<|by rw[q];simp]at e;cases e)
  have hM:Mod K mg<|qN c.heap H:=⟨N,V5 D,⟨mb,V5 f,ĩ⟩,let⟨mc,h1,h2⟩:=Xa;⟨mc,V5 h1,h2⟩⟩;have e0:pj P w K mg (qN c.heap H) th [] c H:=⟨J,hM,λb o e=>G8 e,Au<|Ay _ _,trivial,λb f=>dk (show b∈([]:BM)from f)<|by simp,bj,.of_eq X⟩
  refine fA ((F _ N<|V5 D).run th [] c H ⟨[.ref a],[]⟩ [.ref a] [.ref a] _ _ W e0 (R5 c<|.ref a) (.cons J .nil)<|QU H I Z) λr g h=>?_;cases r with
  |error e=>exact(Ī H e g h).elim
  |ok fl=>
   cases fl with
   |next=>exact ey h
   |brk=>exact ey h
   |cont=>exact ey h
   |ret u=>
    obtain⟨v,H',os,bare,un,Xd,S,q⟩:=h;have T:v=.bl O:=q;subst T
    obtain rfl:u=pb O:=S
    refine⟨J,OldK.of_keep λb o e=>?_,os,bare⟩;cases q:H b with
    |none=>exact un.keep b o e q (by intro z;exact dk (show b∈([]:BM)from z)<|by simp) (by simp)
    |some u=>
     rcases I b with z|⟨ob,xs,z⟩
     .rw[q]at z;cases z
     .have R:=un.kr b ob _ z
      obtain⟨M,_⟩:=bj b _ z;obtain⟨e2,_⟩:=Xd b _ R;rw[e]at M;cases M;exact e2
 cases y:K.lookup a with
 |some o=>
  have e:=Q a o y;rw[t]at e;cases e;refine i (λ_=>Y) (λ_=>.inl J) (.inr ⟨_,vs.toArray,_,y,J,J,J,by rw[cP,Xb];exact hl,by simpa using E⟩) (λb u z=>by have j:(Y:Option HO)=U u:=z;cases j) (λb z=>dk J z) λz=>dk J z
 |none=>
  refine i (λb=>if b=a then U (.jE {cls:=.type "list",data:=.seq vs.toArray}<|.lst<|ns.map V.int)else Y) (λb=>?_) (.inl<|.inr ⟨{cls:=.type "list",data:=.seq vs.toArray},b7 J⟩) (λb u z=>?_) (λb z=>?_) λ_=>y
  .by_cases f:b=a
   .exact .inr ⟨_,_,b7 f⟩
   .exact .inl<|b0 f
  .by_cases f:b=a
   .have j:=(b7 f).symm.trans z
    cases j;subst f;exact⟨t,by rw[ck];exact hl,vs,_,E,t⟩
   .have j:=(b0 f).symm.trans z
    cases j
  .by_cases f:b=a
   .exact f
   .exact dk (b0 f) z
def inClass(s:gL)(j:Nat):gL:=match s with
 |.ClassDef _ _ _ a _ _ _ _ _ _ _=>a.getD j<|.Pass ⟨0,0,0,0⟩
 |_=>.Pass ⟨0,0,0,0⟩
def jN(s:gL):Arguments:=match s with
 |.FunctionDef _ a _ _ _ _ _ _ _ _=>a
 |_=>{posonlyargs:=[],args:=[],vararg:=Y,kwonlyargs:=[],kw_defaults:=[],kwarg:=Y,defaults:=[]}
def bW(s:gL):Fh:=match s with
 |.FunctionDef _ _ b _ _ _ _ _ _ _=>b
 |_=>[]
def aA(s:gL):gg:=match s with
 |.FunctionDef _ _ _ _ _ _ sc _ _ _=>sc
 |_=>{kind:=.function,names:=[],isGenerator:=Zn,isCoroutine:=Zn}
abbrev ig:Bw:=λ_ _ _ _ _ _=>False
abbrev E0:XK:=λ_ _ _=>False
def lg{X:Cx}:Passes ig X E0:=λ_ _ _ _ _ _ _ h=>h.elim
section
variable{P:cW}{w:c4}{K:a_}{mg:Str->D2}{base:ed}
end
section
variable{X:Cx}
end
def m_{A B:Prop}(h:B):if Zn=O then A else B:=by
 rw[b0 ia];exact h
def lL{A B:Prop}(h:A):if O=O then A else B:=by
 rw[b7 J];exact h
def aL(H H':Hp):Prop:=∀b o,H b=U o->H' b=U o
def aL.refl(H:Hp):aL H H:=λ_ _ h=>h
def aL.trans{H H1 d:Hp}(a:aL H H1)(b:aL H1 d):aL H d:=λc o h=>b c o<|a c o h
def aL.free{H H':Hp}(e:aL H H'){l:bp}(h:H' l=Ku):H l=Ku:=by
 cases q:H l with
 |none=>rfl
 |some o=>
  rw[e l o q]at h;cases h
def aL.seq{K:a_}{H H':Hp}{a:bp}{xs:List V}(e:aL H H')(h:dM K H a xs):dM K H' a xs:=by
 rcases h with(h|⟨o,h⟩)|h
 .exact .inl<|.inl<|e _ _ h
 .exact .inl<|.inr ⟨o,e _ _ h⟩
 .exact .inr h
end L2
set_option maxHeartbeats 400000
namespace L2
open PySem PySem.Spec PyProof.Rows
def AH{prog:cW}{w:c4}{A:dA}{R:GK->ag->Prop}{s:ag}{elt a j:cb}{o:Bz}{scope:gg}{pos:Pos}{it z:ar}{env:Env}(I:Nat->ag->Prop)
  (p:∀n s,I n s->cv (b8 prog w) A (pyNext it) (λr d=>match r with
   |none=>R (.ok .next) d
   |some v=>cv (b8 prog w) A (pa a it v) (λ_ s₀=>cv (b8 prog w) A (u6 a env v) (λ_ i=>
     cv (b8 prog w) A (forIn o O λc r=>if r=O then do let ok <- FX c env (e6 c env);pure (fu ok)else pure (fu r)) (λok b=>
      if ok=O then cv (b8 prog w) A (e6 elt env) (λx g=>
       cv (b8 prog w) A (call (.builtin "list.append") [z,x]) (λ_ f=>∃m,m<n/\I m f) (λ_ _=>False) g) (λ_ _=>False) b
      else ∃m,m<n/\I m b) (λ_ _=>False) i) (λ_ _=>False) s₀) (λ_ _=>False) d) (λ_ _=>False) s)
  (n:Nat) (h:I n s):hQ (b8 prog w) A (.compLoop (.ListComp elt [⟨a,j,o,0⟩] scope pos) 0 it z env) R s:=by
 refine codeAny_loop J I (λn s B=>?_) n h;show cv _ A ((compTurn (.ListComp elt [⟨a,j,o,0⟩] scope pos) 0 it z env).onRaise λx=>do ry x env;theTreesLotGoes x) _ _ s
 refine wpAny_noted ?_;rw[compTurn_list];refine av<|hZ<|av<|et (p n s B) (λr d l=>?_) λ_ _ e=>e.elim;cases r with
 |none=>exact cC l
 |some v=>
  refine av<|et l (λ_ s₀ y=>av<|et y (λ_ i u=>av<|et u (λok b k=>?_) λ_ _ e=>e.elim) λ_ _ e=>e.elim) λ_ _ e=>e.elim;cases ok with
  |false=>exact cC ⟨J,k⟩
  |true=>
   exact av<|av<|et k (λx g t=>av<|et t (λ_ f q=>cC<|cC ⟨J,q⟩) λ_ _ e=>e.elim) λ_ _ e=>e.elim
theorem gq(env:Env):∀(names:List<|Str×oB)(a:List<|Str×bp),(∀p∈names,p.2=.free->∃c,env.cells.lookup p.1=U c)->(∀x c,a.lookup x=U c->env.cells.lookup x=U c) ->
  ∃cl,(forIn names a λ(p:Str×oB) (cs:List<|Str×bp)=>if p.2 == .free then do let c <- cellOf env p.1;pure (fu<|(p.1,c)::cs)else pure (fu cs):Sem<|List<|Str×bp)=pure cl /\
   (∀x c,cl.lookup x=U c->env.cells.lookup x=U c)/\(∀x c,a.lookup x=U c->∃q,cl.lookup x=U q)/\(∀p∈names,p.2=.free->∃c,cl.lookup p.1=U c)
 |[],a,_,i=>⟨a,J,i,λx c e=>⟨c,e⟩,λ_ h=>nomatch h⟩
 |(n,k)::r,a,l,i=>by
  by_cases hk:k=.free
  .subst hk
   obtain⟨c,s⟩:=l (n,.free) eu J;have v:∀x d,((n,c)::a).lookup x=U d->env.cells.lookup x=U d:=λx d e=>by
    rw[i9]at e;cases f:x == n with
    |true=>rw[f]at e;have f:=eq_of_beq f;subst f;cases e;exact s
    |false=>rw[f]at e;exact i x d e
   obtain⟨cl,e,o,j,m⟩:=gq env r ((n,c)::a) (λp b=>l p<|eE _ b) v;have self:∃q,cl.lookup n=U q:=j n c (by rw[i9];simp)
   refine⟨cl,?_,o,λx d f=>?_,λp b g=>?_⟩
   .rw[xJ]
    show((do let c <- cellOf env n;pure (fu<|(n,c)::a)) >>= _)=_
    unfold cellOf;rw[s];exact e
   .cases t:x == n with
    |true=>have:=eq_of_beq t;subst this;exact self
    |false=>exact j x d (by rw[i9,t];exact f)
   .rcases bu.mp b with rfl|b
    .exact self
    .exact m p b g
  .obtain⟨cl,e,o,j,m⟩:=gq env r a (λp b=>l p<|eE _ b) i
   refine⟨cl,?_,o,j,λp b g=>?_⟩
   .rw[xJ]
    have u:(k == NameKind.free)=Zn:=by simpa using hk
    show((if(k == NameKind.free)=O then _ else pure (fu a)) >>= _)=_
    rw[u];exact e
   .rcases bu.mp b with rfl|b
    .exact dk g hk
    .exact m p b g
def pC{scope:gg}{env:Env}(h:∀p∈scope.names,p.2=.free->∃c,env.cells.lookup p.1=U c) :
  ∃cl,closureFor scope env=pure cl/\(∀x c,cl.lookup x=U c->env.cells.lookup x=U c)/\∀p∈scope.names,p.2=.free->∃c,cl.lookup p.1=U c:=by
 obtain⟨cl,e,b,_,a⟩:=gq env scope.names [] h (λ_ _ e=>nomatch e);refine⟨cl,?_,b,a⟩;unfold closureFor;exact(eD (λz:Sem<|List<|Str×bp=>z >>= λcs=>pure cs) e)
abbrev Cx.block(X:Cx)(N:Bi)(scope:gg)(cl:List<|Str×bp)(C:bp)(a:BM)(s:ag)(H:Hp):Cx where
 prog:=X.prog
 w:=X.w
 K:=X.K
 mg:=X.mg
 base:=X.base
 A:=X.A
 N:=N
 s₀:=s
 H₀:=H
 env:=compEnvC scope cl C X.env
 outer:=X.stack
 stack:=X.stack
 ex:=a
 fn:=λ_=>Zn
 calm:=X.calm
 pn:=[]
 xe:=λ_ _=>False
inductive fL(X:Cx)(scope:gg):B1->Bi->Prop where
 |nil:fL X scope [] []
 |cons {j:Nat} {x:Str} {js:B1} {xs:Bi}:X.N[j]?=U x->scope.names.lookup x=U .free->X.env.kindOf x=U .cell->fL X scope js xs->fL X scope (j::js) (x::xs)
theorem fL.get{X:Cx}{scope:gg}:∀{js:B1}{xs:Bi},fL X scope js xs->∀{i:Nat}{x:Str},xs[i]?=U x->∃j,js[i]?=U j/\X.N[j]?=U x/\scope.names.lookup x=U .free/\X.env.kindOf x=U .cell
 |_,_,.nil,_,_,e=>by simp at e
 |_,_,.cons f d c _,0,_,e=>by simp at e;subst e;exact⟨_,J,f,d,c⟩
 |_,_,.cons _ _ _ t,i+1,_,e=>by
  obtain⟨j,a,b⟩:=t.get (i:=i) (by simpa using e)
  exact⟨j,by simpa using a,b⟩
theorem fL.length{X:Cx}{scope:gg}:∀{js:B1}{xs:Bi},fL X scope js xs->js.length=xs.length
 |_,_,.nil=>J
 |_,_,.cons _ _ _ t=>by simp[t.length]
def cZ(k:Nat)(js:B1)(a:St):St:=dN k Y++js.map λj=>(a[j]?).join
theorem fh{env:Env}(d:env.scope.kind=.function):∀{names:List<|Str×oB}{x:Str},names.lookup x=U .free->env.kindOf x=U .cell ->
  (names.map λ(n,k)=>if(k == NameKind.free&&env.scope.kind == .function&&env.kindOf n == U .cell)then(n,NameKind.cell)else(n,k)).lookup x=U .cell
 |[],_,h,_=>by simp at h
 |(n,k)::r,x,h,b=>by
  have c:=@fh env d r x;show ir x ((if(k == NameKind.free&&env.scope.kind == .function&&env.kindOf n == U .cell)=O then(n,NameKind.cell)else(n,k))::_)=_
  cases a:x == n with
  |true=>
   have e:=eq_of_beq a;subst e;simp only[i9,a]at h;cases h;rw[b7<|by rw[d,b];rfl]
   simp[i9]
  |false=>
   simp only[i9,a]at h;by_cases hq:(k == NameKind.free&&env.scope.kind == .function&&env.kindOf n == U .cell)=O
   .rw[b7 hq];simp only[i9,a];exact c h b
   .rw[b0 hq];simp only[i9,a];exact c h b
theorem fM{env:Env}:∀{names:List<|Str×oB}{x:Str},(∀p∈names,p.2≠.cell) ->
  ((names.map λ(n,k)=>if(k == NameKind.free&&env.scope.kind == .function&&env.kindOf n == U .cell)then(n,NameKind.cell)else(n,k)).lookup x=U .cell \/
   (names.map λ(n,k)=>if(k == NameKind.free&&env.scope.kind == .function&&env.kindOf n == U .cell)then(n,NameKind.cell)else(n,k)).lookup x=U .free)->∃p∈names,p.1=x/\p.2=.free
 |[],_,_,h=>by simp at h
 |(n,k)::r,x,c,h=>by
  have d:=@fM env r x λp b=>c p<|eE _ b;have h:ir x ((if(k == NameKind.free&&env.scope.kind == .function&&env.kindOf n == U .cell)=O then(n,NameKind.cell)else(n,k))::(r.map λ(n,k)=>if(k == NameKind.free&&env.scope.kind == .function&&env.kindOf n == U .cell)then(n,NameKind.cell)else(n,k)))=U .cell \/
   ir x ((if(k == NameKind.free&&env.scope.kind == .function&&env.kindOf n == U .cell)=O then(n,NameKind.cell)else(n,k))::(r.map λ(n,k)=>if(k == NameKind.free&&env.scope.kind == .function&&env.kindOf n == U .cell)then(n,NameKind.cell)else(n,k)))=U .free:=h
  cases a:x == n with
  |true=>
   have e:=eq_of_beq a;subst e;refine⟨(x,k),eu,J,?_⟩;by_cases hq:(k == NameKind.free&&env.scope.kind == .function&&env.kindOf x == U .cell)=O
   .cases k<;>first|rfl|(simp at hq)
   .rw[b0 hq]at h
    simp only[i9,nr]at h;rcases h with h|h
    .cases h;exact dk J<|c (x,.cell) eu
    .cases h;rfl
  |false=>
   have f:ir x (r.map λ(n,k)=>if(k == NameKind.free&&env.scope.kind == .function&&env.kindOf n == U .cell)then(n,NameKind.cell)else(n,k))=U .cell \/
    ir x (r.map λ(n,k)=>if(k == NameKind.free&&env.scope.kind == .function&&env.kindOf n == U .cell)then(n,NameKind.cell)else(n,k))=U .free:=by
    by_cases hq:(k == NameKind.free&&env.scope.kind == .function&&env.kindOf n == U .cell)=O
    .rw[b7 hq]at h;simp only[i9,a]at h;exact h
    .rw[b0 hq]at h;simp only[i9,a]at h;exact h
   obtain⟨p,b,i,g⟩:=d f;exact⟨p,eE _ b,i,g⟩
structure f_(X:Cx)(scope:gg):Prop where
 kind:scope.kind=.function
 nocell:∀p∈scope.names,p.2≠.cell
 names:∀p∈scope.names,p.2=.local->scope.names.lookup p.1=U .local
 frees:∀p∈scope.names,p.2=.free->X.env.kindOf p.1=U .cell
variable{X:Cx}{tg:cb}
section
variable{aa:dE}{σ:St}{H:Hp}{s:ag}
def Inv.enter{ls fs:Bi}{js:B1}{scope:gg}{cl:List<|Str×bp}{D:BM}{h₁:ed}{tk:Nat}(I:Inv X aa σ H s)(S:f_ X scope)(F:fL X scope js fs)
  (Bx:∀x c,cl.lookup x=U c->X.env.cells.lookup x=U c) (N:∀p∈scope.names,p.2=.free->∃c,cl.lookup p.1=U c)
  (n:∀b∈D,mT X aa H b) (ī:∀b∈D,b<s.heap.objs.size) (P:h₁.Ns s.heap.objs.size λ_=>Y) (h:∀b o,s.heap.get? b=U o->h₁.get? b=U o) :
  Inv (X.block (ls++fs) scope cl s.heap.objs.size D s H) [] (cZ ls.length js σ) H {s with heap:=h₁,toks:=tk}:=by
 have Ĭ:∀x c,cl.lookup x=U c->c<s.heap.objs.size:=λx c e=>by
  obtain⟨v,q⟩:=I.cell x c<|Bx x c e;exact q.lt
 refine⟨⟨I.ok.mod,?_,I.ok.glob,I.ok.blt,dS _,λx y c V T=>I.ok.inj x y c (Bx x c V)<|Bx y c T,λx A=>?_,(λx c A=>by cases A),I.ok.hd,I.ok.frames,.inl J,λb f=>⟨dO<|ī b f,λx c e=>(n b f).2.2.2.2.1 x c<|Bx x c e⟩,
  I.bs,eT I.ok.bsz I.sz,λb o e f=>?_,λb f z=>?_,I.stack,I.lS⟩,J,I.bare,Un.kept h,⟨_,P,λi x v E d Z=>?_⟩,λx c e=>?_,I.bj.fresh<|dS _,λx c e=>I.freeC x c<|Bx x c e,λp B=>dk B<|by simp,I.bj.kept h,?_⟩
 .show(FD scope X.env).kind=.function
  exact S.kind
 .obtain⟨p,B,E,d⟩:=fM (env:=X.env) S.nocell A
  obtain⟨c,e⟩:=N p B d;exact⟨c,by rw[<- E];exact e⟩
 .rcases(n b f).2.2.2.1 with z|z
  .exact I.ok.noex b o e z
  .exact dk (ee (b9 (I.ok.bs b o e).1) z)<|sN _
 .rcases bu.mp (I.jc b z)with e|e
  .exact(n b f).2.1 e
  .exact(n b f).2.2.1 e
 .-- a name of the block that has a value: one from around
  have k:ls.length<=i:=by
   by_cases k:i<ls.length
   .unfold cZ at d
    rw[jB<|by simpa using k,B3]at d
    split at d<;>cases d
   .lia
  have ĭ:fs[i-ls.length]?=U x:=by
   have q:(ls++fs)[i]?=U x:=E;rw[iu k]at q;exact q
  obtain⟨j,Q,R,M,K⟩:=F.get ĭ;have g:(σ[j]?).join=U v:=by
   unfold cZ at d;rw[iu<|by simpa using k,gA]at d
   simp only[Am]at d;rw[Q]at d;simpa using d
  have w:σ[j]?=U (U v):=by
   cases q:σ[j]? with
   |none=>rw[q]at g;cases g
   |some z=>rw[q]at g;have g:z=U v:=g;rw[g]
  obtain⟨m,_,hl⟩:=I.loc;obtain⟨u,r,l⟩:=hl j x v R w<|.inr<|.inl K;refine⟨u,r,.inr ⟨.inl<|fh I.ok.kind M K,?_⟩⟩;rcases l with⟨z,_⟩|⟨_,c,e,q⟩
  .have L:X.env.kindOf x=U .local:=z
   rw[K]at L;cases L
  .obtain⟨W,G⟩:=N (x,.free) (hF M) J
   have t:=Bx x W G;rw[e]at t;have t:=mO.inj t;rw[<- t]at G;obtain⟨o,C,hd⟩:=q;exact⟨c,G,o,h _ _ C,hd⟩
 .obtain⟨v,o,C,hd⟩:=I.cell x c<|Bx x c e
  exact⟨v,o,h _ _ C,hd⟩
 .unfold cZ
  show _=(ls++fs).length;rw[dq,Am,ck,dq,F.length]
end
section
def GW(X:Cx)(b:Bz)(t:TT):Prop:=
 ∀(d:dE)(s:ag)(a:St)(H:Hp)(Q:Bool->Hp->Prop),Inv X d a H s->t a H Q ->
  cv (b8 X.prog X.w) X.A (forIn b O λc r=>if r=O then do let ok <- FX c X.env (e6 c X.env);pure (fu ok)else pure (fu r)) (TP X d a Q) X.xe s
def Xf:TT:=λ_ H Q=>Q O H
def HA:GW X [] Xf:=λ_ _ _ H _ I h=>wpAny_tests_nil ⟨H,I,h⟩
def HB{c:cb}{t:TT}(h:PT X c t):GW X [c] t:=λd s a H Q I b=>wpAny_tests_one<|h d s a H Q I b
def du:St->St->Prop
 |[],[]=>True
 |Y::a,_::b=>du a b
 |U v::a,U w::b=>v=w/\du a b
 |_,_=>False
theorem du.len:∀{a b:St},du a b->a.length=b.length
 |[],[],_=>J
 |[],_::_,h=>h.elim
 |Y::a,[],h=>h.elim
 |U _::a,[],h=>h.elim
 |Y::a,x::b,h=>by simp[du.len (a:=a) (b:=b) h]
 |U _::a,Y::b,h=>h.elim
 |U _::a,U _::b,h=>by simp[du.len (a:=a) (b:=b) h.2]
theorem du.get:∀{a b:St},du a b->∀(i:Nat)(v:V),a[i]?=U (U v)->b[i]?=U (U v)
 |[],[],_,_,_,e=>e
 |[],_::_,h,_,_,_=>h.elim
 |Y::a,[],h,_,_,_=>h.elim
 |U _::a,[],h,_,_,_=>h.elim
 |Y::a,x::b,h,0,v,e=>by simp at e
 |Y::a,x::b,h,i+1,v,e=>by
  have:=du.get (a:=a) (b:=b) h i v (by simpa using e)
  simpa using this
 |U _::a,Y::b,h,_,_,_=>h.elim
 |U y::a,U z::b,h,0,v,e=>by have c:=h.1;subst c;simpa using e
 |U y::a,U z::b,h,i+1,v,e=>by
  have:=du.get (a:=a) (b:=b) h.2 i v (by simpa using e)
  simpa using this
@[irreducible] def tComp(j:TI)(k:Nat)(js:B1)(g:TG)(l:TT)(n:TE):TE:=λd H Q=>j d H λp H1=>∀D,H1 D=Y->∃W:Nat->Nat->List V->Hp->Prop,(∃m,W 0 m []<|upd H1 D<|.lst []) /\
 ∀i m ys H,W i m ys H->(p.stop i H/\Q (.ref D) H)\/(p.go i H/\∀x h,p.yld i H x h->g x (cZ k js d) h λa o=>du (cZ k js d) a/\l a o λb f=>
  if b=O then n a f λy e=>e D=U (.lst ys)/\ys.length<cq/\∃c,c<m/\W (i+1) c (ys++[y]) (upd e D<|.lst<|ys++[y])
  else ∃c,c<m/\W (i+1) c ys f)
def qa{scope:gg}{ls fs:Bi}{js:B1}{tg l elt:cb}{M:Bz}{pos c7:Pos}{wi:TI}{g:TG}{tt:TT}{te:TE}{use:Option<|ar->Sem Unit}{Qo:ar->ag->Prop}
  (hc:X.calm=O) (S:f_ X scope) (F:fL X scope js fs) (hi:PI X tg l wi)
  (hg:∀cl C f s H,PG (X.block (ls++fs) scope cl C f s H) tg g) (ht:∀cl C f s H,GW (X.block (ls++fs) scope cl C f s H) M tt) (he:∀cl C f s H,PE (X.block (ls++fs) scope cl C f s H) elt te)
  {L:dE} {s:ag} {G:St} {H:Hp} {Q:VK} (I:Inv X L G H s) (h:tComp wi ls.length js g tt te G H Q)
  (fin:∀D C s' H' m,Inv X L G H' s'->mT X L H' C->s'.heap.Ns C m->Q (.ref D) H'->compPost (b8 X.prog X.w) X.A X.xe use Qo (.ref D) C (.ok .next) s')
  (hs:∀x,eH l X.env x=pure x) :
  cv (b8 X.prog X.w) X.A (comprehension (.ListComp elt [⟨tg,l,M,0⟩] scope pos) scope X.env c7 (newList []) Zn (e6 l X.env) use) Qo X.xe s:=by
 unfold tComp at h;obtain⟨cl,Į,h1,h2⟩:=pC (scope:=scope) (env:=X.env) λp hp hf=>I.ok.has p.1<|.inl<|S.frees p hp hf;refine wpAny_comprehension_free J hs Į S.kind S.names<|cK (hi L s G H _ I h) λv s1 q1=>cK q1 λWV s2 q2=>?_;obtain⟨it,f,tn,ql,H2,e,I2,T,GU,f2,q⟩:=q2;subst e;refine wpAny_newObj_type<|wpAny_newFunctionEnv S.nocell (by intro y hy;simp at hy) (λh₁ k j=>?_) S.kind
 have I3:Inv X L G (upd H2 s2.heap.objs.size<|.lst []) {s2 with heap:=s2.heap.push {cls:=.type "list",dict:=Y,data:=.seq ([]:B2).toArray}}:=I2.Dc (t':=s2.toks) .nil<|i_ _
 obtain⟨W,⟨m0,w0⟩,step⟩:=q s2.heap.objs.size I2.fresh;dsimp only at k j ⊢
 generalize hs3:({s2 with heap:=s2.heap.push {cls:=.type "list",dict:=Y,data:=.seq ([]:B2).toArray}}:ag)=s3 at I3
 have R6:s3.heap=s2.heap.push {cls:=.type "list",dict:=Y,data:=.seq ([]:B2).toArray}:=by rw[<- hs3]
 rw[<- R6]at k j ⊢;have old:∀b o,s3.heap.get? b=U o->h₁.get? b=U o:=λb o e=>j.extBut b o (dO<|b9 e)<|ax _ e;have up:∀b o,s2.heap.get? b=U o->s3.heap.get? b=U o:=λb o e=>by rw[R6];exact ax _ e
 have į:∀b∈f,b<s2.heap.objs.size:=λb a=>by
  obtain⟨o,e,_⟩:=T.obj 0 _ GU b a;exact b9 e
 have B:∀b∈f,mT X L (upd H2 s2.heap.objs.size<|.lst []) b:=λb a=>⟨by rw[af<|dO<|į b a];exact(f2 b a).1,(f2 b a).2⟩
 have À:∀b∈f,b<s3.heap.objs.size:=λb a=>by
  obtain⟨o,e,_⟩:=T.obj 0 _ GU b a;exact b9<|up b o e
 have I4:=I3.enter (ls:=ls) (h₁:=h₁) (tk:=s2.toks+([]:List<|Str×ar).length) S F h1 h2 B À (by simpa using k) old
 have Á:tn 0 h₁:=T.keep 0 _ _ GU λb _ o e=>old b o<|up b o e
 generalize hC:s3.heap.objs.size=C at I4 k j ⊢
 generalize Â:upd H2 s2.heap.objs.size (.lst [])=H3 at I3 I4 B w0
 have vL:∀{H':Hp},(∀b∈f,H' b=Y)->∀b∈f,mT (X.block (ls++fs) scope cl C f s3 H3) [] H' b:=λhn b a=>
  ⟨hn b a,by rw[<- hC];exact dO<|À b a,λz=>(bu.mp<|I3.jc b z).elim (B b a).2.1 (B b a).2.2.1,.inl a,λx c e=>(B b a).2.2.2.2.1 x c<|h1 x c e,λp hp=>dk hp<|by simp⟩
 have Bu:∀b∈f,(b∈X.ex\/X.s₀.heap.objs.size<=b)/\b≠X.env.locals/\(∀x c,X.env.cells.lookup x=U c->c≠b)/\∀p∈X.pn++L,p.1≠b:=λb a=>⟨(B b a).2.2.2.1,(B b a).2.1,(B b a).2.2.2.2.1,(B b a).2.2.2.2.2⟩;have K:∀s4:ag,s4={s3 with heap:=h₁,toks:=s2.toks+([]:List<|Str×ar).length} ->
   hQ (b8 X.prog X.w) X.A (.compLoop (.ListComp elt [⟨tg,l,M,0⟩] scope pos) 0 (.ref it) (.ref s2.heap.objs.size)<|compEnvC scope cl C X.env) (compPost (b8 X.prog X.w) X.A X.xe use Qo (.ref s2.heap.objs.size) C) s4:=by
  rintro s4 rfl
  refine AH (λn s'=>∃i ys H',Inv (X.block (ls++fs) scope cl C f s3 H3) [] (cZ ls.length js G) H' s'/\tn i s'.heap/\(∀b∈f,H' b=Y)/\W i n ys H') ?_ m0 ⟨0,[],H3,I4,Á,λb a=>(B b a).1,w0⟩
  rintro n s5 ⟨i,ys,Z,I5,Hh,V0,w5⟩
  rcases step i n ys Z w5 with⟨stop,qf⟩|⟨go,nxt⟩
  .refine cK (T.done (X.block (ls++fs) scope cl C f s3 H3) J J J hc i [] s5 _ Z (λ_ _=>False) I5 (vL V0) Hh stop) λr s6 t=>?_
   obtain⟨hr,R⟩:=t;subst hr;obtain⟨m,V,_⟩:=id R.loc;have J6:Inv X L G Z s6:=I3.Cy (ch:=f) R.os R.base R.bj R.bare Bu;exact fin _ C s6 Z m J6 (I3.vI (Au hC) R.free) V qf
  .refine cK (T.item (X.block (ls++fs) scope cl C f s3 H3) J J J hc i [] s5 _ Z (λ_ _=>False) I5 (vL V0) Hh go) λr s6 t=>?_
   obtain⟨u,hr,h6⟩:=t;subst hr;refine cK h6 λ_ s7 t=>?_;obtain⟨x,H7,I7,r7,y7,Xg,İ⟩:=t;have ı:=I7.pinned (vL İ)<|T.obj _ _ Xg;refine cK (hg cl C f s3 H3 _ s7 _ H7 x u _ ı r7<|nxt x H7 y7) λ_ s8 t=>?_;obtain⟨E,H8,I8,kp,q8⟩:=t;have again:∀{s9:ag}{N:Hp},Inv (X.block (ls++fs) scope cl C f s3 H3) ([]++mU f s7.heap) E N s9 ->
     Inv (X.block (ls++fs) scope cl C f s3 H3) [] (cZ ls.length js G) N s9/\tn (i+1) s9.heap/\∀b∈f,N b=Y:=λ{s9 N} P=>by
    refine⟨P.jH.weak kp.len kp.get,T.keep _ _ _ Xg λb a o e=>(P.pin (b,o)<|lE _<|lE _<|gR a e).1,λb a=>?_⟩;obtain⟨o,e,d⟩:=T.obj _ _ Xg b a;exact(P.pin (b,o)<|lE _<|lE _<|gR a e).2.1
   refine cK (ht cl C f s3 H3 _ s8 E H8 _ I8 q8) λb s9 t=>?_;obtain⟨N,P,q9⟩:=t;cases b with
   |false=>
    obtain⟨m',V,w9⟩:=q9;obtain⟨a1,a2,a3⟩:=again P;exact⟨m',V,i+1,ys,N,a1,a2,a3,w9⟩
   |true=>
    refine cK (he cl C f s3 H3 _ s9 E N _ P q9) λxv Ĳ t=>?_;obtain⟨y,Ã,ĳ,Ĵ,hD,hz,m',V,Xh⟩:=t;refine cK (ky (X:=X.block (ls++fs) scope cl C f s3 H3) _ Ĳ E Ã (.ref s2.heap.objs.size) [y] (.ref s2.heap.objs.size) [xv] (λ_ Ä=>Ä=upd Ã s2.heap.objs.size (.lst<|ys++[y])) ĳ J (.cons Ĵ .nil)
     ⟨_,ys,y,J,J,hD,hz,J⟩) λ_ s11 ⟨z,Ä,I11,_,e11⟩=>?_
    subst e11;obtain⟨a1,a2,a3⟩:=again I11;exact⟨m',V,i+1,ys++[y],_,a1,a2,a3,Xh⟩
 have ĵ:({newEnv scope C X.env.globals cl X.env.qual Y .none (U X.env) tb with scope:=FD scope X.env}:Env)=compEnvC scope cl C X.env:=J
 exact codeAny_compStart_list (K _<|by rw[<- hs3])<|T.self X.A 0 _ _ _ Á<|K _<|by rw[<- hs3]
variable{scope:gg}{ls fs:Bi}{js:B1}{iter elt:cb}{ifs:Bz}{pos:Pos}{wi:TI}{g:TG}{tt:TT}{te:TE}
def HC(ls:Bi)(n:X.calm=O)(S:f_ X scope)(F:fL X scope js fs)(k:PI X tg iter wi)
  (l:∀cl C a s H,PG (X.block (ls++fs) scope cl C a s H) tg g) (f:∀cl C a s H,GW (X.block (ls++fs) scope cl C a s H) ifs tt) (he:∀cl C a s H,PE (X.block (ls++fs) scope cl C a s H) elt te)
  (i:∀x,eH iter X.env x=pure x:=by intro _;rfl):PE X (.ListComp elt [⟨tg,iter,ifs,0⟩] scope pos)<|tComp wi ls.length js g tt te:=by
 intro w s u H Q I h;rw[eval_ListComp];refine qa (use:=Y) n S F k l f he I h ?_ i;intro D C d t m y c j q;exact⟨m,j,λv r=>⟨.ref D,t,y.turned (t':=d.toks) (it:=C) (λb o p e=>(r.2 b p).trans e) c.1 c.2.1 c.2.2.2.1 c.2.2.2.2.1 c.2.2.2.2.2,J,q⟩⟩
def ye{i:Nat}{x:Str}{d n:Pos}(ls:Bi)(G:X.calm=O)(M:X.N.Nodup)(Ķ:X.N[i]?=U x)(r:Loc X.env.scope x)(S:f_ X scope)(F:fL X scope js fs)(z:PI X tg iter wi)
  (B:∀cl C f s H,PG (X.block (ls++fs) scope cl C f s H) tg g) (t:∀cl C f s H,GW (X.block (ls++fs) scope cl C f s H) ifs tt) (he:∀cl C f s H,PE (X.block (ls++fs) scope cl C f s H) elt te)
  (u:∀x,eH iter X.env x=pure x:=by intro _;rfl) (E:X.fn x=O\/X.env.scope.names.lookup x=U .local:=by first|exact .inl J|exact .inr J|assumption)
  (Q:eR (.ListComp elt [⟨tg,iter,ifs,0⟩] scope pos) (U<|.Name x d) n.line X.env=pure O:=by rfl) :
  PS X (.Assign [.Name x d] (.ListComp elt [⟨tg,iter,ifs,0⟩] scope pos) n) λD j H=>tComp wi ls.length js g tt te j H λv H1=>D.nx (j.set i<|U v) H1:=by
 intro P s j H D I h;rw[exec_Assign_Name_used _ _ _ _ Q];refine av<|hZ<|av ?_;show cv _ X.A (do let _ <- comprehension (.ListComp elt [⟨tg,iter,ifs,0⟩] scope pos) scope X.env _ (newList []) Zn (e6 iter X.env) (U<|u6 (.Name x d) X.env)) _ _ s
 refine av<|et (qa (use:=U<|u6 (.Name x d) X.env) (Qo:=λ_ k=>SP X P D .next k) G S F z B t he I h ?_ u) (λ_ k w=>cC<|cC w) λ_ _ e=>e
 intro l C k W m ql c y q;show cv _ X.A (u6 (.Name x d) X.env<|.ref l) _ _ _;refine wpAny_assign_Name<|pN ql M Ķ r (show RelV (.ref l) (.ref l)from J) (λT R p=>?_) E;obtain⟨a,Å,L⟩:=p;have ne:C≠a:=by
  rcases L with e|e
  .rw[e];exact c.2.1
  .exact ew<|c.2.2.2.2.1 x a e
 refine⟨m,y.sameBut Å ne,λZ V=>?_⟩;exact⟨_,W,R.turned (t':=T.toks) (it:=C) (λb o K e=>(V.2 b K).trans e) c.1 c.2.1 c.2.2.2.1 c.2.2.2.2.1 c.2.2.2.2.2,q⟩
end
section
def De{P:cW}{w:c4}{K:a_}{x:Str}{L:Pos}{it:bp}{n:Nat}{C:Nat->ar->Prop}{St:Nat->ed->Prop}(val:Nat->V->Prop)
  (W:∀A:dA,A.handled=Y->Walks P w A it [it] [it] n C St) (M:∀i v,C i v->∃y,RelV y v/\val i y)
  (N:∀i h,St i h->∃o,h.get? it=U o/\∀v,o.data≠.cell v) (R:∀i(h h':ed),St i h->(∀o,h.get? it=U o->h'.get? it=U o)->St i h')
  (T:∀(A:dA)(i:Nat)(s:ag)(Q:ar->ag->Prop)(E:ar->ag->Prop),St i s.heap->Q (.ref it) s->cv (b8 P w) A (pyIter<|.ref it) Q E s) :
  Turn P w K (.Name x L) ⟨λi _=>i<n,λi H y H'=>H'=H/\val i y,λi _=>i=n⟩ [it] it St where
 mem:=by simp
 obj:=λi h st b a=>by
  have e:b=it:=by simpa using a
  subst e;exact N i h st
 keep:=λi h h' st k=>R i h h' st<|k it<|by simp
 item:=by
  intro X l g m j i B s z H E I d st c;subst l g m;obtain⟨u,t,S,r,q,p⟩:=d it (by simp)
  refine(W X.A<|I.ok.hd j).item i s _ _ c st λv h' tk ķ D f=>?_;obtain⟨y,G,F⟩:=M i v ķ;have Z:Inv X B z H {s with heap:=h',toks:=tk}:=I.turned (λb o a e=>f b o (by simpa using a) e) u t r q p
  exact⟨v,J,cC ⟨y,H,Z,G,⟨J,F⟩,D,λb a=>(d b a).1⟩⟩
 done:=by
  intro X l g m j i B s z H E I d st c;subst l g m;obtain⟨u,t,S,r,q,p⟩:=d it (by simp)
  have c:i=n:=c;rw[c]at st;exact(W X.A<|I.ok.hd j).done s _ _ st λh' tk f=>⟨J,I.turned (λb o a e=>f b o (by simpa using a) e) u t r q p⟩
 self:=T
def Æ(z:Str):It:=⟨λi _=>i<z.cps.size,λi H y a=>a=H/\∃c,z.cps[i]?=U c/\y=.str ⟨#[c]⟩,λi _=>i=z.cps.size⟩
def Xi(tl:TE):TI:=λa H R=>tl a H λv H1=>∃z,v=.str z/\R (Æ z) H1
def Nr{l:cb}{tl:TE}{x:Str}{D:Pos}(hl:PE X l tl):PI X (.Name x D) l<|Xi tl:=by
 intro n s w H R I h;refine cK (hl n s w H _ I h) λv a B=>?_;obtain⟨y,H1,I1,C,q1⟩:=B;obtain⟨z,rfl,q⟩:=q1;obtain⟨t,rfl⟩:=C;have Ç:∀b∈[a.heap.objs.size],mT X n H1 b:=λb E=>by
  have e:b=a.heap.objs.size:=by simpa using E
  subst e;exact I1.vI (dS _)<|I1.bj.fresh<|dS _
 have j:∀i v,SignAt z i v->∃y,RelV y v/\∃c,z.cps[i]?=U c/\y=.str ⟨#[c]⟩:=by rintro i v ⟨c,u,e,ev⟩;exact⟨.str ⟨#[c]⟩,⟨u,ev⟩,c,e,J⟩
 have p:∀(ty:String)(i:Nat)(h:ed),h.IsStrIter a.heap.objs.size ty z t i->∃o,h.get? a.heap.objs.size=U o/\∀v,o.data≠.cell v:=λty i h ⟨o,e,_,d⟩=>⟨o,e,λv q=>by rw[d]at q;cases q⟩
 have kp:∀(ty:String)(i:Nat)(h g:ed),h.IsStrIter a.heap.objs.size ty z t i->(∀o,h.get? a.heap.objs.size=U o->g.get? a.heap.objs.size=U o)->g.IsStrIter a.heap.objs.size ty z t i:=by rintro ty i h g ⟨o,e,r⟩ k;exact⟨o,k o e,r⟩
 cases m:z.cps.all (· < 128)
 .refine wpAny_pyIter_wide m ?_
  exact⟨a.heap.objs.size,[a.heap.objs.size],_,_,H1,J,I1.kept (t':=a.toks) λb o e=>ax _ e,
   De (λi y=>∃c,z.cps[i]?=U c/\y=.str ⟨#[c]⟩) (λA f=>Walks.strWide f _ z t) j (p _) (kp _) λ_ _ _ _ _ st h=>wpAny_pyIter_striter_wide st h,⟨_,de _ J,J,J⟩,Ç,q⟩
 .refine wpAny_pyIter_ascii m ?_
  exact⟨a.heap.objs.size,[a.heap.objs.size],_,_,H1,J,I1.kept (t':=a.toks) λb o e=>ax _ e,
   De (λi y=>∃c,z.cps[i]?=U c/\y=.str ⟨#[c]⟩) (λA f=>Walks.strAscii f _ z t) j (p _) (kp _) λ_ _ _ _ _ st h=>wpAny_pyIter_striter_ascii st h,⟨_,de _ J,J,J⟩,Ç,q⟩
end
structure Xj(a:It)(src:List V)(I:Hp->Prop):Prop where
 go:∀i H,I H->i<src.length->a.go i H
 yld:∀i H x H',I H->i<src.length->a.yld i H x H'->H'=H/\src[i]?=U x
 stop:∀i H,I H->i=src.length->a.stop i H
def HE(z:Str):Xj (Æ z) (z.cps.toList.map λc=>V.str ⟨#[c]⟩) λ_=>True:=
 ⟨λi H _ h=>by have h:i<(z.cps.toList.map λc=>V.str ⟨#[c]⟩).length:=h;rw[ck,fC]at h;exact h,
  λi H x b _ _ y=>by
  obtain⟨e,c,a,ex⟩:=y;refine⟨e,?_⟩;rw[gA,Array.getElem?_toList,a,ex];rfl,
  λi H _ h=>by rw[ck,fC]at h;exact h⟩
def AI(lo:Int)(n:Nat):Xj (VZ lo n) ((gk n).map λk=>V.int<|lo+(k:Nat)) λ_=>True:=
 ⟨λi H _ h=>by have h:i<((gk n).map λk=>V.int<|lo+(k:Nat)).length:=h;rw[ck,B4]at h;exact h,
  λi H x b _ a y=>by
  obtain⟨e,ex⟩:=y;refine⟨e,?_⟩;have a:i<n:=by rw[ck,B4]at a;exact a
  rw[gA,List.getElem?_range a,ex];rfl,
  λi H _ h=>by rw[ck,B4]at h;exact Au h.symm⟩
section
def pD:vq X "str.startswith" λx vs H Q=>∃a b,x=.str a/\vs=[.str b]/\Q (.bl<|o5 a b) H:=by
 intro i s e H x vs v f Q I c d h;obtain⟨a,b,rfl,rfl,q⟩:=h;obtain⟨t,rfl⟩:=c;obtain⟨u,rfl,⟨g,rfl⟩⟩:=d.one;exact SC.startswith ⟨.bl _,H,I,J,q⟩
def tw:vq X "str.endswith" λx vs H Q=>∃a b,x=.str a/\vs=[.str b]/\Q (.bl<|sb a b) H:=by
 intro i s e H x vs v f Q I c d h;obtain⟨a,b,rfl,rfl,q⟩:=h;obtain⟨t,rfl⟩:=c;obtain⟨u,rfl,⟨g,rfl⟩⟩:=d.one;exact SC.endswith ⟨.bl _,H,I,J,q⟩
def Dg:vq X "str.find" λx vs H Q=>∃a b i,x=.str a/\vs=[.str b,.int i]/\Q (.int<|n5 a b i) H:=by
 intro l s f H x vs v g Q I d e h;obtain⟨a,b,i,rfl,rfl,q⟩:=h;obtain⟨t,rfl⟩:=d;obtain⟨u,j,rfl,⟨k,rfl⟩,⟨c,rfl⟩⟩:=e.two;exact SC.find3 ⟨.int _,H,I.tok _,⟨_,J⟩,q⟩
theorem ng:∀{ys:Bi}{us:B2},Vals (ys.map V.str) us->StrsAre us ys
 |[],_,.nil=>.nil
 |y::ys,_,.cons ⟨t,e⟩ r=>by
  subst e;exact .cons y t<|ng (ys:=ys) r
def HG:vq X "str.join" λx vs H Q=>∃a l ys,x=.str a/\vs=[.ref l]/\dM X.K H l (ys.map V.str)/\(ys.map (·.length)).sum+ys.length*a.length<=16777216/\Q (.str<|Str.join a ys) H:=by
 intro m s g H x vs v i Q I b c h;obtain⟨a,l,ys,rfl,rfl,hl,f,q⟩:=h;obtain⟨t,rfl⟩:=b;obtain⟨u,rfl,d⟩:=c.one;cases d;obtain⟨aG,r,p,_⟩:=I.list hl;refine join_list p.isList (ys:=ys) (by simpa using ng r) f λj k=>?_
 have e:Txt.join a ys=Str.join a ys:=StrLaws.glued_eq_join a ys;rw[e];exact⟨.str _,H,I.tok _,⟨_,J⟩,q⟩
def Nt:Lr X λx lo m H Q=>∃z,x=.str z/\z.length<=cq/\Q (.str<|xa z lo m) H:=by
 intro A s w H x v vl y lo m sl Q I n r p g h;obtain⟨z,rfl,a,q⟩:=h;obtain⟨t,rfl⟩:=n;refine⟨"str",_,F.slot_str_getitem.lookup,n0 _ _ _,?_⟩;obtain⟨o,b,c,hd⟩:=r;cases p with
 |none=>
  cases g with
  |none=>exact ko (l:=Y) (u:=Y) (st:=Y) ⟨o,b,c,hd⟩ J<|o8 ⟨eT (r0 z _ _) a,λe k=>⟨.str _,H,I.tok _,⟨_,J⟩,q⟩⟩
  |int j d=>exact ko (l:=Y) (u:=U (j,d)) (st:=Y) ⟨o,b,c,hd⟩ J<|o8 ⟨eT (r0 z _ _) a,λe k=>⟨.str _,H,I.tok _,⟨_,J⟩,q⟩⟩
 |int i f=>
  cases g with
  |none=>exact ko (l:=U (i,f)) (u:=Y) (st:=Y) ⟨o,b,c,hd⟩ J<|o8 ⟨eT (r0 z _ _) a,λe k=>⟨.str _,H,I.tok _,⟨_,J⟩,q⟩⟩
  |int j d=>exact ko (l:=U (i,f)) (u:=U (j,d)) (st:=Y) ⟨o,b,c,hd⟩ J<|o8 ⟨eT (r0 z _ _) a,λe k=>⟨.str _,H,I.tok _,⟨_,J⟩,q⟩⟩
def tD:f6 X (eh .IsNot) λx y H Q=>∃a b,x=.bl a/\y=.bl b/\Q (.bl<|a != b) H:=by
 intro f s e H x y v u Q I d c h;obtain⟨a,b,rfl,rfl,q⟩:=h;cases d;cases c;exact isnot_bool<|iB I q J
def tF:fJ X (.builtin "isinstance") λxs H Q=>∃x T t b,xs=[x,.ty T]/\iZ X.K H x t/\mJ X.K t (.type T)=U b/\Q (.bl b) H:=by
 intro i s d H xs f Q I r h;obtain⟨x,T,t,b,rfl,ty,e,q⟩:=h;obtain⟨u,g,rfl,a,c⟩:=vals2 r;cases c;exact pT I a ty e λtk=>⟨.bl b,H,I.tok _,J,q⟩
def nh{ks:Fm}{aG:B2}(r:Vals (ks.map V.bl) aG)(A:dA):TruthOf X.prog X.w A (λi v=>aG.toArray[i]?=U v) λi=>ks.getD i O:=by
 intro i v s Q E a b;have a:aG[i]?=U v:=by simpa using a
 have c:i<ks.length:=by
  have h:=(dR.mp a).1;have f:=r.length;rw[ck]at f
  lia
 obtain⟨u,e,d⟩:=r.get (i:=i) (x:=.bl ks[i]) (by rw[gA,fH c];rfl)
 rw[a]at e;cases e;cases d;have g:ks.getD i O=ks[i]:=by rw[xK,fH c];rfl
 have b:Q (ks.getD i O) s:=b;rw[g]at b;exact ik b
def range_all(ks:Fm):(gk ks.length).all (λi=>ks.getD i O)=ks.all id:=by
 induction ks with
 |nil=>rfl
 |cons k ks a=>
  rw[eS,Cb,d_,B5,d_,<- a];rfl
def range_any(ks:Fm):(gk ks.length).any (λi=>ks.getD i O)=ks.any id:=by
 induction ks with
 |nil=>rfl
 |cons k ks a=>
  rw[eS,Cb,mP,B6,mP,<- a];rfl
def Dh(l:X.calm=O):fJ X (.builtin "all") λxs H Q=>∃(p:bp)(ks:Fm),xs=[.ref p]/\dM X.K H p (ks.map V.bl)/\Q (.bl<|ks.all id) H:=by
 intro x s n H xs t Q I r h;obtain⟨p,ks,rfl,k,q⟩:=h;obtain⟨u,rfl,f⟩:=vals1 r;cases f;obtain⟨aG,c,a,v⟩:=I.list k;have d:=c.length;rw[ck]at d;refine call_all_walk<|ip a.isList ?_;have g:p≠s.heap.objs.size:=let⟨_,e,_⟩:=a.isList;dO<|b9 e;refine⟨s.heap.objs.size,_,[s.heap.objs.size],aG.toArray.size,_,_,λi=>ks.getD i O,J,Walks.list (show X.A.in1.handled=Y from I.ok.hd l) s.heap.objs.size p g aG.toArray,⟨⟨_,de _ J,J,J⟩,vT a.isList _⟩,nh c _,λw tk j=>?_⟩;rw[cP,<- d,range_all];refine⟨.bl _,H,?_,J,q⟩;refine I.kept λb o e=>j b o (λz=>?_)<|ax _ e;have m:b=s.heap.objs.size:=by simpa using z
 rw[m]at e;exact sN _<|b9 e
def Di(l:X.calm=O):fJ X (.builtin "any") λxs H Q=>∃(p:bp)(ks:Fm),xs=[.ref p]/\dM X.K H p (ks.map V.bl)/\Q (.bl<|ks.any id) H:=by
 intro x s n H xs t Q I r h;obtain⟨p,ks,rfl,k,q⟩:=h;obtain⟨u,rfl,f⟩:=vals1 r;cases f;obtain⟨aG,c,a,v⟩:=I.list k;have d:=c.length;rw[ck]at d;refine call_any_walk<|ip a.isList ?_;have g:p≠s.heap.objs.size:=let⟨_,e,_⟩:=a.isList;dO<|b9 e;refine⟨s.heap.objs.size,_,[s.heap.objs.size],aG.toArray.size,_,_,λi=>ks.getD i O,J,Walks.list (show X.A.in1.handled=Y from I.ok.hd l) s.heap.objs.size p g aG.toArray,⟨⟨_,de _ J,J,J⟩,vT a.isList _⟩,nh c _,λw tk j=>?_⟩;rw[cP,<- d,range_any];refine⟨.bl _,H,?_,J,q⟩;refine I.kept λb o e=>j b o (λz=>?_)<|ax _ e;have m:b=s.heap.objs.size:=by simpa using z
 rw[m]at e;exact sN _<|b9 e
end
end L2
namespace K24
open PySem L2
abbrev top(i:Nat):gL:=PySem.Challenge.pw_rowblade_k24_what_is_refused.main.body.getD i<|.Pass ⟨0,0,0,0⟩
end K24
noncomputable section
namespace KH
open PySem PySem.W PySem.Calls PyProof.Rows L2 K24
abbrev pw:cW:=PySem.Challenge.pw_rowblade_k24_what_is_refused
abbrev r(a:Nat):ar:=.ref a
abbrev ZD(c:ar)(d:Option bp)(x:Data)(s:List D2):Obj:=⟨c,d,x,⟨s⟩⟩
abbrev W:=ma->Obj
abbrev Z:=Str×Nat×ar
abbrev D(P:ma)(e:Z):DictEntry:=⟨PyData.keyHash P e.1,.str e.1 e.2.1,e.2.2⟩
abbrev fN(n q:Str)(s:gL)(g:bp)(cl:List<|Str×bp)(e d a c:ar)(an:Option bp)(f ct:ar)(b:bp):dy:=⟨n,q,jN s,.stmts<|bW s,aA s,g,cl,e,d,a,c,an,f,ct,b⟩
abbrev C(n q:Str)(t u L a b c g:Nat)(x:bp)(B:Bool)(y:bp)(k l m o:ar):W:=λ_=>ZD (.type "code") Y (.fields ⟨[.str n t,.str q<|t+1,.str "/claim/cut.py"<|t+2,.int (lG L) 0,.int (lG a) 0,.int (lG b) 0,.int (lG c) 0,.int (lG g) 0,r x,.bool B,.int (lG 181) 0,r y,k,l,m,o,.int (lG u) 0,.int (lG L) 0,.str "/claim/cut.py"<|u+1]⟩) []
abbrev cf(n q:Str)(t u L a x:Nat):W:=C n q t u L a 0 0 3 x O (x+1) .none (r<|x+2) (r<|x+3)<|r<|x+4
abbrev cg(n:Str)(t u L a x:Nat):W:=cf n n t u L a x
abbrev cc(n:Str)(t L x:Nat):W:=C n n t (t+3) L 0 0 0 0 x Zn (x+1) .none .none .none .none
abbrev lt(b:Nat)(l:List<|Nat×Nat):W:=λ_=>ZD .none Y (.fields ⟨(l.map λp=>[.int (lG p.1) 0,.int (lG b) 0,r p.2]).flatten⟩) []
abbrev fO(n q:Str)(s:gL)(m:ar)(c:Nat):W:=λ_=>ZD (.type "function") Y (.func<|fN n q s 3 [] .none .none .none m Y (r c) .none 0) []
abbrev fn(n q:Str)(s:gL):W:=λ_=>ZD .none Y (.func<|fN n q s 0 [] .none .none .none .none Y .none .none 0) []
def sS:Nat->Bi->B2
 |_,[]=>[]
 |k,x::l=>.str x k::sS (k+1) l
abbrev tS(k:Nat)(l:Bi):W:=λ_=>ZD (.type "tuple") Y (.seq ⟨sS k l⟩ 0) []
abbrev tV(l:B2):W:=λ_=>ZD (.type "tuple") Y (.seq ⟨l⟩ 0) []
abbrev di(n:Nat)(l:List Z):W:=λP=>ZD (.type "dict") Y (.dict ⟨l.map<|D P⟩ n) []
abbrev c1(m:ar)(b:Nat)(q:Str)(L:Nat)(xs:List Z)(st a n:Nat):W:=di n<|("__module__",b,m)::("__qualname__",b+2,.str q<|b+1)::("__firstlineno__",b+4,.int (lG L)<|b+3)::(xs.append [("__static_attributes__",st,r a)])
abbrev c2(m:ar)(b L:Nat)(xs:List Z)(st a:Nat)(ys:List Z)(c n:Nat):W:=di n<|("__module__",b,m)::("__firstlineno__",b+4,.int (lG L)<|b+3)::(xs.append<|("__static_attributes__",st,r a)::(ys.append [("__doc__",c,.none)]))
abbrev cG(n:Str)(bs a:B2)(d:Nat)(su:B2)(h:D2)(t:Nat)(nw:String):W:=λ_=>ZD (.type "type") Y (.cls ⟨n,bs,a,d,n,O,[],su,Zn,Y,Zn⟩) [h,Y,U<|.str n t,U<|.str n<|t+8,U<|.builtin nw,U<|.bool O]
abbrev ob:ar:=.type "object"
abbrev cB(n:Str)(d b:Nat)(su:B2)(h t:Nat):W:=cG n [r b] [r<|d+1,r b,ob] d su (U<|r h) t "object.__new__"
abbrev c0(n:Str)(d:Nat)(su:B2)(t:Nat):W:=cG n [ob] [r<|d+1,ob] d su Y t "object.__new__"
abbrev fr(c l:Nat)(m:ar):W:=λ_=>ZD (.type "frame") Y .plain [U<|r c,U<|r 3,U<|r l,Y,U m,Y,U<|r 0]
abbrev is(c:Nat):W:=λ_=>ZD (.type "builtin_function_or_method") Y (.fields ⟨[.builtin "object.__init_subclass__",r c]⟩) []
abbrev su(c:Nat):W:=λ_=>ZD (.type "super") Y (.fields ⟨[r c,r c,r c]⟩) []
abbrev gd(t c:Nat):W:=λ_=>ZD (.type "getset_descriptor") Y (.fields ⟨[.str "__dict__" t,r c,.builtin "function.__dict__",.builtin "function.__dict__#set"]⟩) []
abbrev gw(t c:Nat):W:=λ_=>ZD (.type "getset_descriptor") Y (.fields ⟨[.str "__weakref__" t,r c,.builtin "ExceptionGroup.__weakref__",.none]⟩) []
abbrev N(o:ma->Obj)(l r:ma->BT):ma->BT:=λP=>.node (o P) (l P)<|r P
abbrev E:ma->BT:=λ_=>.nil
abbrev L(o:ma->Obj):ma->BT:=N o E E
abbrev m0:ar:=.str "__main__" 164
abbrev m1:ar:=.str "rowblade.errors" 187
abbrev m2:ar:=.str "rowblade.lines" 373
abbrev m3:ar:=.str "rowblade.signs" 924
abbrev m4:ar:=.str "rowblade.patterns" 947
abbrev m5:ar:=.str "rowblade.linereading" 1068
abbrev m6:ar:=.str "rowblade.rows" 1286
abbrev m7:ar:=.str "rowblade.reading" 1296
abbrev m8:ar:=.str "rowblade.showing" 1339
abbrev m9:ar:=.str "law_rowblade_k24_what_is_refused" 1382
abbrev d0:List Z:=[("__doc__",166,.none),("__package__",167,.none),("__loader__",168,.builtin "__main__.__loader__#opaque"),("__spec__",169,.none),("__annotations__",170,r 6),("__builtins__",171,r 4),("__file__",173,.str "/claim/cut.py" 172),("__cached__",174,.none),("BladeError",206,r 24),("NoPattern",222,r 37),("NotThat",238,r 49),("NotWoven",254,r 61),("Finished",270,r 73)]
abbrev l0:List<|Nat×Nat:=[(2,20),(4,33),(6,45),(8,57),(10,69)]
abbrev d1:=d0.append [("NoLine",295,r 92),("TwoMarks",320,r 111),("NoMark",345,r 130),("Endless",372,r 149)]
abbrev l1:=l0++[(12,81),(16,100),(20,119),(24,138)]
abbrev d2:=d1.append [("Program",403,r 168),("Line",434,r 189),("Cond",454,r 203),("Always",470,r 217),("RowIs",495,r 236)]
abbrev l2:=l1++[(30,157),(34,178),(39,199),(41,213),(43,225)]
abbrev d3:=d2.append [("Last",511,r 248),("Like",536,r 267),("Soon",563,r 286),("FromTo",590,r 305),("Not",615,r 324)]
abbrev l3:=l2++[(47,244),(49,256),(53,275),(58,294),(63,313)]
abbrev d4:=d3.append [("End",631,r 336),("Deed",651,r 348),("Mark",676,r 369),("Drop",692,r 381),("Print",708,r 393)]
abbrev l4:=l3++[(67,332),(69,344),(71,358),(75,377),(77,389)]
abbrev d5:=d4.append [("Done",724,r 405),("Say",749,r 424),("Swap",778,r 443),("Join",803,r 462),("Pile",830,r 481)]
abbrev l5:=l4++[(79,401),(81,413),(85,432),(91,451),(95,470)]
abbrev d6:=d5.append [("Bring",855,r 500),("Go",880,r 519),("Add",907,r 538),("Tell",923,r 550),("SIGNS",927,(.str "abcdefghijklmnopqrstuvwxyzABCDEFGHIJKLMNOPQRSTUVWXYZ0123456789 !\"#$&'()*+,-./:;<=>?\x40[\\]^_`{|}~" 926)),("SMALL_LETTERS",929,.str "abcdefghijklmnopqrstuvwxyz" 928),("FIGURES",931,.str "0123456789" 930),("made_of",937,r 557),("beginning_of",946,r 564),("MOST_ITEMS",950,.int 8 949),("MOST_SIGNS",952,.int 12 951),("NEVER_PLAIN",954,.str "^$.[]*+?/" 953),("NEVER_IN_A_SET",956,.str "]^/" 955),("ONCE",958,.str "1" 957),("HOW_MANY",960,.str "*+?" 959),("may_stand_plain",967,r 571),("pattern",978,r 578)]
abbrev l6:=l5++[(100,489),(104,508),(108,527),(113,546),(119,556),(121,563),(133,570),(135,577)]
abbrev d7:=(d6.append [("items_of",989,r 585),("place_behind_core",998,r 592),("many_at",1006,r 599),("item_of",1014,r 606),("set_item",1020,r 611),("is_written_plain",1028,r 618),("written",1039,r 625),("written_core",1047,r 632),("may_be_empty",1054,r 639),("least_length",1060,r 644),("may_be_left_out",1067,r 651),("COND_BEGINNINGS",1077,r 652),("MOST_ROW",1079,.int 999 1078),("MOST_FIGURES",1081,.int 3 1080),("MOST_SOON",1083,.int 3 1082),("LEAST_JOIN",1085,.int 2 1084),("MOST_SMALL",1087,.int 9 1086),("MOST_LETTERS",1089,.int 8 1088),("MOST_TEXT",1091,.int 40 1090),("Scan",1164,r 704),("line_of",1174,r 715),("line_next",1180,r 720),("cond_next",1187,r 727),("plain_cond_next",1196,r 734),("row_or_pattern_next",1203,r 741)]).append [("deed_next",1210,r 748),("swap_next",1219,r 755),("pile_next",1227,r 762),("add_next",1235,r 769),("number_next",1246,r 776),("name_next",1254,r 783),("words_next",1262,r 790),("pattern_next",1270,r 797)]
abbrev l7:=l6++[(147,584),(156,591),(163,598),(167,605),(175,610),(187,617),(189,624),(196,631),(204,638),(206,643),(208,650),(219,658),(251,714),(257,719),(265,726),(271,733),(283,740),(287,747),(312,754),(316,761),(321,768),(325,775),(333,782),(338,789),(343,796)]
abbrev d8:=(d7.append [("may_stand",1278,r 804),("may_swap",1285,r 811),("cut",1295,r 818),("MOST_LINES",1299,.int 24 1298),("read",1308,r 825),("lines_of",1318,r 832),("marks_of",1328,r 839),("refuse_go_without_mark",1338,r 846),("shown",1346,r 851),("line_text",1353,r 858),("cond_text",1360,r 865),("deed_text",1367,r 872),("pattern_text",1374,r 879),("quoted",1381,r 886),("_law_cell_at",1391,r 893),("_law_name",1401,r 900),("_law_whole",1408,r 907),("_law_bad_name",1418,r 914),("_law_bad_number",1427,r 921),("_law_bad_text",1436,r 928),("_law_bad_other",1445,r 935),("_law_bad",1452,r 942),("_law_good",1462,r 949),("_law_rows",1472,r 956),("_law_due",1478,r 961)]).append [("_law_refused",1488,r 968),("_law_sorts",1495,r 975),("law",1501,r 980)]
abbrev l8:=l7++[(349,803),(355,810),(360,817),(367,824),(372,831),(379,838),(387,845),(392,850),(394,857),(398,864),(412,871),(436,878),(438,885),(441,892),(445,899),(452,906),(454,913),(461,920),(471,927),(479,934),(490,941),(498,948),(504,955),(514,960),(529,967),(541,974),(543,979)]
abbrev dF:=tV []
abbrev lZ:W:=λP=>ZD .none Y (.fields ⟨[]⟩) []
abbrev iQ:W:=λP=>ZD (.type "builtin_function_or_method") Y (.fields ⟨[(.builtin "type.__prepare__"),.type "type"]⟩) []
abbrev Ls:=tV [r 24]
abbrev tG:=tV [r 203]
abbrev lM:=tV [r 348]
def od:List W->List W
 |[]=>[]
 |x::r=>x::(match r with
  |[]=>[]
  |_::r=>od r)
def br:Nat->List W->ma->BT
 |0,_,_=>.nil
 |n+1,l,P=>(match l with
  |[]=>.nil
  |x::r=>.node (x P) (br n (od r) P)<|br n (od r.tail) P)
def ov:List W->Nat->Nat->List (Nat×W)->List W
 |[],_,_,_=>[]
 |x::l,i,n,q=>(match n.beq i with
  |true=>[]
  |false=>(match q with
   |[]=>x::ov l (i+1) n []
   |y::r=>(match y.1.beq i with
    |true=>y.2::ov l (i+1) n r
    |false=>x::ov l (i+1) n q)))
abbrev È:List Z:=[("__init__",1112,r 666),("refuse",1119,r 673),("passes",1127,r 680),("must_pass",1135,r 687),("while_made_of",1144,r 694),("between",1154,r 701)]
abbrev Lu(b:Str)(d a c:Nat):List W:=[cG b [r 24] [(r<|a+1),r 24,.type "ValueError",.type "Exception",.type "BaseException",.type "object"] a [] (U<|r d) c "ValueError.__new__",su<|a+1,is<|a+1]
abbrev lN(s1 s2:Str)(d f c e b a:Nat)(l0:Bi)(m3:ar):List W:=[dF,lZ,tS (a+3) l0,dF,fn s1 s2<|inClass (top c) d,cf s1 s2 a (a+l0.length+3) e f b,fO s1 s2 (inClass (top c) d) m3<|b+5]
abbrev qb(b:Str)(e d a c:Nat):List W:=[cB b a e [] d c,su<|a+1,is<|a+1]
abbrev fG(s1:Str)(e c d b a:Nat)(l0:Bi)(m2:ar):List W:=[dF,lZ,tS (a+3) l0,dF,fn s1 s1<|top c,cg s1 a (a+l0.length+3) d e b,fO s1 s1 (top c) m2<|b+5]
abbrev a0:List W:=qJ [[boot_o_0,boot_o_1,boot_o_2,di 116<|("__name__",165,.str "law_rowblade_k24_what_is_refused" 1382)::d8,boot_o_4,boot_o_5,boot_o_6,boot_o_7,boot_o_8,boot_o_9,boot_o_10,dF,lt 0 l8,cc "<module>" 182 1 11,fr 13 3 m0,tV [.type "ValueError"],iQ,c1 m1 196 "BladeError" 2 [] 201 22 4,dF,lZ,cc "BladeError" 191 2 18,fr 20 17 m1,dF,c2 m1 196 2 [] 201 22 [("__weakref__",203,r 25)] 204 3,cG "BladeError" [.type "ValueError"] [r 24,.type "ValueError",.type "Exception",.type "BaseException",.type "object"] 23 [r 37,r 49,r 61,r 73,r 92,r 111,r 130,r 149] (U<|r 15) 189 "ValueError.__new__",gw 202 24,su 24,is 24,Ls,iQ,c1 m1 214 "NoPattern" 4 [] 219 35 4,dF,lZ,cc "NoPattern" 209 4 31,fr 33 30 m1,dF,c2 m1 214 4 [] 219 35 [] 220 2],Lu "NoPattern" 28 36 207,[Ls,iQ,c1 m1 230 "NotThat" 6 [] 235 47 4,dF,lZ,cc "NotThat" 225 6 43,fr 45 42 m1,dF,c2 m1 230 6 [] 235 47 [] 236 2],Lu "NotThat" 40 48 223,[Ls,iQ,c1 m1 246 "NotWoven" 8 [] 251 59 4,dF,lZ,cc "NotWoven" 241 8 55,fr 57 54 m1,dF,c2 m1 246 8 [] 251 59 [] 252 2],Lu "NotWoven" 52 60 239,[Ls,iQ,c1 m1 262 "Finished" 10 [] 267 71 4,dF,lZ,cc "Finished" 257 10 67,fr 69 66 m1,dF,c2 m1 262 10 [] 267 71 [] 268 2],Lu "Finished" 64 72 255,[Ls,iQ,c1 m1 278 "NoLine" 12 [("__init__",290,r 89)] 292 90 5,dF,lt 4 [(14,88)],cc "NoLine" 273 12 79,fr 81 78 m1],lN "__init__" "NoLine.__init__" 0 2 6 14 83 283 ["self","row"] m1,[tS 291 ["row"],c2 m1 278 12 [("__init__",290,r 89)] 292 90 [] 293 2],Lu "NoLine" 76 91 271,[Ls,iQ,c1 m1 303 "TwoMarks" 16 [("__init__",315,r 108)] 317 109 5,dF,lt 4 [(18,107)],cc "TwoMarks" 298 16 98,fr 100 97 m1],lN "__init__" "TwoMarks.__init__" 0 2 7 18 102 308 ["self","row"] m1,[tS 316 ["row"]]]
abbrev a1:List W:=qJ [[c2 m1 303 16 [("__init__",315,r 108)] 317 109 [] 318 2],Lu "TwoMarks" 95 110 296,[Ls,iQ,c1 m1 328 "NoMark" 20 [("__init__",340,r 127)] 342 128 5,dF,lt 4 [(22,126)],cc "NoMark" 323 20 117,fr 119 116 m1],lN "__init__" "NoMark.__init__" 0 2 8 22 121 333 ["self","row"] m1,[tS 341 ["row"],c2 m1 328 20 [("__init__",340,r 127)] 342 128 [] 343 2],Lu "NoMark" 114 129 321,[Ls,iQ,c1 m1 353 "Endless" 24 [("__init__",366,r 146)] 369 147 5,dF,lt 4 [(26,145)],cc "Endless" 348 24 136,fr 138 135 m1],lN "__init__" "Endless.__init__" 0 3 9 26 140 358 ["self","row","line"] m1,[tS 367 ["line","row"],c2 m1 353 24 [("__init__",366,r 146)] 369 147 [] 370 2],Lu "Endless" 133 148 346,[dF,iQ,c1 m2 382 "Program" 30 [("__init__",394,r 165)] 396 166 5,dF,lt 4 [(32,164)],cc "Program" 377 30 155,fr 157 154 m2],lN "__init__" "Program.__init__" 0 2 11 32 159 387 ["self","lines"] m2,[tS 395 ["lines"],c2 m2 382 30 [("__init__",394,r 165)] 396 166 [("__dict__",398,r 169),("__weakref__",400,r 170)] 401 4,c0 "Program" 167 [] 375,gd 397 168,gw 399 168,su 168,is 168,dF,iQ,c1 m2 411 "Line" 34 [("__init__",424,r 186)] 427 187 5,dF,lt 4 [(36,185)],cc "Line" 406 34 176,fr 178 175 m2],lN "__init__" "Line.__init__" 0 3 12 36 180 416 ["self","cond","deed"] m2,[tS 425 ["cond","deed"],c2 m2 411 34 [("__init__",424,r 186)] 427 187 [("__dict__",429,r 190),("__weakref__",431,r 191)] 432 4,c0 "Line" 188 [] 404,gd 428 189,gw 430 189,su 189,is 189,dF,iQ,c1 m2 442 "Cond" 39 [] 447 201 4,dF,lZ,cc "Cond" 437 39 197,fr 199 196 m2,dF,c2 m2 442 39 [] 447 201 [("__dict__",449,r 204),("__weakref__",451,r 205)] 452 4,c0 "Cond" 202 [r 217,r 236,r 248,r 267,r 286,r 305,r 324,r 336] 435,gd 448 203,gw 450 203,su 203,is 203,tG,iQ,c1 m2 462 "Always" 41 [] 467 215 4,dF,lZ,cc "Always" 457 41 211,fr 213 210 m2,dF,c2 m2 462 41 [] 467 215 [] 468 2],qb "Always" 203 208 216 455]
abbrev a2:List W:=qJ [[tG,iQ,c1 m2 478 "RowIs" 43 [("__init__",490,r 233)] 492 234 5,dF,lt 4 [(45,232)],cc "RowIs" 473 43 223,fr 225 222 m2],lN "__init__" "RowIs.__init__" 0 2 15 45 227 483 ["self","number"] m2,[tS 491 ["number"],c2 m2 478 43 [("__init__",490,r 233)] 492 234 [] 493 2],qb "RowIs" 203 220 235 471,[tG,iQ,c1 m2 503 "Last" 47 [] 508 246 4,dF,lZ,cc "Last" 498 47 242,fr 244 241 m2,dF,c2 m2 503 47 [] 508 246 [] 509 2],qb "Last" 203 239 247 496,[tG,iQ,c1 m2 519 "Like" 49 [("__init__",531,r 264)] 533 265 5,dF,lt 4 [(51,263)],cc "Like" 514 49 254,fr 256 253 m2],lN "__init__" "Like.__init__" 0 2 17 51 258 524 ["self","pattern"] m2,[tS 532 ["pattern"],c2 m2 519 49 [("__init__",531,r 264)] 533 265 [] 534 2],qb "Like" 203 251 266 512,[tG,iQ,c1 m2 544 "Soon" 53 [("__init__",557,r 283)] 560 284 5,dF,lt 4 [(55,282)],cc "Soon" 539 53 273,fr 275 272 m2],lN "__init__" "Soon.__init__" 0 3 18 55 277 549 ["self","many","pattern"] m2,[tS 558 ["many","pattern"],c2 m2 544 53 [("__init__",557,r 283)] 560 284 [] 561 2],qb "Soon" 203 270 285 537,[tG,iQ,c1 m2 571 "FromTo" 58 [("__init__",584,r 302)] 587 303 5,dF,lt 4 [(60,301)],cc "FromTo" 566 58 292,fr 294 291 m2],lN "__init__" "FromTo.__init__" 0 3 19 60 296 576 ["self","first","second"] m2,[tS 585 ["first","second"],c2 m2 571 58 [("__init__",584,r 302)] 587 303 [] 588 2],qb "FromTo" 203 289 304 564,[tG,iQ,c1 m2 598 "Not" 63 [("__init__",610,r 321)] 612 322 5,dF,lt 4 [(65,320)],cc "Not" 593 63 311,fr 313 310 m2],lN "__init__" "Not.__init__" 0 2 20 65 315 603 ["self","inner"] m2,[tS 611 ["inner"],c2 m2 598 63 [("__init__",610,r 321)] 612 322 [] 613 2],qb "Not" 203 308 323 591,[tG,iQ,c1 m2 623 "End" 67 [] 628 334 4]]
abbrev a3:List W:=qJ [[dF,lZ,cc "End" 618 67 330,fr 332 329 m2,dF,c2 m2 623 67 [] 628 334 [] 629 2],qb "End" 203 327 335 616,[dF,iQ,c1 m2 639 "Deed" 69 [] 644 346 4,dF,lZ,cc "Deed" 634 69 342,fr 344 341 m2,dF,c2 m2 639 69 [] 644 346 [("__dict__",646,r 349),("__weakref__",648,r 350)] 649 4,c0 "Deed" 347 [r 369,r 381,r 393,r 405,r 424,r 443,r 462,r 481,r 500,r 519,r 538,r 550] 632,gd 645 348,gw 647 348,su 348,is 348,lM,iQ,c1 m2 659 "Mark" 71 [("__init__",671,r 366)] 673 367 5,dF,lt 4 [(73,365)],cc "Mark" 654 71 356,fr 358 355 m2],lN "__init__" "Mark.__init__" 0 2 23 73 360 664 ["self","name"] m2,[tS 672 ["name"],c2 m2 659 71 [("__init__",671,r 366)] 673 367 [] 674 2],qb "Mark" 348 353 368 652,[lM,iQ,c1 m2 684 "Drop" 75 [] 689 379 4,dF,lZ,cc "Drop" 679 75 375,fr 377 374 m2,dF,c2 m2 684 75 [] 689 379 [] 690 2],qb "Drop" 348 372 380 677,[lM,iQ,c1 m2 700 "Print" 77 [] 705 391 4,dF,lZ,cc "Print" 695 77 387,fr 389 386 m2,dF,c2 m2 700 77 [] 705 391 [] 706 2],qb "Print" 348 384 392 693,[lM,iQ,c1 m2 716 "Done" 79 [] 721 403 4,dF,lZ,cc "Done" 711 79 399,fr 401 398 m2,dF,c2 m2 716 79 [] 721 403 [] 722 2],qb "Done" 348 396 404 709,[lM,iQ,c1 m2 732 "Say" 81 [("__init__",744,r 421)] 746 422 5,dF,lt 4 [(83,420)],cc "Say" 727 81 411,fr 413 410 m2],lN "__init__" "Say.__init__" 0 2 27 83 415 737 ["self","words"] m2,[tS 745 ["words"],c2 m2 732 81 [("__init__",744,r 421)] 746 422 [] 747 2],qb "Say" 348 408 423 725,[lM,iQ,c1 m2 757 "Swap" 85 [("__init__",771,r 440)] 775 441 5,dF,lt 4 [(87,439)],cc "Swap" 752 85 430,fr 432 429 m2],lN "__init__" "Swap.__init__" 0 4 28 87 434 762 ["self","pattern","words","every"] m2]
abbrev a4:List W:=qJ [[tS 772 ["every","pattern","words"],c2 m2 757 85 [("__init__",771,r 440)] 775 441 [] 776 2],qb "Swap" 348 427 442 750,[lM,iQ,c1 m2 786 "Join" 91 [("__init__",798,r 459)] 800 460 5,dF,lt 4 [(93,458)],cc "Join" 781 91 449,fr 451 448 m2],lN "__init__" "Join.__init__" 0 2 29 93 453 791 ["self","most"] m2,[tS 799 ["most"],c2 m2 786 91 [("__init__",798,r 459)] 800 460 [] 801 2],qb "Join" 348 446 461 779,[lM,iQ,c1 m2 811 "Pile" 95 [("__init__",824,r 478)] 827 479 5,dF,lt 4 [(97,477)],cc "Pile" 806 95 468,fr 470 467 m2],lN "__init__" "Pile.__init__" 0 3 30 97 472 816 ["self","shelf","most"] m2,[tS 825 ["most","shelf"],c2 m2 811 95 [("__init__",824,r 478)] 827 479 [] 828 2],qb "Pile" 348 465 480 804,[lM,iQ,c1 m2 838 "Bring" 100 [("__init__",850,r 497)] 852 498 5,dF,lt 4 [(102,496)],cc "Bring" 833 100 487,fr 489 486 m2],lN "__init__" "Bring.__init__" 0 2 31 102 491 843 ["self","shelf"] m2,[tS 851 ["shelf"],c2 m2 838 100 [("__init__",850,r 497)] 852 498 [] 853 2],qb "Bring" 348 484 499 831,[lM,iQ,c1 m2 863 "Go" 104 [("__init__",875,r 516)] 877 517 5,dF,lt 4 [(106,515)],cc "Go" 858 104 506,fr 508 505 m2],lN "__init__" "Go.__init__" 0 2 32 106 510 868 ["self","name"] m2,[tS 876 ["name"],c2 m2 863 104 [("__init__",875,r 516)] 877 517 [] 878 2],qb "Go" 348 503 518 856,[lM,iQ,c1 m2 888 "Add" 108 [("__init__",901,r 535)] 904 536 5,dF,lt 4 [(110,534)],cc "Add" 883 108 525,fr 527 524 m2],lN "__init__" "Add.__init__" 0 3 33 110 529 893 ["self","first","second"] m2,[tS 902 ["first","second"],c2 m2 888 108 [("__init__",901,r 535)] 904 536 [] 905 2],qb "Add" 348 522 537 881,[lM,iQ,c1 m2 915 "Tell" 113 [] 920 548 4,dF,lZ,cc "Tell" 910 113 544,fr 546 543 m2,dF,c2 m2 915 113 [] 920 548 [] 921 2],qb "Tell" 348 541 549 908]
abbrev a5:List W:=qJ [[dF,lZ,fn "made_of" "made_of"<|top 39,C "made_of" "made_of" 932 935 119 2 0 0 3 553 O 554 .none .none .none<|r 555,fO "made_of" "made_of" (top 39) m3 556],fG "beginning_of" 2 40 121 558 938 ["text","signs","many"] m3,fG "may_stand_plain" 1 48 133 565 961 ["sign"] m4,fG "pattern" 1 49 135 572 968 ["text","front","body","back","items"] m4,fG "items_of" 1 50 147 579 979 ["body","items","place","behind","many"] m4,fG "place_behind_core" 2 51 156 586 990 ["body","place","bracket"] m4,fG "many_at" 2 52 163 593 999 ["body","place"] m4,fG "item_of" 2 53 167 600 1007 ["core","many"] m4,[dF,lZ,fn "set_item" "set_item"<|top 54,C "set_item" "set_item" 1015 1018 175 2 0 0 3 607 O 608 .none .none .none<|r 609,fO "set_item" "set_item" (top 54) m4 610],fG "is_written_plain" 2 55 187 612 1021 ["signs","others"] m4,fG "written" 1 56 189 619 1029 ["one","parts","signs","others","many"] m4,fG "written_core" 2 57 196 626 1040 ["signs","others"] m4,fG "may_be_empty" 1 58 204 633 1048 ["one"] m4,[dF,lZ,fn "least_length" "least_length"<|top 59,C "least_length" "least_length" 1055 1058 206 1 0 0 3 640 O 641 .none .none .none<|r 642,fO "least_length" "least_length" (top 59) m4 643],fG "may_be_left_out" 1 60 208 645 1061 ["item"] m4,[tS 1070 ["row ","last","/","soon ","from ","not ","end"],dF,iQ,c1 m5 1099 "Scan" 219 È 1157 702 10,dF,lt 4 [(221,665),(225,672),(228,679),(234,686),(238,693),(243,700)],cc "Scan" 1094 219 656,fr 658 655 m5],lN "__init__" "Scan.__init__" 0 3 70 221 660 1104 ["self","row","number"] m5]
abbrev a6:List W:=qJ [lN "refuse" "Scan.refuse" 1 1 70 225 667 1113 ["self"] m5,lN "passes" "Scan.passes" 2 2 70 228 674 1120 ["self","words"] m5,lN "must_pass" "Scan.must_pass" 3 2 70 234 681 1128 ["self","words"] m5,lN "while_made_of" "Scan.while_made_of" 4 2 70 238 688 1136 ["self","signs","taken"] m5,lN "between" "Scan.between" 5 2 70 243 695 1145 ["self","sign","place","inside"] m5,[tS 1155 ["number","rest"],c2 m5 1099 219 È 1157 702 [("__dict__",1159,r 705),("__weakref__",1161,r 706)] 1162 4,c0 "Scan" 703 [] 1092,gd 1158 704,gw 1160 704,su 704,is 704],fG "line_of" 2 71 251 709 1165 ["row","number","scan","line"] m5,[dF,lZ,fn "line_next" "line_next"<|top 72,C "line_next" "line_next" 1175 1178 257 1 0 0 3 716 O 717 .none .none .none<|r 718,fO "line_next" "line_next" (top 72) m5 719],fG "cond_next" 1 73 265 721 1181 ["scan"] m5,fG "plain_cond_next" 1 74 271 728 1188 ["scan","many","first"] m5,fG "row_or_pattern_next" 1 75 283 735 1197 ["scan"] m5,fG "deed_next" 1 76 287 742 1204 ["scan"] m5,fG "swap_next" 2 77 312 749 1211 ["scan","every","one"] m5,fG "pile_next" 1 78 316 756 1220 ["scan","shelf"] m5,fG "add_next" 1 79 321 763 1228 ["scan","first"] m5,fG "number_next" 3 80 325 770 1236 ["scan","least","most","figures","number"] m5]
abbrev a7:List W:=qJ [fG "name_next" 1 81 333 777 1247 ["scan","name"] m5,fG "words_next" 1 82 338 784 1255 ["scan","words"] m5,fG "pattern_next" 1 83 343 791 1263 ["scan","text"] m5,fG "may_stand" 2 84 349 798 1271 ["cond","deed"] m5,fG "may_swap" 1 85 355 805 1279 ["deed"] m5,fG "cut" 1 87 360 812 1288 ["text","rows"] m6,fG "read" 1 90 367 819 1300 ["text","lines","marks"] m7,fG "lines_of" 1 91 372 826 1309 ["rows","lines","number","row"] m7,fG "marks_of" 1 92 379 833 1319 ["lines","marks","number","line"] m7,fG "refuse_go_without_mark" 2 93 387 840 1329 ["lines","marks","number","line"] m7,[dF,lZ,fn "shown" "shown"<|top 95,C "shown" "shown" 1341 1344 392 1 0 0 3 847 O 848 .none .none .none<|r 849,fO "shown" "shown" (top 95) m8 850],fG "line_text" 1 96 394 852 1347 ["line"] m8,fG "cond_text" 1 97 398 859 1354 ["cond"] m8,fG "deed_text" 1 98 412 866 1361 ["deed"] m8,fG "pattern_text" 1 99 436 873 1368 ["one"] m8,fG "quoted" 1 100 438 880 1375 ["words"] m8]
abbrev a8:List W:=qJ [fG "_law_cell_at" 2 102 441 887 1384 ["_law_script","_law_k"] m9,fG "_law_name" 1 103 445 894 1392 ["_law_cell","_law_rest","_law_word","_law_k"] m9,fG "_law_whole" 1 104 452 901 1402 ["_law_got"] m9,fG "_law_bad_name" 1 105 454 908 1409 ["_law_n","_law_word","_law_long","_law_some"] m9,fG "_law_bad_number" 1 106 461 915 1419 ["_law_n","_law_number","_law_some"] m9,fG "_law_bad_text" 1 107 471 922 1428 ["_law_n","_law_word","_law_some"] m9,fG "_law_bad_other" 1 108 479 929 1437 ["_law_n","_law_word","_law_some"] m9,fG "_law_bad" 1 109 490 936 1446 ["_law_n"] m9,fG "_law_good" 1 110 498 943 1453 ["_law_n","_law_word","_law_short","_law_some"] m9,fG "_law_rows" 1 111 504 950 1463 ["_law_script","_law_bad_here","_law_rows_here","_law_cell"] m9,[dF,lZ,fn "_law_due" "_law_due"<|top 112,C "_law_due" "_law_due" 1473 1476 514 2 0 0 3 957 O 958 .none .none .none<|r 959,fO "_law_due" "_law_due" (top 112) m9 960],fG "_law_refused" 1 113 529 962 1479 ["_law_text","_law_sorts_here","_law_row","e"] m9,fG "_law_sorts" 1 114 541 969 1489 ["_law_way"] m9,[dF,lZ,fn "law" "law"<|top 115,C "law" "law" 1496 1499 543 1 0 0 3 976 O 977 .none .none .none<|r 978,fO "law" "law" (top 115) m9 979]]
abbrev os:List W:=a0++(a1++(a2++(a3++(a4++(a5++(a6++(a7++(a8))))))))
abbrev tr(n:Nat)(q:List<|Nat×W):ma->BT:=br 12<|ov os 0 n q
abbrev lf:Life:=⟨[],[],[],0,[],[],Zn,#[],[],0,Zn,Zn,Zn,0,[2000,10,10],Zn,0,O,[],[],0,Zn⟩
abbrev TA(w:c4)(os:i4):n9:=⟨tr 15 [(3,boot_o_3),(12,lZ)] w.params,15,lf,⟨[]⟩,⟨0,0,0,0⟩,187,os⟩
abbrev T0(w:c4)(os:i4):n9:=⟨tr 76 [(3,di 14<|("__name__",165,.str "rowblade.errors" 187)::d0),(12,lt 0 l0),(24,cG "BladeError" [.type "ValueError"] [r 24,.type "ValueError",.type "Exception",.type "BaseException",.type "object"] 23 [r 37,r 49,r 61,r 73] (U<|r 15) 189 "ValueError.__new__")] w.params,76,lf,⟨[]⟩,⟨0,0,0,0⟩,271,os⟩
abbrev T1(w:c4)(os:i4):n9:=⟨tr 152 [(3,di 18<|("__name__",165,.str "rowblade.lines" 373)::d1),(12,lt 0 l1)] w.params,152,lf,⟨[]⟩,⟨0,0,0,0⟩,375,os⟩
abbrev T2(w:c4)(os:i4):n9:=⟨tr 239 [(3,di 23<|("__name__",165,.str "rowblade.lines" 373)::d2),(12,lt 0 l2),(203,c0 "Cond" 202 [r 217,r 236] 435)] w.params,239,lf,⟨[]⟩,⟨0,0,0,0⟩,496,os⟩
abbrev T3(w:c4)(os:i4):n9:=⟨tr 327 [(3,di 28<|("__name__",165,.str "rowblade.lines" 373)::d3),(12,lt 0 l3),(203,c0 "Cond" 202 [r 217,r 236,r 248,r 267,r 286,r 305,r 324] 435)] w.params,327,lf,⟨[]⟩,⟨0,0,0,0⟩,616,os⟩
abbrev T4(w:c4)(os:i4):n9:=⟨tr 396 [(3,di 33<|("__name__",165,.str "rowblade.lines" 373)::d4),(12,lt 0 l4),(348,c0 "Deed" 347 [r 369,r 381,r 393] 632)] w.params,396,lf,⟨[]⟩,⟨0,0,0,0⟩,709,os⟩
abbrev T5(w:c4)(os:i4):n9:=⟨tr 484 [(3,di 38<|("__name__",165,.str "rowblade.lines" 373)::d5),(12,lt 0 l5),(348,c0 "Deed" 347 [r 369,r 381,r 393,r 405,r 424,r 443,r 462,r 481] 632)] w.params,484,lf,⟨[]⟩,⟨0,0,0,0⟩,831,os⟩
abbrev T6(w:c4)(os:i4):n9:=⟨tr 579 [(3,di 55<|("__name__",165,.str "rowblade.patterns" 947)::d6),(12,lt 0 l6)] w.params,579,lf,⟨[]⟩,⟨0,0,0,0⟩,979,os⟩
abbrev T7(w:c4)(os:i4):n9:=⟨tr 798 [(3,di 88<|("__name__",165,.str "rowblade.linereading" 1068)::d7),(12,lt 0 l7)] w.params,798,lf,⟨[]⟩,⟨0,0,0,0⟩,1271,os⟩
abbrev T8(w:c4)(os:i4):n9:=⟨tr 981 [] w.params,981,lf,⟨[]⟩,⟨0,0,0,0⟩,1502,os⟩
abbrev bE:Fh:=behindTheImports pw
abbrev nv:Env:={scope:=pw.main.scope,locals:=mainNs,globals:=mainNs,cells:=[],code:=(r 13),frame:=U 14}
abbrev cE:Code:=.body bE nv
abbrev BF:List Frame:=[topFrame ⟨0,0,0,0⟩]
abbrev an:D2:=(U<|r 6)
abbrev R9:Fh:=(bE.drop 0).take 6
abbrev R_:Fh:=(bE.drop 6).take 5
abbrev Sa:Fh:=(bE.drop 11).take 5
abbrev Sb:Fh:=(bE.drop 16).take 5
abbrev Sd:Fh:=(bE.drop 21).take 5
abbrev Se:Fh:=(bE.drop 26).take 5
abbrev Sf:Fh:=(bE.drop 31).take 19
abbrev Sg:Fh:=(bE.drop 50).take 34
abbrev Sh:Fh:=(bE.drop 84).take 32
abbrev S0(w:c4)(os:i4):ag:=⟨oy w.params,Array.mk [],boot_drawn,boot_toks,os⟩
abbrev Ĺ:oi:=n3 R9 nv cE ⟨0,0,0,0⟩ BF
abbrev ĺ:oi:=n3 R_ nv cE ⟨10,0,11,8⟩ BF
abbrev Ļ:oi:=n3 Sa nv cE ⟨29,0,29,8⟩ BF
abbrev ļ:oi:=n3 Sb nv cE ⟨43,0,46,28⟩ BF
abbrev Ľ:oi:=n3 Sd nv cE ⟨63,0,66,26⟩ BF
abbrev ľ:oi:=n3 Se nv cE ⟨77,0,78,8⟩ BF
abbrev Ŀ:oi:=n3 Sf nv cE ⟨95,0,99,24⟩ BF
abbrev ŀ:oi:=n3 Sg nv cE ⟨135,0,146,31⟩ BF
abbrev Ł:oi:=n3 Sh nv cE ⟨343,0,348,43⟩ BF
abbrev ł:oi:=⟨denote f3 cE,cE,⟨0,0,0,0⟩,BF⟩
abbrev Ń:oi:=blockOf bE nv cE ⟨0,0,0,0⟩ BF
abbrev ń:oi:=⟨doneF .next,cE,⟨543,0,550,71⟩,BF⟩
def É:Nat->Nat->Nat->B1
 |0,a,_=>[a]
 |k+1,a,n=>a::É k (a+n % 16) (n/16)
abbrev as:BM:=É 530 2 0x13112121121211311212112121121211212112121121211212112121121211212112121121211212112121121211311212112121121211212112121121211212112121121211212112121121211212112121121211212112121121211311212311111121211212112121121211212112128112121131121211212112121121211311212112121121211212112121121211212113311731111212731111212731111212731111212731111212731111212731111212731173117311731111212731111a1173111121273111121273111121273111121273117311112127311731111a111111212a111111212a11112127311112127311112127311112127311731173117311731117c1
def sl:List W->Nat->B1->List W
 |[],_,_=>[]
 |x::l,i,q=>(match q with
  |[]=>[]
  |y::r=>(match y.beq i with
   |true=>x::sl l (i+1) r
   |false=>sl l (i+1) q))
abbrev K(P:ma):v3:=as.zip<|(sl os 0 as).map λo=>o P
abbrev vw:cW:={pw with main:={pw.main with body:=([1,2,3,4,5,6,7,8,9,11,12,13,14,15,16,17,18,19,20,21,22,23,24,25,26,27,28,29,30,31,32,33,34,36,37,38,39,40,42,43,44,45,46,47,48,49,50,51,52,53,54,55,56,57,58,59,60,62,63,64,65,66,67,68,69,70,71,72,73,74,75,76,77,78,79,80,81,82,83,84,85,87,89,90,91,92,93,95,96,97,98,99,100,102,103,104,105,106,107,108,109,110,111,112,113,114,115]:B1).map top}}
abbrev lz:Bi:=[]
def pre:∀w:c4,(λos=>topGo f3 pw w 11 an 12 (S0 w os)<|topStub pw)=λos=>U ((TA w os).abs,ł):=by
 exact λw=>by kernel_rfl
def V9:∀w:c4,(λos=>segRun f3 pw w 11 an 1 1 (TA w os).abs Ń)=λos=>U (ka,(TA w os).abs,cE,(⟨0,0,0,0⟩:Pos)):=by
 exact λw=>by kernel_rfl
def g0:∀w:c4,(λos=>oT f3 pw w 11 an 1 1048 (TA w os) Ĺ)=λos=>U (ka,T0 w os,cE,(⟨10,0,11,8⟩:Pos)):=by
 rewrite [dv]
 exact λw=>by kernel_rfl
def g1:∀w:c4,(λos=>oT f3 pw w 11 an 1 992 (T0 w os) ĺ)=λos=>U (ka,T1 w os,cE,(⟨29,0,29,8⟩:Pos)):=by
 rewrite [dv]
 exact λw=>by kernel_rfl
def g2:∀w:c4,(λos=>oT f3 pw w 11 an 1 1095 (T1 w os) Ļ)=λos=>U (ka,T2 w os,cE,(⟨43,0,46,28⟩:Pos)):=by
 rewrite [dv]
 exact λw=>by kernel_rfl
def g3:∀w:c4,(λos=>oT f3 pw w 11 an 1 1198 (T2 w os) ļ)=λos=>U (ka,T3 w os,cE,(⟨63,0,66,26⟩:Pos)):=by
 rewrite [dv]
 exact λw=>by kernel_rfl
def g4:∀w:c4,(λos=>oT f3 pw w 11 an 1 1075 (T3 w os) Ľ)=λos=>U (ka,T4 w os,cE,(⟨77,0,78,8⟩:Pos)):=by
 rewrite [dv]
 exact λw=>by kernel_rfl
def g5:∀w:c4,(λos=>oT f3 pw w 11 an 1 1200 (T4 w os) ľ)=λos=>U (ka,T5 w os,cE,(⟨95,0,99,24⟩:Pos)):=by
 rewrite [dv]
 exact λw=>by kernel_rfl
def g6:∀w:c4,(λos=>oT f3 pw w 11 an 1 1169 (T5 w os) Ŀ)=λos=>U (ka,T6 w os,cE,(⟨135,0,146,31⟩:Pos)):=by
 rewrite [dv]
 exact λw=>by kernel_rfl
def g7:∀w:c4,(λos=>oT f3 pw w 11 an 1 1193 (T6 w os) ŀ)=λos=>U (ka,T7 w os,cE,(⟨343,0,348,43⟩:Pos)):=by
 rewrite [dv]
 exact λw=>by kernel_rfl
def g8:∀w:c4,(λos=>oT f3 pw w 11 an 1 855 (T7 w os) Ł)=λos=>U (ka,T8 w os,cE,(⟨543,0,550,71⟩:Pos)):=by
 rewrite [dv]
 exact λw=>by kernel_rfl
def fin:∀w:c4,(λos=>topRun f3 pw w 11 an 2 (T8 w os).abs ń)=λos=>U (T8 w os).abs:=by
 exact λw=>by kernel_rfl
def Ņ(w:c4)(os:i4):∀l,l=(R9++(R_++(Sa++(Sb++(Sd++(Se++(Sf++(Sg++(Sh++[])))))))))->topRun f3 pw w 11 an (1048+(992+(1095+(1198+(1075+(1200+(1169+(1193+(855+2))))))))) (TA w os).abs (restOf l nv cE ⟨0,0,0,0⟩ BF)=U (T8 w os).abs:=λl e=>by
 rw[e];exact lb (la<|ej (g0 w) os)<|lb (la<|ej (g1 w) os)<|lb (la<|ej (g2 w) os)<|lb (la<|ej (g3 w) os)<|lb (la<|ej (g4 w) os)<|lb (la<|ej (g5 w) os)<|lb (la<|ej (g6 w) os)<|lb (la<|ej (g7 w) os)<|lb (la<|ej (g8 w) os)<|ej (fin w) os
def run(w:c4)(os:i4):topRun f3 pw w 11 an (12+(1+(1048+(992+(1095+(1198+(1075+(1200+(1169+(1193+(855+2))))))))))) (S0 w os) (topStub pw)=U (T8 w os).abs:=go_top (ej (pre w) os)<|piece_block (ej (V9 w) os)<|Ņ w os bE<|by kernel_rfl
def QX:∀P,as=(K P).map (·.1):=λ_=>by kernel_rfl
abbrev H:Hook:=kHook K as QX
abbrev H1(P:ma):ed:=absHeap ((tr 981 []) P) 981 lf
abbrev SF(w:c4)(os:i4):ag:=⟨H1 w.params,Array.mk [],⟨0,0,0,0⟩,1502,os⟩
abbrev Xt(s:ag):Bool:=xlAt vw [] s&&recOk (RowW.records<|OpenRow.toRowW<|OpenLaw.row PySem.Challenge.rw_rowblade_k24_what_is_refused) s
def ņ:∀w:c4,(fencedOpening f3 pw w 19758).map (λs=>(s.heap,s.gens,s.drawn,s.toks))=U (oy w.params,Array.mk [],boot_drawn,boot_toks):=boot_open (by kernel_rfl) (by decide) λs=>by kernel_rfl
def Ň:∀w:c4,((oy w.params).isNs en&&(Array.mk []:Array GenState).size == 0,(oy w.params).objs.size,(oy w.params).nsMap en "__annotations__")=(O,11,an):=λw=>by kernel_rfl
def Xk:∀w:c4,(λos=>(staticsOk (vt pw.main.body) (oy w.params) (H1 w.params)&&namesBound pw (H1 w.params)&&gensDone (SF w os)&&laidKept (oy w.params) (H1 w.params)))=λ_=>O:=λw=>by kernel_rfl
def q1:∀w:c4,(λos=>PyProof.Rows.seen (Ao (λx=>x.name)<|Lf vw) (PyProof.Rows.ownsOf vw) [] {heap:=(SF w os).heap,drawn:=(SF w os).drawn,toks:=(SF w os).toks,os:=(SF w os).os})=λ_=>PyProof.Rows.expectedOf vw:=λw=>by kernel_rfl
def q2:∀w:c4,(λos=>(SF w os).heap.bltView)=λ_=>bltViewBooted:=λw=>by kernel_rfl
def b1:∀w:c4,(λos=>(SF w os).heap.keysOk (looseW vw lz) (Ao (λx=>x.name)<|Lf vw) (Ao (λx=>x.fst)<|PyProof.Rows.litsOf vw)<|Ao (λx=>x.name)<|PyProof.Rows.clssOf vw<|looseW vw lz)=λ_=>O:=λw=>by kernel_rfl
def b2:∀w:c4,(λos=>(SF w os).heap.accountedOkI<|vt pw.main.body)=λ_=>O:=λw=>by kernel_rfl
def b3:∀w:c4,(λos=>(SF w os).heap.isNs en)=λ_=>O:=λw=>by kernel_rfl
def b4:∀w:c4,(λos=>(SF w os).heap.isNs tb)=λ_=>O:=λw=>by kernel_rfl
def b5:∀w:c4,(λos=>PyProof.Rows.tablesOk vw (SF w os).heap)=λ_=>O:=λw=>by kernel_rfl
def b6:∀w:c4,(λos=>Xt<|SF w os)=λ_=>O:=λw=>by kernel_rfl
def q4:∀w:c4,(λos=>PyProof.Rows.tabsOk vw<|SF w os)=λ_=>O:=λw=>by kernel_rfl
def q5:∀w:c4,(λos=>pinSeenD vw (Lg vw)<|SF w os)=λ_=>pinGoodD<|Lg vw:=λw=>by kernel_rfl
def q6:∀w:c4,(λos=>PyProof.Rows.plainSeenE vw (looseW vw lz)<|SF w os)=λ_=>PyProof.Rows.plainGoodE vw<|looseW vw lz:=λw=>by kernel_rfl
def q7:∀w:c4,(λos=>PyProof.Rows.plainSeenD vw lz<|SF w os)=λ_=>PyProof.Rows.plainGoodD vw lz:=λw=>by kernel_rfl
def q8:∀w:c4,(λos=>wideSeen vw<|SF w os)=λ_=>wideGood vw:=λw=>by kernel_rfl
def q9:∀w:c4,(λos=>clsSeenW vw lz<|SF w os)=λ_=>clsGoodW vw lz:=λw=>by kernel_rfl
def ň:∀w:c4,(λos=>openSeen vw lz (vt pw.main.body) Xt O<|SF w os)=λ_=>openGood vw lz:=λw=>yj λos=>iv (ej (q1 w) os)<|iv (ej (q2 w) os)<|iv (by
 show(_&&_&&_&&_&&_&&_&&_)=O;rw[ej (b1 w) os,ej (b2 w) os,ej (b3 w) os,ej (b4 w) os,ej (b5 w) os,ej (b6 w) os];rfl)<|iv (ej (q4 w) os)<|iv (ej (q5 w) os)<|iv (ej (q6 w) os)<|iv (ej (q7 w) os)<|iv (ej (q8 w) os)<|ej (q9 w) os
def sp{α b γ:Type}{f:α->γ}{g:b->γ}(n:Nat){a:List α}{k:List b}(d:(a.take n).map f=(k.take n).map g)(c:(a.drop n).map f=(k.drop n).map g):a.map f=k.map g:=by
 rw[<- KL n a,<- KL n k,sJ,sJ,d,c]
def Ŋ:∀w:c4,(λos=>(as.take 178).map (SF w os).heap.get?)=λ_=>((K w.params).take 178).map λp=>U p.2:=λw=>by kernel_rfl
def ŋ:∀w:c4,(λos=>((as.drop 178).take 178).map (SF w os).heap.get?)=λ_=>(((K w.params).drop 178).take 178).map λp=>U p.2:=λw=>by kernel_rfl
def Ō:∀w:c4,(λos=>((as.drop 178).drop 178).map (SF w os).heap.get?)=λ_=>(((K w.params).drop 178).drop 178).map λp=>U p.2:=λw=>by kernel_rfl
def ō:∀w:c4,(λos=>Hook.obs H<|SF w os)=λ_=>Hook.val H w:=λw=>yj λos=>sp 178 (ej (Ŋ w) os)<|sp 178 (ej (ŋ w) os)<|ej (Ō w) os
def left:LeftO pw vw lz Xt (Hook.obs H) (Hook.val H) 19758:=LeftO.of_pieces (H₁:=H1) (gs₁:=Array.mk []) (d₁:=⟨0,0,0,0⟩) (k₁:=1502) ņ Ň run (by decide) λw=>yj λos=>iv (ej (Xk w) os)<|iv (ej (ň w) os)<|ej (ō w) os
end KH
end
namespace L2
open PySem
def Dj(f:Array ar->Array ar)(o:Obj):(fc f o).dict=o.dict:=by
 unfold fc;split<;>rfl
def QY(h:ed)(e:bp)(d:Option bp×ar):Prop:=∃o a,h.get? e=U o/\o.dict=d.1/\o.data=.fields a/\a[2]?=U d.2
variable{A:dA}{M:vk}{s:ag}{E:ar->ag->Prop}
section
def Dk{base:ed}{env:Env}{outer:List Env}{L e:bp}{f:Obj}{vs:Array ar}{c a0 c2:ar}{w:Bool}{Q:Unit->ag->Prop}
  (v:A.frames=U (env::outer)) (hl:s.heap.FunFrames base<|env::outer) (x:env.frame=U L)
  (he:s.heap.get? e=U f) (Lv:base.StaysIn s.heap) (C:base.get? e=Y) (hd:f.data=.fields vs) (hsz:1<vs.size) (h0:vs[0]?=U a0) (B:vs[2]?=U c2)
  (h:∀h',Heap.NotedW base (env::outer) e f.cls a0 (oW L) s.heap h'->QY h' e (f.dict,c2)->Q () {s with heap:=h'}) :
  cv M A (do let a <- frameOf env;let j <- entryPlaceOf L w;let b <- va c a .none (oW L) .none j;setField (.ref e) 1 b) Q E s:=by
 have ne:e∉(env::outer).filterMap (·.frame):=λz=>by
  obtain⟨_,o,q,n⟩:=hl.mem z;rw[he]at q;cases q;exact n vs hd
 refine av<|wpAny_frameOf_fun v hl x λg k=>av<|wpAny_entryPlaceOf λj i=>?_;unfold va newFields;refine av<|wpAny_newObj_type ?_<|i.sizeOk5 _ _ _ _ _;have t:g.get? e=U f:=(k.2.1 e ne).trans he;have b1:base.StaysIn g:=λb o q=>(k.2.1 b λz=>by rw[(hl.mem z).1]at q;cases q).trans<|Lv b o q
 obtain⟨d,l⟩:∃d:Obj,d={cls:=.type "traceback",dict:=Y,data:=.fields ([c,.ref L,.none,oW L,.none]++(if j.isEmpty then dN 6 f7 else j)).toArray}:=⟨_,J⟩
 rw[<- l];have r:=ax (h:=g) d t;have u:g.objs.size≠e:=As<|b9 t;have d3:=ro hd (·.setIfInBounds 1<|Value.ref g.objs.size)
 have p:=kx (fc (·.setIfInBounds 1<|Value.ref g.objs.size)) r<|y4 d3
 have t3:=(f5 (g.push d) (fc (·.setIfInBounds 1<|Value.ref g.objs.size))<|ew u).trans<|de g<|by rw[l];rfl
 have keep:∀b o,b≠e->g.get? b=U o->((g.push d).update e<|fc (·.setIfInBounds 1<|Value.ref g.objs.size)).get? b=U o:=λb o y q=>(f5 _ _<|ew y).trans<|ax _ q
 have m:∀b o,s.heap.get? b=U o->(∀vs,o.data≠.fields vs)->b≠e:=λb o q n z=>by
  rw[z,he]at q;cases q;exact n vs hd
 refine pk r hd hsz<|h _ ⟨λb o q=>keep b o (λz=>by rw[z,C]at q;cases q)<|b1 b o q,hl.of_keeps λb o q n=>?_,?_,λb o q n=>?_⟩ ⟨_,_,p,Dj _ _,d3,by rw[rS<|by decide];exact B⟩
 .obtain⟨sl,z⟩:=k.2.2 b o q
  exact⟨_,keep b _ (m b o q n) z,J⟩
 .refine⟨_,_,g.objs.size,_,_,p,⟨Obj.cls_mapFields _ _,by rw[rS<|by decide];exact h0⟩,d3,by simp[hsz],b1.fresh,u,t3,by rw[l],?_⟩
  first|(simp;done)|(rcases i with rfl|⟨_,_,_,_,_,_,_,rfl⟩<;>simp)
 .obtain⟨sl,z⟩:=k.2.2 b o q
  exact⟨sl,keep b _ (m b o q n) z⟩
def yf{base:ed}{l:List Env}{e:bp}{cls a0 fl:ar}{d:Option bp×ar}{Q:Unit->ag->Prop}
  (Lv:base.StaysIn s.heap) (hl:s.heap.FunFrames base l) (v:s.heap.TracedAtW base e cls a0 fl) (g:QY s.heap e d)
  (h:∀h',base.StaysIn h'->h'.FunFrames base l->h'.TracedW base e cls a0->QY h' e d->(∀b o,s.heap.get? b=U o->(∀vs,o.data≠.fields vs)->h'.get? b=U o)->Q () {s with heap:=h'}) :
  cv M A (uj (.ref e) Y) Q E s:=by
 obtain⟨t,vs,T,B,ts,k,w,hd,m,p,i,c,a,x⟩:=v;obtain⟨u,y,r,g⟩:=g;have sz:3<ts.size:=(Array.getElem?_eq_some_iff.mp x).1;have ot:∀b,b≠T->(s.heap.update T<|fc (·.setIfInBounds 3<|(Y:Option bp).elim f7 λf=>oW f)).get? b=s.heap.get? b:=λb z=>f5 _ _<|ew z
 have j:∀b o,s.heap.get? b=U o->(∀vs,o.data≠.fields vs)->b≠T:=λb o q n z=>by
  rw[z,c]at q;cases q;exact n ts a
 unfold uj;refine av<|pz k hd m ?_;rw[b7<|show(Value.ref T != f7)=O by simp]
 exact pk c a sz<|h _ (λb o q=>(ot b λz=>by rw[z,p]at q;cases q).trans<|Lv b o q) (hl.of_keeps λb o q n=>⟨o,(ot b<|j b o q n).trans q,J⟩)
  ⟨t,vs,T,_,_,(ot e<|ew i).trans k,w,hd,m,p,i,kx _ c<|y4<|ro a _,ro a _,by simp[sz]⟩
  ⟨u,y,(ot e<|ew i).trans r,g⟩ λb o q n=>(ot b<|j b o q n).trans q
end
def jd(base:ed)(l:List Env)(e:bp)(cls a0:ar)(d:Option bp×ar)(h:ed):Prop:=Heap.FlyingW base l e cls a0 h/\QY h e d
section
variable{base:ed}{env:Env}{outer l:List Env}{L e:bp}{cls a0:ar}{d:Option bp×ar}{Q:Unit->ag->Prop}
def Ŏ(w:A.frames=U (env::outer))(l:env.frame=U L)(F:jd base (env::outer) e cls a0 d s.heap)
  (h:∀h',Heap.NotedW base (env::outer) e cls a0 (oW L) s.heap h'->QY h' e d->Q () {s with heap:=h'}):cv M A (ry (.ref e) env) Q E s:=by
 obtain⟨⟨Lv,G,hl,I,g,T,K,ts,a,⟨x,h0⟩,hd,p,C,H,c,f,m⟩,N,P,i,y,k,B⟩:=F;obtain⟨d1,d2⟩:=d;rw[a]at i;cases i;rw[hd]at k;cases k;subst x y;unfold ry;simp only[l];refine av<|pz a hd p ?_;rw[b7<|show(Value.ref T != f7)=O by simp]
 refine av<|pz c f m ?_;rw[b0<|show ¬ ((f7 == oW L)=O) by simp[oW]]
 refine av<|pk c f (Array.getElem?_eq_some_iff.mp m).1 ?_;have ot:∀b,b≠T->(s.heap.update T<|fc (·.setIfInBounds 3 f7)).get? b=s.heap.get? b:=λb z=>f5 _ _<|ew z
 have j:∀b o,s.heap.get? b=U o->(∀g,o.data≠.fields g)->b≠T:=λb o q n z=>by
  rw[z,c]at q;cases q;exact n ts f
 exact Dk w (hl.of_keeps λb o q n=>⟨o,(ot b<|j b o q n).trans q,J⟩) l ((ot e<|ew H).trans a)
  (λb o q=>(ot b λz=>by rw[z,C]at q;cases q).trans<|Lv b o q) G hd (Array.getElem?_eq_some_iff.mp p).1 h0 B
  λh' ⟨v,u,t,r⟩ D=>h h' ⟨v,u,t,λb o q n=>r b o ((ot b<|j b o q n).trans q) n⟩ D
def Sj(base:ed)(l:List Env)(e:bp)(cls a0:ar)(d:Option bp×ar)(L:bp)(h:ed):Prop:=Heap.HeldW base l e cls a0 L h/\QY h e d
def Ly(a:A.frames=U (env::outer))(c:env.frame=U L)(F:jd base (env::outer) e cls a0 d s.heap)
  (h:∀h',Sj base (env::outer) e cls a0 d L h'->s.heap.UpToSlots h'->Q () {s with heap:=h'}):cv M A (ry (.ref e) env) Q E s:=
 Ŏ a c F λh' ⟨k1,k2,k3,b⟩ D=>h h' ⟨⟨k1,F.1.2.1,k2,k3⟩,D⟩ b
def Dl(H:Sj base l e cls a0 d L s.heap)(h:∀h',jd base l e cls a0 d h'->s.heap.UpToSlots h'->Q () {s with heap:=h'}):cv M A (uj (.ref e) Y) Q E s:=by
 obtain⟨⟨j,i,g,f⟩,D⟩:=H;exact yf j g f D λh' k1 k2 k3 c a=>h h' ⟨⟨k1,i,k2,k3⟩,c⟩ λb o q n=>⟨o.slots,a b o q n⟩
def upTo{h e d:ed}(a:h.UpToSlots e)(b:e.UpToSlots d):h.UpToSlots d:=λc o q n=>by
 obtain⟨sl,q1⟩:=a c o q n;obtain⟨ŏ,q2⟩:=b c _ q1 n;exact⟨ŏ,q2⟩
def Nu(b:A.frames=U (env::outer))(g:env.frame=U L)(F:jd base (env::outer) e cls a0 d s.heap)
  (h:∀h',jd base outer e cls a0 d h'->s.heap.UpToSlots h'->Q () {s with heap:=h'}):cv M A (wq env<|.ref e) Q E s:=by
 unfold wq;refine av<|Ly b g F λj H1 f=>Dl H1 λi a c=>h i ⟨⟨a.1.1,a.1.2.1,?_,a.1.2.2.2⟩,a.2⟩<|upTo f c;obtain⟨_,_,k⟩:=a.1.2.2.1;exact k
def Dm{h:ed}{c:Obj}{t:bp}{vs:Array ar}{c2:ar}(p:A.frames=U (env::outer))(g:env.frame=U L)(Lv:base.StaysIn h)(hl:h.FunFrames base<|env::outer)(kp:∀b o,h.get? b=U o->s.heap.get? b=U o)(new:h.get? e=Y)
  (he:s.heap.get? e=U c) (hd:c.data=.fields vs) (h0:vs[0]?=U (.ref t)) (f:vs[1]?=U .none) (d:vs[2]?=U c2)
  (v:∀h',jd base outer e c.cls (.ref t) (c.dict,c2) h'->s.heap.UpToSlots h'->Q () {s with heap:=h'}):cv M A (wq env<|.ref e) Q E s:=by
 have fr:base.get? e=Y:=by
  cases q:base.get? e with
  |none=>rfl
  |some u=>have:=Lv e u q;rw[new]at this;cases this
 unfold wq;refine av ?_;unfold ry;simp only[g];refine av<|pz he hd (x:=.none) f ?_;rw[b0<|by decide]
 refine Dk (a0:=.ref t) p (hl.of_keeps λb o q _=>⟨o,kp b o q,J⟩) g he (λb o q=>kp b o<|Lv b o q) fr hd (Array.getElem?_eq_some_iff.mp f).1 h0 d λf i D=>?_;obtain⟨n,m,l,j⟩:=i;refine Dl (L:=L) ⟨⟨n,fr,m,l⟩,D⟩ λd a r=>v d ⟨⟨a.1.1,a.1.2.1,?_,a.1.2.2.2⟩,a.2⟩<|upTo j r;obtain⟨_,_,k⟩:=a.1.2.2.1;exact k
end
section
variable{prog:cW}{w:c4}{h:ed}{g:Array GenState}{d:Drawn}{t:Nat}{os:i4}
variable{nm q:Str}{C N R:bp}{bs bm H sub rest:B2}{hdct ab:Bool}{sn:Bi}{col:Option Bool}{dd:Option bp}{k0 k1 k2 k3 k5:D2}{B newId I:String}{mN:Str->D2}{oI:Obj}
def AJ(F:ExcBaseFacts B newId I H)(T:OwnTail h H bm){Q:Fin->ag->Prop}
  (c:h.get? C=U (kv nm q C N bs bm hdct sn sub ab col dd k0 k1 k2 k3 k5 newId)) (s:h.Ns N mN) (u:mN "__init__" = U (.ref R)) (G:h.get? R=U oI) (D:oI.cls=.type "function")
  (p:∀h' e,ub h h' e (.ref C) rest->h.objs.size<=e->cv (b8 prog w) A (call (.ref R)<|.ref e::rest) (λr s'=>r=.none/\Q (.done<|.ret<|.ref e) s') E ⟨h',g,d,t,os⟩) (n:rest.length<=cq) :
  cv (b8 prog w) A (Builtin.«type.__call__» ⟨.ref C::rest,[]⟩) Q E ⟨h,g,d,t,os⟩:=by
 repeat (first|with_reducible refine hG c ?_|with_reducible refine wpAny_madeBy_exc c ?_|wp_step)
 refine codeAny_call_builtin_code (i5 _ F.quiet)<|wpAny_check_new_subT F T c<|codeAny_exc_new_subT F T c ?_ n;show cv _ _ _ _ _ _;obtain⟨f,i⟩:∃f:Obj,f={cls:=.ref C,data:=.fields #[.ref h.objs.size,.none,.none,.none,.bool Zn,.none]}:=⟨_,J⟩;obtain⟨a,j⟩:∃a,a=(h.push {cls:=.type "tuple",data:=.seq rest.toArray}).push f:=⟨_,J⟩;have kp:∀b o,h.get? b=U o->a.get? b=U o:=λb o z=>by rw[j];exact ax _<|ax _ z
 have k:a.get? (h.objs.size+1)=U f:=by rw[j];exact rD (by simp only[ih]) (by rw[i];rfl)
 have m:a.get? h.objs.size=U {cls:=.type "tuple",data:=.seq rest.toArray}:=by rw[j];exact ax _<|rD J J
 rw[<- i,<- j];have l:a.Ns N mN:=let⟨o,es,ep,z,r⟩:=s;⟨o,es,ep,kp _ _ z,r⟩;have y:(Value.ref C::bm).contains (.ref C)=O:=by simp
 have v:f.cls=.ref C:=by rw[i]
 unfold o4
 repeat (first|(with_reducible refine hG k ?_;rw[v])|(with_reducible refine rX (kp _ _ c) ?_;rw[y])|wp_step)
 show cv _ _ (sT (.ref C) _) _ _ _;refine wpAny_typeLookup_tail (kp _ _ c) l (T.keeps kp) F.mroIs F.init.lookup ?_;rw[u];refine eI<|av ?_;unfold bindSpecial;refine av<|wpAny_typeOf (T := "function") ⟨_,kp _ _ G,D⟩ ?_;rw[b7<|by decide]
 refine cC<|av<|et (p a (h.objs.size+1) ⟨kp,ij<|xO _,h.objs.size,by rw[k,i],ij<|dS _,m⟩<|xO _) (λr s' z=>?_) λ_ _ x=>x
 obtain⟨rfl,z⟩:=z
 wp_walk
 exact z
def qc(F:ExcBaseFacts B newId I H)(T:OwnTail h H bm){Q:ar->ag->Prop}
  (a:h.get? C=U (kv nm q C N bs bm hdct sn sub ab col dd k0 k1 k2 k3 k5 newId)) (f:h.Ns N mN) (i:mN "__init__" = U (.ref R)) (k:h.get? R=U oI) (j:oI.cls=.type "function")
  (c:∀h' e,ub h h' e (.ref C) rest->h.objs.size<=e->cv (b8 prog w) (A.under<|.builtin "type.__call__" ⟨.ref C::rest,[]⟩) (call (.ref R)<|.ref e::rest) (λr s'=>r=.none/\Q (.ref e) s') E ⟨h',g,d,t,os⟩) (b:rest.length<=cq) :
  cv (b8 prog w) A (call (.ref C) rest) Q E ⟨h,g,d,t,os⟩:=by
 have n:=tc_lookup;have m:=tc_bind<|.ref C;have l:(⟨h,g,d,t,os⟩:ag).TypeIs (.ref C) "type" := ⟨_,a,J⟩;refine fv<|vu ?_;show cv _ _ (callAny (.ref C) _) _ _ _
 repeat (any_goals (first|assumption|with_reducible refine hG a ?_|wp_step))
 exact⟨J,codeAny_call_builtin_at (i5 _<|by decide +kernel) entry_typeCall<|wpAny_check_type_call_sub a<|AJ F T a f i k j c b⟩
end
section
variable{env:Env}
variable{nm q:Str}{C N:bp}{bs bm sub:B2}{hdct ab:Bool}{sn:Bi}{col:Option Bool}{dd:Option bp}{k0 k1 k2 k3 k5:D2}{newId:String}
def Nx{x:Sem ar}{Q:Flow->ag->Prop}(j:bm.contains (.type "BaseException")=O)(c:A.handled=Y)
  (h:cv M A x (λv s1=>∃e a t,v=.ref e/\s1.heap.get? C=U (kv nm q C N bs bm hdct sn sub ab col dd k0 k1 k2 k3 k5 newId)/\s1.heap.get? e=U a/\a.cls=.ref C/\a.data=.fields #[.ref t,.none,.none,.none,.bool Zn,.none]/\E (.ref e) s1) E s) :
  cv M A (A1 env (U x) Y) Q E s:=by
 have cB:(Value.ref C::bm).contains (.type "BaseException")=O:=by rw[KN,j,Kz]
 unfold A1;refine av<|et h (λv s1 z=>?_) λ_ _ x=>x;obtain⟨e,a,t,rfl,b,f,i,hd,k⟩:=z;obtain⟨l,g,d,tk,os⟩:=s1
 repeat (first|(with_reducible refine hG f ?_;first|rw[i]|simp only[hd])|with_reducible refine hG b ?_|(with_reducible refine rX b ?_;rw[cB])|simp only[hd]|wp_step)
 exact wpAny_raiseNew_none c k
end
end L2
namespace L2
open PySem PySem.W PyProof.Rows
section
variable{prog:cW}{w:c4}{A:dA}{E:ar->ag->Prop}{s:ag}{env:Env}
def AK{α:Type}{e a:bp}{d f:Obj}{vs c:Array ar}{Q:α->ag->Prop}(j:A.handled=U (.ref a))(ne:a≠e)(he:s.heap.get? e=U d)(hd:d.data=.fields vs)(i:2<vs.size)
  (k:s.heap.get? a=U f) (m:f.data=.fields c) (l:c[2]?=U .none)
  (h:E (.ref e) {s with heap:=s.heap.update e (fc (·.setIfInBounds 2<|.ref a))}):cv (b8 prog w) A (raiseNew<|.ref e:Sem α) Q E s:=by
 unfold raiseNew;refine av<|wpAny_handled ?_;rw[j];have g:(Value.ref a != Value.ref e)=O:=by simp[ne]
 dsimp only;rw[b7 g];refine av<|eI<|runValue_entry (id := "proto.unchain") (b:=Builtin.«proto.unchain») (entryFor_of_fast<|by kernel_rfl) ?_
 unfold Builtin.«proto.unchain»;refine av<|pz k m l ?_;rw[b7<|show(f7 == f7)=O by decide]
 refine av<|cC ?_;refine cC ⟨_,J,?_⟩;exact av<|pk (a:=e) (x:=.ref a) he hd i<|wpAny_throw h
end
section
variable{prog:cW}{w:c4}{A:dA}{E:ar->ag->Prop}{s:ag}{env:Env}
variable{nm q:Str}{C N:bp}{bs bm sub:B2}{hdct ab:Bool}{sn:Bi}{col:Option Bool}{dd:Option bp}{k0 k1 k2 k3 k5:D2}{newId:String}
def HH{x c:Sem ar}{a:bp}{Q:Flow->ag->Prop}(L:bm.contains (.type "BaseException")=O)(I:A.handled=U (.ref a))
  (K:∀s'(G:ar->ag->Prop),G .none s'->cv (b8 prog w) A c G E s')
  (h:cv (b8 prog w) A x (λv s1=>∃e j p t k,v=.ref e/\s1.heap.get? C=U (kv nm q C N bs bm hdct sn sub ab col dd k0 k1 k2 k3 k5 newId)/\s1.heap.get? e=U j/\j.cls=.ref C/\j.data=.fields #[.ref t,.none,.none,.none,.bool Zn,.none]/\C≠e/\a≠e/\s1.heap.get? a=U p/\p.data=.fields k/\k[2]?=U .none /\
   ∀h',h'.get? e=U {j with data:=.fields #[.ref t,.none,.ref a,.none,.bool O,.none]}->(∀b,b≠e->h'.get? b=s1.heap.get? b)->E (.ref e) {s1 with heap:=h'}) E s) :
  cv (b8 prog w) A (A1 env (U x)<|U c) Q E s:=by
 have cB:(Value.ref C::bm).contains (.type "BaseException")=O:=by rw[KN,L,Kz]
 unfold A1;refine av<|et h (λv s1 z=>?_) λ_ _ x=>x;obtain⟨e,j,p,t,k,rfl,F,B,H,hd,T,ne,M,R,P,D⟩:=z;obtain⟨r,g,d,tk,os⟩:=s1;refine av<|eI<|K _ _<|av<|cC ?_;obtain⟨S,od,Ő,y⟩:=j;dsimp only at H hd D;subst H hd;have o:∀(h:ed)(l u:Array ar),h.get? e=U ⟨.ref C,od,.fields l,y⟩->∀i v,l.setIfInBounds i v=u->(h.update e<|fc (·.setIfInBounds i v)).get? e=U ⟨.ref C,od,.fields u,y⟩:=λh l u q i v z=>by
  subst z;exact kx _ q J
 have m:∀(h:ed)(f:Obj->Obj)b,b≠e->(h.update e f).get? b=h.get? b:=λh f b n=>f5 _ _<|ew n;refine av ?_;refine eI ?_;unfold excFromValue
 repeat (first|(with_reducible refine hG B ?_)|with_reducible refine hG F ?_|(with_reducible refine rX F ?_;rw[cB])|wp_step)
 have Ê:=o _ _ _ (o r _ _ B 3 .none J) 4 (.bool O) J;have Ë:∀b,b≠e->((r.update e<|fc (·.setIfInBounds 3 .none)).update e<|fc (·.setIfInBounds 4<|.bool O)).get? b=r.get? b:=λb n=>(m _ _ b n).trans<|m _ _ b n
 refine AK I ne Ê J (show 2<6 by decide) ((Ë a ne).trans M) R P<|D _ (o _ _ _ Ê 2 (.ref a) J) λb n=>(m _ _ b n).trans<|Ë b n
end
end L2
namespace L2
open PySem PySem.W PyProof.Rows Builtin Builtin.ObjectAttr
abbrev Ny:B2:=[.type "ValueError",.type "Exception",.type "BaseException",.type "object"]
def yh:B2->Bool
 |.ref _::.ref _::r=>r == Ny
 |_=>Zn
def tH{l:B2}(h:yh l=O):∃a b,l=.ref a::.ref b::Ny:=by
 unfold yh at h;split at h
 .exact⟨_,_,by rw[beq_iff_eq.mp h]⟩
 .cases h
structure lO(K:v3)(C:bp):Prop where
 ga:qW K (.ref C) "__getattribute__" = U (U<|.builtin "BaseException.__getattribute__")
 gn:qW K (.ref C) "__getattr__" = U Y
 sa:qW K (.ref C) "__setattr__" = U (U<|.builtin "object.__setattr__")
 hd:hasDictIn K C=O
 ov:(clsIn K C).any (λcd=>yh cd.mro)=O
section
variable{prog:cW}{w:c4}{A:dA}{E:ar->ag->Prop}{s:ag}{K:v3}{x C d:bp}{L:Obj}{od:Option Obj}{name:Str}{v:ar}{N:Str->D2}{R:Array ar}
def Sk{tk:Tok}{R:GK->ag->Prop}(X:K.In s.heap)(I:InstAt s.heap x L C od)(Z:lO K C)(d:qW K (.ref C) name=U Y)
  (h:cv (b8 prog w) A.in1 (storeInOwnDict (.ref x) (.ref C) (.str name tk) name v Zn)
   (λfin s'=>match fin with|.done f=>R (.ok f) s'|.again c=>c.quiet=O/\hQ (b8 prog w) A c R s') (λe s'=>R (.error e) s') s) :
  hQ (b8 prog w) A (.call (.builtin "object.__setattr__") ⟨[.ref x,.str name tk,v],[]⟩) R s:=by
 have SF:=PySem.F.store_object;obtain⟨j,a,g⟩:=yB Z.ov;obtain⟨p,q,b⟩:=tH g;have sub:sr (b8 prog w) s.heap (o4 (.ref x)<|.type "object") O:=I.type.andThen<|qx X<|by unfold mroIn;rw[a,Kv,b];rfl
 refine eJ SF.slot.plain SF.entry<|@check_slot (b8 prog w) _ _ s "object.__setattr__" "object" "__setattr__" (.ref x) [.str name tk,v] [] _ SF.kind SF.split sub (SF.args (.ref x) (.str name tk) v) ?_;have i:sr (b8 prog w) s.heap (mroOf<|.ref C) j.mro:=(looks_clsIn X a).andThen .now;have L3:sr (b8 prog w) s.heap (storeTaker? Y) Y:=.now;rw[osa_eq,refuse_eq];refine av<|av<|I.type.here<|av<|i.here ?_;rw[b,refuseLoop_ref,refuseLoop_ref,PySem.F.store_ValueError.passes];exact cC<|av<|I.type.here<|av<|(kz X d).here<|av<|L3.here h
def Sl{Q:Unit->ag->Prop}(X:K.In s.heap)(Z:lO K C)(n:qW K (.ref C) name=U Y)(d:s.heap.get? x=U L)(f:L.cls=.ref C)(j:L.data=.fields R)(l:L.dict=Y)
  (h:∀h' t',h'.get? x=U {L with dict:=U s.heap.objs.size}->h'.Ns1 s.heap.objs.size (λy=>if y=name then U v else Y)->(∀b o,b≠x->s.heap.get? b=U o->h'.get? b=U o)->Q () {s with heap:=h',toks:=t'}) :
  cv (b8 prog w) A (setAttr (.ref x) name v) Q E s:=by
 obtain⟨G,ő,Œ,i⟩:=L;dsimp only at f j l;subst f j l;have I:InstAt s.heap x ⟨.ref C,Y,.fields R,i⟩ C Y:=⟨d,J,J,trivial⟩;refine set_plain X I Z.sa<|Sk (s:={s with toks:=s.toks+1}) X I Z n ?_
 obtain⟨H,f,D⟩:=yB Z.hd;obtain⟨c,g,r,t,os⟩:=s;dsimp only at d h ⊢;refine av<|cC<|av<|av<|x8 d<|av<|Kg.here (s:=⟨c,g,r,t+1,os⟩) (looks_clsIn X f) ?_;rw[D];have a:(c.push {cls:=.type "dict",data:=.dict #[]}).get? x=U ⟨.ref C,Y,.fields R,i⟩:=ax _ d;have Ì:x≠c.objs.size:=dO<|b9 d;refine av<|wpAny_alloc' ?_;refine av<|wpAny_update' a ?_;refine cC ?_;have œ:((c.push {cls:=.type "dict",data:=.dict #[]}).update x λo=>{cls:=o.cls,dict:=U c.objs.size,data:=o.data,slots:=o.slots}).get? c.objs.size=U {cls:=.type "dict",data:=.dict #[]}:=
  (zl _ _ _ _ Ì.symm).trans<|rD J J
 have z:((c.push {cls:=.type "dict",data:=.dict #[]}).update x λo=>{cls:=o.cls,dict:=U c.objs.size,data:=o.data,slots:=o.slots}).Ns c.objs.size λ_=>Y:=
  ⟨_,#[],_,œ,J,λe p=>dk p<|by simp,λ_=>J⟩
 show cv _ _ (storeInDict c.objs.size (.str name t) name v) _ _ _;unfold storeInDict newKeyGuard;refine av<|cC<|av<|wpAny_nsSet1 (yL z) λh' m k=>?_;obtain⟨oD,Ģ,ģ,B,u,F⟩:=m.count<|Within.cons name v Within.nil;refine av<|wpAny_lookBehind B (by rw[u];exact pastItsLine_dict<|eT F<|by rw[eS,B7,ez];exact xQ ..) ?_
 refine cC<|h h' _ ((k.2 x Ì).trans<|kx _ a J) m λb o q e=>(k.2 b<|dO<|b9 e).trans<|(zl _ _ _ _ q).trans<|ax _ e
def vZ{M:vk}{Q:Unit->ag->Prop}{a:ar}(Z:lO K C)(X:K.In s.heap)(he:s.heap.get? x=U L)(i:L.cls=.ref C)(c:Q () s) :
  cv M A (ll "BaseException.__getattribute__" ⟨[.ref x,a],[]⟩) Q E s:=by
 obtain⟨h,g,d,t,os⟩:=s;obtain⟨m,j,e⟩:=yB Z.ov;obtain⟨p,q,k⟩:=tH e;have L0:sr M h (sx<|.ref x)<|.ref C:=i▸(oC he).andThen .now;have L4:=qx (M:=M) (base:=.type "BaseException") (r:=O) X (by unfold mroIn;rw[j,Kv,k];rfl)
 have f:builtinKind "BaseException.__getattribute__" = U .slot:=by decide +kernel
 have b:splitId "BaseException.__getattribute__" = U ("BaseException","__getattribute__"):=by decide +kernel
 have l:=F.args_bexc_ga (.ref x) a;simp only[ll,f,b];refine av ?_;unfold o4;refine av<|L0.at<|L4.at ?_
 repeat (first|wp_step)
 exact c
def Xp{a:Bool}{Q:ar->ag->Prop}(X:K.In s.heap)(Z:lO K C)(l:qW K (.ref C) name=U Y)(b:s.heap.get? x=U L)(f:L.cls=.ref C)(c:L.data=.fields R)(e:L.dict=U d)(i:s.heap.Ns1 d N)(k:N name=U v)(n:handedIn v=O)
  (h:Q v {s with toks:=s.toks+1}):cv (b8 prog w) A (F2 (.ref x) name a) Q E s:=by
 obtain⟨u,ő,Œ,j⟩:=L;dsimp only at f c e;subst f c e;obtain⟨od,m,hl⟩:=pQ i;have D:InstAt s.heap x ⟨.ref C,U d,.fields R,j⟩ C<|U od:=⟨b,J,J,m⟩;obtain⟨y,g,z,t,os⟩:=s;have L0:=D.type (M:=b8 prog w);have L1:=kz (M:=b8 prog w) X Z.ga;have L2:=kz (M:=b8 prog w) X Z.gn;have B:=looks_find (M:=b8 prog w) (name:=name) (r:=.value v) X D<|findObj_own Z.hd l J<|by rw[hl,k]
 have o:=F.excAttr_ValueError.ga.bind<|.ref x;have Ŕ:(a&&onTheHeap (gV "BaseException.__getattribute__"))=Zn:=by cases a<;>rfl
 have q:(gV "BaseException.__getattribute__" == gV "object.__getattribute__")=Zn:=by decide +kernel
 have p:(onTheHeap (Value.ref C)&&gV "BaseException.__getattribute__" == gV "object.__getattribute__")=Zn:=by rw[q];rfl
 unfold F2 getAttrBy;refine av<|wpAny_mkText<|eI<|av<|L0.at<|av<|L1.at ?_;dsimp only;rw[p,b0<|by decide]
 unfold getAttrByItsOwn;refine av ?_;show cv _ _ (sT (.ref C) "__getattr__") _ _ _;refine L2.at ?_;refine av<|y8<|eI ?_;unfold callGetattribute;rw[Ŕ];show cv _ _ (q0 _ _ _) _ _ _;unfold q0;rw[o];refine av<|cC ?_;refine fv<|eJ F.excAttr_ValueError.ga.plain F.entry_bexc_ga ?_;refine vZ Z X b J ?_;unfold «object.__getattribute__»
 repeat lk
 show cv _ _ (handedOut v) _ _ _;rw[handedOut_of n];exact cC h
end
end L2
namespace L2
open PySem PyProof.Rows
def EX(a:bp)(b:Obj):HO:=.ext λh=>h.get? a=U b
def XD(d:bp)(fs:List<|Str×V):HO:=.ext λh=>∃a,h.Ns1 d a/\n7 a (fs.map (·.1))/\∀f,iy (fs.lookup f)<|a f
section
variable{P:cW}{w:c4}{H:Hp}{h:ed}{a d:bp}{j:Obj}{fs:List<|Str×V}
def EX.mk(e:h.get? a=U j):bK P w H h a<|EX a j:=⟨e,⟨_,e⟩,λ_ _ p k=>k _ p⟩
def EX.at_(x:bK P w H h a<|EX a j):h.get? a=U j:=x.1
def XD.mk{a:Str->D2}(n:h.Ns1 d a)(b:n7 a<|fs.map (·.1))(r:∀f,iy (fs.lookup f)<|a f):bK P w H h d<|XD d fs:=
 ⟨⟨a,n,b,r⟩,(let⟨o,_,_,e,_⟩:=n;⟨o,e⟩),by rintro _ _ ⟨a,n,b,r⟩ k;exact⟨a,n.at k,b,r⟩⟩
end
section
variable{X:Cx}{F:dE}{R:St}{H:Hp}{s:ag}{a d C:bp}{B:Obj}{G:Array ar}{A:dA}{E:ar->ag->Prop}{f g:Str}{u y:V}{D:ar}
def Xk{u:V}(x:Str):ir x [(f,u)]=if x=f then U u else Y:=by
 by_cases h:x=f
 .have a:(x == f)=O:=beq_iff_eq.mpr h
  simp only[ir,a,b7 h]
 .have a:(x == f)=Zn:=beq_eq_false_iff_ne.mpr h
  simp only[ir,a,b0 h]
def HJ{Q:Unit->ag->Prop}(I:Inv X F R H s)(Z:lO X.K C)(nf:cz X.K C f)(i:H a=U (EX a B))(p:B.cls=.ref C)(l:B.data=.fields G)(n:B.dict=Y)(k:RelV u D)
  (h:∀d s',H d=Y->d≠a->Inv X F R (upd (upd H d<|XD d [(f,u)]) a<|EX a {B with dict:=U d}) s'->Q () s'):cv (b8 X.prog X.w) A (setAttr (.ref a) f D) Q E s:=by
 have c:=EX.at_<|I.bj a _ i;refine Sl I.gQ Z nf c p l n λh' t' j ns keep=>h s.heap.objs.size _ (I.bj.fresh<|dS _) (As<|b9 c) ?_;obtain⟨oD,y,z,g,r⟩:=id ns;have m:(s.heap.push oD).get? s.heap.objs.size=U oD:=de _ (Heap.get?_some_iff.mp g).2;have v:=I.laid (a:=s.heap.objs.size) (o:=XD s.heap.objs.size [(f,u)]) (h':=s.heap.push oD) (t':=s.toks) (λb u q=>ax _ q) (dS _)
 <|XD.mk (ns.at λo q=>by rw[g]at q;cases q;exact m) (λx c=>?_) λx=>?_
 .refine v.write (x:=a) (e:=a) (t':=t') (by rw[af<|dO<|b9 c,i];exact gb) (.inl J) (λb o t q=>?_) ⟨_,j⟩<|EX.mk j
  rcases Heap.get?_push_cases q with⟨rfl,rfl⟩|q
  .exact g
  .exact keep b o t q
 .by_cases q:x=f
  .rw[q];simp
  .exact dk (b0 q) c
 .rw[Xk]
  by_cases q:x=f
  .rw[b7 q,b7 q];exact k
  .rw[b0 q,b0 q];trivial
end
def By(C:bp)(f:Str):Sp:=λe H Q _=>∃a u b c,e=[.ref a,u]/\H a=U (EX a b)/\b.cls=.ref C/\b.data=.fields c/\b.dict=Y/\∀d,H d=Y->d≠a->Q .non (upd (upd H d<|XD d [(f,u)]) a<|EX a {b with dict:=U d})
section
variable{X:Cx}{C:bp}{sn p f:Str}{a1 a2 a3 a4:Pos}
def Dq(Z:lO X.K C)(nf:cz X.K C f)(i:X.N=[sn,p])(n:lR X.env.scope sn)(m:lR X.env.scope p)
  (d1:aV sn/\fW sn) (d2:aV p/\fW p) :
  gz X [.Assign [.Attribute (.Name sn a1) f a2] (.Name p a3) a4] λD b H=>∃vs,b=vs.map U/\By C f vs H (λ_ H'=>D.nx b H') λ_ _ _=>False:=by
 intro j s b H D I h;obtain⟨vs,e,a,u,V,R,rfl,B,A,w,z,k⟩:=h;subst e;have G:X.N[0]?=U sn:=by rw[i];rfl
 have F:X.N[1]?=U p:=by rw[i];rfl
 refine kS<|tK (cK (bZ F m d2.1 d2.2 j s _ H (λy H1=>y=u/\H1=H) I ⟨u,J,J,J⟩) λS o c=>?_) J;obtain⟨y,H1,Q,r,E,g⟩:=c;subst E g;refine cK (bZ G n d1.1 d1.2 j o _ _ (λx l=>x=.ref a/\l=H1) Q ⟨.ref a,J,J,J⟩) λL s2 c=>?_;obtain⟨x,l,P,q,ex,g⟩:=c;subst ex g
 obtain rfl:L=Value.ref a:=q
 exact HJ P Z nf B A w z r λd T v t M=>hX ⟨_,_,M,k d v t⟩
end
end L2
namespace L2
open PySem PySem.W PyProof.Rows
structure Lies(P:cW)(w:c4)(stack:List Env)(H:Hp)(s:ag)(H':Hp)(B h:ed):Prop where
 un:Un (jF stack) [] H H' s.heap h
 bj:ja P w H' h
 GR:∀c u,H' c=U u->∃o,B.get? c=U o
 old:∀b o,s.heap.get? b=U o->b∉jF stack->∃o',B.get? b=U o'
variable{C:bp}{X:Cx}{B:ed}{H H':Hp}{ps:Bi}{s:ag}{E:XK}
section
variable{P:cW}{w:c4}{stack outer:List Env}{h h':ed}
def Lies.on(L:Lies P w stack H s H' B h)(st:B.StaysIn h)(t:B.StaysIn h')(v:h.UpToSlots h')(x:h.FunFrames B stack):Lies P w stack H s H' B h':=by
 have g:∀b o,b∈jF stack->h.get? b=U o->∃sl,h'.get? b=U {o with slots:=sl}:=λb o i e=>by
  obtain⟨_,j,r,d⟩:=x.mem i;rw[e]at r;cases r;exact v b o e d
 have f:∀b o,(∃j,B.get? b=U j)->h.get? b=U o->h'.get? b=U o:=λb o ⟨j,q⟩ e=>by
  have:=st b j q
  rw[e]at this;cases this;exact t b _ q
 refine⟨⟨λb o e n i k=>f b o (L.old b o e i)<|L.un.keep b o e n i k,λb o e n i k=>?_,L.un.free,λb o e k=>?_,L.un.lH,L.un.kr,L.un.lI⟩,λa o e=>?_,L.GR,L.old⟩
 .obtain⟨sl,l⟩:=L.un.slot b o e n i k
  obtain⟨y,p⟩:=g b _ i l;exact⟨y,p⟩
 .obtain⟨j,l⟩:=L.un.there b o e k
  by_cases i:b∈jF stack
  .obtain⟨sl,p⟩:=g b _ i l
   exact⟨_,p⟩
  .exact⟨j,f b j (L.old b o e i) l⟩
 .refine(L.bj a o e).mR (λc u m q=>f c u ?_ q) (λ_ q=>q) λ_ _ q=>q
  rcases m with rfl|m
  .exact L.GR _ _ e
  .exact L.GR _ _ m
end
def qe(P:cW)(w:c4):Bw:=λstack H s E e b=>∃a t C d c2 H' B,e=.ref a/\b.os=s.os/\kl b.gens/\Lies P w stack H s H' B b.heap/\jd B stack a (.ref C) (.ref t) (d,c2) b.heap/\(d=Y->c2=.none)/\E (.ref C) d H'
def lh{P:cW}{w:c4}{H:Hp}{h:ed}{a:bp}{o:HO}(x:bK P w H h a o):∃ob,h.get? a=U ob:=by
 induction o with
 |lst xs=>obtain⟨_,_,_,_,e⟩:=x;exact⟨_,e⟩
 |tup xs=>obtain⟨_,_,_,ob,e,_⟩:=x;exact⟨ob,e⟩
 |dK b=>obtain⟨_,_,_,_,ob,_,_,e,_⟩:=x;exact⟨ob,e⟩
 |dT b=>obtain⟨_,_,_,_,ob,_,_,e,_⟩:=x;exact⟨ob,e⟩
 |set S n=>obtain⟨ob,_,_,_,e,_⟩:=x;exact⟨ob,e⟩
 |ins C g fs=>obtain⟨_,_,_,e,_⟩:=x;exact⟨_,e⟩
 |own y=>exact x
 |xd fs=>obtain⟨_,⟨ob,_,_,e,_⟩,_⟩:=x;exact⟨ob,e⟩
 |sQ lo d=>obtain⟨_,_,_,e⟩:=x;exact⟨_,e⟩
 |jE o u _=>exact⟨o,x.1⟩
 |tbl ps=>exact⟨_,x⟩
 |met f y=>exact⟨_,x⟩
 |ext c=>exact x.2.1
structure v5(X:Cx)(E:XK):Prop where
 lv:∀e s',cv (b8 X.prog X.w) X.A (wq X.env e) (λ_ Hq=>qe X.prog X.w X.outer X.H₀ X.s₀ E e Hq) (λe' Hq=>qe X.prog X.w X.outer X.H₀ X.s₀ E e' Hq) s'->X.xe e s'
 st:X.stack=X.env::X.outer
 ex:X.ex=[]
 fr:X.env.frame=U X.env.locals
 cm:X.calm=O
section
variable{Q:dE}{R:L2.St}{h:ed}
def yi(Z:v5 X E)(I:Inv X Q R H s)(old:∀b o,s.heap.get? b=U o->b∉jF X.stack->∃a,B.get? b=U a) :
  ∀b o,X.s₀.heap.get? b=U o->b∉jF X.outer->∃a,B.get? b=U a:=λb o e c=>by
 obtain⟨a,d⟩:=I.base.there b o e (by rw[Z.ex];simp)
 refine old b a d λz=>?_;rcases bu.mp (I.jc b z)with q|q
 .exact dk q<|dO<|ee (b9 e) I.ok.above
 .exact c q
def Sn(Z:v5 X E):Passes (qe X.prog X.w) X E:=by
 rintro Q R H s e f I ⟨a,t,C,d,c2,H',B,rfl,j,g,L,F,k,q⟩
 apply Z.lv;have c:Inv X Q R H' f:=I.Cy j L.un L.bj g λb z=>dk z<|by simp
 rw[Z.st]at F;refine Nu (L:=X.env.locals) (by rw[I.ok.frames,Z.st]) Z.fr F λl h i=>?_
 refine⟨a,t,C,d,c2,H',B,J,c.os,g,?_,h,k,q⟩;have L2:Lies X.prog X.w X.outer X.H₀ X.s₀ H' B f.heap:=⟨by have:=c.base;rw[Z.ex]at this;exact this,c.bj,L.GR,yi Z I L.old⟩
 exact L2.on F.1.1 h.1.1 i F.1.2.2.1.2.2
def lP(H:Hp)(e:bp):Hp:=λb=>if b=e then Y else H b
def Dt(Z:v5 X E)(I:Inv X Q R H s){e t:bp}{c2:ar}{vs:Array ar}{d:Obj}(p:H e=U (EX e d))(G:d.cls=.ref C)(hd:d.data=.fields vs)(z0:vs[0]?=U (.ref t))(x:vs[1]?=U .none)(v:vs[2]?=U c2)(F:d.dict=Y->c2=.none)(h0:X.s₀.heap.get? e=Y)
  (q:E (.ref C) d.dict<|lP H e):X.xe (.ref e) s:=by
 apply Z.lv;have i:=EX.at_<|I.bj e _ p;have k:s.heap.FunFrames (me s.heap<|e::jF X.stack) X.stack:=funFrames_hide I.stack λenv i b j=>eE _<|B0.mpr ⟨env,i,j⟩;have K:(me s.heap<|e::jF X.stack).StaysIn s.heap:=λb o q=>yd _ q;have Í:(me s.heap [e]).FunFrames (me s.heap<|e::jF X.stack) X.stack:=k.of_keeps λb o q n=>⟨o,n8 _ q λz=>by
  have z:b=e:=by simpa using z
  rw[z,i]at q;cases q;exact n _ hd,J⟩
 rw[Z.st]at Í;refine Dm (L:=X.env.locals) (base:=me s.heap<|e::jF X.stack) (h:=me s.heap [e]) (by rw[I.ok.frames,Z.st]) Z.fr (λb o q=>?_) (by rw[Z.st];exact Í) (λb o q=>yd _ q) (hideAll_none _<|by simp) i hd z0 x v λM m A=>?_
 .refine n8 _ (yd _ q) λz=>?_
  have z:b=e:=by simpa using z
  rw[z,hideAll_none _<|eu]at q;cases q
 rw[G]at m;refine⟨e,t,C,d.dict,c2,lP H e,_,J,I.os,I.bare,?_,m,F,q⟩;have off:∀{b u},H b=U u->(∀r,u≠.ext r)->lP H e b=U u:=λ{b u} z n=>by
  unfold lP;rw[b0 λy=>by rw[y,p]at z;exact n _ (mO.inj z).symm]
  exact z
 have g:∀{b u},lP H e b=U u->b≠e/\H b=U u:=λ{b u} z=>by
  unfold lP at z;split at z
  .cases z
  .rename_i n;exact⟨n,z⟩
 have a:=I.base;rw[Z.ex]at a;have L2:Lies X.prog X.w X.outer X.H₀ X.s₀ (lP H e) (me s.heap<|e::jF X.stack) s.heap:=by
  refine⟨⟨a.keep,a.slot,λb o z n D=>?_,a.there,λb xs z=>off (a.lH b xs z) (λ_ y=>nomatch y),λb o u z=>off (a.kr b o u z) (λ_ y=>nomatch y),λb ps z=>?_⟩,λb u z=>?_,λc u z=>?_,λb o z j=>?_⟩
  .unfold lP
   split
   .rfl
   .exact a.free b o z n D
  .obtain⟨f,z⟩:=a.lI b ps z
   exact⟨f,off z λ_ y=>nomatch y⟩
  .obtain⟨n,z⟩:=g z
   exact(I.bj b u z).mR (λ_ _ _ q=>q) (λc q=>off q λ_ y=>nomatch y) λc xs q=>off q λ_ y=>nomatch y
  .obtain⟨n,z⟩:=g z
   obtain⟨ob,l⟩:=lh<|I.bj c u z;refine⟨ob,n8 _ l λy=>?_⟩;rcases bu.mp y with y|y
   .exact n y
   .rw[I.lS c y]at z;cases z
  .obtain⟨B,l⟩:=a.there b o z (by simp)
   refine⟨B,n8 _ l λy=>?_⟩;rcases bu.mp y with y|y
   .rw[y,h0]at z;cases z
   .rcases bu.mp (I.jc b y)with q|q
    .exact dk q<|dO<|ee (b9 z) I.ok.above
    .exact j q
 rw[Z.st]at k;exact L2.on K m.1.1 A (by rw[Z.st];exact k.2.2)
end
def Lz:Data->Option ClassData
 |.cls c=>U c
 |_=>Y
def AL{d:Data}{c:ClassData}(h:Lz d=U c):d=.cls c:=by
 cases d<;>cases h;rfl
def Du(K:v3)(C b:bp):Bool:=(K.lookup C).any λo=>(Lz o.data).any λa=>o.cls == .type "type" && a.mro == .ref C::a.mro.tail&&o.slots == #[o.slots.getD 0 Y,o.slots.getD 1 Y,o.slots.getD 2 Y,o.slots.getD 3 Y,U (.builtin "ValueError.__new__"),o.slots.getD 5 Y]&&a.hasDel == Zn&&tailIn K Ny a.mro.tail&&nsOkIn K a.ns&&nsIn K a.ns "__init__" == U (U<|.ref b)
def v8{K:v3}{h:ed}{N:bp}{mg:Str->D2}{n:Str}{v:ar}(X:K.In h)(G:h.Ns N mg)(e:nsIn K N n=U (U v)):mg n=U v:=by
 obtain⟨o,g,i,a,hd,_,c⟩:=G;unfold nsIn at e;split at e
 .rename_i c1 d1 k f ŕ b
  have:=X _ _ b
  rw[a]at this;cases this;cases hd;split at e
  .rename_i j d
   cases e
   have:=c n
   unfold nsFind findBy at this;rw[<- z5,d]at this;exact this.symm
  .split at e<;>cases e
 .cases e
def tL{K:v3}{h:ed}{C b:bp}(X:K.In h)(q:Du K C b=O) :
  ∃bm N nm g bs hd sn sub ab col dd k0 k1 k2 k3 k5,h.get? C=U (kv nm g C N bs bm hd sn sub ab col dd k0 k1 k2 k3 k5 "ValueError.__new__")/\h.Ns N (h.nsMap N)/\h.nsMap N "__init__" = U (.ref b)/\OwnTail h Ny bm:=by
 obtain⟨o,lo,q⟩:=yB q;obtain⟨a,j,q⟩:=yB q;simp only[bT,F6]at q;obtain⟨⟨⟨⟨⟨⟨ct,i⟩,f⟩,d⟩,k⟩,c⟩,l⟩:=q;have e:o=kv a.name a.qualname C a.ns a.bases a.mro.tail a.hasDict a.slotNames a.subclasses a.abstract a.collection o.dict (o.slots.getD 0 Y) (o.slots.getD 1 Y) (o.slots.getD 2 Y) (o.slots.getD 3 Y) (o.slots.getD 5 Y) "ValueError.__new__" := by
  unfold kv;rw[<- ct,<- i,<- f,<- d,<- AL j]
 exact⟨_,_,_,_,_,_,_,_,_,_,_,_,_,_,_,_,(X _ _ lo).trans<|eD U e,.of_isNs<|isNs_of_in X c,v8 X (.of_isNs<|isNs_of_in X c) l,tail_of_in X k⟩
section
variable{fI:bp}{x f:Str}{e:pd}{es:List pd}{t:TA}{np bw pos:Pos}{fd:dy}
def yk{H1 H':Hp}{e d:bp}{f a c:HO}(fr:H1 e=Y)(g:d≠e)(h:H'=upd (upd (upd H1 e f) d a) e c):lP H' e=upd H1 d a:=by
 rw[h]
 funext b
 unfold lP upd;by_cases h1:b=e
 .subst h1;rw[b7 J,b0<|ew g];exact fr.symm
 .rw[b0 h1,b0 h1]
  by_cases h2:b=d
  .rw[b7 h2,b7 h2]
  .rw[b0 h2,b0 h2,b0 h1]
def AM(Z:v5 X E)(q:Du X.K C fI=O)(kp:keepIn X.K (.ref C)=O)(p:isFn X.K (.ref fI)=O)(F:bV X.prog X.w X.K X.mg X.base ig 1 fI fd ps<|By C f)(hb:Binds X.K fd ps [])(hr:bo 2 X.A)(hm:X.mg x=U (.ref C))(ha:PA X (e::es) t)(hg:Gl X x)(fX:aV x)
  (he:cw (e::es) X.env=(Zn,e6 e X.env)::cw es X.env) (hpl:(hB bw<|cw es X.env).any (·.1)=Zn) :
  PS X (.Raise (U<|.Call (.Name x np) (e::es) [] bw) Y pos) λ_ l H=>t l H λvs H1=>∃u,vs=[u]/\∀d,H1 d=Y->E (.ref C) (U d) (upd H1 d<|XD d [(f,u)]):=by
 intro W s l H D I h;obtain⟨bm,N,nm,qn,bs,hd,sn,sub,ab,col,dd,k0,k1,k2,k3,k5,P,hN,So,T⟩:=tL I.mod.kin q;have FB:=lp;have hf:∃oI,X.base.get? fI=U oI/\oI.cls=.type "function" := by
  have p:=beq_iff_eq.mp p;obtain⟨o,ho,e⟩:=cL.mp<|show(X.K.lookup fI).map (·.cls)=U (.type "function")from p
  exact⟨o,I.mod.kin _ _ ho,e⟩
 obtain⟨oI,Xw,Xx⟩:=hf;rw[arm_exec_Raise];refine av<|hZ<|Nx (C:=C) (nm:=nm) (q:=qn) (N:=N) (bs:=bs) (bm:=bm) (hdct:=hd) (sn:=sn) (sub:=sub) (ab:=ab) (col:=col) (dd:=dd) (k0:=k0) (k1:=k1) (k2:=k2) (k3:=k3) (k5:=k5) (newId := "ValueError.__new__")
  (T.hasType FB.hasBase) (I.ok.hd Z.cm)<|av<|et (ek<|eO I hg hm ?_ fX) (λv L k=>av<|hZ<|cC k) λ_ _ x=>x
 refine callWith_K (h₀:=X.base) I.ok.mod.kin kp (cK (ha bw W s l H _ I h) λb s1 zz=>?_) he hpl;obtain⟨vs,H1,i,r,u,ev,q1⟩:=zz;refine⟨i.gQ,?_⟩;subst ev;obtain⟨hp,gn,S,tk,os⟩:=s1;refine qc (rest:=b) FB (T.keeps i.bk) (i.bk _ _ P) (hN.keeps i.bk) So (i.bk _ _ Xw) Xx (λh' e Nz y=>?_) (by rw[<- r.length];show 1<=cq;decide)
 obtain⟨ta,NB,_,_⟩:=Nz.there;obtain⟨c,g⟩:∃c:Obj,c={cls:=.ref C,data:=.fields #[.ref ta,.none,.none,.none,.bool Zn,.none]}:=⟨_,J⟩;rw[<- g]at NB;have B:Inv X W l (upd H1 e<|EX e c) ⟨h',gn,S,tk,os⟩:=i.laid (a:=e) (h':=h') (t':=tk) Nz.keeps y<|EX.mk NB;have M:Vals (V.ref e::[u])<|Value.ref e::b:=.cons J r;have sp:By C f (V.ref e::[u]) (upd H1 e<|EX e c) (λw H'=>w=.non/\∃d,H1 d=Y/\d≠e/\H'=upd (upd (upd H1 e<|EX e c) d<|XD d [(f,u)]) e (EX e {c with dict:=U d})) λ_ _ _=>False:=
  ⟨e,u,c,_,J,ao,by rw[g],by rw[g],by rw[g],λd n m=>⟨J,d,by rw[af m]at n;exact n,m,J⟩⟩
 have hl:(Value.ref e::b).length=ps.length:=by rw[<- M.length];exact F.len _ _ _ _ sp
 have G:=hb ⟨h',gn,S,tk,os⟩ (Value.ref e::b) B.gQ (by rw[bz];exact hl)
 rw[bz]at G;refine fv<|fA (F.run _ X.stack _ _ ⟨Value.ref e::b,[]⟩ (Value.ref e::b) _ _ _ (hr.make C b []) (B.CY.make C b []) G M sp) λr s' j=>?_;cases r with
 |error e=>exact j.elim
 |ok fl=>
  cases fl with
  |next=>exact j.elim
  |brk=>exact j.elim
  |cont=>exact j.elim
  |ret u'=>
   obtain⟨v',H',I3,rv,ev,d,n,m,R⟩:=B.after j;subst ev;have Q:H' e=U (EX e {c with dict:=U d}):=by rw[R];exact ao
   refine⟨rv,e,_,ta,J,I3.bk _ _ P,EX.at_<|I3.bj e _ Q,by rw[g],by rw[g],Dt (t:=ta) Z I3 Q (by rw[g]) (by rw[g]) J J J (λz=>nomatch z) (ij<|eT i.sz y) ?_⟩
   rw[yk (i.bj.fresh y) m R];exact q1 d n
def HK{K:v3}{h:ed}{C:bp}{g:B2}{newId:String}(X:K.In h)(q:excIn K C g newId=O) :
  ∃bm N nm a bs hd sn sub ab col dd k0 k1 k2 k3 k5,h.get? C=U (kv nm a C N bs bm hd sn sub ab col dd k0 k1 k2 k3 k5 newId)/\h.Ns N (h.nsMap N)/\h.nsMap N "__init__" = Y/\OwnTail h g bm:=by
 unfold excIn at q;split at q
 .rename_i Ŗ r ŗ lo
  split at q
  .rename_i t kB m l k j n i e d
   simp only[bT,F6,BW]at q;obtain⟨⟨⟨⟨⟨rfl,rfl⟩,c⟩,s⟩,b⟩,f⟩:=q;obtain⟨nm,bs,o,ns,a,Ř,sn,sub,ab,col,p⟩:=r;dsimp only at e c b f;subst e c;obtain⟨ŕ⟩:=ŗ;simp only at d;subst d;refine⟨kB,ns,nm,a,bs,Ř,sn,sub,ab,col,Ŗ,m,l,k,j,i,X _ _ lo,?_,?_,tail_of_in X s⟩
   .exact .of_isNs<|isNs_of_in X b
   .exact nsMap_none_of_in X b f
  .cases q
 .cases q
def NC(Z:v5 X E){p:dE}{k:L2.St}{H:Hp}{s:ag}(I:Inv X p k H s){e:bp}{a:B2}{h':ed}(d:ub s.heap h' e (.ref C) a)(q:E (.ref C) Y H):X.xe (.ref e) {s with heap:=h'}:=by
 apply Z.lv;have g:s.heap.FunFrames (me s.heap<|jF X.stack) X.stack:=funFrames_hide I.stack λenv m b f=>B0.mpr ⟨env,m,f⟩;rw[Z.st]at g;have i:(me s.heap<|jF X.stack).StaysIn s.heap:=λb o q=>yd _ q;obtain⟨t,r,_,_⟩:=d.there;refine Dm (L:=X.env.locals) (base:=me s.heap<|jF X.stack) (h:=s.heap) (by rw[I.ok.frames,Z.st]) Z.fr i (by rw[Z.st];exact g) d.keeps d.new r J J J J λv j l=>?_
 refine⟨e,t,C,Y,.none,H,me s.heap<|jF X.stack,J,I.os,I.bare,?_,j,λ_=>J,q⟩;have L2:Lies X.prog X.w X.outer X.H₀ X.s₀ H (me s.heap<|jF X.stack) s.heap:=⟨by have:=I.base;rw[Z.ex]at this;exact this,I.bj,λc u e=>?_,yi Z I λb o e f=>⟨o,n8 _ e f⟩⟩
 .exact L2.on i j.1.1 ((Heap.UpToSlots.of_keeps d.keeps).trans l) (by rw[Z.st];exact g.2.2)
 .obtain⟨ob,n⟩:=lh<|I.bj c u e
  refine⟨ob,n8 _ n λz=>?_⟩;rw[I.lS c z]at e;cases e
def Dv{ta:TE}(Z:v5 X E)(q:excIn X.K C Ny "ValueError.__new__" = O)(k:X.mg x=U (.ref C))(m:PE X e ta)(l:Gl X x)(p:aV x)
  (he:cw [e] X.env=(Zn,e6 e X.env)::cw [] X.env):PS X (.Raise (U<|.Call (.Name x np) [e] [] bw) Y pos) λ_ b H=>ta b H λv H1=>[v].length=1/\E (.ref C) Y H1:=by
 intro t s b H D I h;obtain⟨bm,N,nm,j,bs,hd,sn,sub,ab,col,dd,k0,k1,k2,k3,k5,o,n,u,T⟩:=HK I.mod.kin q;have f:=lp;refine wpAny_Raise_call_subT (C:=C) (nm:=nm) (q:=j) (N:=N) (bs:=bs) (bm:=bm) (hdct:=hd) (sn:=sn) (sub:=sub) (ab:=ab) (col:=col) (dd:=dd) (k0:=k0) (k1:=k1) (k2:=k2) (k3:=k3) (k5:=k5) (newId := "ValueError.__new__")
  f (mN:=X.base.nsMap N) (T.hasType f.hasBase) (I.ok.hd Z.cm) (by rw[he];rfl) u<|eO I l k ⟨J,?_⟩ p
 have d:=bf m (dc (X:=X)) he bw t s b H (λc H1=>c.length=1/\E (.ref C) Y H1) I ?_
 .rw[he]at d ⊢
  refine y0<|et d (λi s2 g=>?_) λ_ _ y=>y;obtain⟨c,H1,a,r,l1,q1⟩:=g;refine⟨J,?_,a.bk _ _ o,n.keeps a.bk,T.keeps a.bk,λz e w=>?_⟩
  .show i.length<=cq
   rw[<- r.length,l1];decide
  .exact NC Z a w q1
 .exact h
end
abbrev vz(X:Cx)(a:bp)(E:ar->ag->Prop):Cx:={X with A:=X.A.mark (U<|.ref a),calm:=Zn,xe:=E}
section
variable{aa:dE}{σ:L2.St}{s':ag}{a t CB:bp}{d:Option bp}{c2:ar}{oe:Obj}{Eo:ar->ag->Prop}
def Inv.ND(I:Inv X aa σ H s):Inv (vz X a Eo) aa σ H s:=
 ⟨⟨I.ok.mod,I.ok.kind,I.ok.glob,I.ok.blt,I.ok.above,I.ok.inj,I.ok.has,I.ok.cab,(λz=>nomatch z),I.ok.frames,I.ok.stk,I.ok.exf,I.ok.bs,I.ok.bsz,I.ok.noex,I.ok.exfs,I.ok.jb,I.ok.frf⟩,I.os,I.bare,I.base,I.loc,I.cell,I.free,I.freeC,I.pin,I.bj,I.len⟩
def Inv.AN(ok:X.Ok)(I:Inv (vz X a Eo) aa σ H s):Inv X aa σ H s:=⟨ok,I.os,I.bare,I.base,I.loc,I.cell,I.free,I.freeC,I.pin,I.bj,I.len⟩
def name_goes{M:vk}{A:dA}{E:ar->ag->Prop}{i:Nat}{x:Str}{pos:Pos}{Q:Unit->ag->Prop}(I:Inv X aa σ H s)(S:X.N.Nodup)(P:X.N[i]?=U x)(L:X.env.scope.names.lookup x=U .local)
  (h:∀s',Inv X aa (σ.set i Y) H s'->Q () s'):cv M A (do bindName X.env x .none;pB X.env x pos) Q E s:=by
 obtain⟨m,w,hl⟩:=id I.loc;have MP:(X.env.scope.kind == .class ||(X.env.scope.kind == .module&&X.env.locals != X.env.globals))=Zn:=by rw[I.ok.kind];rfl
 refine wpAny_nameGoes_keeps L w MP λh' v Z a=>h _ ?_;obtain⟨oL,T,V,ZW,R,_⟩:=id w;have Xz:∀b o,X.s₀.heap.get? b=U o->b≠X.env.locals:=λb o e=>dO<|ee (b9 e) I.ok.above;refine⟨I.ok,I.os,I.bare,⟨λb o e n t l=>(a.2 b<|Xz b o e).trans<|I.base.keep b o e n t l,λb o e n t l=>?_,I.base.free,λb o e l=>?_,I.base.lH,I.base.kr,I.base.lI⟩,⟨_,Z,λj y C g f W=>?_⟩,λy c e=>?_,I.free,I.freeC,λp K=>?_,λb ob e=>?_,by simpa using I.len⟩
 .obtain⟨sl,g⟩:=I.base.slot b o e n t l
  exact⟨sl,(a.2 b<|Xz b o e).trans g⟩
 .obtain⟨G,g⟩:=I.base.there b o e l
  exact⟨G,(a.2 b<|Xz b o e).trans g⟩
 .have B:j≠i:=by
   rintro rfl
   by_cases fB:j<σ.length
   .rw[ib fB]at f;cases f
   .rw[List.getElem?_eq_none<|by simpa using fB]at f;cases f
  rw[ic<|ew B]at f;obtain⟨D,F,q⟩:=hl j y C g f W;refine⟨D,F,?_⟩;rcases q with⟨k,e⟩|⟨k,c,e,z⟩
  .refine .inl ⟨k,?_⟩
   have:y≠x:=λe=>B<|mS S g<|e▸P
   simp[this,e]
  .exact .inr ⟨k,c,e,z.sameBut a<|I.G_ y c e⟩
 .obtain⟨u,z⟩:=I.cell y c e
  exact⟨u,z.sameBut a<|I.G_ y c e⟩
 .obtain⟨e,n,ne,nf,d⟩:=I.pin p K
  exact⟨(a.2 p.1 ne).trans e,n,ne,nf,d⟩
 .refine(I.bj b ob e).mR (λc u r q=>(a.2 c ?_).trans q) (λ_ q=>q) λ_ _ q=>q
  rintro rfl
  rcases r with z|r
  .have:=I.free;rw[z,e]at this;cases this
  .have:=I.free;rw[r]at this;cases this
def qX{g:ed}(I:Inv X aa σ H s)(Q:s'.os=s.os)(R:kl s'.gens)(L:Lies X.prog X.w X.stack H s H' B g)(F:jd B X.stack a (.ref C) (.ref t) (d,c2) g) :
  ∃oe j,oe.cls=.ref C/\oe.data=.fields j/\oe.dict=d/\j[2]?=U c2/\g.get? a=U oe/\H' a=Y/\Inv X aa σ (upd H' a<|EX a oe) {s' with heap:=g}:=by
 have f:Inv X aa σ H' {s' with heap:=g}:=I.Cy (s':={s' with heap:=g}) Q L.un L.bj R λb z=>dk z<|by simp
 obtain⟨oe,j,i,XA,l,_⟩:=F.1.first
 obtain⟨h,eZ,D,S,G,T⟩:=F.2;rw[i]at D;cases D;rw[l]at G;cases G;have new:H' a=Y:=by
  cases e:H' a with
  |none=>rfl
  |some u=>
   obtain⟨o,q⟩:=L.GR a u e;rw[F.1.2.1]at q;cases q
 have ř:a∉jF X.stack:=λz=>by
  obtain⟨_,h,M,d'⟩:=F.1.2.2.1.mem z;rw[i]at M;cases M;exact d' j l
 have Ss:∀b o,s.heap.get? b=U o->b∉jF X.stack->b≠a:=λb o e n z=>by
  obtain⟨h,q⟩:=L.old b o e n;rw[z,F.1.2.1]at q;cases q
 have P:X.env.locals≠a:=λz=>by
  obtain⟨m,⟨h,es,ep,r,N,_⟩,_⟩:=f.loc;have r:g.get? X.env.locals=U h:=r;rw[z,i]at r;cases r;rw[l]at N;cases N
 refine⟨oe,j,XA,l,S,T,i,new,⟨f.ok,f.os,f.bare,⟨f.base.keep,f.base.slot,λb o e n E=>?_,f.base.there,λb xs z=>?_,λb o u z=>?_,λb ps z=>?_⟩,f.loc,f.cell,?_,λx c e=>?_,λp K=>?_,λb u z=>?_,f.len⟩⟩
 .rw[af λz=>?_]
  .exact f.base.free b o e n E
  .subst z
   obtain⟨h,V⟩:=I.base.there b o e E;exact Ss b h V ř J
 .have q:=f.base.lH b xs z
  rw[af λy=>by rw[y,new]at q;cases q];exact q
 .have q:=f.base.kr b o u z
  rw[af λy=>by rw[y,new]at q;cases q];exact q
 .obtain⟨k,q⟩:=f.base.lI b ps z
  exact⟨k,by rw[af λy=>by rw[y,new]at q;cases q];exact q⟩
 .rw[af P];exact f.free
 .rw[af λz=>?_]
  .exact f.freeC x c e
  .obtain⟨v,o,q,hd⟩:=f.cell x c e
   have q:g.get? c=U o:=q;rw[z,i]at q;cases q;rw[l]at hd;cases hd
 .obtain⟨e,n,ne,nf,Z⟩:=f.pin p K
  obtain⟨W,_,_,_,_⟩:=I.pin p K;refine⟨e,?_,ne,nf,Z⟩;rw[af<|Ss p.1 p.2 W λz=>?_]
  .exact n
  .rcases bu.mp (I.jc p.1 z)with q|q
   .exact ne q
   .exact nf q
 .by_cases q:b=a
  .subst q
   rw[ao]at z;cases z;exact EX.mk i
  .rw[af q]at z
   exact(f.bj b u z).mR (λ_ _ _ y=>y) (λc y=>by rw[af λA=>by rw[A,new]at y;cases y];exact y) λc xs y=>by rw[af λA=>by rw[A,new]at y;cases y];exact y
def jO{M:vk}{A:dA}{E:ar->ag->Prop}{base:ed}{l:List Env}{e:bp}{cls a0:ar}{d:Option bp×ar}{Q:Unit->ag->Prop}(F:jd base l e cls a0 d s.heap)
  (h:∀h',jd base l e cls a0 d h'->s.heap.UpToSlots h'->Q () {s with heap:=h'}):cv M A (uj (.ref e) Y) Q E s:=by
 obtain⟨⟨m,k,j,i⟩,D⟩:=F;exact yf m j i.at D λh' k1 k2 k3 c a=>h h' ⟨⟨k1,k,k2,k3⟩,c⟩ λb o g f=>⟨o.slots,a b o g f⟩
def Dw{Q:Flow->ag->Prop}{y:Str}{D pos:Pos}{m:Option Str}{o:Fh}{rest:List zv}(I:Inv X aa σ H s)(j:X.stack=X.env::X.outer)(z:X.env.frame=U X.env.locals)(G:s'.os=s.os)(R:kl s'.gens)
  (L:Lies X.prog X.w X.stack H s H' B s'.heap) (F:jd B X.stack a (.ref C) (.ref t) (d,c2) s'.heap) (N:X.mg y=U (.ref CB)) (E:exmOne X.K (.ref C) (.ref CB)=U O)
  (k:∀i,Lies X.prog X.w X.stack H s H' B i->jd B X.stack a (.ref C) (.ref t) (d,c2) i ->
   hQ (b8 X.prog X.w) (X.A.mark<|U<|.ref a) (.handlers (.ref a) [.ExceptHandler Y m o pos] X.env) (λr b=>match r with
     |.ok f=>(match m with
      |none=>Q f b
      |some n=>cv (b8 X.prog X.w) X.A (do bindName X.env n .none;pB X.env n pos) (λ_ g=>Q f g) Eo b)
     |.error x=>cameBackBy (b8 X.prog X.w) X.A X.env Eo x b) {s' with heap:=i})
  (P:Gl X y) (S:aV y) :
  cv (b8 X.prog X.w) X.A (ry (.ref a) X.env) (λ_ b=>cv (b8 X.prog X.w) X.A (uj (.ref a) Y) (λ_ g=>
   cv (b8 X.prog X.w) X.A (handleBy (.ref a) X.env<|.ExceptHandler (U<|.Name y D) m o pos::rest) Q Eo g) Eo b) Eo s':=by
 have v:=F;rw[j]at v;refine Ly (L:=X.env.locals) (by rw[I.ok.frames,j]) z v λh4 c Ś=>?_
 have W:=L.on F.1.1 c.1.1 Ś F.1.2.2.1;refine Dl c λi l ś=>?_;have p:=W.on c.1.1 l.1.1 ś (by rw[j];exact c.1.2.2.1)
 rw[<- j]at l;obtain⟨oe,Z,T,_,_,_,V,_,u⟩:=qX (s':=s') I G R p l;refine wpAny_handleBy_cons (codeAny_handlers_test ?_) (by intro q;cases q)
 refine eO (X:=vz X a λ_ _=>False) (Inv.ND u) P N ?_ S;have LT:sr (b8 X.prog X.w) i (sx<|.ref a)<|.ref C:=T▸(oC V).andThen .now;refine exm_one (M:=b8 X.prog X.w) (h:=i) u.gQ LT E _ _ _ _ (λ_ _ e=>e) ?_;exact k i p l
def NF{Q:Flow->ag->Prop}{pos:Pos}{st:gL}{e:ed}(I:Inv X aa σ H s)(l:s'.os=s.os)(n:kl s'.gens)(j:rb (b8 X.prog X.w) (X.A.mark<|U<|.ref a) X.A X.env X.xe)
  (L:Lies X.prog X.w X.stack H s H' B e) (F:jd B X.stack a (.ref C) (.ref t) (d,c2) e)
  (k:∀oe c g,oe.cls=.ref C->oe.data=.fields c->c[2]?=U c2->H' a=Y->Inv (vz X a X.xe) aa σ (upd H' a<|EX a oe) g->cv (b8 X.prog X.w) (X.A.mark<|U<|.ref a) (execs [st] X.env) Q X.xe g) :
  hQ (b8 X.prog X.w) (X.A.mark<|U<|.ref a) (.handlers (.ref a) [.ExceptHandler Y Y [st] pos] X.env) (λr b=>match r with
     |.ok f=>Q f b
     |.error x=>cameBackBy (b8 X.prog X.w) X.A X.env X.xe x b) {s' with heap:=e}:=by
 refine codeAny_handlers_suite<|jO F λy h p=>?_;have q:=L.on F.1.1 h.1.1 p F.1.2.2.1;obtain⟨oe,c,m,i,hd,o,v,new,u⟩:=qX (s':=s') I l n q h;exact wpAny_passesOwnAt j<|k oe c _ m i o new<|Inv.ND u
def HL{Q:Flow->ag->Prop}{pos:Pos}{n:Str}{i:Nat}{st:gL}{o:Fh}{j:ed}(I:Inv X aa σ H s)(G:s'.os=s.os)(M:kl s'.gens)(u:X.N.Nodup)(p:X.N[i]?=U n)(h:X.env.scope.names.lookup n=U .local)
  (L:Lies X.prog X.w X.stack H s H' B j) (F:jd B X.stack a (.ref C) (.ref t) (d,c2) j)
  (k:∀oe g m,oe.cls=.ref C->oe.data=.fields g->oe.dict=d->H' a=Y->Inv (vz X a λ_ _=>False) aa (σ.set i<|U<|.ref a) (upd H' a<|EX a oe) m->cv (b8 X.prog X.w) (X.A.mark<|U<|.ref a) (execs (st::o) X.env) (λf s8=>∃c l,Inv (vz X a λ_ _=>False) aa c l s8/\∀s9,Inv X aa (c.set i Y) l s9->Q f s9) (λ_ _=>False) m) :
  hQ (b8 X.prog X.w) (X.A.mark<|U<|.ref a) (.handlers (.ref a) [.ExceptHandler Y (U n) (st::o) pos] X.env) (λr b=>match r with
     |.ok f=>cv (b8 X.prog X.w) X.A (do bindName X.env n .none;pB X.env n pos) (λ_ e=>Q f e) (λ_ _=>False) b
     |.error x=>cameBackBy (b8 X.prog X.w) X.A X.env (λ_ _=>False) x b) {s' with heap:=j}:=by
 refine codeAny_handlers_suite_as<|jO F λZ y P=>?_;have R:=L.on F.1.1 y.1.1 P F.1.2.2.1;obtain⟨oe,g,K,E,hd,_,W,new,V⟩:=qX (s':=s') I G M R y;refine jG V u p (Or.inl h) (v:=.ref a) J (λs7 T=>?_)<|Or.inr h;refine et (k oe g s7 K E hd new<|Inv.ND T) (λf s8 D=>?_) λ_ _ z=>z.elim;obtain⟨c,l,S,q⟩:=D;exact name_goes (Inv.AN I.ok S) u p h q
end
section
variable{P:cW}{w:c4}{K:v3}{mg:Str->D2}{base:ed}{f:bp}{name qual:Str}{R:Arguments}{T:Fh}{scope:gg}{dV kV Z pm W ct oc:ar}{an od:Option bp}{mZ:Array D2}{N:Bi}
def HM{A:dA}{outer:List Env}{s:ag}{H:Hp}{g:Args}{us:B2}{vs:List V}{Q:VK}{t:TS}(p:K.lookup f=U ⟨oc,od,.func<|fnOf name qual R T scope dV kV Z pm an W ct,mZ⟩)(G:codeIn K W qual=O)(S:fm N ps scope)
  (Î:A.depth<qd) (c:pj P w K mg base A outer s H) (F:xp s (fnOf name qual R T scope dV kV Z pm an W ct) g<|ps.zip us) (r:Vals vs us) (hl:vs.length=ps.length)
  (C:gz {ie ig P w K mg base N qual scope f W A outer s H (λ_ _ _=>False)with calm:=Zn,xe:=λ_ _=>False} T t) (D:t {nx:=λ_ H'=>Q .non H',rt:=Q} (start N vs) H) :
  hQ (b8 P w) A (.call (.ref f) g) (CR ig outer P w H s Q λ_ _ _=>False) s:=by
 have m:K.In s.heap:=c.mod.kin.keeps λb o e=>(c.bs b o e).1;have l:s.heap.NoLimit:=c.mod.nolimit.keeps λb o e=>(c.bs b o e).1;have M:∀y∈ps.zip us,scope.names.lookup y.1=U .local\/(scope.names.lookup y.1=U .cell/\((CU (s.heap.objs.size+1) scope.names []).lookup y.1).isSome=O):=λ⟨n,v⟩ B=>by
  rcases S.par n (xG B).1 with q|q
  .exact .inl q
  .exact .inr ⟨q,cellsFrom_some _ _ _<|.inl q⟩
 refine Hm Î (m _ _ p) J S.co S.gen J (codeRec_of m G)<|F _ _ _ _ ?_;refine xY S.kind M λenv E i x=>?_;subst E;refine⟨l.keeps x.toInCall.keep,codeAny_func ?_⟩;have L:pj P w K mg base {A with handled:=Y} outer s H:=⟨c.frames,c.mod,c.bs,c.bsz,c.jb,c.frf,c.bj,c.bare⟩
 have a:Inv (ie ig P w K mg base N qual scope f W {A with handled:=Y} outer s H λ_ _ _=>False) [] (start N vs) H i:=pY S J L hl r x
 have I:Inv {ie ig P w K mg base N qual scope f W A outer s H (λ_ _ _=>False)with calm:=Zn,xe:=λ_ _=>False} [] (start N vs) H i:=
  ⟨⟨a.ok.mod,a.ok.kind,a.ok.glob,a.ok.blt,a.ok.above,a.ok.inj,a.ok.has,a.ok.cab,(λz=>nomatch z),xI c.frames,a.ok.stk,a.ok.exf,a.ok.bs,a.ok.bsz,a.ok.noex,a.ok.exfs,a.ok.jb,a.ok.frf⟩,a.os,a.bare,a.base,a.loc,a.cell,a.free,a.freeC,a.pin,a.bj,a.len⟩
 refine et (C [] i (start N vs) H _ I D) (λfl j h=>?_) λe j h=>h.elim;have fin:∀{d:St}{H':Hp}{v:V}{u:ar},Inv {ie ig P w K mg base N qual scope f W A outer s H (λ_ _ _=>False)with calm:=Zn,xe:=λ_ _=>False} [] d H' j->RelV v u->Q v H'->CE outer P w H s Q u j:=
  λ{d H' v u} X k q=>⟨v,H',X.os,X.bare,X.base,X.bj,k,q⟩
 cases fl with
 |ret u=>
  obtain⟨v,d,H',X,k,q⟩:=h;exact fin X k q
 |next=>
  obtain⟨d,H',X,q⟩:=h;exact fin (v:=V.non) (u:=f7) X J q
 |brk=>
  obtain⟨_,_,_,q⟩:=h;exact ey q
 |cont=>
  obtain⟨_,_,_,q⟩:=h;exact ey q
end
def XG(P:cW)(w:c4)(K:v3)(mg:Str->D2)(base:ed)(f:bp)(fd:dy)(ps:Bi)(sp:Sp):Prop:=∀(A:dA)(outer:List Env)(s:ag)(H:Hp)(a:Args)(c:B2)(b:List V)(Q:VK),A.depth<qd->pj P w K mg base A outer s H->xp s fd a (ps.zip c)->Vals b c->b.length=ps.length->sp b H Q (λ_ _ _=>False) ->
  hQ (b8 P w) A (.call (.ref f) a) (CR ig outer P w H s Q λ_ _ _=>False) s
section
variable{fI a:bp}{x f:Str}{e:pd}{es:List pd}{t:TA}{np bw pos Ŝ:Pos}{ŝ:Nat}{fd:dy}
def AO(ok:X.Ok)(Z:v5 X E)(q:Du X.K C fI=O)(kp:keepIn X.K (.ref C)=O)(L:isFn X.K (.ref fI)=O)(F:XG X.prog X.w X.K X.mg X.base fI fd ps<|By C f)(Hx:ps.length=2)(M:Binds X.K fd ps [])(hr:bo 2 X.A)(hm:X.mg x=U (.ref C))(ha:PA (vz X a X.xe) (e::es) t)(hg:Gl X x)(fX:aV x)
  (he:cw (e::es) X.env=(Zn,e6 e X.env)::cw es X.env) (hpl:(hB bw<|cw es X.env).any (·.1)=Zn) :
  PS (vz X a X.xe) (.Raise (U<|.Call (.Name x np) (e::es) [] bw) (U<|.Constant .none ŝ Ŝ) pos) λ_ p H=>t p H λvs H1=>∃u m y,vs=[u]/\H1 a=U (EX a m)/\m.data=.fields y/\y[2]?=U .none/\∀d,H1 d=Y->E (.ref C) (U d) (upd H1 d<|XD d [(f,u)]):=by
 intro aa s p H D I h;obtain⟨bm,N,nm,qn,bs,hd,sn,sub,ab,col,dd,k0,k1,k2,k3,k5,hC,hN,So,T⟩:=tL I.mod.kin q;have FB:=lp;have hf:∃oI,X.base.get? fI=U oI/\oI.cls=.type "function" := by
  have L:=beq_iff_eq.mp L;obtain⟨o,ho,e⟩:=cL.mp<|show(X.K.lookup fI).map (·.cls)=U (.type "function")from L
  exact⟨o,I.mod.kin _ _ ho,e⟩
 obtain⟨oI,Xw,Xx⟩:=hf;rw[arm_exec_Raise];refine av<|hZ<|HH (C:=C) (a:=a) (nm:=nm) (q:=qn) (N:=N) (bs:=bs) (bm:=bm) (hdct:=hd) (sn:=sn) (sub:=sub) (ab:=ab) (col:=col) (dd:=dd) (k0:=k0) (k1:=k1) (k2:=k2) (k3:=k3) (k5:=k5) (newId := "ValueError.__new__")
  (T.hasType FB.hasBase) J (λs' Q' hq=>?_)<|av<|et (ek<|eO I hg hm ?_ fX) (λv s₃ n=>av<|hZ<|cC n) λ_ _ x=>x
 .exact av<|Constant_none<|av<|hZ<|cC hq
 refine callWith_K (h₀:=X.base) I.ok.mod.kin kp (cK (ha bw aa s p H _ I h) λj s1 zz=>?_) he hpl;obtain⟨vs,H1,i,r,u,m,y,ev,G,Ş,ş,q1⟩:=zz;refine⟨i.gQ,?_⟩;subst ev;obtain⟨hp,gn,dr,tk,os⟩:=s1;refine qc (rest:=j) FB (T.keeps i.bk) (i.bk _ _ hC) (hN.keeps i.bk) So (i.bk _ _ Xw) Xx (λh' e Nz Q=>?_) (by rw[<- r.length];show 1<=cq;decide)
 obtain⟨ta,NB,_,_⟩:=Nz.there;obtain⟨c,g⟩:∃c:Obj,c={cls:=.ref C,data:=.fields #[.ref ta,.none,.none,.none,.bool Zn,.none]}:=⟨_,J⟩;rw[<- g]at NB;have W:Inv (vz X a X.xe) aa p (upd H1 e<|EX e c) ⟨h',gn,dr,tk,os⟩:=i.laid (a:=e) (h':=h') (t':=tk) Nz.keeps Q<|EX.mk NB;have r2:Vals (V.ref e::[u])<|Value.ref e::j:=.cons J r;have sp:By C f (V.ref e::[u]) (upd H1 e<|EX e c) (λw H'=>w=.non/\∃d,H1 d=Y/\d≠e/\H'=upd (upd (upd H1 e<|EX e c) d<|XD d [(f,u)]) e (EX e {c with dict:=U d})) λ_ _ _=>False:=
  ⟨e,u,c,_,J,ao,by rw[g],by rw[g],by rw[g],λd k B=>⟨J,d,by rw[af B]at k;exact k,B,J⟩⟩
 have tM:=M ⟨h',gn,dr,tk,os⟩ (Value.ref e::j) W.gQ (by rw[bz,<- r2.length,Hx];rfl)
 rw[bz]at tM;refine fv<|fA (F _ X.stack _ _ ⟨Value.ref e::j,[]⟩ (Value.ref e::j) _ _ (hr.make C j []).depth (W.CY.make C j []) tM r2 Hx.symm sp) λr s' l=>?_;cases r with
 |error e=>exact l.elim
 |ok fl=>
  cases fl with
  |next=>exact l.elim
  |brk=>exact l.elim
  |cont=>exact l.elim
  |ret u'=>
   obtain⟨v',H',I3,rv,ev,d,k,B,R⟩:=W.after l;subst ev;have P:H' e=U (EX e {c with dict:=U d}):=by rw[R];exact ao
   have fr:=i.bj.fresh Q;have S:a≠e:=λz=>by rw[z,fr]at G;cases G
   have Š:a≠d:=λz=>by rw[<- z,G]at k;cases k
   have š:H' a=U (EX a m):=by rw[R,af S,af Š,af S];exact G
   have Ï:=I3.bk _ _ hC;have MO:C≠e:=λz=>by
    have:=(EX.at_<|I3.bj e _ P).symm.trans<|z▸Ï
    rw[g]at this;cases this
   refine⟨rv,e,_,m,ta,y,J,Ï,EX.at_<|I3.bj e _ P,by rw[g],by rw[g],MO,S,EX.at_<|I3.bj a _ š,Ş,ş,λh6 g1 g2=>?_⟩
   have I6:=I3.write (x:=e) (e:=e) (h':=h6) (t':=s'.toks) (by rw[P];exact gb) (.inl J) (λb o M q=>(g2 b M).trans q) ⟨_,g1⟩<|EX.mk g1
   refine Dt (t:=ta) (c2:=.ref a) Z (Inv.AN ok I6) ao (by rw[g]) J J J J (λz=>nomatch z) (ij<|eT i.sz Q) ?_
   have e1:lP (upd H' e<|EX e {c with dict:=U d,data:=.fields #[.ref ta,.none,.ref a,.none,.bool O,.none]}) e=upd H1 d (XD d [(f,u)]):=by
    rw[<- yk fr B R]
    funext b
    unfold lP upd;by_cases h1:b=e
    .rw[b7 h1,b7 h1]
    .rw[b0 h1,b0 h1,b0 h1]
   rw[e1];exact q1 d k
end
end L2
namespace L2
open PySem PySem.Spec PyProof.Rows
section
variable{j:Type}[DecidableEq j]
def kC(b:List<|j×V)(k:j):Option V:=(b.find? λa=>decide<|a.1=k).map (·.2)
def putK(b:List<|j×V)(k:j)(v:V):List<|j×V:=
 if(b.any λa=>decide<|a.1=k)=O then b.map (λa=>if a.1=k then(a.1,v)else a)else b++[(k,v)]
def jP{p:j×V}{r:List<|j×V}{k:j}(e:p.1=k):kC (p::r) k=U p.2:=by simp[kC,Aq,e]
def jQ{p:j×V}{r:List<|j×V}{k:j}(e:¬ p.1=k):kC (p::r) k=kC r k:=by simp[kC,Aq,e]
theorem ni(k:j):∀a:List<|j×V,(a.any λb=>decide<|b.1=k)=(kC a k).isSome
 |[]=>J
 |p::r=>by
  rw[mP];by_cases e:p.1=k
  .simp only[jP e,bt e,Bool.true_or,Option.isSome_some]
  .rw[jQ e,a9 e,BZ];exact ni k r
def lq(a:List<|j×V)(k:j)(v:V):(putK a k v).length<=a.length+1:=by
 unfold putK;split
 .rw[ck];lia
 .rw[dq,eS,B7];lia
def iy.gE{o:Option V}{u:D2}(r:iy o u):o.isSome=u.isSome:=by
 cases o with
 |none=>cases u with
  |none=>rfl
  |some _=>exact(show False from r).elim
 |some _=>cases u with
  |none=>exact(show False from r).elim
  |some _=>rfl
def KV.val{f:List<|j×V}{vs:List<|j×ar}(r:KV f vs)(k:j):iy (kC f k)<|wk vs k:=by
 unfold KV at r
 induction r with
 |nil=>exact gb
 | @cons p q ps a h t g=>
  obtain⟨d,i⟩:=h;by_cases e:p.1=k
  .have c:q.1=k:=d.symm.trans e
   have b:wk (q::a) k=U q.2:=by simp[wk,Aq,c]
   rw[jP e,b];exact i
  .have c:¬ q.1=k:=λz=>e<|d.trans z
   have b:wk (q::a) k=wk a k:=by simp[wk,Aq,c]
   rw[jQ e,b];exact g
theorem KV.any{b:List<|j×V}{vs:List<|j×ar}(r:KV b vs)(k:j):(b.any λa=>decide<|a.1=k)=vs.any λa=>decide<|a.1=k:=by
 unfold KV at r
 induction r with
 |nil=>rfl
 |cons h t c=>rw[mP,mP,c,h.1]
def KV.NG{c:List<|j×V}{vs:List<|j×ar}(r:KV c vs)(k:j){y:V}{u:ar}(d:RelV y u) :
  KV (c.map λa=>if a.1=k then(a.1,y)else a)<|vs.map λa=>if a.1=k then(a.1,u)else a:=by
 unfold KV at r ⊢
 induction r with
 |nil=>exact .nil
 | @cons p q ps i h t f=>
  rw[eF,eF];refine .cons ?_ f;obtain⟨b,g⟩:=h;by_cases e:p.1=k
  .rw[b7 e,b7<|b.symm.trans e];exact⟨b,d⟩
  .rw[b0 e,b0 λz=>e<|b.trans z];exact⟨b,g⟩
def KV.put{b:List<|j×V}{vs:List<|j×ar}(r:KV b vs)(k:j){y:V}{u:ar}(a:RelV y u):KV (putK b k y)<|stored vs k u:=by
 unfold putK stored;rw[r.any k];by_cases e:(vs.any λc=>decide<|c.1=k)=O
 .rw[b7 e,b7 e];exact r.NG k a
 .rw[b0 e,b0 e];exact Paired.snoc r ⟨J,a⟩
theorem KV.length{a:List<|j×V}{vs:List<|j×ar}(r:KV a vs):a.length=vs.length:=Paired.length r
end
def yl{P:cW}{w:c4}{k:Key}{u:ar}(r:RelV (kV k) u):(cY P w).is k u=O:=by
 cases k with
 |inl i=>obtain⟨t,e⟩:=(show ∃t,u=Value.int i t from r);subst e;exact sO P w i t
 |inr x=>obtain⟨t,e⟩:=(show ∃t,u=Value.str x t from r);subst e;exact sP P w x t
theorem qg{P:cW}{w:c4}:∀{ks:List Key}{us:B2},Vals (ks.map kV) us->ItemsAre (cY P w) ks us
 |[],_,r=>by rw[B_]at r;cases r;exact .nil
 |k::ks,_,r=>by
  rw[eF]at r;cases r with
  |cons h t=>exact .cons (yl h)<|qg t
abbrev KT(H:Hp):List (List Key×V)->List (List Key×bp×ar)->Prop:=GX λp q=>p.1=q.1/\H q.2.1=U (.tup<|p.1.map kV)/\RelV p.2 q.2.2
def KT.val{H:Hp}{f:List<|List Key×V}{xs:List<|List Key×bp×ar}(r:KT H f xs)(k:List Key):iy (kC f k)<|(Dp xs k).map (·.2):=by
 induction r with
 |nil=>exact gb
 | @cons p q ps a h t g=>
  obtain⟨d,_,i⟩:=h;by_cases e:p.1=k
  .have c:q.1=k:=d.symm.trans e
   have b:Dp (q::a) k=U q.2:=by simp[Dp,Aq,c]
   rw[jP e,b];exact i
  .have c:¬ q.1=k:=λz=>e<|d.trans z
   have b:Dp (q::a) k=Dp a k:=by simp[Dp,Aq,c]
   rw[jQ e,b];exact g
def KT.NG{H:Hp}{d:List<|List Key×V}{xs:List<|List Key×bp×ar}(r:KT H d xs)(k:List Key){y:V}{u:ar}(f:RelV y u) :
  KT H (d.map λb=>if b.1=k then(b.1,y)else b)<|xs.map<|putAt k u:=by
 induction r with
 |nil=>exact .nil
 | @cons p q ps j h t g=>
  rw[eF,eF];refine .cons ?_ g;obtain⟨a,c,i⟩:=h;unfold putAt;by_cases e:p.1=k
  .rw[b7 e,b7<|a.symm.trans e];exact⟨a,c,f⟩
  .rw[b0 e,b0 λz=>e<|a.trans z];exact⟨a,c,i⟩
def KT.put{H:Hp}{a:List<|List Key×V}{xs:List<|List Key×bp×ar}(r:KT H a xs)(k:List Key){b:bp}{y:V}{u:ar}(f:H b=U (.tup<|k.map kV))(c:RelV y u) :
  KT H (putK a k y)<|storedH xs k b u:=by
 have e:(a.any λd=>decide<|d.1=k)=(Dp xs k).isSome:=by
  rw[ni,(r.val k).gE,BU]
 unfold putK storedH;rw[e];by_cases q:(Dp xs k).isSome=O
 .rw[b7 q,b7 q];exact r.NG k c
 .rw[b0 q,b0 q];exact Paired.snoc r ⟨J,f,c⟩
def KT.keeps{H H':Hp}{a:List<|List Key×V}{xs:List<|List Key×bp×ar}(r:KT H a xs)(c:∀b ys,H b=U (.tup ys)->H' b=U (.tup ys)):KT H' a xs:=
 Paired.MN r λ_ _ z=>⟨z.1,c _ _ z.2.1,z.2.2⟩
variable{a:bp}{A:dA}{X:Cx}{H:Hp}{Z:dE}{s:ag}{W:St}{y:V}{u:ar}{E:ar->ag->Prop}
section
variable{P:cW}{w:c4}{h:ed}
def LB{u:HO}(ok:ja P w H h)(e:Rd H a u):bK P w H h a u:=e.ok ok
def Dy{b:List<|Key×V}(ok:ja P w H h)(e:Rd H a<|.dK b):b.length<=cq/\(a == iq)=Zn/\∃vs,KV b vs/\h.DictOf (cY P w) a vs:=
 show bK P w H h a (.dK b)from LB ok e
def Su{b:List<|Key×V}(ok:ja P w H h)(e:H a=U (.dK b)):b.length<=cq/\(a == iq)=Zn/\∃vs,KV b vs/\h.DictOf (cY P w) a vs:=Dy ok<|.inl e
def qY{ks:List Key}(ok:ja P w H h)(e:H a=U (.tup<|ks.map kV)):(ui<|cY P w).is h ks a:=by
 obtain⟨_,aG,r,o,d,c,n,b⟩:=(show bK P w H h a (.tup<|ks.map kV)from ok a _ e);exact⟨o,aG.toArray,n,d,c,b,by simpa using qg r⟩
def Dz{c:List<|List Key×V}(ok:ja P w H h)(e:Rd H a<|.dT c):c.length<=cq/\(a == iq)=Zn /\
  ∃xs,KT H c xs/\h.DictOfH (ui<|cY P w) a xs:=by
 obtain⟨z,y,xs,r,o,s,u,n,k,j,i,g⟩:=(show bK P w H h a (.dT c)from LB ok e);refine⟨z,y,xs,r,o,s,u,n,k,j,i,λx b=>?_,g⟩;have all:∀{l:List<|List Key×V}{m:List<|List Key×bp×ar},KT H l m->∀x∈m,(ui<|cY P w).is h x.1 x.2.1:=by
  intro l m q
  induction q with
  |nil=>intro x b;exact nomatch b
  | @cons p q ps v d t f=>
   intro x b;rcases bu.mp b with e|b
   .subst e
    exact qY ok (by rw[<- d.1];exact d.2.1)
   .exact f x b
 exact all r x b
def Sv{b:List<|List Key×V}(ok:ja P w H h)(e:H a=U (.dT b)):b.length<=cq/\(a == iq)=Zn /\
  ∃xs,KT H b xs/\h.DictOfH (ui<|cY P w) a xs:=Dz ok<|.inl e
end
def DA(H:Hp)(a:bp)(y:V)(r:Option V):Prop:=
 (∃c k,Rd H a (.dK c)/\y=kV k/\r=kC c k)\/∃c k b,Rd H a (.dT c)/\y=.ref b/\H b=U (.tup<|k.map kV)/\r=kC c k
def HN(H:Hp)(a:bp)(y v:V)(H':Hp):Prop:=
 (∃c k,H a=U (.dK c)/\y=kV k/\c.length<cq/\H'=upd H a (.dK<|putK c k v)) \/
 ∃c k b,H a=U (.dT c)/\y=.ref b/\H b=U (.tup<|k.map kV)/\c.length<cq/\H'=upd H a (.dT<|putK c k v)
theorem DA.k{H:Hp}{a:bp}{b:List<|Key×V}{k:Key}(e:H a=U (.dK b)):DA H a (kV k)<|kC b k:=.inl ⟨b,k,.inl e,J,J⟩
theorem HN.k{H:Hp}{a:bp}{b:List<|Key×V}{k:Key}{v:V}(e:H a=U (.dK b))(hl:b.length<cq):HN H a (kV k) v<|upd H a<|.dK<|putK b k v:=.inl ⟨b,k,e,J,hl,J⟩
section
variable{v:V}{r:ar}{o:Option V}
def Inv.big(I:Inv X Z W H s):iq<s.heap.objs.size:=by
 have h:en<s.heap.objs.size:=(I.mod.glob.keeps I.bk).lt;exact Nat.lt_trans (by decide) h
def XI{Q:ar->ag->Prop}(j:A.units+1<mx)(I:Inv X Z W H s)(g:DA H a y o)(i:RelV y u)(h:∀s',Inv X Z W H s'->Q (.bool o.isSome) s') :
  cv (b8 X.prog X.w) A (eh .In u<|.ref a) Q E s:=by
 rcases g with⟨n,k,e,d,l⟩|⟨n,k,b,e,d,m,l⟩
 .subst d
  obtain⟨z,hd,p,c,f⟩:=Dy I.bj e;refine wpAny_in_of (yl i) hd f.mapOf ?_;rw[<- (c.val k).gE,<- l];exact h _<|I.tok _
 .subst d
  cases(show u=Value.ref b from i);obtain⟨z,hd,xs,c,f⟩:=Dz I.bj e;refine wpAny_in_heap (sZ j) (qY I.bj m) hd f ?_;have q:=(c.val k).gE;rw[BU]at q;rw[<- q,<- l];exact h _<|I.tok _
def HP{Q:ar->ag->Prop}(j:A.units+1<mx)(I:Inv X Z W H s)(g:DA H a y o)(i:RelV y u)(h:∀s',Inv X Z W H s'->Q (.bool<|!o.isSome) s') :
  cv (b8 X.prog X.w) A (eh .NotIn u<|.ref a) Q E s:=by
 rcases g with⟨n,k,e,d,l⟩|⟨n,k,b,e,d,m,l⟩
 .subst d
  obtain⟨z,hd,p,c,f⟩:=Dy I.bj e;refine wpAny_notIn_of (yl i) hd f.mapOf ?_;rw[<- (c.val k).gE,<- l];exact h _<|I.tok _
 .subst d
  cases(show u=Value.ref b from i);obtain⟨z,hd,xs,c,f⟩:=Dz I.bj e;refine wpAny_notIn_heap (sZ j) (qY I.bj m) hd f ?_;have q:=(c.val k).gE;rw[BU]at q;rw[<- q,<- l];exact h _<|I.tok _
def ym{h':ed}{t':Nat}{ob:HO}(I:Inv X Z W H s)(mu:Ri<|H a)(c:rE a s.heap h')(he:∃q,h'.get? a=U q)(new:bK X.prog X.w (upd H a ob) h' a ob) :
  Inv X Z W (upd H a ob) {s with heap:=h',toks:=t'}:=
 I.write (x:=a) (e:=a) mu (.inl J) (λb q d z=>(c.2 b d).trans z) he new
def NH{P:cW}{w:c4}{H':Hp}{h':ed}{c:List<|Key×V}{vs:List<|Key×ar}(z:c.length<=cq)(hd:(a == iq)=Zn)(b:KV c vs)(dd:h'.DictOf (cY P w) a vs) :
  bK P w H' h' a<|.dK c:=⟨z,hd,vs,b,dd⟩
def AQ{H':Hp}{Q:Unit->ag->Prop}(K:A.units+1<mx)(I:Inv X Z W H s)(g:HN H a y v H')(x:RelV y u)(B:RelV v r)(h:∀s',Inv X Z W H' s'->Q () s') :
  cv (b8 X.prog X.w) A (setItem (.ref a) u r) Q E s:=by
 rcases g with⟨f,k,e,o,l,p⟩|⟨f,k,b,e,o,F,l,p⟩
 .subst o p
  obtain⟨z,hd,G,d,t⟩:=Su I.bj e;have m:G.length<=cq:=by rw[<- d.length];exact z
  have hl:(putK f k v).length<=cq:=by have:=lq f k v;lia
  refine wpAny_setItem_pairs (hsz:=m) (yl x) t λC j n=>h _ ?_;have L:∃q,C.get? a=U q:=let⟨q,_,_,i,_⟩:=j;⟨q,i⟩;exact ym I (by rw[e];exact gb) n L<|NH hl hd (d.put k B) j
 .subst o p
  cases(show u=Value.ref b from x);obtain⟨z,hd,xs,d,t⟩:=Sv I.bj e;have m:xs.length<=cq:=by rw[<- Paired.length d];exact z
  have hl:(putK f k v).length<=cq:=by have:=lq f k v;lia
  refine wpAny_setItem_heap (hsz:=m) (sZ K) (qY I.bj F) t λC j n=>h _ ?_;obtain⟨q,S,T,i,R,P,N,_,M⟩:=j;refine ym I (by rw[e];exact gb) n ⟨q,i⟩ ⟨hl,hd,_,(d.put k F B).keeps λc ys D=>?_,q,S,T,i,R,P,N,M⟩
  rw[af (Rg D e (λz=>nomatch z))];exact D
end
section
variable{d:List<|Key×V}{k:Key}
end
def Sw(d ty c:TE):TS:=λD W H=>c W H λv H1=>d W H1 λx f=>ty W f λy e=>∃a b,x=.ref a/\HN e a y v b/\D.nx W b
section
variable{o i e Q:cb}{pos R d:Pos}{L ty M:TE}
def HQ(l:X.A.units+1<mx)(n:PE X o L)(p:PE X i ty)(k:PE X Q M)(m:eR Q (U<|.Subscript o i R) pos.line X.env=pure Zn) :
  PS X (.Assign [.Subscript o i R] Q pos)<|Sw L ty M:=by
 intro Z s W H D I h;refine wpAny_Assign_Subscript (cK (k Z s W H _ I h) λr c b=>?_) m;obtain⟨v,H1,z,f,q1⟩:=b;refine cK (n Z c W H1 _ z q1) λu s2 b=>?_;obtain⟨x,C,w,e,q2⟩:=b;refine cK (p Z s2 W C _ w q2) λG F b=>?_;obtain⟨y,K,t,d,a,B,ex,g,j⟩:=b;subst ex
 obtain rfl:u=Value.ref a:=e
 exact AQ l t g d f λE q=>⟨W,B,q,j⟩
end
def DB{P:cW}{w:c4}{H:Hp}(h:ed)(a:iq<h.objs.size):bK P w H (h.push {cls:=.type "dict",data:=.dict #[]}) h.objs.size<|.dK []:=
 ⟨i_ _,beq_eq_false_iff_ne.mpr<|ew<|dO a,[],.nil,Heap.DictOf.new h⟩
def NI:TE:=λ_ H Q=>∀p,H p=Y->Q (.ref p) (upd H p<|.dK [])
section
variable{pos:Pos}
def DC:PE X (.Dict [] [] pos) NI:=λZ s W H Q I h=>
 wpAny_Dict_empty ⟨.ref s.heap.objs.size,_,I.laid (a:=s.heap.objs.size) (o:=.dK []) (t':=s.toks) (λ_ _ q=>ax _ q) (dS _)<|DB s.heap I.big,J,h _<|I.bj.fresh<|dS _⟩
end
section
variable{d:V}{r:ar}{o:Option V}
end
section
variable{o e f:cb}{d j:Pos}{n ty tx:TE}
end
section
variable{d:List<|Key×V}
end
end L2
namespace Pf
def eV:B1->B1->B1
 |seen,[]=>seen
 |seen,c::l=>eV (if c∈seen then seen else c::seen) l
end Pf
namespace L2
open PySem PySem.Spec PyProof.Rows
section
variable{prog:cW}{w:c4}
def iD(seen:B1)(k:Str):Bool:=seen.any λc=>decide<|k=⟨#[c]⟩
theorem jR{A:dA}{R:GK->ag->Prop}{I S:bp}{x:Str}{t:Tok}(y:A.in1.handled=Y)(f:I≠S)(E:x.cps.size+1<ox) :
  ∀(l:B1)(i:Nat)(seen:B1)(s:ag),x.cps.toList.drop i=l->seen.length<=i->i<=x.cps.size->s.heap.IsStrIter I "str_ascii_iterator" x t i->pf (strKind prog w) s.heap S (iD seen) seen.length ->
   (∀(h':ed)(tk:Nat),(∀b o,b≠S->b≠I->s.heap.get? b=U o->h'.get? b=U o)->pf (strKind prog w) h' S (iD<|Pf.eV seen l) (Pf.eV seen l).length->R (.ok<|.ret .none) {s with heap:=h',toks:=tk}) ->
   hQ (b8 prog w) A (Code.builtin "set.update.loop" {pos:=[.ref S,.ref I]}) R s
 |[],i,seen,s,hl,p,D,a,n,h=>by
  refine mM F.entry_set_update_loop ?_;rw[xB F.plain_set_update_loop];have g:x.cps[i]?=Y:=by
   have:=List.drop_eq_nil_iff.mp hl
   rw[fC]at this;exact Array.getElem?_eq_none (by lia)
  refine av<|wpAny_pyNext_ascii_end y a g λh' B=>?_;refine cC ?_;refine h h' s.toks (λb o _ j r=>B b o j r) ?_;obtain⟨o,u,v,m,e,d⟩:=n;exact⟨o,u,v,m,B _ _ (ew f) e,d⟩
 |c::l,i,seen,s,hl,p,D,a,n,h=>by
  refine mM F.entry_set_update_loop ?_;rw[xB F.plain_set_update_loop];have M:x.cps.toList[i]?=U c:=by
   have:=eD (λq=>q[0]?) hl
   simpa using this
  have g:x.cps[i]?=U c:=by simpa using M
  have V:i<x.cps.size:=(Array.getElem?_eq_some_iff.mp g).1;refine av<|wpAny_pyNext_ascii_item a g λH L Ð=>?_;have Q:pf (strKind prog w) H S (iD seen) seen.length:=by
   obtain⟨o,u,v,m,e,d⟩:=n;exact⟨o,u,v,m,(Ð.2 S<|ew f).trans e,d⟩
  refine av<|eI<|eI<|av<|(strKind prog w).pyHash (k:=⟨#[c]⟩) (strKind_is prog w ⟨#[c]⟩ _) ?_;refine wpAny_setAddHashed_of (strKind_is prog w ⟨#[c]⟩ _) J Q (by lia) λG Ñ P=>?_
  refine cC ⟨plainId_quiet F.plain_set_update_loop _,?_⟩;have N:iD seen ⟨#[c]⟩=decide (c∈seen):=by
   unfold iD;rw[xA];simp
  have K:G.IsStrIter I "str_ascii_iterator" x t<|i+1:=by
   obtain⟨o,e,d⟩:=L;exact⟨o,(Ñ.2 I f).trans e,d⟩
  refine jR y f E l (i+1) (if c∈seen then seen else c::seen) _ ?_ ?_ (by lia) K ?_ λh' tk C T=>?_
  .have:=eD List.tail hl
   rw[List.tail_drop]at this;exact this
  .split
   .lia
   .simp;lia
  .refine SetOf_congr P (λk=>?_) ?_
   .by_cases hc:c∈seen
    .rw[b7 hc]
     unfold iD;rw[xA];simp only[BX,KO,cx];constructor
     .rintro(z|z)
      .exact z
      .exact⟨c,hc,z⟩
     .exact λz=>.inl z
    .rw[b0 hc]
     unfold iD;rw[mP,Bool.or_comm]
   .rw[N]
    by_cases hc:c∈seen
    .rw[bt hc,b7 J,b7 hc]
    .rw[a9 hc,b0 ia,b0 hc];rfl
  .exact h h' tk (λb o Ò j r=>C b o Ò j<|(Ñ.2 b Ò).trans<|(Ð.2 b j).trans r) T
def qZ{A:dA}{E:ar->ag->Prop}{s:ag}{x:Str}{t:Tok}{Q:ar->ag->Prop}(B:A.handled=Y)(D:x.cps.all (· < 128)=O)(C:x.cps.size+1<ox)
  (h:∀h' tk,(∀b o,s.heap.get? b=U o->h'.get? b=U o)->pf (strKind prog w) h' s.heap.objs.size (iD<|Pf.eV [] x.cps.toList) (Pf.eV [] x.cps.toList).length->Q (.ref s.heap.objs.size) {s with heap:=h',toks:=tk}) :
  cv (b8 prog w) A (call (.type "set") [.str x t]) Q E s:=by
 obtain⟨i,g,d,Ó,os⟩:=s;obtain⟨c,tl,y⟩:=F.called_set.mro;refine fv<|vu ?_;refine cC ⟨i5 _<|by decide +kernel,mM F.entry_type_call ?_⟩
 rw[y6 (He _ _ _) J];unfold Builtin.«type.__call__»;dsimp only;refine mI ?_ ?_
 .rw[F.called_set.notType];rfl
 refine mI ?_ ?_
 .rw[F.called_set.canCreate];rfl
 refine av<|pv (F.typeCall_set_1 _) ?_;refine av<|pv y ?_;refine mI J ?_;refine av<|pv F.called_set.made ?_;refine av<|cC ?_;refine av<|eI<|fv<|fA (code_set_new_1 (E:=λ_ _=>False) (Q₁:=λv q=>∃a,v=.ref i.objs.size/\q=⟨i.push {cls:=.type "set",data:=.set #[] 0 (SetTable.fresh 0 0 a)},g,d,Ó,os⟩) (.str x t) λa=>⟨a,J,J⟩) ?_;intro r G j;cases r with
 |error e=>exact j.elim
 |ok f=>
  cases f with
  |next=>exact j.elim
  |brk=>exact j.elim
  |cont=>exact j.elim
  |ret v=>
   obtain⟨a,rfl,rfl⟩:=j;have n:=de i (o:={cls:=.type "set",data:=.set #[] 0 (SetTable.fresh 0 0 a)}) J;have k:Shared.TypeIs ⟨i.push {cls:=.type "set",data:=.set #[] 0 (SetTable.fresh 0 0 a)},g,d,Ó,os⟩ (.ref i.objs.size) "set" := ⟨_,n,J⟩;refine av<|wpAny_isInstance k F.called_set.sub ?_;refine mI J ?_;refine av<|eI ?_;unfold callSpecial?;refine av<|wpAny_specialOf k F.called_set.init.lookup ?_;dsimp only;refine eI<|av<|pv (F.called_set.init.bind _) ?_;dsimp only;refine av<|fv<|eJ F.called_set.init.plain F.entry_set_init<|check_set_init_1 k ?_;have Ô:=F.sub_str_set;have Õ:=F.sub_str_frozenset
   wp_walk using wpAny_pyIter_ascii D
   have m:(i.push {cls:=.type "set",data:=.set #[] 0 (SetTable.fresh 0 0 a)}).objs.size=i.objs.size+1:=ih ..;refine jR (A:=A.in1.in1) (x:=x) (t:=t) (show A.in1.in1.in1.handled=Y from B) ?_ C x.cps.toList 0 [] _ B8 (i_ _) (i_ _) ?_ ?_ λh' tk z u=>?_
   .show(i.push _).objs.size≠i.objs.size
    rw[m];lia
   .exact⟨_,de _ J,J,J⟩
   .refine SetOf_congr ((setObjOf_fresh a).setOf (ax _ n)<|by decide) (λ_=>J) J
   .refine cC<|cC<|cC<|mI J<|cC ?_
    refine h h' tk (λb o l=>?_) u;have p:b<i.objs.size:=b9 l;refine z b o (dO p) ?_<|ax _<|ax _ l;show b≠(i.push _).objs.size;rw[m];exact dO<|Co p
end
section
variable{X:Cx}{a:cb}{p p1 pos kD:Pos}{ta:TE}
def AR(F:X.calm=O)(XO:X.mg "len" = Y)(XS:X.mg "set" = Y)(G:PE X a ta)(Q0:Gl X "len" := by rfl)(Z:Gl X "set" := by rfl)
  (l:cw [a] X.env=(Zn,e6 a X.env)::cw [] X.env:=by rfl) (hpl:(hB kD<|cw [] X.env).any (·.1)=Zn:=by rfl)
  (y:cw [.Call (.Name "set" p1) [a] [] kD] X.env=(Zn,e6 (.Call (.Name "set" p1) [a] [] kD) X.env)::cw [] X.env:=by rfl) (W:(hB pos<|cw [] X.env).any (·.1)=Zn:=by rfl) :
  PE X (.Call (.Name "len" p) [.Call (.Name "set" p1) [a] [] kD] [] pos) λc H Q=>ta c H λv H1=>∃z:Str,v=.str z/\z.cps.all (· < 128)=O/\z.cps.size+1<ox/\Q (.int ((Pf.eV [] z.cps.toList).length:Nat)) H1:=by
 intro x s c H Q I h;have b:cv (b8 X.prog X.w) X.A (e6 (.Call (.Name "set" p1) [a] [] kD) X.env) (λu k=>∃(D:bp)(n:Nat)(S:Str->Bool)(H1:Hp),u=.ref D/\Inv X x c H1 k/\pf (strKind X.prog X.w) k.heap D S n/\n<ox/\Q (.int (n:Nat)) H1) X.xe s:=by
  have K:=(bf G dc l) kD x s c H (λj H1=>∃z:Str,j=[.str z]/\z.cps.all (· < 128)=O/\z.cps.size+1<ox/\Q (.int ((Pf.eV [] z.cps.toList).length:Nat)) H1) I (by
   show ta c H _;exact cast (eD (ta c H)<|yj λv=>yj λH1=>propext ⟨by rintro⟨z,e,q⟩;exact⟨z,by rw[e],q⟩,λ⟨z,e,q⟩=>⟨z,(by cases e;rfl),q⟩⟩) h)
  refine ek<|iz I Z XS PyProof.Rows.boot_set<|xV (cK K λus i g=>?_) l hpl;obtain⟨j,H1,f,C,q1⟩:=g;obtain⟨z,rfl,Ţ,ţ,q⟩:=q1;obtain⟨u,rfl,⟨t,rfl⟩⟩:=C.one;refine qZ (f.ok.hd F) Ţ ţ λh' tk E d=>?_;have m:(Pf.eV [] z.cps.toList).length<ox:=by
   obtain⟨o,L,M,B,_,_,_,_,_,P,_,r⟩:=d
   lia
  exact⟨_,_,_,H1,J,f.kept (t':=tk) E,d,m,q⟩
 refine ek<|iz I Q0 XO ti<|Le ?_ y W;rw[y];refine z3<|cK b λu i g=>?_;obtain⟨D,n,S,H1,e,f,d,m,q⟩:=g;subst e;refine cC ?_;obtain⟨o,L,M,B,V,T,R,e4,e5,P,N,r⟩:=d;have Å:ox=4096:=J;refine call_len_set V T R N (by lia) ⟨.int (n:Nat),H1,f.kept (t':=i.toks+1+1) λ_ _ z=>z,⟨i.toks+1,?_⟩,q⟩
 rw[r]
end
end L2
namespace PySem
open Sem (wp)
open AutoSeq1 (wpAny_loadPart')
section
variable{prog:cW}{w:c4}{A:dA}{E:ar->ag->Prop}{s:ag}
set_option maxHeartbeats 4000000 in
def iE(l:bp)(items:Array ar)(n:Nat)(gF:Option bp)(sl:Array D2)(t:Tok) :
  Meets (Builtin.«enumerate.__new__» ⟨[.type "enumerate",.ref l],[(g_ "start",.int 1 t)]⟩) λ_ R s=>s.heap.get? l=U {cls:=.type "list",dict:=gF,data:=.seq items n,slots:=sl} /\
   R (.ok<|.ret<|.ref (s.heap.push {cls:=.type "list_iterator",data:=.fields #[.ref l,.int 0 0]}).objs.size)
    {s with heap:=(s.heap.push {cls:=.type "list_iterator",data:=.fields #[.ref l,.int 0 0]}).push {cls:=.type "enumerate",data:=.fields #[.none,.bool Zn,.ref s.heap.objs.size,oW 1,.none,.none]}}:=
 .of_wp λprog w A R s h=>by
  obtain⟨hp,g,d,tk,os⟩:=s;obtain⟨hl,h⟩:=h;have XW:=sub_enumerate;have hL:Heap.IsList (Shared.heap ⟨hp,g,d,tk,os⟩) l items:=⟨_,hl,J,n,J⟩
  wp_walk using o7 hl
  refine wpAny_stack_any λst=>cC ?_;split
  .rename_i c _ _ _ _ _
   cases(c == n4 "enumerate")
   .wp_walk using o7 hl,ip hL
    exact⟨_,J,h⟩
   .wp_walk using o7 hl,ip hL
    exact⟨_,J,h⟩
  .wp_walk using o7 hl,ip hL
   exact⟨_,J,h⟩
def je{T newId:String}{self:ar}{rest:B2}{b:List<|Str×ar}(hl:sT (.type T) "__init__" = pure (U<|.builtin "object.__init__"))
  (f:Bind.madeBy (.type T)=pure (U newId)) (e:(U newId != U "object.__new__")=O) :
  Meets (Builtin.«object.__init__» ⟨self::rest,b⟩) λ_ R s=>s.TypeIs self T/\R (.ok<|.ret .none) s:=by
 refine Meets.of_wp λprog w A R s d=>?_;obtain⟨g,c⟩:=d;cases rest with
 |nil=>
  cases b with
  |nil=>exact cC ⟨_,J,c⟩
  |cons a b=>
   repeat (any_goals (first|assumption|wp_step))
   exact⟨_,J,c⟩
 |cons a rest=>
  repeat (any_goals (first|assumption|wp_step))
  exact⟨_,J,c⟩
def iF(a b:ar):checkTypeCall "enumerate" ⟨[a],[(g_ "start",b)]⟩=pure ():=by kernel_rfl
def i0(a b:ar):ll "enumerate.__new__" ⟨[.type "enumerate",a],[(g_ "start",b)]⟩=pure ():=by kernel_rfl
def tQ(o a b:ar):argsOk "object.__init__" ⟨[o,a],[(g_ "start",b)]⟩:=by
 unfold argsOk;rw[signature?_of (id := "object.__init__") (n:=['_','_','t','i','n','i','_','_']) (o:=['t','c','e','j','b','o']) (by kernel_rfl) F.owner_object];kernel_rfl
set_option maxHeartbeats 4000000 in
def kE{l:bp}{items:Array ar}{t:Tok}{Q:ar->ag->Prop}(hL:s.heap.IsList l items)
  (h:∀h',IsEnum h' (s.heap.objs.size+1) s.heap.objs.size 1 .none->h'.IsListIter s.heap.objs.size l 0->h'.objs.size=s.heap.objs.size+2 ->
   (∀b o,s.heap.get? b=U o->h'.get? b=U o)->Q (.ref<|s.heap.objs.size+1) {s with heap:=h'}) :
  cv (b8 prog w) A (call (.type "enumerate") [.ref l] [(g_ "start",.int 1 t)]) Q E s:=by
 obtain⟨⟨c,gF,dt,sl⟩,hl,hc,n,hd⟩:=hL
 replace hc:c=.type "list" := hc
 replace hd:dt=.seq items n:=hd
 subst hc hd;have ft:=F.called_enumerate;obtain⟨c,tl,Ť⟩:=ft.mro;have Ö:=ft.made;have XW:=ft.sub;have hct:=iF (.ref l)<|.int 1 t;have ť:=i0 (.ref l)<|.int 1 t;refine fv<|vu ?_;show cv _ _ (callAny (.type "enumerate") _) _ _ _;refine cC ⟨i5 _<|by decide +kernel,mM F.entry_type_call ?_⟩
 rw[y6 (He "enumerate" _ _)<|units_type_call_type "enumerate" _ _];have h1:=ft.notType;have h2:=ft.canCreate
 repeat (any_goals (first|assumption|wp_step))
 have hz:(s.heap.push {cls:=.type "list_iterator",data:=.fields #[.ref l,.int 0 0]}).objs.size=s.heap.objs.size+1:=ih ..;have he:IsEnum ((s.heap.push {cls:=.type "list_iterator",data:=.fields #[.ref l,.int 0 0]}).push
   {cls:=.type "enumerate",data:=.fields #[.none,.bool Zn,.ref s.heap.objs.size,oW 1,.none,.none]}) (s.heap.objs.size+1) s.heap.objs.size 1 .none:=by
  have:=de (s.heap.push {cls:=.type "list_iterator",data:=.fields #[.ref l,.int 0 0]})
   (o:={cls:=.type "enumerate",data:=.fields #[.none,.bool Zn,.ref s.heap.objs.size,oW 1,.none,.none]}) J
  rw[hz]at this;exact this
 have fin:=h _ he ⟨_,ax _<|de _ J,J,J⟩ (by rw[ih,hz]) λb o x=>ax _<|ax _ x
 refine fA (eJ ft.plain F.entry_enumerate_new<|pv ť<|iE l items n gF sl t prog w A.in1 (wants (λobj s₁=>s₁.TypeIs obj "enumerate" /\ Q obj s₁) E) s ⟨hl,?_⟩) λr s₁ hr=>?_
 .show _/\_
  rw[hz];exact⟨⟨_,he,J⟩,fin⟩
 cases r with
 |error e=>exact hr
 |ok fl=>
  cases fl with
  |ret obj=>
   obtain⟨hT,hq⟩:=hr;have SA:=ft.init.lookup;have hbi:=ft.init.bind obj
   repeat (any_goals (first|assumption|wp_step))
   refine fA (eJ ft.init.plain F.entry_object_init<|ft.init.check _ _ _ _ _ _ _ _ hT (tQ _ _ _)<|je ft.init.lookup ft.made (by decide) prog w A.in1 (wants (λr s₂=>r=.none/\Q obj s₂) E) s₁ ⟨hT,J,hq⟩) λr₂ s₂ hr₂=>?_
   cases r₂ with
   |error e=>exact hr₂
   |ok fl₂=>
    cases fl₂ with
    |ret r=>
     obtain⟨rfl,hq⟩:=hr₂
     repeat (any_goals (first|assumption|wp_step))
    |_=>exact hr₂.elim
  |_=>exact hr.elim
end
end PySem
namespace L2
open PySem PySem.Spec PyProof.Rows
def DE{prog:cW}{w:c4}{A:dA}{it:bp}{b:BM}{n:Nat}{P:Nat->ar->Prop}{St:Nat->ed->Prop}(D:Draws prog w A it b n P St)(m:Nat):Draws prog w A it b (m+n) (λj x=>∃i,j=m+i/\P i x) λj h=>∃i,j=m+i/\St i h where
 live:=λ_ h ⟨i,_,st⟩=>D.live i h st
 frame:=λ_ h a ⟨i,e,st⟩ k=>⟨i,e,D.frame i h a st k⟩
 item:=λj s Q E l ⟨i,e,st⟩ f=>D.item i s Q E (by lia) st λx a tk p c d=>f x a tk ⟨i,e,p⟩ ⟨i+1,by lia,c⟩ d
 done:=λs Q E ⟨i,e,st⟩ g=>by
  have:i=n:=by lia
  subst this;exact D.done s Q E st g
def SD(K:a_)(m:Nat)(l:bp)(xs:List V):It:=
 ⟨λi H=>i<xs.length/\dM K H l xs,λi H v a=>∃p x,H p=Y/\xs[i]?=U x/\v=.ref p/\a=upd H p (.tup [.int ((m+i:Nat):Int),x]),λi H=>i=xs.length/\dM K H l xs⟩
def nj{P:cW}{w:c4}{K:a_}{z:Bz}{x1:Nat}{pos:Pos}{l e it:bp}{xs:List V}{m:Nat}(XX:e≠it)(hle:l≠e)(SA:l≠it) :
  Turn P w K (.Tuple z x1 pos) (SD K m l xs) [e,it] e λi h=>(∃old,IsEnum h e it ((m+i:Nat):Int) old)/\h.IsListIter it l i where
 mem:=by simp
 obj:=λi h st b a=>by
  obtain⟨⟨old,g⟩,o1,e1,_,d1⟩:=st;simp only[bu,o_,nL]at a;rcases a with rfl|rfl
  .exact⟨_,g,λv q=>by cases q⟩
  .exact⟨o1,e1,λv q=>by rw[d1]at q;cases q⟩
 keep:=λi h L st k=>by
  obtain⟨⟨old,g⟩,y⟩:=st;exact⟨⟨old,k e (by simp) _ g⟩,y.at λo q=>k it (by simp) o q⟩
 item:=by
  intro X hP R hK j i aa s σ H E I f st hg;subst hP R hK;obtain⟨G,T⟩:=hg;obtain⟨⟨old,g⟩,y⟩:=st;obtain⟨aG,C,N,S⟩:=I.list T;obtain⟨u,hu,ru⟩:=C.get<|fH G;have We:i<aG.toArray.size:=by rw[cP,<- C.length];exact G
  have D:=DE (Draws.list (prog:=X.prog) (w:=X.w) (A:=X.A.in1) (I.ok.hd j) it l SA aG.toArray) m;refine wpAny_pyNext_enum_itemD (n:=m+aG.toArray.size) D g ⟨i,J,y,N.isList⟩ (by lia) XX (by simp only[bu,o_,nL,not_or];exact⟨XX,ew hle⟩) λx L tk F a1 a2 a3 a4 Q=>?_
  obtain⟨p,ei,F⟩:=F
  have:p=i:=by lia
  subst this;have hx:x=u:=by
   rw[List.getElem?_toArray,hu]at F;exact(mO.inj F).symm
  subst hx;obtain⟨i2,ei2,a2,_⟩:=a2
  have:i2=p+1:=by lia
  subst this;refine⟨.ref s.heap.objs.size,J,?_⟩;refine wpAny_letOwnedTupleGo_enum (s:={s with heap:=L,toks:=tk+1}) a1 λM b1 b2=>?_
  have lt:∀{d o},s.heap.get? d=U o->s.heap.objs.size≠d:=λe=>As<|b9 e;have Ŧ:∀b∈[e,it],s.heap.objs.size≠b:=λb a=>by
   obtain⟨o1,e1,_⟩:=y;simp only[bu,o_,nL]at a;rcases a with rfl|rfl
   .exact lt g
   .exact lt e1
  have keep:∀b o,b∉[e,it]->s.heap.get? b=U o->M.get? b=U o:=λb o a q=>by
   simp only[bu,o_,nL,not_or]at a;exact(b2.2 b a.1).trans<|Q b o a.1 a.2 q
  have t:H s.heap.objs.size=Y:=I.bj.fresh<|dS _;have hT:M.get? s.heap.objs.size=U {cls:=.type "tuple",data:=.seq #[.int ((m+p:Nat):Int) tk,x]}:=(b2.2 _<|lt g).trans a3;have SE:IsTup M s.heap.objs.size ([.int ((m+p:Nat):Int) tk,x]:B2).toArray:=⟨_,hT,J,0,J⟩;have B:∀b v,H b=U v->b∉[e,it]:=λb v q a=>by rw[(f b a).1]at q;cases q
  have I1:Inv X aa σ (upd H s.heap.objs.size<|.tup [.int ((m+p:Nat):Int),xs[p]]) {s with heap:=M,toks:=tk+1}:=by
   refine I.step (g':=s.gens) (d':=s.drawn) (t':=tk+1) (ch:=[e,it]) (λb a=>⟨(f b a).2.2.2.1,(f b a).2.1,(f b a).2.2.2.2.1,(f b a).2.2.2.2.2⟩) (λb o _ _ a e _=>keep b o a e) (λb o _ _ a e _=>⟨o.slots,keep b o a e⟩)
    (λb o a e n=>by rw[af<|ew<|lt e];exact n) (λb o a e=>⟨o,keep b o a e⟩) (λb ys e=>by rw[af<|aJ e t];exact e) (λb o v e=>by rw[af<|aJ e t];exact e)
    (λb ps e=>⟨#[],by rw[af<|aJ e t,e];simp⟩) (λm Z=>?_) ?_ I.bare
   .obtain⟨o,es,ep,W,r⟩:=Z
    exact⟨o,es,ep,keep _ o (λa=>(f _ a).2.1 J) W,r⟩
   .intro b v e
    by_cases a:b=s.heap.objs.size
    .subst a
     rw[ao]at e;cases e;exact⟨by show 2<=cq;decide,_,.cons ⟨_,J⟩<|.cons ru .nil,SE⟩
    .rw[af a]at e
     refine(I.bj b v e).mR (λc o j q=>keep c o ?_ q) (λc q=>by rw[af<|aJ q t];exact q) λc ys q=>by rw[af<|aJ q t];exact q
     rcases j with rfl|j
     .exact B c v e
     .exact B c _ j
  have eN:((m+p:Nat):Int)+1=((m+(p+1):Nat):Int):=by lia
  refine⟨.ref s.heap.objs.size,_,I1,J,⟨_,_,t,fH G,J,J⟩,⟨⟨x,eN▸b1⟩,a2.at λo q=>(b2.2 it XX.symm).trans q⟩,λb a=>?_⟩;rw[af<|ew<|Ŧ b a];exact(f b a).1
 done:=by
  intro X hP R hK j i aa s σ H E I f st hg;subst hP R hK;obtain⟨G,T⟩:=hg;obtain⟨⟨old,g⟩,y⟩:=st;obtain⟨aG,C,N,S⟩:=I.list T;have hl:=C.length;have D:=DE (Draws.list (prog:=X.prog) (w:=X.w) (A:=X.A.in1) (I.ok.hd j) it l SA aG.toArray) m;refine wpAny_pyNext_enum_endD (n:=m+aG.toArray.size) D g ⟨i,by rw[cP];lia,y,N.isList⟩ λL Q=>⟨J,?_⟩
  have B:∀b v,H b=U v->b∉[e,it]:=λb v q a=>by rw[(f b a).1]at q;cases q
  have keep:∀b o,b∉[e,it]->s.heap.get? b=U o->L.get? b=U o:=λb o a q=>by
   simp only[bu,o_,nL,not_or]at a;exact Q b o a.2 q
  refine I.step (g':=s.gens) (d':=s.drawn) (t':=s.toks) (ch:=[e,it]) (λb a=>⟨(f b a).2.2.2.1,(f b a).2.1,(f b a).2.2.2.2.1,(f b a).2.2.2.2.2⟩) (λb o _ _ a e _=>keep b o a e) (λb o _ _ a e _=>⟨o.slots,keep b o a e⟩)
   (λb o a e n=>n) (λb o a e=>⟨o,keep b o a e⟩) (λ_ _ e=>e) (λ_ _ _ e=>e) (λb ps e=>⟨#[],by rw[e];simp⟩) (λm Z=>?_) (λb v e=>?_) I.bare
  .obtain⟨o,es,ep,W,r⟩:=Z
   exact⟨o,es,ep,keep _ o (λa=>(f _ a).2.1 J) W,r⟩
  .refine(I.bj b v e).mR (λc o j q=>keep c o ?_ q) (λ_ q=>q) λ_ _ q=>q
   rcases j with rfl|j
   .exact B c v e
   .exact B c _ j
 self:=λ_ _ _ _ _ st h=>by obtain⟨⟨old,g⟩,_⟩:=st;exact td g h
section
variable{X:Cx}
def NJ(K:a_)(m:Nat)(ta:TA):TI:=λa H R=>ta a H λb H1=>∃l xs,b=[.ref l]/\dM K H1 l xs/\R (SD K m l xs) H1
def SH{a:cb}{ta:TA}{d:Bz}{n:Nat}{v p pos:Pos}(z:Gl X "enumerate")(y:X.mg "enumerate" = Y)(A:PA X [a] ta)(w:cw [a] X.env=[(Zn,e6 a X.env)]) :
  PI X (.Tuple d n v) (.Call (.Name "enumerate" p) [a] [] pos)<|NJ X.K 0 ta:=by
 intro C s k H R I h;refine Call_<|iz I z y Lh<|xV (cK (A pos C s k H _ I h) λE c m=>?_) (by rw[w];rfl) J
 obtain⟨D,H1,I1,r,q1⟩:=m;obtain⟨l,xs,e,x,q⟩:=q1;subst e;obtain⟨u,rfl,o⟩:=vals1 r;cases o;obtain⟨aG,F,g,G⟩:=I1.list x;refine call_enumerate_list g.isList λB a1 a2 _ t=>td (s:={c with heap:=B}) a1 ?_
 have i:l<c.heap.objs.size:=let⟨_,e,_⟩:=g.isList;b9 e;refine⟨c.heap.objs.size+1,_,_,_,H1,J,I1.kept (t':=c.toks) t,nj (l:=l) (it:=c.heap.objs.size) (As<|mQ _) (dO<|Co i)<|dO i,⟨⟨_,a1⟩,a2⟩,λb j=>?_,q⟩;have f:c.heap.objs.size<=b:=by
  simp only[bu,o_,nL]at j;rcases j with rfl|rfl
  .exact fk _ _
  .exact dS _
 exact I1.vI f<|I1.bj.fresh f
def NK{a:cb}{ta:TA}{d:Bz}{w k1:Nat}{A p pos j kp:Pos}(D:Gl X "enumerate")(C:X.mg "enumerate" = Y)(E:PA X [a] ta)(n:cw [a] X.env=[(Zn,e6 a X.env)]) :
  PI X (.Tuple d w A) (.Call (.Name "enumerate" p) [a] [⟨U<|g_ "start",.Constant (.int 1) k1 j,kp⟩] pos)<|NJ X.K 1 ta:=by
 intro r s f H R I h;refine ek<|iz I D C Lh ?_;refine PySem.W.callWith_of (P:=λ_=>True) (by rw[n];rfl) (λh _=>⟨.machine,.inr<|.inl J,.now⟩) ?_
 refine PyProof.Rows.evalArgs_kw2 J (cK (E pos r s f H _ I h) λM c t=>?_) n;obtain⟨L,H1,G,y,q1⟩:=t;show cv _ _ (evalAll [(do let v <- e6 (.Constant (.int 1) k1 j) X.env;tf pos;pure v)]) _ _ c
 refine wpAny_evalAll_cons<|av<|wpAny_Constant_int<|av<|hZ<|cC<|wpAny_evalAll_nil ⟨trivial,?_⟩;obtain⟨l,xs,e,B,q⟩:=q1;subst e;obtain⟨u,rfl,x⟩:=vals1 y;cases x;have I2:Inv X r f H1 {c with toks:=c.toks+1}:=G.tok _
 obtain⟨aG,N,i,Q⟩:=I2.list B;show cv _ _ (call (.type "enumerate") [.ref l] [(g_ "start",.int 1 c.toks)]) _ _ {c with toks:=c.toks+1}
 refine kE i.isList λF a1 a2 _ z=>td (s:={c with heap:=F,toks:=c.toks+1}) a1 ?_
 have k:l<c.heap.objs.size:=let⟨_,e,_⟩:=i.isList;b9 e;refine⟨c.heap.objs.size+1,_,_,_,H1,J,I2.kept (t':=c.toks+1) z,nj (m:=1) (l:=l) (it:=c.heap.objs.size) (As<|mQ _) (dO<|Co k)<|dO k,⟨⟨_,a1⟩,a2⟩,λb o=>?_,q⟩;have g:c.heap.objs.size<=b:=by
  simp only[bu,o_,nL]at o;rcases o with rfl|rfl
  .exact fk _ _
  .exact dS _
 exact I2.vI g<|I2.bj.fresh g
end
end L2
namespace D
inductive Ky where
 |i (n:Int)|s (l:B1)
 deriving DecidableEq
inductive T where
 |non|bl (b:Bool)|int (i:Int)|str (l:B1)|tup (xs:List T)|lst (xs:List T)
 |scr (ns:Ee)
 |obj (c:Nat) (fs:List T)
 |own (k:Nat)
 |gF (ks:List Ky) (vs:List T)
inductive C where
 |val (t:T)|ol (ts:List T)|od (ks:List Ky) (vs:List T)
 |yg (t:T)
structure Ob where
 c:Nat
 fs:List C
structure S where
 r:List<|Option C
 m:List Ob
abbrev Fs:=List<|Option C
abbrev FC:=Option<|List T
abbrev FK:=List T
abbrev FR:=Option T
abbrev FV:=List Ob
inductive Res(α:Type) where
 |ok (a:α)|bad
 |exc (c:Nat) (fs:FK) (s:S)
def Res.bind{α b:Type}(x:Res α)(f:α->Res b):Res b:=match x with
 |.ok a=>f a
 |.bad=>.bad
 |.exc c fs s=>.exc c fs s
def ae{α d:Type}{x:Res α}{f:α->Res d}{b:d}(h:x.bind f=.ok b):∃a,x=.ok a/\f a=.ok b:=by
 cases x with
 |ok a=>exact⟨a,J,h⟩
 |bad=>cases h
 |exc c fs s=>cases h
def dG{α:Type}:Option α->Res α
 |some a=>.ok a
 |none=>.bad
def au{α:Type}{o:Option α}{a:α}(h:dG o=.ok a):o=U a:=by
 cases o with
 |none=>cases h
 |some b=>cases h;rfl
def gd{α:Type}(p:Prop)[Decidable p](x:α):Option α:=if p then U x else Y
def bG{α:Type}{p:Prop}[Decidable p]{x a:α}(h:gd p x=U a):p/\x=a:=by
 unfold gd at h;split at h
 .rename_i q;cases h;exact⟨q,J⟩
 .cases h
abbrev FE:=S->Res (T×S)
abbrev FT:=S->Res (Bool×S)
abbrev FL:=S->Res (FK×S)
inductive Out where
 |nx|rt (t:T)|bk|ct
abbrev FS:=S->Res (Out×S)
abbrev Fn:=FK->FV->Res (T×FV)
def SI:T->T->FR
 |.int i,.int j=>U<|.int<|i+j
 |.str a,.str b=>gd (a.length+b.length<=1000000)<|.str<|a++b
 |.lst a,.lst b=>gd (a.length+b.length<=1000000)<|.lst<|a++b
 |_,_=>Y
def SJ:T->T->FR
 |.int i,.int j=>U<|.int<|i-j
 |_,_=>Y
def XY:T->T->FR
 |.int i,.int j=>gd (((-(2^64)<i/\i<2^64)\/(-(2^64)<j/\j<2^64))\/(i.natAbs.log2<2000000/\j.natAbs.log2<2000000))<|.int<|i*j
 |.lst a,.int k=>gd (k<1000000/\-1000000<k/\a.length*k.toNat<=1000000)<|.lst (dN k.toNat a).flatten
 |.str a,.int k=>gd (2<=k/\k<1000000/\a≠[]/\a.length*k.toNat<=1000000)<|.str (dN k.toNat a).flatten
 |_,_=>Y
def SK:T->T->FR
 |.int i,.int j=>gd (0<j/\j<1073741824)<|.int<|i/j
 |_,_=>Y
def SM:T->T->FR
 |.int i,.int j=>gd (0<j)<|.int<|i % j
 |_,_=>Y
def SN:T->T->FR
 |.int i,.int j=>gd (0<=j/\j<=1000000/\i.natAbs<2^64)<|.int<|i^j.toNat
 |_,_=>Y
def q_:T->FR
 |.int i=>U<|.int<|-i
 |_=>Y
def DF(f:Int->Int->Bool):T->T->FR
 |.int i,.int j=>U<|.bl<|f i j
 |_,_=>Y
mutual
def eqT:T->T->Bool
 |.non,.non=>O
 |.bl a,.bl b=>a == b
 |.int a,.int b=>decide<|a=b
 |.bl a,.int b=>decide<|(if a then 1 else 0:Int)=b
 |.int a,.bl b=>decide<|a=(if b then 1 else 0:Int)
 |.str a,.str b=>decide<|a=b
 |.tup a,.tup b=>iG a b
 |.lst a,.lst b=>iG a b
 |.scr a,.scr b=>decide<|a=b
 |.obj c a,.obj d b=>decide (c=d)&&iG a b
 |.own a,.own b=>decide<|a=b
 |.gF ks a,.gF ls b=>decide (ks=ls)&&iG a b
 |_,_=>Zn
def iG:FK->FK->Bool
 |[],[]=>O
 |a::as,b::bs=>eqT a b&&iG as bs
 |_,_=>Zn
end
mutual
theorem tR:∀t:T,eqT t t=O
 |.non=>J
 |.bl b=>by cases b<;>rfl
 |.int i=>bt J
 |.str l=>bt J
 |.tup xs=>gG xs
 |.lst xs=>gG xs
 |.scr ns=>bt J
 |.obj c xs=>by
  show(decide (c=c)&&iG xs xs)=O;rw[bt J,gG xs];rfl
 |.own k=>bt J
 |.gF ks xs=>by
  show(decide (ks=ks)&&iG xs xs)=O;rw[bt J,gG xs];rfl
theorem gG:∀ts:FK,iG ts ts=O
 |[]=>J
 |t::ts=>by
  show(eqT t t&&iG ts ts)=O;rw[tR t,gG ts];rfl
end
def cM:T->Bool
 |.bl _=>O
 |.int _=>O
 |.str _=>O
 |.non=>O
 |_=>Zn
def all2(p:T->T->Bool):FK->FK->Bool
 |a::as,b::bs=>p a b&&all2 p as bs
 |_,_=>O
def shape:Nat->T->T->Bool
 |n+1,.tup as,.tup bs=>all2 (shape n) as bs
 |n+1,.lst as,.lst bs=>all2 (shape n) as bs
 |_,a,b=>cM a&&cM b
def Ø:T->T->FR:=λa b=>gd (shape 5 a b=O)<|.bl<|eqT a b
def XZ:T->T->FR:=λa b=>gd (shape 5 a b=O)<|.bl<|!eqT a b
def DG:T->Bool
 |.non=>O
 |_=>Zn
def SO(p:Bool)(x y:T):FR:=match y with
 |.non=>U<|.bl<|p == DG x
 |.bl b=>(match x with
  |.bl a=>U<|.bl<|p == (a == b)
  |_=>Y)
 |_=>Y
def X0:B1->B1->Bool
 |[c],l=>decide<|c∈l
 |x,l=>(gk<|l.length+1).any λi=>decide (i+x.length<=l.length)&&((l.drop i).take x.length == x)
def GY(x y:T):Option Bool:=match y with
 |.str l=>(match x with
  |.str x=>U<|X0 x l
  |_=>Y)
 |.tup ys=>gd (cM x=O/\ys.all cM=O)<|ys.any λy=>eqT y x
 |.lst ys=>gd (cM x=O/\ys.all cM=O)<|ys.any λy=>eqT y x
 |_=>Y
def inD:T->T->FR:=λx y=>(GY x y).map .bl
def NL:T->T->FR:=λx y=>(GY x y).map λb=>.bl<|!b
def atT{α:Type}(xs:List α)(i:Int):Option α:=if 0<=i then(if i<xs.length then xs[i.toNat]? else Y)else if -(xs.length:Int)<=i then xs[(i+xs.length).toNat]? else Y
def SQ(ks:List Ky)(vs:FK)(k:Ky):FR:=match ks,vs with
 |a::ks,v::vs=>if a=k then U v else SQ ks vs k
 |_,_=>Y
def putK:List Ky->FK->Ky->T->List Ky×FK
 |a::ks,v::vs,k,t=>if a=k then(a::ks,t::vs)else let p:=putK ks vs k t;(a::p.1,v::p.2)
 |_,_,k,t=>([k],[t])
def DH:T->Option Ky
 |.int i=>U<|.i i
 |.str l=>U<|.s l
 |_=>Y
def ŧ:T->T->FR
 |.lst xs,.int i=>atT xs i
 |.tup xs,.int i=>atT xs i
 |.str l,.int i=>(atT l i).map λc=>.str [c]
 |.scr ns,.int i=>(atT ns i).map .int
 |.gF b a,x=>(DH x).bind<|SQ b a
 |_,_=>Y
def NN:T->FR
 |.str l=>U<|.int l.length
 |.tup xs=>U<|.int xs.length
 |.lst xs=>U<|.int xs.length
 |.scr ns=>U<|.int ns.length
 |.gF a _=>U<|.int a.length
 |_=>Y
def f9(n d:Nat):Dx->Nat
 |none=>d
 |some v=>if v<0 then(v+(n:Int)).toNat else min v.toNat n
def cj{α:Type}(xs:List α)(lo a:Dx):List α:=(xs.drop<|f9 xs.length 0 lo).take<|f9 xs.length xs.length a-f9 xs.length 0 lo
def NO(lo a:Dx):T->FR
 |.str l=>U<|.str<|cj l lo a
 |.lst l=>U<|.lst<|cj l lo a
 |.scr ns=>U<|.lst<|(cj ns lo a).map .int
 |_=>Y
def HR:T->Option Bool
 |.bl b=>U b
 |.lst ts=>U<|!ts.isEmpty
 |_=>Y
def strsOf:FK->Option Ap
 |[]=>U []
 |.str l::ts=>(strsOf ts).map (l::·)
 |_=>Y
def fP(c:B1):Ap->B1
 |[]=>[]
 |[a]=>a
 |a::b::r=>a++c++fP c (b::r)
def LC:T->T->FR
 |.str a,.lst ts=>(strsOf ts).bind λys=>gd ((ys.map (·.length)).sum+ys.length*a.length<=1000000)<|.str<|fP a ys
 |_,_=>Y
def pre(s l:B1):Bool:=decide (s.length<=l.length)&&(l.take s.length == s)
def v9(s l:B1):Bool:=decide (s.length<=l.length)&&(l.drop (l.length-s.length) == s)
def boolsOf:FK->Option Fm
 |[]=>U []
 |.bl b::ts=>(boolsOf ts).map (b::·)
 |_=>Y
def NP:T->FR
 |.lst ts=>(boolsOf ts).map λbs=>.bl<|bs.all id
 |_=>Y
def HS:T->FR
 |.lst ts=>(boolsOf ts).map λbs=>.bl<|bs.any id
 |_=>Y
def LD:T->FR
 |.lst a=>U<|.lst a
 |.tup a=>U<|.lst a
 |_=>Y
def bO:FE:=λ_=>.bad
def cF(t:T):FE:=λs=>.ok (t,s)
def iR(s:S)(i:Nat)(c:C):S:={s with r:=s.r.set i (U c)}
def vF(i:Nat):FE:=λs=>match s.r[i]? with
 |U<|U<|.val t=>.ok (t,s)
 |U<|U<|.ol ts=>.ok (.lst ts,iR s i<|.val<|.lst ts)
 |U<|U<|.od ks ts=>.ok (.gF ks ts,iR s i<|.val<|.gF ks ts)
 |_=>.bad
def dQ(g:T->FR)(a:FE):FE:=λs=>(a s).bind λp=>(dG<|g p.1).bind λt=>.ok (t,p.2)
def dD(g:T->T->FR)(a b:FE):FE:=λs=>(a s).bind λp=>(b p.2).bind λq=>(dG<|g p.1 q.1).bind λt=>.ok (t,q.2)
def bI:FL:=λs=>.ok ([],s)
def az(a:FE)(r:FL):FL:=λs=>(a s).bind λp=>(r p.2).bind λq=>.ok (p.1::q.1,q.2)
def jS:FL:=λ_=>.bad
def aZ(g:FK->FR)(a:FL):FE:=λs=>(a s).bind λp=>(dG<|g p.1).bind λt=>.ok (t,p.2)
def gu(ts:FK):FR:=gd (ts.length<=1000)<|.tup ts
def bJ(ts:FK):FR:=gd (ts.length<=1000)<|.lst ts
def pF:FT:=λ_=>.bad
def tB(a:FE):FT:=λs=>(a s).bind λp=>(dG<|HR p.1).bind λb=>.ok (b,p.2)
def kF(a b:FT):FT:=λs=>(a s).bind λp=>if p.1 then b p.2 else .ok (Zn,p.2)
def yn(a b:FT):FT:=λs=>(a s).bind λp=>if p.1 then .ok (O,p.2)else b p.2
def dU(a:FT):FT:=λs=>(a s).bind λp=>.ok (!p.1,p.2)
def i6:FT:=λs=>.ok (O,s)
def NQ:T->Option Bool
 |.bl b=>U b
 |_=>Y
def tU(a b:FE):FE:=λs=>(a s).bind λp=>(dG<|NQ p.1).bind λk=>if k then b p.2 else .ok (.bl Zn,p.2)
def SS(a b:FE):FE:=λs=>(a s).bind λp=>(dG<|NQ p.1).bind λk=>if k then .ok (.bl O,p.2)else b p.2
def AS(a:FE):FE:=λs=>(a s).bind λp=>(dG<|NQ p.1).bind λk=>.ok (.bl<|!k,p.2)
def AU(c:FT)(a b:FE):FE:=λs=>(c s).bind λp=>if p.1 then a p.2 else b p.2
abbrev FO:=S->Res (Dx×S)
def nk:FO:=λs=>.ok (Y,s)
def SW:T->Dx
 |.int i=>U i
 |_=>Y
def iS(a:FE):FO:=λs=>(a s).bind λp=>(dG<|SW p.1).bind λi=>.ok (U i,p.2)
def jy(a:FE)(lo b:FO):FE:=λs=>(a s).bind λp=>(lo p.2).bind λq=>(b q.2).bind λz=>(dG<|NO q.1 z.1 p.1).bind λt=>.ok (t,z.2)
def rf:Option (Option C)->FC
 |U<|U<|.ol ts=>U ts
 |_=>Y
def yo(i:Nat):FE:=λs=>(dG<|rf s.r[i]?).bind λts=>.ok (.int ts.length,s)
def DI(tab:Ap)(c f:Nat):Option Nat:=(tab[c]?).bind λns=>ns.idxOf? f
def aO(tab:Ap)(f:Nat)(a:FE):FE:=λs=>(a s).bind λp=>match p.1 with
 |.obj c fs=>(dG<|(DI tab c f).bind λj=>fs[j]?).bind λt=>.ok (t,p.2)
 |.own k=>(dG<|(p.2.m[k]?).bind λob=>(DI tab ob.c f).bind λj=>ob.fs[j]?).bind λc=>(match c with
  |.val t=>.ok (t,p.2)
  |_=>.bad)
 |_=>.bad
def c9(c n:Nat)(fl:FL):FE:=λs=>(fl s).bind λp=>if p.1.length=n then .ok (.obj c p.1,p.2)else .bad
def v_(c:Nat)(g:Fn)(fl:FL):FE:=λs=>(fl s).bind λp=>match g (.own p.2.m.length::p.1) (p.2.m++[⟨c,[]⟩])with
 |.ok (.non,b)=>.ok (.own p.2.m.length,{p.2 with m:=b})
 |.exc c fs a=>.exc c fs {p.2 with m:=a.m}
 |_=>.bad
def NR(c:Nat):T->FR
 |.lst ts=>U<|.obj c [.lst ts]
 |_=>Y
def aj(g:Fn)(ds:FK)(fl:FL):FE:=λs=>(fl s).bind λp=>match g (p.1++ds) p.2.m with
 |.ok q=>.ok (q.1,{p.2 with m:=q.2})
 |.bad=>.bad
 |.exc c fs a=>.exc c fs {p.2 with m:=a.m}
def bx(g:Nat->Option Fn)(o:FE)(fl:FL):FE:=λs=>(o s).bind λp=>match p.1 with
 |.own k=>(dG<|(p.2.m[k]?).bind λob=>g ob.c).bind λh=>aj h [] (λs=>(fl s).bind λq=>.ok (.own k::q.1,q.2)) p.2
 |.obj c fs=>(dG<|g c).bind λh=>aj h [] (λs=>(fl s).bind λq=>.ok (.obj c fs::q.1,q.2)) p.2
 |_=>.bad
def Wf:T->FC
 |.lst ts=>U ts
 |.tup ts=>U ts
 |.str l=>U<|l.map λc=>.str [c]
 |.scr ns=>U<|ns.map .int
 |_=>Y
def vA(a:FE):FL:=λs=>(a s).bind λp=>(dG<|Wf p.1).bind λts=>.ok (ts,p.2)
def sQ(lo:Int)(n:Nat):FK:=(gk n).map λk=>.int<|lo+(k:Nat)
def tW:FK->FC
 |[.int j]=>gd (j<1000000/\-1000000<j)<|sQ 0 j.toNat
 |[.int i,.int j]=>gd (i<1000000/\-1000000<i/\j<1000000/\-1000000<j)<|sQ i (j-i).toNat
 |[.int i,.int j,.int k]=>gd (k=-1/\i<1000000/\-1000000<i/\j<1000000/\-1000000<j)<|(gk (i-j).toNat).map λk=>.int<|i-(k:Nat)
 |_=>Y
def GZ(g:FK->FC)(a:FL):FL:=λs=>(a s).bind λp=>(dG<|g p.1).bind λts=>.ok (ts,p.2)
def fj:Int->FK->FK
 |_,[]=>[]
 |n,t::ts=>.tup [.int n,t]::fj (n+1) ts
def SX(n:Int):T->FC
 |.lst ts=>U<|fj n ts
 |_=>Y
def nq(n:Int)(a:FE):FL:=λs=>(a s).bind λp=>(dG<|SX n p.1).bind λts=>.ok (ts,p.2)
abbrev FG:=T->Fs->Option Fs
def setG(i:Nat):FG:=λt r=>U<|r.set i<|U<|.val t
def yq:B1->FK->Fs->Option Fs
 |[],[],r=>U r
 |i::is,t::ts,r=>yq is ts<|r.set i<|U<|.val t
 |_,_,_=>Y
def cQ(is:B1):FG:=λt r=>match t with
 |.tup ts=>yq is ts r
 |_=>Y
def HU(r:Fs)(j:Nat):Fs:=match r[j]? with
 |U<|U<|.ol ts=>r.set j<|U<|.val<|.lst ts
 |_=>r
def kG:B1->Fs->Fs
 |[],r=>r
 |j::js,r=>kG js<|HU r j
def jf(k:Nat)(js:B1)(r:Fs):Fs:=dN k Y++js.map λj=>match r[j]? with
 |U<|U<|.val t=>U<|.val t
 |_=>Y
def b_(g:FG)(c:FT)(e:FE)(b:Fs):FK->FV->Res (FK×FV)
 |[],m=>.ok ([],m)
 |t::ts,m=>(dG<|g t b).bind λb1=>(c ⟨b1,m⟩).bind λp=>if p.1 then(e p.2).bind λq=>(b_ g c e b ts q.2.m).bind λz=>.ok (q.1::z.1,z.2)else b_ g c e b ts p.2.m
def eB(a:FL)(k:Nat)(js:B1)(g:FG)(c:FT)(e:FE):FL:=λs=>(a s).bind λp=>if p.1.length<=1000000 then
  (b_ g c e (jf k js<|kG js p.2.r) p.1 p.2.m).bind λq=>.ok (q.1,⟨kG js p.2.r,q.2⟩)else .bad
def iH(fl:FL):FE:=λs=>(fl s).bind λp=>.ok (.lst p.1,p.2)
def aF:FS:=λs=>.ok (.nx,s)
def dB:FS:=λ_=>.bad
def ah(a b:FS):FS:=λs=>(a s).bind λp=>match p.1 with
 |.nx=>b p.2
 |o=>.ok (o,p.2)
def aD(i:Nat)(a:FE):FS:=λs=>(a s).bind λp=>.ok (.nx,iR p.2 i<|.val p.1)
def pG(i:Nat)(a:FL):FS:=λs=>(a s).bind λp=>.ok (.nx,iR p.2 i<|.ol p.1)
def tY(g:FG)(a:FE):FS:=λs=>(a s).bind λp=>(dG<|g p.1 p.2.r).bind λr=>.ok (.nx,{p.2 with r:=r})
def aq(a:FE):FS:=λs=>(a s).bind λp=>.ok (.rt p.1,p.2)
def bM(a:FE):FS:=λs=>(a s).bind λp=>.ok (.nx,p.2)
def aX(c:FT)(a b:FS):FS:=λs=>(c s).bind λp=>if p.1 then a p.2 else b p.2
def gS(i:Nat)(a:FE):FS:=λs=>(dG<|rf s.r[i]?).bind λ_=>(a s).bind λp=>(dG<|rf p.2.r[i]?).bind λts=>(dG<|gd (ts.length<1000000) ts).bind λts=>.ok (.nx,iR p.2 i<|.ol<|ts++[p.1])
def eU(i:Nat)(b a:FE):FS:=λs=>(a s).bind λp=>(dG<|rf p.2.r[i]?).bind λ_=>(b p.2).bind λq=>(dG<|rf q.2.r[i]?).bind λts=>(dG<|SW q.1).bind λj=>(dG<|gd (0<=j/\j<ts.length)<|ts.set j.toNat p.1).bind λc=>.ok (.nx,iR q.2 i<|.ol c)
def DJ(g:T->T->FR)(i:Nat)(a:FE):FS:=λs=>match s.r[i]? with
 |U<|U<|.val x=>(a s).bind λp=>(dG<|g x p.1).bind λt=>.ok (.nx,iR p.2 i<|.val t)
 |_=>.bad
def setAt(fs:List C)(j:Nat)(c:C):Option<|List C:=if j<fs.length then U (fs.set j c)else if j=fs.length then U (fs++[c])else Y
def LG(tab:Ap)(f:Nat)(c:C)(ob:Ob):Option Ob:=(DI tab ob.c f).bind λj=>(setAt ob.fs j c).map λfs=>⟨ob.c,fs⟩
def jT(tab:Ap)(f:Nat)(o a:FE):FS:=λs=>(a s).bind λp=>(o p.2).bind λq=>match q.1 with
 |.own k=>(dG<|(q.2.m[k]?).bind<|LG tab f<|.val p.1).bind λob=>.ok (.nx,{q.2 with m:=q.2.m.set k ob})
 |_=>.bad
def aM(g:FG)(b:FS):FK->FS
 |[],s=>.ok (.nx,s)
 |t::ts,s=>(dG<|g t s.r).bind λr=>(b ⟨r,s.m⟩).bind λp=>match p.1 with
  |.nx=>aM g b ts p.2
  |.ct=>aM g b ts p.2
  |.bk=>.ok (.nx,p.2)
  |.rt t=>.ok (.rt t,p.2)
def gT(a:FL)(g:FG)(b:FS):FS:=λs=>(a s).bind λp=>aM g b p.1 p.2
def bg(c:FT)(b:FS):Nat->FS
 |0,_=>.bad
 |n+1,s=>(c s).bind λp=>if p.1 then(b p.2).bind λq=>(match q.1 with
  |.nx=>bg c b n q.2
  |.ct=>bg c b n q.2
  |.bk=>.ok (.nx,q.2)
  |.rt t=>.ok (.rt t,q.2))else .ok (.nx,p.2)
def jg(n:Nat)(c:FT)(b:FS):FS:=bg c b n
def aI(a n:Nat)(b:FS):Fn:=λts m=>if ts.length=a then(b ⟨ts.map (λt=>U<|.val t)++dN (n-ts.length) Y,m⟩).bind λp=>match p.1 with
 |.rt t=>.ok (t,p.2.m)
 |.nx=>.ok (.non,p.2.m)
 |_=>.bad else .bad
mutual
def noOwn:T->Bool
 |.own _=>Zn
 |.tup xs=>aN xs
 |.lst xs=>aN xs
 |.obj _ xs=>aN xs
 |.gF _ xs=>aN xs
 |_=>O
def aN:FK->Bool
 |[]=>O
 |t::ts=>noOwn t&&aN ts
end
def aH(g:Fn):Fn:=λts m=>if aN ts=O then(match g ts []with
 |.ok q=>if noOwn q.1=O then .ok (q.1,m)else .bad
 |.bad=>.bad
 |.exc c fs s=>if aN fs=O then .exc c fs ⟨s.r,m⟩else .bad)else .bad
end D
namespace D
open PySem L2
abbrev SV(l:B1):V:=.str ⟨l.toArray⟩
structure KT where
 K:a_
 P:cW
 w:c4
 cn:Bi
 fn:List Bi
def gH(B:KT)(c:Nat)(C:bp)(ns:Bi):Prop:=∃n,B.cn[c]?=U n/\B.fn[c]?=U ns/\ns.Nodup/\mL B.K en n=U (U<|.ref C)
def gH.eq{B:KT}{c:Nat}{C j:bp}{ns i:Bi}(h:gH B c C ns)(h':gH B c j i):C=j/\ns=i:=by
 obtain⟨n,a,b,_,d⟩:=h;obtain⟨k,g,f,_,e⟩:=h';rw[a]at g;cases g;rw[b]at f;cases f;rw[d]at e;cases e;exact⟨J,J⟩
def nt:Ky->Key
 |.i n=>.inl n
 |.s l=>.inr ⟨l.toArray⟩
inductive kH where
 |loc (i:Nat)|ob (k:Nat)|fld (k j:Nat)
 deriving DecidableEq
structure G where
 HF:Hp
 o:bp->Option kH
 al:BM
mutual
def Rep(B:KT)(al:BM)(H:Hp):T->V->Prop
 |.non,v=>v=.non
 |.bl b,v=>v=.bl b
 |.int i,v=>v=.int i
 |.str l,v=>v=SV l/\l.length<=1000000
 |.tup ts,v=>∃a vs,v=.ref a/\k7 B.K H a vs/\aB B al H ts vs
 |.lst ts,v=>∃a vs,v=.ref a/\H a=U (.lst vs)/\aB B al H ts vs
 |.scr ns,v=>∃a,v=.ref a/\dM B.K H a (ns.map V.int)
 |.obj c ts,v=>∃a C dx ns vs,v=.ref a/\gH B c C ns/\H a=U (.ins C dx<|ns.zip vs)/\vs.length<=ns.length/\H dx=U (.own a)/\aB B al H ts vs
 |.own k,v=>∃a,v=.ref a/\al[k]?=U a
 |.gF ks ts,v=>∃a vs,v=.ref a/\H a=U (.dK<|(ks.map nt).zip vs)/\ks.length=vs.length/\aB B al H ts vs
def aB(B:KT)(al:BM)(H:Hp):FK->List V->Prop
 |[],vs=>vs=[]
 |t::ts,vs=>∃v r,vs=v::r/\Rep B al H t v/\aB B al H ts r
end
def cD{K:a_}{H H':Hp}(s:aL H H'){a:bp}{xs:List V}(q:k7 K H a xs):k7 K H' a xs:=by
 rcases q with(q|⟨o,q⟩)|q
 .exact .inl<|.inl<|s _ _ q
 .exact .inl<|.inr ⟨o,s _ _ q⟩
 .exact .inr q
def l9{α:Type}{l m:List α}(p:l <+: m){k:Nat}{a:α}(h:l[k]?=U a):m[k]?=U a:=by
 obtain⟨r,rfl⟩:=p;rw[jB (dR.mp h).1];exact h
variable{X:Cx}{a b c e:cb}{W Z j:FE}{g g':G}{H H':Hp}{B:KT}{p pos:Pos}{s s':S}{R:St}
variable{al d:BM}{HF F:Hp}
mutual
theorem Rep.mv(p:al <+: d)(s:aL H H'):∀{t:T}{v:V},Rep B al H t v->Rep B d H' t v
 |.non,_,h=>h
 |.bl _,_,h=>h
 |.int _,_,h=>h
 |.str _,_,h=>h
 |.tup ts,_,h=>by
  obtain⟨a,vs,e,q,r⟩:=h;exact⟨a,vs,e,cD s q,aB.mv p s r⟩
 |.lst ts,_,h=>by
  obtain⟨a,vs,e,q,r⟩:=h;exact⟨a,vs,e,s _ _ q,aB.mv p s r⟩
 |.scr ns,_,h=>by
  obtain⟨a,e,q⟩:=h;exact⟨a,e,s.seq q⟩
 |.obj c ts,_,h=>by
  obtain⟨a,C,dx,ns,vs,e,z,q,l,q2,r⟩:=h;exact⟨a,C,dx,ns,vs,e,z,s _ _ q,l,s _ _ q2,aB.mv p s r⟩
 |.own k,_,h=>by
  obtain⟨a,e,q⟩:=h;exact⟨a,e,l9 p q⟩
 |.gF ks ts,_,h=>by
  obtain⟨a,vs,e,q,l,r⟩:=h;exact⟨a,vs,e,s _ _ q,l,aB.mv p s r⟩
theorem aB.mv(p:al <+: d)(s:aL H H'):∀{ts:FK}{vs:List V},aB B al H ts vs->aB B d H' ts vs
 |[],_,h=>h
 |t::ts,_,h=>by
  obtain⟨v,r,e,h1,h2⟩:=h;exact⟨v,r,e,Rep.mv p s h1,aB.mv p s h2⟩
end
def Rep.same(s:aL H H'){t:T}{v:V}(h:Rep B al H t v):Rep B al H' t v:=h.mv fV s
def aB.same(s:aL H H'){t:FK}{v:List V}(h:aB B al H t v):aB B al H' t v:=h.mv fV s
theorem aB.len:∀{ts:FK}{vs:List V},aB B al H ts vs->ts.length=vs.length
 |[],_,h=>by cases(show _=[]from h);rfl
 |t::ts,_,h=>by
  obtain⟨v,r,rfl,_,a⟩:=h;simp[aB.len a]
theorem aB.get:∀{ts:FK}{vs:List V},aB B al H ts vs->∀{i:Nat}{t:T},ts[i]?=U t->∃v,vs[i]?=U v/\Rep B al H t v
 |[],_,_,_,_,e=>by simp at e
 |t::ts,_,h,0,_,e=>by
  obtain⟨v,r,rfl,c,_⟩:=h;simp at e;subst e;exact⟨v,J,c⟩
 |t::ts,_,h,i+1,_,e=>by
  obtain⟨v,r,rfl,_,b⟩:=h;obtain⟨a,f,d⟩:=aB.get b (i:=i) (by simpa using e)
  exact⟨a,by simpa using f,d⟩
theorem aB.AV:∀{ts:FK}{vs:List V},aB B al H ts vs->∀{i:Nat}{v:V},vs[i]?=U v->∃t,ts[i]?=U t/\Rep B al H t v
 |[],_,h,_,_,e=>by have h:_=[]:=h;subst h;simp at e
 |t::ts,_,h,0,_,e=>by
  obtain⟨v,r,rfl,c,_⟩:=h;simp at e;subst e;exact⟨t,J,c⟩
 |t::ts,_,h,i+1,_,e=>by
  obtain⟨v,r,rfl,_,b⟩:=h;obtain⟨a,f,d⟩:=aB.AV b (i:=i) (by simpa using e)
  exact⟨a,by simpa using f,d⟩
theorem aB.app:∀{ts us:FK}{vs b:List V},aB B al H ts vs->aB B al H us b->aB B al H (ts++us) (vs++b)
 |[],_,_,_,h,a=>by have h:_=[]:=h;subst h;exact a
 |t::ts,_,_,_,h,a=>by
  obtain⟨v,r,rfl,d,c⟩:=h;exact⟨v,_,J,d,c.app a⟩
theorem aB.drop:∀{ts:FK}{vs:List V}(n:Nat),aB B al H ts vs->aB B al H (ts.drop n) (vs.drop n)
 |ts,vs,0,h=>by simpa using h
 |[],_,n+1,h=>by have h:_=[]:=h;subst h;rfl
 |t::ts,_,n+1,h=>by
  obtain⟨v,r,rfl,_,a⟩:=h;simpa using a.drop n
theorem aB.take:∀{ts:FK}{vs:List V}(n:Nat),aB B al H ts vs->aB B al H (ts.take n) (vs.take n)
 |ts,vs,0,h=>by simp[aB]
 |[],_,n+1,h=>by have h:_=[]:=h;subst h;rfl
 |t::ts,_,n+1,h=>by
  obtain⟨v,r,rfl,b,a⟩:=h;exact⟨v,r.take n,J,b,a.take n⟩
def aB.one{t:T}{v:V}(q:Rep B al H t v):aB B al H [t] [v]:=⟨v,[],J,q,J⟩
theorem aB.ints:∀ns:Ee,aB B al H (ns.map T.int)<|ns.map V.int
 |[]=>J
 |n::ns=>⟨_,_,J,J,aB.ints ns⟩
theorem aB.signs:∀l:B1,aB B al H (l.map λc=>T.str [c])<|l.map λc=>V.str ⟨#[c]⟩
 |[]=>J
 |c::l=>⟨_,_,J,⟨J,by simp⟩,aB.signs l⟩
mutual
theorem Rep.no:∀{t:T}{v:V},noOwn t=O->Rep B al H t v->Rep B d H t v
 |.non,_,_,h=>h
 |.bl _,_,_,h=>h
 |.int _,_,_,h=>h
 |.str _,_,_,h=>h
 |.tup ts,_,n,h=>by
  obtain⟨a,vs,e,q,r⟩:=h;exact⟨a,vs,e,q,aB.no n r⟩
 |.lst ts,_,n,h=>by
  obtain⟨a,vs,e,q,r⟩:=h;exact⟨a,vs,e,q,aB.no n r⟩
 |.scr ns,_,_,h=>h
 |.obj c ts,_,n,h=>by
  obtain⟨a,C,dx,ns,vs,e,z,q,l,q2,r⟩:=h;exact⟨a,C,dx,ns,vs,e,z,q,l,q2,aB.no n r⟩
 |.own k,_,n,h=>by cases n
 |.gF ks ts,_,n,h=>by
  obtain⟨a,vs,e,q,l,r⟩:=h;exact⟨a,vs,e,q,l,aB.no n r⟩
theorem aB.no:∀{ts:FK}{vs:List V},aN ts=O->aB B al H ts vs->aB B d H ts vs
 |[],_,_,h=>h
 |t::ts,_,n,h=>by
  obtain⟨v,r,e,h1,h2⟩:=h;have n:(noOwn t&&aN ts)=O:=n;rw[bT]at n;exact⟨v,r,e,Rep.no n.1 h1,aB.no n.2 h2⟩
end
structure Gr(HF H F H':Hp):Prop where
 fr:aL HF F
 sub:aL F H'
 rest:∀b o,H b=U o->HF b=Y->H' b=U o/\F b=Y
theorem Gr.refl{HF H:Hp}(s:aL HF H):Gr HF H HF H:=⟨aL.refl _,s,λ_ _ h n=>⟨h,n⟩⟩
theorem Gr.trans{HF H Ù H1 Ú d:Hp}(a:Gr HF H Ù H1)(b:Gr Ù H1 Ú d):Gr HF H Ú d:=
 ⟨a.fr.trans b.fr,b.sub,λc o h n=>let⟨h1,n1⟩:=a.rest c o h n;b.rest c o h1 n1⟩
def Gr.same{HF H F H':Hp}(s:aL HF H)(a:Gr HF H F H'):aL H H':=λb o h=>by
 cases e:HF b with
 |none=>exact(a.rest b o h e).1
 |some u=>
  have:=s b u e
  rw[h]at this;cases this;exact a.sub _ _<|a.fr _ _ e
def aQ{H:Hp}{p:bp}{o:HO}(h:H p=Y):aL H<|upd H p o:=λb u e=>by rw[af<|aJ e h];exact e
def Gr.new{HF H:Hp}(s:aL HF H){p:bp}{o:HO}(h:H p=Y):Gr HF H (upd HF p o)<|upd H p o:=by
 have c:HF p=Y:=s.free h;refine⟨aQ c,λb u e=>?_,λb u e n=>?_⟩
 .by_cases a:b=p
  .subst a;rw[ao]at e ⊢;exact e
  .rw[af a]at e ⊢;exact s _ _ e
 .have a:b≠p:=aJ e h
  rw[af a,af a];exact⟨e,n⟩
def Gr.jh{HF H:Hp}(s:aL HF H){p:bp}{o:HO}(h:H p=Y):Gr HF H HF<|upd H p o:=
 ⟨aL.refl _,s.trans<|aQ h,λb u e n=>⟨aQ h _ _ e,n⟩⟩
def bX(B:KT)(g:G)(H:Hp)(p:kH):C->V->Prop
 |.val t,v=>Rep B g.al g.HF t v
 |.ol ts,v=>∃l a,v=.ref l/\g.o l=U p/\H l=U (.lst a)/\aB B g.al g.HF ts a
 |.od c ts,v=>∃l a,v=.ref l/\g.o l=U p/\H l=U (.dK<|(c.map nt).zip a)/\c.length=a.length/\aB B g.al g.HF ts a
 |.yg t,v=>∃d:Hp,(∀b u,d b=U u->g.o b=U p/\H b=U u)/\Rep B [] d t v
structure HW(B:KT)(g:G)(H:Hp)(k:Nat)(ob:Ob)(a C dx:bp)(ns:Bi)(vs:List V):Prop where
 al:g.al[k]?=U a
 o:g.o a=U (.ob k)
 cl:gH B ob.c C ns
 h:H a=U (.ins C dx<|ns.zip vs)
 le:vs.length<=ns.length
 ln:vs.length=ob.fs.length
 f:∀j c,ob.fs[j]?=U c->∃v,vs[j]?=U v/\bX B g H (.fld k j) c v
structure Ũ(B:KT)(g:G)(H:Hp)(k:Nat)(ob:Ob)(a:bp):Prop where
 al:g.al[k]?=U a
 nc:B.cn[ob.c]?=Y
 nf:B.fn[ob.c]?=Y
 f:∀c,ob.fs=[c]->bX B g H (.ob k) c (.ref a)
def NS(B:KT)(g:G)(H:Hp)(k:Nat)(ob:Ob):Prop:=(∃a C c ns b,HW B g H k ob a C c ns b)\/∃a,Ũ B g H k ob a
structure ef(B:KT)(g:G)(H:Hp)(m:FV):Prop where
 sub:aL g.HF H
 live:∀b p,g.o b=U p->g.HF b=Y/\∃u,H b=U u
 len:m.length=g.al.length
 at_:∀k ob,m[k]?=U ob->NS B g H k ob
structure nu(B:KT)(g:G)(H:Hp)(R:St)(r:Fs):Prop where
 len:r.length=R.length
 at_:∀i c,r[i]?=U (U c)->∃v,R[i]?=U (U v)/\bX B g H (.loc i) c v
structure SR(B:KT)(g:G)(H:Hp)(R:St)(s:S):Prop where
 st:ef B g H s.m
 lc:nu B g H R s.r
structure dC(g:G)(H:Hp)(g':G)(H':Hp):Prop where
 fr:aL g.HF g'.HF
 pre:g.al <+: g'.al
 rest:∀b u,H b=U u->g.HF b=Y->g.o b=Y->H' b=U u/\g'.HF b=Y/\g'.o b=Y
 there:∀b,H' b=Y->H b=Y
variable{g1 g2:G}{H1 S:Hp}
theorem dC.refl:dC g H g H:=⟨aL.refl _,fV,λ_ _ h n o=>⟨h,n,o⟩,λ_ h=>h⟩
theorem dC.trans(a:dC g H g1 H1)(b:dC g1 H1 g2 S):dC g H g2 S:=
 ⟨a.fr.trans b.fr,a.pre.trans b.pre,λc u h n o=>let⟨h1,n1,o1⟩:=a.rest c u h n o;b.rest c u h1 n1 o1,λc h=>a.there c<|b.there c h⟩
abbrev G.grow(g:G)(F:Hp):G:={g with HF:=F}
theorem bX.grow(a:Gr g.HF H F H')(lv:∀b p,g.o b=U p->g.HF b=Y/\∃u,H b=U u){p:kH}:∀{c:C}{v:V},bX B g H p c v->bX B (g.grow F) H' p c v
 |.val t,v,h=>h.same a.fr
 |.ol ts,v,h=>by
  obtain⟨l,d,e,o,q,r⟩:=h;exact⟨l,d,e,o,(a.rest l _ q (lv l p o).1).1,r.same a.fr⟩
 |.od j ts,v,h=>by
  obtain⟨l,d,e,o,q,n,r⟩:=h;exact⟨l,d,e,o,(a.rest l _ q (lv l p o).1).1,n,r.same a.fr⟩
 |.yg t,v,h=>by
  obtain⟨i,f,r⟩:=h;exact⟨i,λb u e=>let⟨h2,h3⟩:=f b u e;⟨h2,(a.rest b u h3 (lv b p h2).1).1⟩,r⟩
theorem HW.grow{k:Nat}{ob:Ob}{a C dx:bp}{ns:Bi}{vs:List V}(x:HW B g H k ob a C dx ns vs)(d:Gr g.HF H F H')(lv:∀b p,g.o b=U p->g.HF b=Y/\∃u,H b=U u):HW B (g.grow F) H' k ob a C dx ns vs:=
 ⟨x.al,x.o,x.cl,(d.rest _ _ x.h (lv _ _ x.o).1).1,x.le,x.ln,λj c e=>let⟨v,h1,h2⟩:=x.f j c e;⟨v,h1,h2.grow d lv⟩⟩
theorem NS.grow{k:Nat}{ob:Ob}(x:NS B g H k ob)(d:Gr g.HF H F H')(lv:∀b p,g.o b=U p->g.HF b=Y/\∃u,H b=U u):NS B (g.grow F) H' k ob:=by
 rcases x with⟨a,C,i,ns,h,y⟩|⟨a,y⟩
 .exact .inl ⟨a,C,i,ns,h,y.grow d lv⟩
 .exact .inr ⟨a,y.al,y.nc,y.nf,λc e=>(y.f c e).grow d lv⟩
theorem ef.grow{m:FV}(x:ef B g H m)(a:Gr g.HF H F H'):ef B (g.grow F) H' m:=
 ⟨a.sub,λb p e=>by
  obtain⟨h,u,f⟩:=x.live b p e;obtain⟨d,c⟩:=a.rest b u f h;exact⟨c,u,d⟩,x.len,λk ob e=>(x.at_ k ob e).grow a x.live⟩
theorem SR.grow(x:SR B g H R s)(a:Gr g.HF H F H'):SR B (g.grow F) H' R s:=
 ⟨x.st.grow a,x.lc.len,λi c e=>let⟨v,h1,h2⟩:=x.lc.at_ i c e;⟨v,h1,h2.grow a x.st.live⟩⟩
theorem SR.sub(x:SR B g H R s):aL g.HF H:=x.st.sub
theorem Gr.free(a:Gr HF H F H')(sm:aL HF H){b:bp}(h:H' b=Y):H b=Y:=(a.same sm).free h
def SR.kI(x:SR B g H R s)(a:Gr g.HF H F H'):dC g H (g.grow F) H':=
 ⟨a.fr,fV,λb u h n o=>let⟨h1,h2⟩:=a.rest b u h n;⟨h1,h2,o⟩,λb h=>a.free x.sub h⟩
variable{m:FV}
theorem bX.mv{p:kH}(fr:aL g.HF g'.HF)(pre:g.al <+: g'.al)(k:∀l,g.o l=U p->g'.o l=U p/\H' l=H l):∀{c:C}{v:V},bX B g H p c v->bX B g' H' p c v
 |.val t,v,h=>Rep.mv pre fr h
 |.ol ts,v,h=>by
  obtain⟨l,a,e,o,q,r⟩:=h;obtain⟨d,f⟩:=k l o;exact⟨l,a,e,d,f.trans q,r.mv pre fr⟩
 |.od m ts,v,h=>by
  obtain⟨l,a,e,o,q,n,r⟩:=h;obtain⟨d,f⟩:=k l o;exact⟨l,a,e,d,f.trans q,n,r.mv pre fr⟩
 |.yg t,v,h=>by
  obtain⟨j,i,r⟩:=h;exact⟨j,λb u e=>let⟨h2,h3⟩:=i b u e;let⟨h4,h5⟩:=k b h2;⟨h4,h5.trans h3⟩,r⟩
theorem HW.mv{k:Nat}{ob:Ob}{a C dx:bp}{ns:Bi}{vs:List V}(x:HW B g H k ob a C dx ns vs)(fr:aL g.HF g'.HF)(pre:g.al <+: g'.al)(b:∀l p,g.o l=U p->(p=.ob k\/∃j,p=.fld k j)->g'.o l=U p/\H' l=H l):HW B g' H' k ob a C dx ns vs:=by
 obtain⟨d,i⟩:=b a _ x.o<|.inl J;exact⟨l9 pre x.al,d,x.cl,i.trans x.h,x.le,x.ln,λj c e=>let⟨v,h1,h2⟩:=x.f j c e;⟨v,h1,h2.mv fr pre λl z=>b l _ z<|.inr ⟨j,J⟩⟩⟩
theorem NS.mv{k:Nat}{ob:Ob}(x:NS B g H k ob)(fr:aL g.HF g'.HF)(pre:g.al <+: g'.al)(b:∀l p,g.o l=U p->(p=.ob k\/∃j,p=.fld k j)->g'.o l=U p/\H' l=H l):NS B g' H' k ob:=by
 rcases x with⟨a,C,h,ns,d,y⟩|⟨a,y⟩
 .exact .inl ⟨a,C,h,ns,d,y.mv fr pre b⟩
 .exact .inr ⟨a,l9 pre y.al,y.nc,y.nf,λc e=>(y.f c e).mv fr pre λl z=>b l _ z<|.inl J⟩
theorem ef.mv(x:ef B g H m)(sub:aL g'.HF H')(live:∀b p,g'.o b=U p->g'.HF b=Y/\∃u,H' b=U u)(fr:aL g.HF g'.HF)(Û:g'.al=g.al)(a:∀l p,g.o l=U p->(∀i,p≠.loc i)->g'.o l=U p/\H' l=H l):ef B g' H' m:=
 ⟨sub,live,by rw[Û];exact x.len,λk ob e=>(x.at_ k ob e).mv fr (by rw[Û];exact fV) λl p h q=>a l p h (by
  rcases q with q|⟨j,q⟩
  .subst q;exact λi z=>by cases z
  .subst q;exact λi z=>by cases z)⟩
theorem nu.set{r:Fs}{i:Nat}{v:V}{c:C}(x:nu B g H R r)(q:bX B g' H' (.loc i) c v)(b:∀j c v,j≠i->bX B g H (.loc j) c v->bX B g' H' (.loc j) c v):nu B g' H' (R.set i<|U v)<|r.set i<|U c:=by
 refine⟨by rw[jD,jD];exact x.len,λj d h=>?_⟩
 by_cases hj:i=j
 .subst hj
  have a:i<r.length:=by have:=(dR.mp h).1;rw[jD]at this;exact this
  rw[ib a]at h;cases h;exact⟨v,ib<|by rw[<- x.len];exact a,q⟩
 .rw[ic hj]at h
  obtain⟨w,f,e⟩:=x.at_ j d h;exact⟨w,by rw[ic hj];exact f,b j d w (ew hj) e⟩
theorem SR.set(x:SR B g H R s){i:Nat}{t:T}{v:V}(r:Rep B g.al g.HF t v):SR B g H (R.set i<|U v)<|iR s i<|.val t:=
 ⟨x.st,x.lc.set r λ_ _ _ _ h=>h⟩
def G.jE(g:G)(l:bp)(o:HO):G:={g with HF:=upd g.HF l o,o:=λb=>if b=l then Y else g.o b}
def tZ{p q:kH}{l:bp}{o:HO}(hl:g.o l=U p)(f:g.HF l=Y)(d:q≠p){c:C}{v:V}(h:bX B g H q c v):bX B (g.jE l o) H q c v:=
 bX.mv (g':=g.jE l o) (aQ f) fV (λb a=>by
  have:b≠l:=λe=>d (by rw[e,hl]at a;cases a;rfl)
  exact⟨by show(if b=l then Y else g.o b)=_;rw[b0 this];exact a,J⟩) h
def yr{p:kH}{l:bp}{o:HO}(hl:g.o l=U p)(a:g.HF l=Y):dC g H (g.jE l o) H:=
 ⟨aQ a,fV,λb u h n z=>by
  have:b≠l:=λe=>by rw[e,hl]at z;cases z
  exact⟨h,by show upd g.HF l o b=Y;rw[af this];exact n,by show(if b=l then Y else g.o b)=Y;rw[b0 this];exact z⟩,λ_ h=>h⟩
def yt{i:Nat}{l:bp}{o:HO}(x:ef B g H m)(hl:g.o l=U (.loc i))(d:H l=U o):ef B (g.jE l o) H m:=by
 have f:=(x.live l _ hl).1;refine x.mv (λb u e=>?_) (λb p e=>?_) (aQ f) J λb p a c=>?_
 .have e:upd g.HF l o b=U u:=e
  by_cases a:b=l
  .subst a;rw[ao]at e;cases e;exact d
  .rw[af a]at e;exact x.sub _ _ e
 .have e:(if b=l then Y else g.o b)=U p:=e
  by_cases a:b=l
  .rw[b7 a]at e;cases e
  .rw[b0 a]at e
   obtain⟨j,h⟩:=x.live b p e;exact⟨by show upd g.HF l o b=Y;rw[af a];exact j,h⟩
 .have:b≠l:=λe=>c i (by rw[e,hl]at a;cases a;rfl)
  exact⟨by show(if b=l then Y else g.o b)=_;rw[b0 this];exact a,J⟩
theorem SR.jE(x:SR B g H R s){i:Nat}{ts:FK}(h:s.r[i]?=U (U<|.ol ts)):∃g' v,dC g H g' H/\SR B g' H R (iR s i<|.val<|.lst ts)/\R[i]?=U (U v)/\Rep B g'.al g'.HF (.lst ts) v:=by
 obtain⟨v,f,l,a,rfl,b,k,r⟩:=x.lc.at_ i _ h;have e:=(x.st.live l _ b).1;have rp:Rep B (g.jE l<|.lst a).al (g.jE l<|.lst a).HF (.lst ts)<|.ref l:=⟨l,a,J,ao,r.mv fV<|aQ e⟩;refine⟨g.jE l<|.lst a,.ref l,yr b e,⟨yt x.st b k,?_⟩,f,rp⟩
 have:=x.lc.set (i:=i) (v:=.ref l) (c:=.val<|.lst ts) rp λj c v d q=>tZ (q:=.loc j) b e (λz=>d<|by cases z;rfl) q
 have m:R.set i (U<|.ref l)=R:=by
  apply xM;intro j;by_cases d:i=j
  .subst d
   rw[ib (dR.mp f).1,f]
  .rw[ic d]
 rw[m]at this;exact this
def SR.X4(x:SR B g H R s){i:Nat}{ks:List Ky}{ts:FK}(h:s.r[i]?=U (U<|.od ks ts)):∃g' v,dC g H g' H/\SR B g' H R (iR s i<|.val<|.gF ks ts)/\R[i]?=U (U v)/\Rep B g'.al g'.HF (.gF ks ts) v:=by
 obtain⟨v,f,l,a,rfl,b,k,hl,r⟩:=x.lc.at_ i _ h;have e:=(x.st.live l _ b).1;have rp:Rep B (g.jE l<|.dK<|(ks.map nt).zip a).al (g.jE l<|.dK<|(ks.map nt).zip a).HF (.gF ks ts)<|.ref l:=⟨l,a,J,ao,hl,r.mv fV<|aQ e⟩;refine⟨g.jE l<|.dK<|(ks.map nt).zip a,.ref l,yr b e,⟨yt x.st b k,?_⟩,f,rp⟩
 have:=x.lc.set (i:=i) (v:=.ref l) (c:=.val<|.gF ks ts) rp λj c v d q=>tZ (q:=.loc j) b e (λz=>d<|by cases z;rfl) q
 have m:R.set i (U<|.ref l)=R:=by
  apply xM;intro j;by_cases d:i=j
  .subst d
   rw[ib (dR.mp f).1,f]
  .rw[ic d]
 rw[m]at this;exact this
def G.own(g:G)(l:bp)(p:kH):G:={g with o:=λb=>if b=l then U p else g.o b}
def t_{p q:kH}{l:bp}(d:g.o l=Y){c:C}{v:V}(h:bX B g H q c v):bX B (g.own l p) H q c v:=
 bX.mv (g:=g) (g':=g.own l p) (aL.refl g.HF) fV (λb a=>by
  have:b≠l:=λe=>by rw[e,d]at a;cases a
  exact⟨by show(if b=l then U p else g.o b)=_;rw[b0 this];exact a,J⟩) h
def yu{p:kH}{l:bp}{u:HO}(x:ef B g H m)(c:g.o l=Y)(f:g.HF l=Y)(d:H l=U u):ef B (g.own l p) H m:=by
 refine x.mv x.sub (λb q e=>?_) (aL.refl _) J λb q a h=>?_
 .have e:(if b=l then U p else g.o b)=U q:=e
  by_cases a:b=l
  .subst a;exact⟨f,u,d⟩
  .rw[b0 a]at e;exact x.live b q e
 .have:b≠l:=λe=>by rw[e,c]at a;cases a
  exact⟨by show(if b=l then U p else g.o b)=_;rw[b0 this];exact a,J⟩
theorem SR.own(x:SR B g H R s){i:Nat}{l:bp}{ts:FK}{vs:List V}(a:g.o l=Y)(d:g.HF l=Y)(b:H l=U (.lst vs))(r:aB B g.al g.HF ts vs):SR B (g.own l<|.loc i) H (R.set i<|U<|.ref l)<|iR s i<|.ol ts:=
 ⟨yu x.st a d b,x.lc.set (c:=.ol ts) ⟨l,vs,J,by show(if l=l then U (kH.loc i)else g.o l)=_;rw[b7 J],b,r⟩ λj c v e q=>t_ a q⟩
def SR.X5(x:SR B g H R s){i:Nat}{l:bp}{ks:List Ky}{ts:FK}{vs:List V}(a:g.o l=Y)(e:g.HF l=Y)(b:H l=U (.dK<|(ks.map nt).zip vs))(d:ks.length=vs.length)(r:aB B g.al g.HF ts vs):SR B (g.own l<|.loc i) H (R.set i<|U<|.ref l)<|iR s i<|.od ks ts:=
 ⟨yu x.st a e b,x.lc.set (c:=.od ks ts) ⟨l,vs,J,by show(if l=l then U (kH.loc i)else g.o l)=_;rw[b7 J],b,d,r⟩ λj c v f q=>t_ a q⟩
def yv{l:bp}{i:Nat}{u:HO}(x:ef B g H m)(c:g.o l=U (.loc i)):ef B g (upd H l u) m:=by
 have h:=(x.live l _ c).1;refine x.mv (λb w e=>?_) (λb q e=>?_) (aL.refl _) J λb q a f=>?_
 .have:b≠l:=λz=>by rw[z,h]at e;cases e
  rw[af this];exact x.sub _ _ e
 .obtain⟨d,w,j⟩:=x.live b q e
  by_cases a:b=l
  .exact⟨d,u,by rw[a,ao]⟩
  .exact⟨d,w,by rw[af a];exact j⟩
 .have:b≠l:=λe=>f i (by rw[e,c]at a;cases a;rfl)
  exact⟨a,by rw[af this]⟩
def rh{l:bp}{p:kH}{u:HO}(a:g.o l=U p):dC g H g<|upd H l u:=
 ⟨aL.refl _,fV,λb w h n z=>by
  have:b≠l:=λe=>by rw[e,a]at z;cases z
  exact⟨by rw[af this];exact h,n,z⟩,λb h=>by
  by_cases hb:b=l
  .subst hb;rw[ao]at h;cases h
  .rw[af hb]at h;exact h⟩
def SR.chg(x:SR B g H R s){i:Nat}{ts n:FK}{l:bp}{d:List V}(h:s.r[i]?=U (U<|.ol ts))(a:R[i]?=U (U<|.ref l))(r:aB B g.al g.HF n d):SR B g (upd H l<|.lst d) R (iR s i<|.ol n)/\dC g H g (upd H l<|.lst d):=by
 obtain⟨v,o,w,t,rfl,f,y,u⟩:=x.lc.at_ i _ h;rw[a]at o;cases o;refine⟨⟨yv x.st f,?_⟩,rh f⟩
 have:=x.lc.set (g':=g) (H':=upd H l<|.lst d) (i:=i) (v:=.ref l) (c:=.ol n) ⟨l,d,J,f,ao,r⟩ λj c v k q=>q.mv (aL.refl _) fV λb m=>by
  have:b≠l:=λe=>k (by rw[e,f]at m;cases m;rfl)
  exact⟨m,af this⟩
 have p:R.set i (U<|.ref l)=R:=by
  apply xM;intro j;by_cases k:i=j
  .subst k
   rw[ib (dR.mp a).1,a]
  .rw[ic k]
 rw[p]at this;exact this
def SR.X6(x:SR B g H R s){i:Nat}{ks f:List Ky}{ts o:FK}{l:bp}{d:List V}(h:s.r[i]?=U (U<|.od ks ts))(a:R[i]?=U (U<|.ref l))(t:f.length=d.length)(r:aB B g.al g.HF o d):SR B g (upd H l<|.dK<|(f.map nt).zip d) R (iR s i<|.od f o)/\dC g H g (upd H l<|.dK<|(f.map nt).zip d):=by
 obtain⟨v,p,z,w,rfl,k,A,C,y⟩:=x.lc.at_ i _ h;rw[a]at p;cases p;refine⟨⟨yv x.st k,?_⟩,rh k⟩
 have:=x.lc.set (g':=g) (H':=upd H l<|.dK<|(f.map nt).zip d) (i:=i) (v:=.ref l) (c:=.od f o) ⟨l,d,J,k,ao,t,r⟩ λj c v m q=>q.mv (aL.refl _) fV λb n=>by
  have:b≠l:=λe=>m (by rw[e,k]at n;cases n;rfl)
  exact⟨n,af this⟩
 have u:R.set i (U<|.ref l)=R:=by
  apply xM;intro j;by_cases m:i=j
  .subst m
   rw[ib (dR.mp a).1,a]
  .rw[ic m]
 rw[u]at this;exact this
def SY:Option kH->Option kH
 |U<|.loc _=>Y
 |x=>x
def G.ak(g:G):G:={g with o:=λb=>SY<|g.o b}
def AW{q:Option kH}{p:kH}:SY q=U p ↔ q=U p/\∀i,p≠.loc i:=by
 cases q with
 |none=>exact⟨λh=>(by cases h),λh=>(by cases h.1)⟩
 |some q=>
  cases q with
  |loc i=>exact⟨λh=>(by cases h),λh=>(by obtain⟨h,n⟩:=h;cases h;exact dk J<|n i)⟩
  |ob k=>exact⟨λh=>(by cases h;exact⟨J,λi z=>(by cases z)⟩),λh=>h.1⟩
  |fld k j=>exact⟨λh=>(by cases h;exact⟨J,λi z=>(by cases z)⟩),λh=>h.1⟩
def jU{b:bp}{p:kH}:g.ak.o b=U p ↔ g.o b=U p/\∀i,p≠.loc i:=AW
theorem ef.ak(x:ef B g H m):ef B g.ak H m:=
 x.mv x.sub (λb p e=>x.live b p (jU.mp e).1) (aL.refl _) J λl p h n=>⟨jU.mpr ⟨h,n⟩,J⟩
def X7:Option kH->Option kH->Option kH
 |U<|.loc i,_=>U<|.loc i
 |_,y=>y
def G.back(g g':G):G:={g' with o:=λb=>X7 (g.o b)<|g'.o b}
def DL{b:bp}{i:Nat}(h:g.o b=U (.loc i)):(G.back g g').o b=U (.loc i):=by
 show X7 (g.o b) (g'.o b)=_;rw[h];rfl
def ny{b:bp}(h:∀i,g.o b≠U (.loc i)):(G.back g g').o b=g'.o b:=by
 show X7 (g.o b) (g'.o b)=_;cases q:g.o b with
 |none=>rfl
 |some p=>cases p with
  |loc i=>exact dk q<|h i
  |ob k=>rfl
  |fld k j=>rfl
theorem SR.back(x:SR B g H R s){m':FV}(p:dC g.ak H g' H')(y:ef B g' H' m'):dC g H (G.back g g') H'/\SR B (G.back g g') H' R {s with m:=m'}:=by
 have keep:∀l i,g.o l=U (.loc i)->H' l=H l/\g'.HF l=Y/\g'.o l=Y:=λl i e=>by
  obtain⟨r,u,d⟩:=x.st.live l _ e;have A:g.ak.o l=Y:=by
   cases q:g.ak.o l with
   |none=>rfl
   |some p=>obtain⟨a,b⟩:=jU.mp q;rw[e]at a;cases a;exact dk J<|b i
  obtain⟨j,f,t⟩:=p.rest l u d r A;exact⟨j.trans d.symm,f,t⟩
 have X8:∀l q,g'.o l=U q->∀i,g.o l≠U (.loc i):=λl q e i z=>by rw[(keep l i z).2.2]at e;cases e
 refine⟨⟨p.fr,p.pre,λb u h n z=>?_,p.there⟩,⟨⟨y.sub,λb q e=>?_,y.len,λk ob e=>?_⟩,x.lc.len,λi c e=>?_⟩⟩
 .have A:g.ak.o b=Y:=by
   cases q:g.ak.o b with
   |none=>rfl
   |some p=>rw[(jU.mp q).1]at z;cases z
  obtain⟨j,f,t⟩:=p.rest b u h n A;exact⟨j,f,(ny λi w=>by rw[z]at w;cases w).trans t⟩
 .by_cases hl:∃i,g.o b=U (.loc i)
  .obtain⟨i,hl⟩:=hl
   obtain⟨r,u,d⟩:=x.st.live b _ hl;obtain⟨j,f,_⟩:=keep b i hl;exact⟨f,u,j.trans d⟩
  .rw[ny λi w=>hl ⟨i,w⟩]at e
   exact y.live b q e
 .exact(y.at_ k ob e).mv (aL.refl _) fV λl q h _=>⟨(ny<|X8 l q h).trans h,J⟩
 .obtain⟨v,r,d⟩:=x.lc.at_ i c e
  exact⟨v,r,bX.mv (g:=g) (g':=G.back g g') p.fr p.pre (λl o=>⟨DL o,(keep l i o).1⟩) d⟩
variable{y:Bz}{fl:FL}{ft u:FT}
abbrev KTb:=Bi×List Bi
def _root_.L2.Cx.kt(X:Cx)(t:KTb):KT:=⟨X.K,X.prog,X.w,t.1,t.2⟩
inductive tE(B:KT)(f:FE)(R:St)(H:Hp)(Q:VK):Prop where
 |mk g s t s' (x:SR B g H R s) (h:f s=.ok (t,s')) (k:∀v g' H',dC g H g' H'->SR B g' H' R s'->Rep B g'.al g'.HF t v->Q v H')
inductive tA(B:KT)(f:FL)(R:St)(H:Hp)(Q:List V->Hp->Prop):Prop where
 |mk g s ts s' (x:SR B g H R s) (h:f s=.ok (ts,s')) (k:∀vs g' H',dC g H g' H'->SR B g' H' R s'->aB B g'.al g'.HF ts vs->Q vs H')
inductive tT(B:KT)(f:FT)(R:St)(H:Hp)(Q:Bool->Hp->Prop):Prop where
 |mk g s k s' (x:SR B g H R s) (h:f s=.ok (k,s')) (q:∀g' H',dC g H g' H'->SR B g' H' R s'->Q k H')
inductive tP(B:KT)(f:FO)(R:St)(H:Hp)(Q:Dx->Hp->Prop):Prop where
 |mk g s k s' (x:SR B g H R s) (h:f s=.ok (k,s')) (q:∀g' H',dC g H g' H'->SR B g' H' R s'->Q k H')
inductive tO(B:KT)(f:FL)(R:St)(H:Hp)(Q:VK):Prop where
 |mk g s ts s' (x:SR B g H R s) (h:f s=.ok (ts,s')) (k:∀l vs g' H',dC g H g' H'->SR B g' H' R s'->H l=Y->g'.HF l=Y->g'.o l=Y->H' l=U (.lst vs)->aB B g'.al g'.HF ts vs->Q (.ref l) H')
def aS{t t':TE}(h:PE X e t)(i:∀R H Q,t' R H Q->t R H Q):PE X e t':=λa s R H Q I q=>h a s R H Q I<|i R H Q q
def DM{t t':TT}(h:PT X e t)(i:∀R H Q,t' R H Q->t R H Q):PT X e t':=λa s R H Q I q=>h a s R H Q I<|i R H Q q
def LH{t t':TT}(h:PW X e t)(i:∀R H Q,t' R H Q->t R H Q):PW X e t':=λa b s R H Q I q=>h a b s R H Q I<|i R H Q q
def qh{y:Bz}{t t':TA}(h:PA X y t)(i:∀R H Q,t' R H Q->t R H Q):PA X y t':=λpo a s R H Q I q=>h po a s R H Q I<|i R H Q q
def cH{st:gL}{t t':TS}(h:PS X st t)(i:∀D R H,t' D R H->t D R H):PS X st t':=λa s R H D I q=>h a s R H D I<|i D R H q
def nz{st:Fh}{t t':TS}(h:gz X st t)(i:∀D R H,t' D R H->t D R H):gz X st t':=λa s R H D I q=>h a s R H D I<|i D R H q
def LI{e:Option cb}{t t':TO}(h:PO X e t)(i:∀R H Q,t' R H Q->t R H Q):PO X e t':=λa s R H Q I q=>h a s R H Q I<|i R H Q q
def ua{tg:cb}{t t':TI}(h:PI X tg e t)(i:∀R H a,t' R H a->t R H a):PI X tg e t':=λb s R H a I q=>h b s R H a I<|i R H a q
def ba:PE X e<|tE B bO:=λ_ _ _ _ _ _ a=>by obtain⟨_,_,_,_,_,h,_⟩:=a;cases h
def ji:PT X e<|tT B pF:=λ_ _ _ _ _ _ a=>by obtain⟨_,_,_,_,_,h,_⟩:=a;cases h
def iI:PE X e<|tO B jS:=λ_ _ _ _ _ _ a=>by obtain⟨_,_,_,_,_,h,_⟩:=a;cases h
def jV{t:T}{v:V}(h:PE X e<|tC v)(r:∀al H,Rep B al H t v):PE X e<|tE B<|cF t:=aS h λR H Q z=>by
 obtain⟨g,s,a,s',x,h,k⟩:=z;cases h;exact k v g H .refl x<|r _ _
def yw{i:Nat}{x:Str}(e:X.N[i]?=U x)(d:lR X.env.scope x)(hd:aV x)(j:fW x):PE X (.Name x pos)<|tE B<|vF i:=by
 refine aS (bZ e d hd j) λR H Q c=>?_;obtain⟨g,s,t,s',x,h,k⟩:=c;unfold vF at h;split at h
 .rename_i l a
  cases h;obtain⟨v,b,f⟩:=x.lc.at_ i _ a;exact⟨v,b,k v g H .refl x f⟩
 .rename_i ts a
  cases h;obtain⟨g',v,p,y,b,r⟩:=x.jE a;exact⟨v,b,k v g' H p y r⟩
 .rename_i m ts a
  cases h;obtain⟨g',v,p,y,b,r⟩:=x.X4 a;exact⟨v,b,k v g' H p y r⟩
 .cases h
def L1(X:Cx)(f:T->FR)(r:V->Hp->VK->Prop):Prop:=∀(B:KT)(_:B.K=X.K)(al:BM)(HF H:Hp)(x:V)(t tx:T)(Q:VK),aL HF H->Rep B al HF tx x->f tx=U t->(∀v F H',Gr HF H F H'->Rep B al F t v->Q v H')->r x H Q
def pH(X:Cx)(f:T->T->FR)(r:R2):Prop:=∀(B:KT)(_:B.K=X.K)(al:BM)(HF H:Hp)(x y:V)(t tx ty:T)(Q:VK),aL HF H->Rep B al HF tx x->Rep B al HF ty y->f tx ty=U t->(∀v F H',Gr HF H F H'->Rep B al F t v->Q v H')->r x y H Q
def LN(X:Cx)(f:FK->FR)(r:List V->Hp->VK->Prop):Prop:=∀(B:KT)(_:B.K=X.K)(al:BM)(HF H:Hp)(xs:List V)(t:T)(ts:FK)(Q:VK),aL HF H->aB B al HF ts xs->f ts=U t->(∀v F H',Gr HF H F H'->Rep B al F t v->Q v H')->r xs H Q
def LJ{f:T->FR}{r:V->Hp->VK->Prop}(l:B.K=X.K)(j:L1 X f r):∀R H Q,tE B (dQ f W) R H Q->Z3 r (tE B W) R H Q:=by
 rintro R H Q ⟨g,s,t,s',x,h,k⟩
 obtain⟨⟨tx,c⟩,n,h⟩:=ae h;obtain⟨o,m,h⟩:=ae h;cases h;exact⟨g,s,tx,c,x,n,λv g1 H1 i a e=>j B l g1.al g1.HF H1 v _ tx Q a.sub e (au m) λu F H' b d=>k u (g1.grow F) H' (i.trans<|a.kI b) (a.grow b) d⟩
def iJ{f:T->T->FR}{r:R2}(o:B.K=X.K)(n:pH X f r):∀R H Q,tE B (dD f W Z) R H Q->GV r (tE B W) (tE B Z) R H Q:=by
 rintro R H Q ⟨g,s,t,s',x,h,k⟩
 obtain⟨⟨tx,c⟩,y,h⟩:=ae h;obtain⟨⟨ty,s2⟩,q,h⟩:=ae h;obtain⟨z,p,h⟩:=ae h;cases h;exact⟨g,s,tx,c,x,y,λv g1 H1 m e l=>⟨g1,c,ty,s2,e,q,λw g2 S b a j=>
  n B o g2.al g2.HF S v w _ tx ty Q a.sub (l.mv b.pre b.fr) j (au p) λu F H' d i=>k u (g2.grow F) H' ((m.trans b).trans<|a.kI d) (a.grow d) i⟩⟩
def LK{f:FK->FR}{r:List V->Hp->VK->Prop}(m:B.K=X.K)(l:LN X f r):∀R H Q,tE B (aZ f fl) R H Q->W5 r (tA B fl) R H Q:=by
 rintro R H Q ⟨g,s,t,s',x,h,k⟩
 obtain⟨⟨ts,d⟩,o,h⟩:=ae h;obtain⟨p,n,h⟩:=ae h;cases h;exact⟨g,s,ts,d,x,o,λc g1 H1 j a i=>l B m g1.al g1.HF H1 c _ ts Q a.sub i (au n) λu F H' b e=>k u (g1.grow F) H' (j.trans<|a.kI b) (a.grow b) e⟩
def ri:PA X []<|tA B bI:=qh dc λR H Q z=>by
 obtain⟨g,s,t,s',x,h,k⟩:=z;cases h;exact k [] g H .refl x J
def l_(n:PE X e<|tE B W)(m:PA X y<|tA B fl)(l:cw (e::y) X.env=(Zn,e6 e X.env)::cw y X.env):PA X (e::y)<|tA B<|az W fl:=qh (bf n m l) λR H Q z=>by
 obtain⟨g,s,t,s',x,h,k⟩:=z;obtain⟨⟨tx,b⟩,p,h⟩:=ae h;obtain⟨⟨ty,s2⟩,o,h⟩:=ae h;cases h;exact⟨g,s,tx,b,x,p,λv g1 H1 j d i=>⟨g1,b,ty,s2,d,o,λw g2 S a c f=>k (v::w) g2 S (j.trans a) c ⟨v,w,J,i.mv a.pre a.fr,f⟩⟩⟩
def wa{n:Nat}(h:n<=1000):n<=cq:=by rw[ez];exact eT h (by decide)
def S2{a}(h:PA X y<|tA B fl):PE X (.Tuple y a pos)<|tE B<|aZ gu fl:=aS (CW h) λR H Q z=>by
 obtain⟨g,s,t,s',x,h,k⟩:=z;obtain⟨⟨ts,e⟩,l,h⟩:=ae h;obtain⟨m,j,h⟩:=ae h;cases h;obtain⟨z,rfl⟩:=bG<|au j;refine⟨g,s,ts,e,x,l,λc g1 H1 f a d=>⟨wa<|by rw[<- d.len];exact z,λq i=>?_⟩⟩
 have b:=Gr.new (o:=.tup c) a.sub i;exact k _ _ _ (f.trans<|a.kI b) (a.grow b) ⟨q,c,J,.inl<|.inl ao,d.same b.fr⟩
def S3(h:PA X y<|tA B fl):PE X (.List y pos)<|tE B<|aZ bJ fl:=aS (mY h) λR H Q z=>by
 obtain⟨g,s,t,s',x,h,k⟩:=z;obtain⟨⟨ts,e⟩,l,h⟩:=ae h;obtain⟨m,j,h⟩:=ae h;cases h;obtain⟨z,rfl⟩:=bG<|au j;refine⟨g,s,ts,e,x,l,λc g1 H1 f a d=>⟨wa<|by rw[<- d.len];exact z,λq i=>?_⟩⟩
 have b:=Gr.new (o:=.lst c) a.sub i;exact k _ _ _ (f.trans<|a.kI b) (a.grow b) ⟨q,c,J,ao,d.same b.fr⟩
def rj(fl:FL):FL:=λs=>(fl s).bind λp=>if p.1.length<=1000 then .ok p else .bad
theorem jh{l:bp}{u:HO}(x:SR B g H R s)(h:H l=Y):Gr g.HF H g.HF (upd H l u)/\g.HF l=Y/\g.o l=Y:=by
 refine⟨.jh x.sub h,x.sub.free h,?_⟩;cases q:g.o l with
 |none=>rfl
 |some p=>obtain⟨_,u,z⟩:=x.st.live l p q;rw[h]at z;cases z
def NT(h:PA X y<|tA B fl):PE X (.List y pos)<|tO B<|rj fl:=aS (mY h) λR H Q z=>by
 obtain⟨g,s,t,s',x,h,k⟩:=z;obtain⟨⟨ts,m⟩,l,h⟩:=ae h;dsimp only at h;split at h
 .rename_i z
  cases h;refine⟨g,s,_,_,x,l,λb g1 H1 d a c=>⟨wa<|by rw[<- c.len];exact z,λq e=>?_⟩⟩
  obtain⟨f,j,i⟩:=jh (u:=.lst b) a e;exact k q b _ _ (d.trans<|a.kI f) (a.grow f) (d.there q e) j i ao c
 .cases h
def SR.wb{l:bp}{u:HO}(x:SR B g H R s)(j:g.HF l=Y)(f:g.o l=Y)(k:H l=U u):SR B (g.grow<|upd g.HF l u) H R s:=by
 have sl:∀p c v,bX B g H p c v->bX B (g.grow<|upd g.HF l u) H p c v:=λp c v h=>bX.mv (g:=g) (g':=g.grow<|upd g.HF l u) (aQ j) fV (λ_ q=>⟨q,J⟩) h;refine⟨x.st.mv (λb w e=>?_) (λb p e=>?_) (aQ j) J λ_ _ q _=>⟨q,J⟩,x.lc.len,λi c e=>let⟨v,d,a⟩:=x.lc.at_ i c e;⟨v,d,sl _ _ _ a⟩⟩
 .have e:upd g.HF l u b=U w:=e
  by_cases hb:b=l
  .subst hb;rw[ao]at e;cases e;exact k
  .rw[af hb]at e;exact x.sub _ _ e
 .obtain⟨d,a⟩:=x.st.live b p e
  have:b≠l:=λz=>by subst z;rw[show g.o b=U p from e]at f;cases f
  exact⟨by show upd g.HF l u b=Y;rw[af this];exact d,a⟩
def dC.wb{g1:G}{H1:Hp}{l:bp}{u:HO}(p:dC g H g1 H1)(h0:H l=Y)(d:g1.HF l=Y):dC g H (g1.grow<|upd g1.HF l u) H1:=
 ⟨p.fr.trans<|aQ d,p.pre,λb w h n z=>by
  obtain⟨a,e,c⟩:=p.rest b w h n z
  have:b≠l:=aJ h h0
  exact⟨a,by show upd g1.HF l u b=Y;rw[af this];exact e,c⟩,p.there⟩
def DN(h:PE X e<|tO B fl):PE X e<|tE B<|iH fl:=aS h λR H Q z=>by
 obtain⟨g,s,t,s',x,h,k⟩:=z;obtain⟨⟨ts,m⟩,j,h⟩:=ae h;cases h;refine⟨g,s,_,_,x,j,λl c g1 H1 f b h0 a i hl d=>?_⟩;exact k _ _ H1 (f.wb h0 a) (b.wb a i hl) ⟨l,c,J,ao,d.same<|aQ a⟩
def NU(b:PT X a<|tT B ft):PW X (.BoolOp .And [a] pos)<|tT B ft:=Hb b
def S4(b:PT X a<|tT B ft):PW X (.BoolOp .Or [a] pos)<|tT B ft:=MS b
def S5{rest:Bz}(m:PT X a<|tT B ft)(l:PW X (.BoolOp .And (b::rest) pos)<|tT B u):PW X (.BoolOp .And (a::b::rest) pos)<|tT B<|kF ft u:=LH (MT m l) λR H Q z=>by
 obtain⟨g,s,t,s',x,h,k⟩:=z;obtain⟨⟨d,e⟩,n,h⟩:=ae h;refine⟨g,s,d,e,x,n,λg1 H1 f c=>?_⟩;cases d with
 |true=>exact lL ⟨g1,e,_,_,c,h,λg2 S j i=>k g2 S (f.trans j) i⟩
 |false=>cases h;exact m_<|k g1 H1 f c
def X_{rest:Bz}(m:PT X a<|tT B ft)(l:PW X (.BoolOp .Or (b::rest) pos)<|tT B u):PW X (.BoolOp .Or (a::b::rest) pos)<|tT B<|yn ft u:=LH (Rm m l) λR H Q z=>by
 obtain⟨g,s,t,s',x,h,k⟩:=z;obtain⟨⟨d,e⟩,n,h⟩:=ae h;refine⟨g,s,d,e,x,n,λg1 H1 f c=>?_⟩;cases d with
 |true=>cases h;exact lL<|k g1 H1 f c
 |false=>exact m_ ⟨g1,e,_,_,c,h,λg2 S j i=>k g2 S (f.trans j) i⟩
def S6(f:PT X a<|tT B ft):PT X (.UnaryOp .Not a pos)<|tT B<|dU ft:=DM (MU f) λR H Q z=>by
 obtain⟨g,s,t,s',x,h,k⟩:=z;obtain⟨⟨d,c⟩,i,h⟩:=ae h;cases h;exact⟨g,s,d,c,x,i,λg1 H1 e b=>k g1 H1 e b⟩
def mf{t:T}{k:Bool}(h:NQ t=U k):t=.bl k:=by
 cases t<;>first|(cases h;done)|(cases h;rfl)
def DO{op}(b:PE X a<|tE B W):PE X (.BoolOp op [a] pos)<|tE B W:=MV b
def NV{rest:Bz}(p:PE X a<|tE B W)(o:PE X (.BoolOp .And (b::rest) pos)<|tE B Z):PE X (.BoolOp .And (a::b::rest) pos)<|tE B<|tU W Z:=aS (MW p o) λR H Q z=>by
 obtain⟨g,s,t,s',x,h,k⟩:=z;obtain⟨⟨d,e⟩,r,h⟩:=ae h;obtain⟨i,q,h⟩:=ae h;cases mf (au q);refine⟨g,s,_,e,x,r,λv g1 H1 f c m=>⟨i,m,?_⟩⟩;cases i with
 |true=>exact lL ⟨g1,e,_,_,c,h,λw g2 S n j l=>k w g2 S (f.trans n) j l⟩
 |false=>cases h;exact m_<|k _ g1 H1 f c J
def S7{rest:Bz}(p:PE X a<|tE B W)(o:PE X (.BoolOp .Or (b::rest) pos)<|tE B Z):PE X (.BoolOp .Or (a::b::rest) pos)<|tE B<|SS W Z:=aS (Rp p o) λR H Q z=>by
 obtain⟨g,s,t,s',x,h,k⟩:=z;obtain⟨⟨d,e⟩,r,h⟩:=ae h;obtain⟨i,q,h⟩:=ae h;cases mf (au q);refine⟨g,s,_,e,x,r,λv g1 H1 f c m=>⟨i,m,?_⟩⟩;cases i with
 |true=>cases h;exact lL<|k _ g1 H1 f c J
 |false=>exact m_ ⟨g1,e,_,_,c,h,λw g2 S n j l=>k w g2 S (f.trans n) j l⟩
def NW(i:PE X a<|tE B W):PE X (.UnaryOp .Not a pos)<|tE B<|AS W:=aS (MX i) λR H Q z=>by
 obtain⟨g,s,t,s',x,h,k⟩:=z;obtain⟨⟨d,c⟩,l,h⟩:=ae h;obtain⟨m,j,h⟩:=ae h;cases mf (au j);cases h;exact⟨g,s,_,c,x,l,λv g1 H1 f b e=>⟨m,e,k _ g1 H1 f b J⟩⟩
def S8(n:PT X c<|tT B ft)(p:PE X a<|tE B W)(o:PE X b<|tE B Z):PE X (.IfExp c a b pos)<|tE B<|AU ft W Z:=aS (CA n p o) λR H Q z=>by
 obtain⟨g,s,t,s',x,h,k⟩:=z;obtain⟨⟨d,f⟩,q,h⟩:=ae h;refine⟨g,s,d,f,x,q,λg1 H1 m l=>?_⟩;cases d with
 |true=>exact lL ⟨g1,f,_,_,l,h,λw g2 S j e i=>k w g2 S (m.trans j) e i⟩
 |false=>exact m_ ⟨g1,f,_,_,l,h,λw g2 S j e i=>k w g2 S (m.trans j) e i⟩
def DP{al:BM}{HF:Hp}{t:T}{k:Bool}{v:V}(h:HR t=U k)(sm:aL HF H)(r:Rep B al HF t v):Nc B.K v H k:=by
 cases t<;>try(cases h;done)
 .cases h;cases r;rfl
 .cases h
  obtain⟨a,b,rfl,q,c⟩:=r;refine .inl ⟨b,dM.of<|sm _ _ q,?_⟩
  have:=c.len
  rename_i xs;cases xs<;>cases b<;>first|rfl|(cases this)
def LL(j:PE X a<|tE B W)(l:B.K=X.K)(he:∀c,FX a X.env c=(do let v <- c;tf a.pos;F1 [v] (truthy v))):PT X a<|tT B<|tB W:=DM (CP j he) λR H Q z=>by
 obtain⟨g,s,t,s',x,h,k⟩:=z;obtain⟨⟨d,e⟩,n,h⟩:=ae h;obtain⟨o,m,h⟩:=ae h;cases h;exact⟨g,s,_,e,x,n,λv g1 H1 i b f=>⟨_,l▸DP (au m) b.sub f,k g1 H1 i b⟩⟩
section
def fD(l:B1):(⟨l.toArray⟩:Str).length=l.length:=by show l.toArray.size=_;simp
def Yb{l:B1}(h:l.length<=1000000):(⟨l.toArray⟩:Str).length<=cq:=by rw[fD,ez];exact eT h (by decide)
def NX(a b:B1):(⟨a.toArray⟩:Str)++⟨b.toArray⟩=⟨(a++b).toArray⟩:=by
 show(⟨a.toArray++b.toArray⟩:Str)=_;simp
def LO:R2:=λx y H Q=>Bv (λi j=>.int<|i+j) x y H Q\/(∃i j,x=.str i/\y=.str j/\i.length+j.length<=cq/\Q (.str<|i++j) H)\/R3 x y H Q
def HZ:f6 X (ke .Add) LO:=M7.or<|vO.or vY
def S9:pH X SI LO:=λB i al HF H x y t tx ty Q sm b a h k=>by
 cases tx<;>first|(cases h;done)|(cases ty<;>try(cases h;done))
 .cases h;exact .inl ⟨_,_,b,a,k _ HF H (.refl sm) J⟩
 .obtain⟨c,rfl⟩:=bG h
  obtain⟨rfl,_⟩:=b;obtain⟨rfl,_⟩:=a;refine .inr<|.inl ⟨_,_,J,J,?_,?_⟩
  .rw[fD,fD,ez];exact eT c (by decide)
  .rw[NX]
   exact k _ HF H (.refl sm) ⟨J,by rw[dq];exact c⟩
 .obtain⟨c,rfl⟩:=bG h
  obtain⟨l,xs,rfl,q,r⟩:=b;obtain⟨m,ys,rfl,f,d⟩:=a;refine .inr<|.inr ⟨l,m,xs,ys,J,J,sm _ _ q,sm _ _ f,by rw[<- r.len,<- d.len,ez];exact eT c<|by decide,λp g=>?_⟩
  have e:=Gr.new (o:=.lst<|xs++ys) sm g;exact k _ _ _ e ⟨p,_,J,ao,(r.app d).same e.fr⟩
def S_{f:T->T->FR}{a:Int->Int->V}{G:Int->Int->T}(e:∀tx ty t,f tx ty=U t->∃i j,tx=.int i/\ty=.int j/\t=G i j)(d:∀B al i j H,Rep B al H (G i j)<|a i j):pH X f<|Bv a:=λB g al HF H x y t tx ty Q sm c b h k=>by
 obtain⟨i,j,rfl,rfl,rfl⟩:=e _ _ _ h;exact⟨i,j,c,b,k _ HF H (.refl sm)<|d B al i j HF⟩
def DQ{f:T->T->FR}{a:Int->Int->V}{G:Int->Int->T}{C:Int->Int->Prop}(g:∀tx ty t,f tx ty=U t->∃i j,tx=.int i/\ty=.int j/\t=G i j/\C i j)(e:∀B al i j H,Rep B al H (G i j)<|a i j):pH X f<|rI C a:=λB l al HF H x y t tx ty Q sm d b h k=>by
 obtain⟨i,j,rfl,rfl,rfl,c⟩:=g _ _ _ h;exact⟨i,j,d,b,c,k _ HF H (.refl sm)<|e B al i j HF⟩
def Tc:pH X SJ<|Bv λi j=>.int<|i-j:=S_ (G:=λi j=>.int<|i-j) (λtx ty t h=>by
 cases tx<;>first | (cases h;done) | (cases ty<;>first | (cases h;done) | (cases h;exact⟨_,_,J,J,J⟩))) λ_ _ _ _ _=>J
def Td:pH X SK<|rI RD λi j=>.int<|i/j:=DQ (G:=λi j=>.int<|i/j) (λtx ty t h=>by
 cases tx<;>first | (cases h;done) | (cases ty<;>first | (cases h;done) | (obtain⟨c,rfl⟩:=bG h;exact⟨_,_,J,J,J,c⟩))) λ_ _ _ _ _=>J
def Te:pH X SM<|rI (λ_ j=>0<j) λi j=>.int<|i % j:=DQ (G:=λi j=>.int<|i % j) (λtx ty t h=>by
 cases tx<;>first | (cases h;done) | (cases ty<;>first | (cases h;done) | (obtain⟨c,rfl⟩:=bG h;exact⟨_,_,J,J,J,c⟩))) λ_ _ _ _ _=>J
def Tf:pH X SN<|rI RG λi j=>.int<|i^j.toNat:=DQ (G:=λi j=>.int<|i^j.toNat) (λtx ty t h=>by
 cases tx<;>first | (cases h;done) | (cases ty<;>first | (cases h;done) | (obtain⟨c,rfl⟩:=bG h;exact⟨_,_,J,J,J,c⟩))) λ_ _ _ _ _=>J
def yx(i j:Int):Prop:=M6 i j\/(i.natAbs.log2<2000000/\j.natAbs.log2<2000000)
def qi{i:Int}(h:i.natAbs.log2<2000000):hV i<=2000000:=by
 unfold hV;split
 .exact xQ ..
 .exact eT h (by decide)
theorem yx.ok{i j:Int}(h:yx i j):IntMulOk i j:=by
 rcases h with h|⟨f,e⟩
 .exact h.ok
 .have a:=qi f
  have b:=qi e;intro q;rw[bT]at q;have c:=aR<|show decide (((hV i:Nat):Int)+(hV j:Nat) > (bitsLine:Nat))=O from q.2;have d:(bitsLine:Nat)=134217728:=J
  lia
def H0:f6 X (ke .Mult)<|rI yx λi j=>.int<|i*j:=V2 λ_ _ _ _ _ _ _ a q=>PyProof.Rows.mul_int q a.ok
def DR:R2:=λx y H Q=>∃l k,x=SV l/\y=.int k/\(0<=k/\k<=100)/\l≠[]/\l.length<=10000/\Q (SV (dN k.toNat l).flatten) H
theorem yy(l:B1):∀(k:Nat)(a:B1),(dN k l.toArray).foldl (·++·) a.toArray=(a++(dN k l).flatten).toArray
 |0,a=>by simp
 |k+1,a=>by
  rw[KP,List.foldl_cons,show a.toArray++l.toArray=(a++l).toArray by simp,yy l k,KP,KQ,bD]
def yz(l:B1)(k:Nat):(dN k l).flatten.length=k*l.length:=by
 rw[KR,List.map_replicate,List.sum_replicate_nat]
def DS:f6 X (ke .Mult) DR:=by
 intro z s R H x y v u Q I c b h;obtain⟨l,k,rfl,rfl,⟨h0,i⟩,d,f,q⟩:=h;obtain⟨t,rfl⟩:=c;obtain⟨o,rfl⟩:=b;have len:=fD l;have g:=ez;have r:k.toNat*l.length<=100*10000:=K_ (by lia) f
 refine PySem.P.mul_str (by rw[a9<|by lia,a9<|by lia];rfl) (λp _=>?_) (λ_ _=>?_) ?_
 .intro n
  rw[len]at n;have w:((2:Int)^63-1)/k*k<=2^63-1:=Int.ediv_mul_le _ (by lia)
  have j:(2:Int)^63-1<((2^63-1)/k+1)*k:=Int.lt_ediv_add_one_mul_self _ (by lia)
  have m:(((2:Int)^63-1)/k+1)*k<=10000*100:=Int.le_trans (Int.mul_le_mul_of_nonneg_right (by lia)<|by lia)<|Int.mul_le_mul_of_nonneg_left i<|by decide
  exact dk (Int.lt_of_lt_of_le j m) (by decide)
 .rw[len,Nat.mul_comm]
  unfold Builtin.Str.tooLong;exact a9 (by lia)
 .by_cases h1:k<1
  .have e:k=0:=by lia
   subst e;rw[b7 h1];exact⟨by show 0<=_;lia,⟨SV [],H,I.tok _,⟨_,J⟩,q⟩⟩
  .rw[b0 h1]
   split
   .rename_i a
    have e:k=1:=by
     rw[BX]at a;rcases a with a|a
     .exact aR (by simpa using a)
     .have a:=eq_of_beq a
      rw[len]at a;exact dk (KS.mp a) d
    subst e;have e:(dN (Int.toNat 1) l).flatten=l:=by simp
    rw[e]at q;exact⟨SV l,H,I,⟨_,J⟩,q⟩
   .have e:=yy l k.toNat []
    rw[Ar]at e;refine⟨?_,?_⟩
    .show Array.size _<=_
     rw[show((dN k.toNat (⟨l.toArray⟩:Str).cps).foldl (·++·) #[])=_ from e,cP,yz]
     lia
    .rw[show((dN k.toNat (⟨l.toArray⟩:Str).cps).foldl (·++·) #[])=_ from e]
     exact⟨SV (dN k.toNat l).flatten,H,I.tok _,⟨_,J⟩,q⟩
def LQ:R2:=λx y H Q=>rI yx (λi j=>.int<|i*j) x y H Q\/DR x y H Q
def H_:f6 X (ke .Mult) LQ:=H0.or DS
def LR:T->T->FR
 |.int i,.int j=>XY (.int i)<|.int j
 |.str l,.int k=>gd ((0<=k/\k<=100)/\l≠[]/\l.length<=10000)<|.str (dN k.toNat l).flatten
 |_,_=>Y
def Tg:pH X LR LQ:=λB e al HF H x y t tx ty Q sm b a h k=>by
 cases tx<;>first|(cases h;done)|(cases ty<;>try(cases h;done))
 .obtain⟨c,rfl⟩:=bG h
  exact .inl ⟨_,_,b,a,c,k _ HF H (.refl sm) J⟩
 .obtain⟨c,rfl⟩:=bG h
  obtain⟨rfl,d⟩:=b;refine .inr ⟨_,_,J,a,c.1,c.2.1,c.2.2,k _ HF H (.refl sm) ⟨J,?_⟩⟩;rw[yz]
  have:=K_ (show _<=100 from Int.toNat_le.mpr c.1.2) c.2.2
  exact this
def pI:rg->T->T->FR
 |.Add=>SI
 |.Sub=>SJ
 |.Mult=>LR
 |.FloorDiv=>SK
 |.Mod=>SM
 |.Pow=>SN
 |_=>λ_ _=>Y
def Th(e:B.K=X.K)(op:rg)(d:PE X a<|tE B W)(c:PE X b<|tE B Z):PE X (.BinOp a op b pos)<|tE B<|dD (pI op) W Z:=by
 have no:∀f:T->T->FR,(∀x y,f x y=Y)->PE X (.BinOp a op b pos) (tE B<|dD f W Z):=λf i _ _ _ _ _ _ z=>by
  obtain⟨_,_,_,_,_,h,_⟩:=z;obtain⟨⟨tx,k⟩,m,h⟩:=ae h;obtain⟨⟨ty,s2⟩,l,h⟩:=ae h;obtain⟨j,g,h⟩:=ae h;rw[i]at g;cases g
 cases op
 case Add=>exact aS (k8 HZ d c)<|iJ e S9
 case Sub=>exact aS (k8 M8 d c)<|iJ e Tc
 case Mult=>exact aS (k8 H_ d c)<|iJ e Tg
 case FloorDiv=>exact aS (k8 Hj d c)<|iJ e Td
 case Mod=>exact aS (k8 M9 d c)<|iJ e Te
 case Pow=>exact aS (k8 M_ d c)<|iJ e Tf
 all_goals exact no _ λ_ _=>J
def Ti(b:B.K=X.K)(d:PE X a<|tE B W):PE X (.UnaryOp .USub a pos)<|tE B<|dQ q_ W:=
 aS (RA Na d)<|LJ b λB b al HF H x t tx Q sm c h k=>by
  cases tx<;>try(cases h;done)
  cases h;exact⟨_,c,k _ HF H (.refl sm) J⟩
end
section
def wc{B:KT}{al:BM}{H:Hp}{t:T}{v:V}(h:Rep B al H t v)(f:cM t=O):(t=.non/\v=.non)\/(∃b,t=.bl b/\v=.bl b)\/(∃i,t=.int i/\v=.int i)\/∃l,t=.str l/\v=.str ⟨l.toArray⟩:=by
 cases t with
 |non=>exact .inl ⟨J,h⟩
 |bl b=>exact .inr<|.inl ⟨b,J,h⟩
 |int i=>exact .inr<|.inr<|.inl ⟨i,J,h⟩
 |str l=>exact .inr<|.inr<|.inr ⟨l,J,h.1⟩
 |_=>cases f
def dW{B:KT}{al:BM}{H:Hp}{t:T}{v:V}(h:Rep B al H t v)(f:cM t=O):eA v=O:=by
 rcases wc h f with⟨_,rfl⟩|⟨_,_,rfl⟩|⟨_,_,rfl⟩|⟨_,_,rfl⟩<;>rfl
def str_beq(l m:B1):((⟨l.toArray⟩:Str) == ⟨m.toArray⟩)=decide (l=m):=by
 by_cases h:l=m
 .subst h;simp
 .rw[a9 h,beq_eq_false_iff_ne]
  intro e;injection e with e
  exact h (by simpa using e)
def jW{B:KT}{al:BM}{H:Hp}{t u:T}{v w:V}(h:Rep B al H t v)(h':Rep B al H u w)(f:cM t=O)(a:cM u=O):C6 v w=eqT t u:=by
 rcases wc h f with⟨rfl,rfl⟩|⟨b,rfl,rfl⟩|⟨i,rfl,rfl⟩|⟨l,rfl,rfl⟩<;>rcases wc h' a with⟨rfl,rfl⟩|⟨c,rfl,rfl⟩|⟨j,rfl,rfl⟩|⟨m,rfl,rfl⟩<;>first|rfl|exact str_beq _ _|exact Bool.beq_eq_decide_eq _ _
def jX{c:dE}{R:St}{H HF:Hp}{s:ag}{a:bp}{vs:List V}(I:Inv X c R H s)(sm:aL HF H)(h:k7 X.K HF a vs):∃aG:B2,Vals vs aG/\s.heap.IsTuple a aG.toArray:=by
 obtain⟨aG,r,b,d⟩:=I.tuple (xs:=vs)<|cD sm h;exact⟨aG,r,b⟩
def jY{b:dE}{R:St}{H HF:Hp}{s:ag}{a:bp}{vs:List V}(I:Inv X b R H s)(sm:aL HF H)(h:HF a=U (.lst vs)):∃aG:B2,Vals vs aG/\s.heap.IsList a aG.toArray:=by
 obtain⟨aG,r,p,c⟩:=I.list<|dM.of<|sm _ _ h;exact⟨aG,r,p.isList⟩
def DT{v:V}(f:eA v=O):C6 v v=O:=by
 cases v<;>first|(cases f;done)|rfl|(show(_ == _)=O;exact nr _)
def DU(t u:T):shape 0 t u=(cM t&&cM u):=J
def yC{al:BM}(l:B.K=X.K){z:dE}{R:St}{H HF:Hp}{s:ag}(I:Inv X z R H s)(sm:aL HF H)(n:Nat):∀{t u:T}{v:V},Rep B al HF t v->Rep B al HF u v->shape n t u=O->eqT t u=O:=by
 have flat:∀{t u:T}{v:V},Rep B al HF t v->Rep B al HF u v->(cM t&&cM u)=O->eqT t u=O:=λh b f=>by
  obtain⟨m,x⟩:=vC.mp f;rw[<- jW h b m x];exact DT<|dW h m
 induction n with
 |zero=>exact λ{t u v} h b sh=>flat h b<|(DU t u).symm.trans sh
 |succ n o=>
  intro t u v h b sh;have d:∀{ts c:FK}{g:List V},aB B al HF ts g->aB B al HF c g->all2 (shape n) ts c=O->iG ts c=O:=by
   intro ts
   induction ts with
   |nil=>intro c g h b _;cases(show g=[]from h);cases c with
    |nil=>rfl
    |cons u c=>obtain⟨_,_,e,_⟩:=b;cases e
   |cons t ts k=>intro c g h b sh;cases c with
    |nil=>obtain⟨_,_,e,_⟩:=h;cases(show g=[]from b);cases e
    |cons u c=>
     obtain⟨v,r,rfl,w,p⟩:=h;obtain⟨E,i,e,C,D⟩:=b;cases e;obtain⟨ũ,Ū⟩:=vC.mp<|show(shape n t u&&all2 (shape n) ts c)=O from sh;show(eqT t u&&iG ts c)=O;rw[o w C ũ,k p D Ū];rfl
  cases t with
  |tup ts=>
   cases u with
   |tup c=>
    obtain⟨a,g,rfl,q,r⟩:=h;obtain⟨A,y,e,j,i⟩:=b;cases e;have ev:=I.pP (cD sm<|l▸q)<|cD sm<|l▸j;subst ev;exact d r i sh
   |_=>exact flat h b sh
  |lst ts=>
   cases u with
   |lst c=>
    obtain⟨a,g,rfl,q,r⟩:=h;obtain⟨A,y,e,j,i⟩:=b;cases e;rw[q]at j;cases j;exact d r i sh
   |_=>exact flat h b sh
  |_=>exact flat h b (by cases u<;>exact sh)
theorem uc{p:T->T->Bool}:∀{as bs:FK},all2 p as bs=O->∀{j:Nat}{a b:T},as[j]?=U a->bs[j]?=U b->p a b=O
 |a::as,b::bs,h,0,_,_,d,c=>by
  simp at d c;subst d c;exact(vC.mp h).1
 |a::as,b::bs,h,j+1,_,_,d,c=>uc (vC.mp h).2 (j:=j) (by simpa using d) (by simpa using c)
 |[],_,_,_,_,_,d,_=>by simp at d
 |_::_,[],_,_,_,_,_,c=>by simp at c
theorem fQ:∀(xs ys:FK),((gk<|min xs.length ys.length).all (λj=>eqT (xs.getD j .non)<|ys.getD j .non)&&xs.length == ys.length)=iG xs ys
 |[],[]=>J
 |[],_::_=>by simp[iG]
 |_::_,[]=>by simp[iG]
 |x::xs,y::ys=>by
  have a:=fQ xs ys;rw[eS,eS,Nat.succ_min_succ,Cb,d_,B5];have e:(xs.length+1 == ys.length+1)=(xs.length == ys.length):=by
   by_cases h:xs.length=ys.length<;>simp[h]
  rw[e];show((eqT x y&&(gk<|min xs.length ys.length).all λj=>eqT (xs.getD j .non)<|ys.getD j .non)&&_)=(eqT x y&&iG xs ys);rw[<- a,Bool.and_assoc]
theorem nA:∀{xs ys:FK},xs.length≠ys.length->iG xs ys=Zn
 |[],[],h=>dk J h
 |[],_::_,_=>J
 |_::_,[],_=>J
 |x::xs,y::ys,h=>by
  show(eqT x y&&iG xs ys)=Zn;rw[nA λe=>h<|by simp[e],KA]
def in1_units(A:dA):A.in1.units=A.units+1:=J
def jZ{al:BM}{HF:Hp}{A:dA}{s:ag}{ts us:FK}{vs d:List V}{aG its':B2}{n:Nat}(r:aB B al HF ts vs)(f:aB B al HF us d)(e:Vals vs aG)(c:Vals d its')(sh:all2 (shape n) ts us=O)
  (k:∀{t u:T}{v w:V}{x y:ar},Rep B al HF t v->Rep B al HF u w->RelV v x->RelV w y->shape n t u=O->mB A s x y (eqT t u)) :
  ∀j(h:j<aG.toArray.size)(g:j<its'.toArray.size),mB A s aG.toArray[j] its'.toArray[j]<|(λj=>eqT (ts.getD j .non)<|us.getD j .non) j:=by
 intro j h g;have l1:=e.length;have l2:=c.length;have l3:=r.len;have l4:=f.len;have a:j<ts.length:=by rw[l3,l1];simpa using h
 have b:j<us.length:=by rw[l4,l2];simpa using g
 obtain⟨v,p,q1⟩:=r.get<|fH a;obtain⟨w,o,q2⟩:=f.get<|fH b;obtain⟨x,m,i⟩:=e.get p;obtain⟨y,l,q4⟩:=c.get o;have q5:aG.toArray[j]=x:=by
  obtain⟨_,z⟩:=dR.mp m;simpa using z
 have q6:its'.toArray[j]=y:=by
  obtain⟨_,z⟩:=dR.mp l;simpa using z
 rw[q5,q6];have g1:ts.getD j .non=ts[j]:=by rw[xK,fH a];rfl
 have g2:us.getD j .non=us[j]:=by rw[xK,fH b];rfl
 show mB A s x y<|eqT (ts.getD j .non)<|us.getD j .non;rw[g1,g2];exact k q1 q2 i q4<|uc sh (fH a)<|fH b
def Ib{al:BM}(D:B.K=X.K){P:dE}{R:St}{H HF:Hp}{s:ag}(I:Inv X P R H s)(sm:aL HF H)(n:Nat):∀(A:dA){t u:T}{v w:V}{x y:ar},A.units+n<mx->Rep B al HF t v->Rep B al HF u w->RelV v x->RelV w y->shape n t u=O->mB A s x y (eqT t u):=by
 induction n with
 |zero=>
  intro A t u v w x y p rt f i h sh;have sh:=(DU t u).symm.trans sh;obtain⟨o,m⟩:=vC.mp sh;rw[<- jW rt f o m];exact vW i h (dW rt o)<|dW f m
 |succ n L=>
  intro A t u v w x y p rt f i h sh;have flat:(cM t&&cM u)=O->mB A s x y (eqT t u):=λsh=>by
   obtain⟨o,m⟩:=vC.mp sh;rw[<- jW rt f o m];exact vW i h (dW rt o)<|dW f m
  cases t with
  |tup ts=>
   cases u with
   |tup F=>
    obtain⟨a,N,rfl,q,r⟩:=id rt;obtain⟨b,M,rfl,G,k⟩:=id f;cases i;cases h;by_cases hab:a=b
    .subst hab
     rw[yC D I sm (n+1) rt f sh];exact SeqAt.EqAt.same _
    obtain⟨aG,j,C⟩:=jX I sm<|D▸q;obtain⟨l,g,E⟩:=jX I sm<|D▸G;have z:=vy C E (Cm (fk _ _) p)<|jZ (A:=A.in1) r k j g sh λa b c d e=>L A.in1 (by rw[in1_units];lia) a b c d e
    rw[cP,cP,<- j.length,<- g.length,<- r.len,<- k.len,fQ]at z;exact .of_refs hab z
   |_=>exact flat sh
  |lst ts=>
   cases u with
   |lst F=>
    obtain⟨a,N,rfl,q,r⟩:=id rt;obtain⟨b,M,rfl,G,k⟩:=id f;cases i;cases h;by_cases hab:a=b
    .subst hab
     rw[yC D I sm (n+1) rt f sh];exact SeqAt.EqAt.same _
    obtain⟨aG,j,C⟩:=jY I sm q;obtain⟨l,g,E⟩:=jY I sm G;have l1:=j.length;have l2:=g.length;have l3:=r.len;have l4:=k.len;by_cases hsz:ts.length=F.length
    .have z:=xi C E (by rw[cP,cP];lia) (Cm (fk _ _) p)<|jZ (A:=A.in1) r k j g sh λa b c d e=>L A.in1 (by rw[in1_units];lia) a b c d e
     have e:=fQ ts F;rw[<- hsz,La,nr,KC]at e;rw[cP,<- l1,<- l3,e]at z;exact .of_refs hab z
    .have z:=sq (s:=s) (A:=A) C E (by rw[cP,cP,bne_iff_ne];lia)<|Cm (fk _ _) p
     rw[<- nA hsz]at z;exact .of_refs hab z
   |_=>exact flat sh
  |_=>exact flat (by cases u<;>exact sh)
def Ic{al:BM}{HF:Hp}{A:dA}{s:ag}{t u:T}{v w:V}{x y:ar}(rt:Rep B al HF t v)(f:Rep B al HF u w)(e:RelV v x)(d:RelV w y)(h:cM t=O)(g:cM u=O):zi A s x y (eqT t u)/\vx A s x y (!eqT t u):=by
 rw[<- jW rt f h g];have g1:=dW rt h;have g2:=dW f g;cases v with
 |non=>
  cases e;cases w with
  |non=>cases d;exact⟨SeqAt.RcAt.none_none,SeqAt.RcNeAt.none_none⟩
  |bl b=>cases d;exact⟨SeqAt.RcAt.none_bool b,SeqAt.RcNeAt.none_bool b⟩
  |int b=>obtain⟨t,rfl⟩:=d;exact⟨SeqAt.RcAt.none_int b t,SeqAt.RcNeAt.none_int b t⟩
  |str b=>obtain⟨t,rfl⟩:=d;exact⟨SeqAt.RcAt.none_str b t,SeqAt.RcNeAt.none_str b t⟩
  |_=>exact dk (show Zn=O from g2) ia
 |bl a=>
  cases e;cases w with
  |non=>cases d;exact⟨SeqAt.RcAt.bool_none a,SeqAt.RcNeAt.bool_none a⟩
  |bl b=>cases d;exact⟨SeqAt.RcAt.bool_bool a b,SeqAt.RcNeAt.bool_bool a b⟩
  |int b=>obtain⟨t,rfl⟩:=d;exact⟨SeqAt.RcAt.bool_int a b t,SeqAt.RcNeAt.bool_int a b t⟩
  |str b=>obtain⟨t,rfl⟩:=d;exact⟨SeqAt.RcAt.bool_str a b t,SeqAt.RcNeAt.bool_str a b t⟩
  |_=>exact dk (show Zn=O from g2) ia
 |int a=>
  obtain⟨c,rfl⟩:=e;cases w with
  |non=>cases d;exact⟨SeqAt.RcAt.int_none a c,SeqAt.RcNeAt.int_none a c⟩
  |bl b=>cases d;exact⟨SeqAt.RcAt.int_bool a c b,SeqAt.RcNeAt.int_bool a c b⟩
  |int b=>obtain⟨t,rfl⟩:=d;exact⟨SeqAt.RcAt.int_int a c b t,SeqAt.RcNeAt.int_int a c b t⟩
  |str b=>obtain⟨t,rfl⟩:=d;exact⟨SeqAt.RcAt.int_str a c b t,SeqAt.RcNeAt.int_str a c b t⟩
  |_=>exact dk (show Zn=O from g2) ia
 |str a=>
  obtain⟨c,rfl⟩:=e;cases w with
  |non=>cases d;exact⟨SeqAt.RcAt.str_none a c,SeqAt.RcNeAt.str_none a c⟩
  |bl b=>cases d;exact⟨SeqAt.RcAt.str_bool a c b,SeqAt.RcNeAt.str_bool a c b⟩
  |int b=>obtain⟨t,rfl⟩:=d;exact⟨SeqAt.RcAt.str_int a c b t,SeqAt.RcNeAt.str_int a c b t⟩
  |str b=>obtain⟨t,rfl⟩:=d;exact⟨SeqAt.RcAt.str_str a c b t,SeqAt.RcNeAt.str_str a c b t⟩
  |_=>exact dk (show Zn=O from g2) ia
 |_=>exact dk (show Zn=O from g1) ia
def DV{al:BM}(F:B.K=X.K){P:dE}{R:St}{H HF:Hp}{s:ag}(I:Inv X P R H s)(sm:aL HF H)(A:dA){t u:T}{v w:V}{x y:ar}(Q:A.units+6<mx)(rt:Rep B al HF t v)(D:Rep B al HF u w)(C:RelV v x)(p:RelV w y)(sh:shape 5 t u=O) :
  zi A s x y (eqT t u)/\vx A s x y (!eqT t u):=by
 have flat:(cM t&&cM u)=O->zi A s x y (eqT t u)/\vx A s x y (!eqT t u):=λsh=>by
  obtain⟨N,M⟩:=vC.mp sh;exact Ic rt D C p N M
 have j:A.units<mx:=by lia
 have dp:=λ{t u:T} {v w:V} {x y:ar} (a:Rep B al HF t v) (b:Rep B al HF u w) (c:RelV v x) (d:RelV w y) (e:shape 4 t u=O)=>Ib F I sm 4 A.in1 (by rw[in1_units];lia) a b c d e
 cases t with
 |tup ts=>
  cases u with
  |tup o=>
   obtain⟨a,L,rfl,q,r⟩:=id rt;obtain⟨b,G,rfl,E,m⟩:=id D;cases C;cases p;obtain⟨aG,l,h⟩:=jX I sm<|F▸q;obtain⟨f,k,i⟩:=jX I sm<|F▸E;have it:=jZ (A:=A.in1) (s:=s) r m l k sh dp;have z:=vy h i j it;have g:=SeqAt.RcNeAt.tuples h i j it;rw[cP,cP,<- l.length,<- k.length,<- r.len,<- m.len,fQ]at z g;exact⟨z,g⟩
  |_=>exact flat sh
 |lst ts=>
  cases u with
  |lst o=>
   obtain⟨a,L,rfl,q,r⟩:=id rt;obtain⟨b,G,rfl,E,m⟩:=id D;cases C;cases p;obtain⟨aG,l,h⟩:=jY I sm q;obtain⟨f,k,i⟩:=jY I sm E;have l1:=l.length;have l2:=k.length;have l3:=r.len;have l4:=m.len;by_cases hsz:ts.length=o.length
   .have it:=jZ (A:=A.in1) (s:=s) r m l k sh dp
    have n:aG.toArray.size=f.toArray.size:=by rw[cP,cP];lia
    have z:=xi h i n j it;have g:=SeqAt.RcNeAt.lists h i n j it;have e:=fQ ts o;rw[<- hsz,La,nr,KC]at e;rw[cP,<- l1,<- l3,e]at z g;exact⟨z,g⟩
   .have n:(aG.toArray.size != f.toArray.size)=O:=by rw[cP,cP,bne_iff_ne];lia
    have z:=sq (s:=s) (A:=A) h i n j;have g:=SeqAt.RcNeAt.lists_lengths (s:=s) (A:=A) h i n j;have e:eqT (.lst ts) (.lst o)=Zn:=nA hsz;rw[e];exact⟨z,g⟩
  |_=>exact flat sh
 |_=>exact flat (by cases u<;>exact sh)
def NY(d:X.A.units+6<mx):f6 X (eh .Eq) λx y H Q=>∃B al HF t u,B.K=X.K/\aL HF H/\Rep B al HF t x/\Rep B al HF u y/\shape 5 t u=O/\Q (.bl<|eqT t u) H:=by
 intro g s R H x y v u Q I b a h;obtain⟨B,al,HF,t,f,e,sm,rt,c,sh,q⟩:=h;exact(DV e I sm X.A d rt c b a sh).1 _ _ _ _<|iB I q J
def NZ(d:X.A.units+6<mx):f6 X (eh .NotEq) λx y H Q=>∃B al HF t u,B.K=X.K/\aL HF H/\Rep B al HF t x/\Rep B al HF u y/\shape 5 t u=O/\Q (.bl<|!eqT t u) H:=by
 intro g s R H x y v u Q I b a h;obtain⟨B,al,HF,t,f,e,sm,rt,c,sh,q⟩:=h;exact(DV e I sm X.A d rt c b a sh).2 _ _ _ _<|iB I q J
def DW:f6 X (eh .Is) λx y H Q=>∃a b,x=.bl a/\y=.bl b/\Q (.bl<|a == b) H:=by
 intro e s R H x y v u Q I d c h;obtain⟨a,b,rfl,rfl,q⟩:=h;cases d;cases c;exact PyProof.Rows.is_bool<|iB I q J
theorem ud{B:KT}{al:BM}{H:Hp}:∀{ts:FK}{vs:List V},aB B al H ts vs->ts.all cM=O->vs.all eA=O
 |[],_,h,_=>by cases(show _=[]from h);rfl
 |t::ts,_,h,f=>by
  obtain⟨v,r,rfl,b,a⟩:=h;rw[d_,bT]at f;rw[d_,dW b f.1,ud a f.2];rfl
theorem any_eq{B:KT}{al:BM}{H:Hp}{x:T}{a:V}(b:Rep B al H x a)(fx:cM x=O):∀{ts:FK}{vs:List V},aB B al H ts vs->ts.all cM=O->(vs.any λy=>C6 y a)=ts.any λy=>eqT y x
 |[],_,h,_=>by cases(show _=[]from h);rfl
 |t::ts,_,h,f=>by
  obtain⟨v,r,rfl,d,c⟩:=h;rw[d_,bT]at f;rw[mP,mP,jW d b f.1 fx,any_eq b fx c f.2]
def wd{α:Type}(xs:List α)(i:Int):atT xs i=C5 xs i:=by
 unfold atT C5 Nh;by_cases h0:0<=i
 .rw[b7 h0,b7 h0]
  by_cases h1:i<xs.length
  .rw[b7 h1,b7 h1];rfl
  .rw[b0 h1,b0 h1];rfl
 .rw[b0 h0,b0 h0]
  by_cases h1:-(xs.length:Int)<=i
  .rw[b7 h1,b7 h1];rfl
  .rw[b0 h1,b0 h1];rfl
def yE{B:KT}{al:BM}{H:Hp}{ts:FK}{vs:List V}{i:Int}{t:T}(r:aB B al H ts vs)(h:atT ts i=U t):∃v,C5 vs i=U v/\Rep B al H t v:=by
 rw[wd]at h;unfold C5 at h ⊢;rw[<- r.len];cases e:Nh ts.length i with
 |none=>rw[e]at h;cases h
 |some j=>
  rw[e]at h;exact r.get h
end
section
variable{n:Pos}{t v:FO}{z Q:Option cb}
def DX{al:BM}{H:Hp}{t:T}{v:V}(h:Rep B al H t v):decide (v=.non)=DG t:=by
 cases t with
 |non=>cases(show v=.non from h);rfl
 |bl b=>cases(show v=.bl b from h);rfl
 |int i=>cases(show v=.int i from h);rfl
 |str l=>obtain⟨rfl,_⟩:=h;rfl
 |tup ts=>obtain⟨a,c,rfl,_⟩:=h;rfl
 |lst ts=>obtain⟨a,c,rfl,_⟩:=h;rfl
 |scr ts=>obtain⟨a,rfl,_⟩:=h;rfl
 |obj _ _=>obtain⟨a,_,_,_,_,rfl,_⟩:=h;rfl
 |own _=>obtain⟨a,rfl,_⟩:=h;rfl
 |gF _ _=>obtain⟨a,xs,rfl,_⟩:=h;rfl
def ū:R2:=λx y H Q=>(y=.non/\Q (.bl<|decide<|x=.non) H)\/∃a b,x=.bl a/\y=.bl b/\Q (.bl<|a == b) H
def Yh:R2:=λx y H Q=>(y=.non/\Q (.bl<|!decide (x=.non)) H)\/∃a b,x=.bl a/\y=.bl b/\Q (.bl<|a != b) H
def yF{p:Bool}{tx ty t:T}(h:SO p tx ty=U t):(ty=.non/\t=.bl (p == DG tx))\/∃a b,tx=.bl a/\ty=.bl b/\t=.bl (p == (a == b)):=by
 cases ty<;>try(cases h;done)
 .cases h;exact .inl ⟨J,J⟩
 .cases tx<;>try(cases h;done)
  cases h;exact .inr ⟨_,_,J,J,J⟩
def Yi:pH X (SO O) ū:=λB e al HF H x y t tx ty Q sm d c h k=>by
 rcases yF h with⟨rfl,rfl⟩|⟨a,b,rfl,rfl,rfl⟩
 .exact .inl ⟨c,by rw[DX d];exact k _ HF H (.refl sm)<|by cases DG tx<;>rfl⟩
 .exact .inr ⟨a,b,d,c,k _ HF H (.refl sm)<|by cases(a == b)<;>rfl⟩
def Tn:pH X (SO Zn) Yh:=λB e al HF H x y t tx ty Q sm d c h k=>by
 rcases yF h with⟨rfl,rfl⟩|⟨a,b,rfl,rfl,rfl⟩
 .exact .inl ⟨c,by rw[DX d];exact k _ HF H (.refl sm)<|by cases DG tx<;>rfl⟩
 .exact .inr ⟨a,b,d,c,k _ HF H (.refl sm)<|by show V.bl (a != b)=V.bl (Zn == (a == b));cases a<;>cases b<;>rfl⟩
def ue(K:a_)(a:Bool):R2:=λx y H Q=>(∃i j,x=.str i/\y=.str j/\Q (.bl<|if a then(!(!(dn j i 0 j.length 1).isEmpty))else(!(dn j i 0 j.length 1).isEmpty)) H)\/V4 K a x y H Q
def DY:f6 X (eh .In)<|ue X.K Zn:=AE.or p9
def yG:f6 X (eh .NotIn)<|ue X.K O:=qP.or qV
def Ie{tx ty:T}{k:Bool}(h:GY tx ty=U k):(∃x l,tx=.str x/\ty=.str l/\k=X0 x l)\/((∃ys,(ty=.tup ys\/ty=.lst ys)/\(cM tx=O/\ys.all cM=O)/\k=ys.any λy=>eqT y tx)):=by
 cases ty<;>try(cases h;done)
 .cases tx<;>try(cases h;done)
  cases h;exact .inl ⟨_,_,J,J,J⟩
 .obtain⟨c,rfl⟩:=bG h
  exact .inr ⟨_,.inl J,c,J⟩
 .obtain⟨c,rfl⟩:=bG h
  exact .inr ⟨_,.inr J,c,J⟩
def yH(x l:B1):(!(dn (⟨l.toArray⟩:Str) ⟨x.toArray⟩ 0 (⟨l.toArray⟩:Str).length 1).isEmpty)=(gk<|l.length+1).any λi=>decide (i+x.length<=l.length)&&((l.drop i).take x.length == x):=by
 rw[xA,StrLaws.found_iff,KO];constructor
 .rintro⟨i,b,a⟩
  rw[kn,fD]at a;rw[fD,fD]at b;exact⟨i,sH.mpr<|by lia,by rw[bt b,xC];exact a⟩
 .rintro⟨i,_,h⟩
  rw[bT,decide_eq_true_iff]at h;exact⟨i,by rw[fD,fD];exact h.1,by rw[kn,fD];exact h.2⟩
def Ig(x l:B1):(!(dn (⟨l.toArray⟩:Str) ⟨x.toArray⟩ 0 (⟨l.toArray⟩:Str).length 1).isEmpty)=X0 x l:=by
 match x with
 |[]=>exact yH ..
 |[c]=>exact StrLaws.found_one ..
 |_::_::_=>exact yH ..
def DZ{d:Bool}{B:KT}(n:B.K=X.K){al:BM}{HF H:Hp}{x y:V}{tx ty:T}{k:Bool}{Q:VK}(sm:aL HF H)(f:Rep B al HF tx x)(e:Rep B al HF ty y)(h:GY tx ty=U k)(q:Q (.bl<|if d then !k else k) H):ue X.K d x y H Q:=by
 rcases Ie h with⟨x,l,rfl,rfl,rfl⟩|⟨ys,m,⟨i,g⟩,rfl⟩
 .obtain⟨rfl,_⟩:=f
  obtain⟨rfl,_⟩:=e;refine .inl ⟨_,_,J,J,?_⟩;rw[Ig];exact q
 .right
  have c:∀a b,y=.ref a->(dM X.K H a b\/k7 X.K H a b)->aB B al HF ys b->V4 X.K d x y H Q:=λa b o j r=>by
   refine⟨a,b,o,j,dW f i,ud r g,?_⟩;unfold QV;rw[any_eq f i r g];exact q
  rcases m with rfl|rfl
  .obtain⟨a,b,rfl,q1,r⟩:=e
   exact c a b J (.inr<|n▸cD sm q1) r
  .obtain⟨a,b,rfl,q1,r⟩:=e
   exact c a b J (.inl<|dM.of<|sm _ _ q1) r
def Yj:pH X inD<|ue X.K Zn:=λB c al HF H x y t tx ty Q sm b a h k=>by
 unfold inD at h;cases e:GY tx ty with
 |none=>rw[e]at h;cases h
 |some d=>rw[e]at h;cases h;exact DZ c sm b a e<|k _ HF H (.refl sm) J
def To:pH X NL<|ue X.K O:=λB c al HF H x y t tx ty Q sm b a h k=>by
 unfold NL at h;cases e:GY tx ty with
 |none=>rw[e]at h;cases h
 |some d=>rw[e]at h;cases h;exact DZ c sm b a e<|k _ HF H (.refl sm) J
def Tp(X:Cx)(a:Bool):R2:=λx y H Q=>∃B al HF t u,B.K=X.K/\aL HF H/\Rep B al HF t x/\Rep B al HF u y/\shape 5 t u=O/\Q (.bl<|if a then !eqT t u else eqT t u) H
def Yk:pH X Ø<|Tp X Zn:=λB d al HF H x y t tx ty Q sm b a h k=>by
 obtain⟨c,rfl⟩:=bG h;exact⟨B,al,HF,tx,ty,d,sm,b,a,c,k _ HF H (.refl sm) J⟩
def Yl:pH X XZ<|Tp X O:=λB d al HF H x y t tx ty Q sm b a h k=>by
 obtain⟨c,rfl⟩:=bG h;exact⟨B,al,HF,tx,ty,d,sm,b,a,c,k _ HF H (.refl sm) J⟩
def yI(f:Int->Int->Bool):pH X (DF f)<|Bv λi j=>.bl<|f i j:=S_ (G:=λi j=>.bl<|f i j) (λtx ty t h=>by
 cases tx<;>first | (cases h;done) | (cases ty<;>first | (cases h;done) | (cases h;exact⟨_,_,J,J,J⟩))) λ_ _ _ _ _=>J
def Ih:kA->T->T->FR
 |.Eq=>Ø
 |.NotEq=>XZ
 |.Lt=>DF λi j=>decide<|i<j
 |.LtE=>DF λi j=>decide<|i<=j
 |.Gt=>DF λi j=>decide<|j<i
 |.GtE=>DF λi j=>decide<|j<=i
 |.Is=>SO O
 |.IsNot=>SO Zn
 |.In=>inD
 |.NotIn=>NL
def N1{op:kA}{k:Nat}(b:bo k X.A):∃r,f6 X (eh op) r/\pH X (Ih op) r:=by
 have a:X.A.units+6<mx:=by have:=b.units;lia
 cases op
 case Eq=>exact⟨_,NY a,Yk⟩
 case NotEq=>exact⟨_,NZ a,Yl⟩
 case Lt=>exact⟨_,RH,yI _⟩
 case LtE=>exact⟨_,RI,yI _⟩
 case Gt=>exact⟨_,RJ,yI _⟩
 case GtE=>exact⟨_,RK,yI _⟩
 case Is=>exact⟨_,Nb.or DW,Yi⟩
 case IsNot=>exact⟨_,Hk.or tD,Tn⟩
 case In=>exact⟨_,DY,Yj⟩
 case NotIn=>exact⟨_,yG,To⟩
def dm(a:FE):FT:=λs=>(a s).bind λp=>(dG<|NQ p.1).bind λb=>.ok (b,p.2)
def LS{f:FE}{R:St}{H:Hp}{Q:Bool->Hp->Prop}(h:tT B (dm f) R H Q):tE B f R H λx H'=>∃k,x=.bl k/\Q k H':=by
 obtain⟨g,s,t,s',x,h,k⟩:=h;obtain⟨⟨d,b⟩,j,h⟩:=ae h;obtain⟨l,i,h⟩:=ae h;cases mf (au i);cases h;exact⟨g,s,_,b,x,j,λv g1 H1 e a c=>⟨_,c,k g1 H1 e a⟩⟩
def uf:T->T->FR
 |.gF _ _,_=>Y
 |x,y=>ŧ x y
def D0{tx ty t:T}(h:uf tx ty=U t):∃i,ty=.int i/\((∃xs,(tx=.lst xs\/tx=.tup xs)/\atT xs i=U t)\/(∃l c,tx=.str l/\atT l i=U c/\t=.str [c])\/∃ns n,tx=.scr ns/\atT ns i=U n/\t=.int n):=by
 cases tx<;>first|(cases h;done)|(cases ty<;>try(cases h;done))
 .rename_i l i
  have h:(atT l i).map (λc=>T.str [c])=U t:=h;cases e:atT l i with
  |none=>rw[e]at h;cases h
  |some c=>rw[e]at h;cases h;exact⟨i,J,.inr<|.inl ⟨l,c,J,e,J⟩⟩
 .exact⟨_,J,.inl ⟨_,.inr J,h⟩⟩
 .exact⟨_,J,.inl ⟨_,.inl J,h⟩⟩
 .rename_i l i
  have h:(atT l i).map T.int=U t:=h;cases e:atT l i with
  |none=>rw[e]at h;cases h
  |some c=>rw[e]at h;cases h;exact⟨i,J,.inr<|.inr ⟨l,c,J,e,J⟩⟩
def N2{α a:Type}(f:α->a){l:List α}{i:Int}{c:α}(h:atT l i=U c):C5 (l.map f) i=U (f c):=by
 rw[wd]at h;unfold C5 at h ⊢;rw[ck];cases e:Nh l.length i with
 |none=>rw[e]at h;cases h
 |some j=>
  rw[e]at h;show(Ao f _)[j]?=_;rw[gA,show _[j]?=U c from h];rfl
def Ym:pH X uf<|Z7 X.K:=λB j al HF H x y t tx ty Q sm b a h k=>by
 obtain⟨i,rfl,⟨xs,g|g,e⟩|⟨l,c,rfl,e,rfl⟩|⟨ns,n,rfl,e,rfl⟩⟩:=D0 h
 .subst g
  obtain⟨p,d,rfl,q,r⟩:=b;obtain⟨v,e,f⟩:=yE r e;exact .inl ⟨p,d,_,v,J,a,dM.of<|sm _ _ q,e,k v HF H (.refl sm) f⟩
 .subst g
  obtain⟨p,d,rfl,q,r⟩:=b;obtain⟨v,e,f⟩:=yE r e;exact .inr<|.inl ⟨p,d,_,v,J,a,j▸cD sm q,e,k v HF H (.refl sm) f⟩
 .obtain⟨rfl,m⟩:=b
  refine .inr<|.inr ⟨_,_,c,J,a,Yb m,?_,k _ HF H (.refl sm) ⟨J,by simp⟩⟩
  rw[<- wd];exact e
 .obtain⟨p,rfl,q⟩:=b
  exact .inl ⟨p,_,_,.int n,J,a,j▸sm.seq q,N2 V.int e,k _ HF H (.refl sm) J⟩
def Yn(f:B.K=X.K)(e:PE X a<|tE B W)(d:PE X b<|tE B Z)(c:lY b):PE X (.Subscript a b pos)<|tE B<|dD uf W Z:=aS (RV Nk e d c)<|iJ f Ym
end
end D
namespace L2
open PySem PySem.Spec PyProof.Rows
section
variable{X:Cx}
theorem qj:∀(ls:Bi)(t:Nat),Vals (ls.map V.str)<|strsFrom t ls
 |[],_=>.nil
 |x::ls,t=>.cons ⟨_,J⟩<|qj ls<|t+1
def D3:vq X "str.split" λx vs H Q=>∃a b,x=.str a/\vs=[.str b]/\(b.length == 0)=Zn/\a.length<=cq/\(Txt.split a b).length<=cq/\∀l,H l=Y->Q (.ref l) (upd H l<|.lst<|(Txt.split a b).map V.str):=by
 intro k s i H x vs v j Q I e f h;obtain⟨a,b,rfl,rfl,d,g,c,q⟩:=h;obtain⟨t,rfl⟩:=e;obtain⟨u,rfl,⟨t',rfl⟩⟩:=f.one;unfold Txt.split at c q;by_cases c1:(decide (a.length<b.length) ||decide (gN a<gN b))=O
 .rw[b7 c1]at c q
  refine yA F.slot_str_split (n0 s a t) F.entry_str_split (F.args_str_split_2 _ _) (meets_str_split_cannot_occur a b t t' c1) ?_;exact⟨.ref s.heap.objs.size,_,I.Dc (t':=s.toks) (ys:=[V.str a]) (.cons ⟨_,J⟩ .nil) c,J,q _ I.fresh⟩
 .rw[b0 c1]at c q
  have Ü:(decide (a.length<b.length) ||decide (gN a<gN b))=Zn:=by
   rcases KD (decide (a.length<b.length) ||decide (gN a<gN b))with z|z
   .exact dk z c1
   .exact z
  by_cases c2:(dn a b 0 a.length<|a.length+1).isEmpty=O
  .rw[b7 c2]at c q
   refine yA F.slot_str_split (n0 s a t) F.entry_str_split (F.args_str_split_2 _ _) (meets_str_split_not_found a b t t' Ü d c2) ?_;exact⟨.ref s.heap.objs.size,_,I.Dc (t':=s.toks) (ys:=[V.str a]) (.cons ⟨_,J⟩ .nil) c,J,q _ I.fresh⟩
  .rw[b0 c2]at c q
   have Ŭ:(dn a b 0 a.length<|a.length+1).isEmpty=Zn:=by
    rcases KD (dn a b 0 a.length<|a.length+1).isEmpty with z|z
    .exact dk z c2
    .exact z
   refine yA F.slot_str_split (n0 s a t) F.entry_str_split (F.args_str_split_2 _ _) (meets_str_split_sep a b t t' Ü d Ŭ g c) ?_;exact⟨.ref s.heap.objs.size,_,I.Dc (qj _ _)<|by rw[ck];exact c,J,q _ I.fresh⟩
end
section
variable{X:Cx}
def D4:vq X "str.find" λx vs H Q=>∃a b,x=.str a/\vs=[.str b]/\Q (.int<|o6 a b) H:=by
 intro i s e H x vs v f Q I c d h;obtain⟨a,b,rfl,rfl,q⟩:=h;obtain⟨t,rfl⟩:=c;obtain⟨u,rfl,⟨g,rfl⟩⟩:=d.one;exact SC.find ⟨.int _,H,I.tok _,⟨_,J⟩,q⟩
end
end L2
namespace D
open PySem L2
variable{X:Cx}{env:Env}{a b c e o tg:cb}{fa j u fo:FE}{fl:FL}{g g':G}{H H':Hp}{B:KT}{es:Bz}{cA R p pos:Pos}{s s':S}{σ:St}{x y:Str}
section
variable{S:Pos}{Z Yd:FO}{Ye Yg:Option cb}
def D5(lo a:Dx)(n:Nat):fw lo a 1 n=fw (U ((D.f9 n 0 lo:Nat):Int)) (U ((D.f9 n n a:Nat):Int)) 1 n:=by
 have c:∀v:Int,max 0 (min (if v<0 then v+(n:Int)else v) (n:Int))=((if v<0 then(v+(n:Int)).toNat else min v.toNat n:Nat):Int):=λv=>by
  by_cases hv:v<0
  .rw[b7 hv,b7 hv];lia
  .rw[b0 hv,b0 hv];lia
 have d:∀m:Nat,m<=n->max 0 (min (if((m:Nat):Int)<0 then((m:Nat):Int)+(n:Int)else((m:Nat):Int)) (n:Int))=((m:Nat):Int):=λm b=>by
  rw[b0<|by lia];lia
 have l1:D.f9 n 0 lo<=n:=by
  cases lo with
  |none=>exact i_ _
  |some v=>show(if v<0 then(v+(n:Int)).toNat else min v.toNat n)<=n;split<;>lia
 have l2:D.f9 n n a<=n:=by
  cases a with
  |none=>exact dS _
  |some v=>show(if v<0 then(v+(n:Int)).toNat else min v.toNat n)<=n;split<;>lia
 unfold fw;simp only[show((1:Int) > 0)from by decide,BA]
 rw[d _ l1,d _ l2]
 congr 1
 .cases lo with
  |none=>rfl
  |some v=>exact c v
 .cases a with
  |none=>rfl
  |some v=>exact c v
def D6(n d:Nat)(hd:d<=n)(o:Dx):D.f9 n d o<=n:=by
 cases o with
 |none=>exact hd
 |some v=>show(if v<0 then(v+(n:Int)).toNat else min v.toNat n)<=n;split<;>lia
def cut_str(l:B1)(lo a:Dx):xa ⟨l.toArray⟩ lo a=⟨(cj l lo a).toArray⟩:=by
 have h:xa ⟨l.toArray⟩ lo a=jM ⟨l.toArray⟩ lo a:=J;have g:jM ⟨l.toArray⟩ lo a=jM ⟨l.toArray⟩ (U ((D.f9 l.length 0 lo:Nat):Int)) (U ((D.f9 l.length l.length a:Nat):Int)):=by
  unfold jM;rw[fD,D5]
 rw[h,g];have b:=D6 l.length l.length (dS _) a;by_cases hab:D.f9 l.length 0 lo<=D.f9 l.length l.length a
 .rw[StrLaws.sliceText_nat _ hab<|by rw[fD];exact b]
  rfl
 .have c:=D6 l.length 0 (i_ _) lo
  have f:cj l lo a=[]:=by
   unfold cj;rw[show D.f9 l.length l.length a-D.f9 l.length 0 lo=0 by lia,List.take_zero]
  rw[f];have e:fw (U ((D.f9 l.length 0 lo:Nat):Int)) (U ((D.f9 l.length l.length a:Nat):Int)) 1 l.length=[]:=by
   have d:∀m:Nat,m<=l.length->max 0 (min (if((m:Nat):Int)<0 then((m:Nat):Int)+(l.length:Int)else((m:Nat):Int)) (l.length:Int))=((m:Nat):Int):=λm i=>by
    rw[b0<|by lia];lia
   unfold fw;simp only[show((1:Int) > 0)from by decide,BA]
   rw[d _ c,d _ b];simp only[sliceRange];rw[b7<|by decide,b0<|by lia]
   rfl
  unfold jM;rw[fD,e];rw[b0<|by simp;lia]
  rfl
def D7{α:Type}(l:List α)(lo a:Dx):(cj l lo a).length<=l.length:=by
 unfold cj;rw[xH,An]
 lia
def yJ(xs:List V)(lo a:Dx):qS xs lo a=cj xs lo a:=by
 have e:∀(n d:Nat)(o:Dx),HT.f9 n d o=D.f9 n d o:=λn d o=>by cases o<;>rfl
 unfold qS cj;rw[e,e]
def aB.cut{B:KT}{al:BM}{H:Hp}{ts:FK}{vs:List V}(r:aB B al H ts vs)(lo a:Dx):aB B al H (cj ts lo a)<|cj vs lo a:=by
 unfold cj;rw[r.len];exact(r.drop _).take _
def Ii{α b:Type}(f:α->b)(l:List α)(lo a:Dx):(cj l lo a).map f=cj (l.map f) lo a:=by
 unfold cj;rw[ck,List.map_take,List.map_drop]
theorem ug{B:KT}{al:BM}{H:Hp}:∀{ts:FK}{vs:List V}{ls:Ap},aB B al H ts vs->strsOf ts=U ls->vs=(ls.map λl=>(⟨l.toArray⟩:Str)).map V.str
 |[],_,_,h,e=>by cases(show _=[]from h);cases e;rfl
 |t::ts,_,ls,h,e=>by
  obtain⟨v,r,rfl,c,b⟩:=h;cases t<;>try(cases e;done)
  rename_i l;have e:(strsOf ts).map (l::·)=U ls:=e
  cases a:strsOf ts with
  |none=>rw[a]at e;cases e
  |some ms=>
   rw[a]at e;cases e;obtain⟨rfl,_⟩:=c;rw[ug b a];rfl
theorem join_eq(a:B1):∀ls:Ap,Str.join ⟨a.toArray⟩ (ls.map λl=>(⟨l.toArray⟩:Str))=⟨(fP a ls).toArray⟩
 |[]=>J
 |[c]=>J
 |c::d::r=>by
  have b:=join_eq a<|d::r;show(⟨c.toArray⟩:Str)++⟨a.toArray⟩++Str.join ⟨a.toArray⟩ ((d::r).map λl=>(⟨l.toArray⟩:Str))=⟨(c++a++fP a (d::r)).toArray⟩;rw[b,NX,NX]
theorem qk(a:B1):∀ls:Ap,(fP a ls).length<=(ls.map (·.length)).sum+ls.length*a.length
 |[]=>by simp[fP]
 |[c]=>by simp[fP]
 |c::d::r=>by
  have b:=qk a<|d::r;show(c++a++fP a (d::r)).length<=_;rw[dq,dq,eF,List.sum_cons,eS,Nat.succ_mul]
  lia
def D8(ls:Ap):((ls.map λl=>(⟨l.toArray⟩:Str)).map (·.length))=ls.map (·.length):=by
 rw[pe];apply KU;intro l _;exact fD l
def N3(l s:B1):o5 ⟨l.toArray⟩ ⟨s.toArray⟩=pre s l:=by
 unfold o5 pre;rw[kn];show(decide (0+(⟨s.toArray⟩:Str).length<=l.toArray.size)&&((l.drop 0).take (⟨s.toArray⟩:Str).length == s))=_;rw[fD,cP,Av,B8]
def N4(l s:B1):sb ⟨l.toArray⟩ ⟨s.toArray⟩=v9 s l:=by
 unfold sb v9;rw[kn,fD,fD];show(decide (0+s.length<=l.length)&&((l.drop<|l.length-s.length).take s.length == s))=_;rw[Av];by_cases h:s.length<=l.length
 .rw[bt h,xC,xC]
  rw[List.take_of_length_le<|by rw[An];lia]
 .rw[a9 h,BY,BY]
theorem kJ{B:KT}{al:BM}{H:Hp}:∀{ts:FK}{vs:List V}{ks:Fm},aB B al H ts vs->boolsOf ts=U ks->vs=ks.map V.bl
 |[],_,_,h,e=>by cases(show _=[]from h);cases e;rfl
 |t::ts,_,b,h,e=>by
  obtain⟨v,r,rfl,d,c⟩:=h;cases t<;>try(cases e;done)
  rename_i l;have e:(boolsOf ts).map (l::·)=U b:=e
  cases a:boolsOf ts with
  |none=>rw[a]at e;cases e
  |some ms=>
   rw[a]at e;cases e;cases(show v=.bl l from d);rw[kJ c a];rfl
def uh(tn T:String):Option Bool:=if(n4 tn == n4 T)=O then U O else if PySem.W.kitMeta T=O then(fastBuiltinMro tn).map (·.contains<|n4 T)else Y
def kK(K:a_){tn T:String}{b:Bool}(h:uh tn T=U b):mJ K (.type tn) (.type T)=U b:=h
structure jk(T:String):Prop where
 non:uh "NoneType" T=U Zn
 bl:uh "bool" T=U (T == "bool" ||T == "int")
 int:uh "int" T=U (T == "int")
 str:uh "str" T=U (T == "str")
 tup:uh "tuple" T=U (T == "tuple")
 lst:uh "list" T=U (T == "list")
 dic:uh "dict" T=U (T == "dict")
def N5:jk "int" := by constructor<;>decide +kernel
def Ij:jk "bool" := by constructor<;>decide +kernel
def N6:jk "str" := by constructor<;>decide +kernel
def D9:jk "tuple" := by constructor<;>decide +kernel
def Ik:jk "list" := by constructor<;>decide +kernel
def bH(c:Nat):B1->Ap
 |[]=>[[]]
 |d::l=>if d=c then[]::bH c l else match bH c l with
  |p::r=>(d::p)::r
  |[]=>[[d]]
theorem nB{c:Nat}:∀{p:B1},c∉p->bH c p=[p]
 |[],_=>J
 |d::p,h=>by
  have hd:d≠c:=λe=>h (by rw[e];exact eu ..)
  have a:c∉p:=λe=>h<|eE _ e;unfold bH;rw[b0 hd,nB a]
theorem nC{c:Nat}(l:B1):∀{p:B1},c∉p->bH c (p++[c]++l)=p::bH c l
 |[],_=>by
  show bH c (c::l)=_;rw[bH,b7 J]
 |d::p,h=>by
  have hd:d≠c:=λe=>h (by rw[e];exact eu ..)
  have a:c∉p:=λe=>h<|eE _ e;show bH c (d::(p++[c]++l))=_;rw[bH,b0 hd,nC l a]
theorem lr{c:Nat}:∀{ls:Ap},ls≠[]->(∀p∈ls,c∉p)->bH c (fP [c] ls)=ls
 |[],h,_=>dk J h
 |[p],_,h=>nB<|h p<|eu ..
 |p::q::r,_,h=>by
  show bH c (p++[c]++fP [c] (q::r))=_;rw[nC _<|h p<|eu ..,lr (by simp) λx a=>h x<|eE _ a]
def split_len(x y:Str):(Txt.split x y).length<=x.length+2:=by
 unfold Txt.split;split
 .simp
 .split
  .simp
  .rw[length_partsBetween]
   have:=StrLaws.occ_length_le x y 0 x.length<|x.length+1
   exact Nat.add_le_add_right this _
def D_(x y:Str):Txt.split x y≠[]:=by
 unfold Txt.split;split
 .simp
 .split
  .simp
  .intro e
   have:=length_partsBetween x (dn x y 0 x.length<|x.length+1) y.length
   rw[e]at this;simp at this
def Ea(a:B1)(c:Nat):Txt.split ⟨a.toArray⟩ ⟨#[c]⟩=(bH c a).map λl=>(⟨l.toArray⟩:Str):=by
 obtain⟨L,d⟩:∃L:Ap,L=(Txt.split ⟨a.toArray⟩ ⟨#[c]⟩).map λp=>p.cps.toList:=⟨_,J⟩;have f:Txt.split ⟨a.toArray⟩ ⟨#[c]⟩=L.map λl=>(⟨l.toArray⟩:Str):=by
  rw[d,pe]
  conv=>lhs;rw[<- List.map_id<|Txt.split ⟨a.toArray⟩ ⟨#[c]⟩]
  apply KU;intro p _;show p=(⟨p.cps.toList.toArray⟩:Str);rw[Array.toArray_toList]
 have h:L≠[]:=by
  rw[d];intro e;exact D_ _ _<|Cc.mp e
 have g:∀p∈L,c∉p:=by
  rw[d];intro p j;obtain⟨q,i,rfl⟩:=iw.mp j;exact StrLaws.split_free _ c q i
 have b:=StrLaws.join_split ⟨a.toArray⟩ ⟨#[c]⟩;rw[f,show(⟨#[c]⟩:Str)=⟨([c]:B1).toArray⟩from J,join_eq]at b;have ŭ:fP [c] L=a:=by
  injection b with b
  simpa using b
 rw[f,<- ŭ,lr h g]
theorem qm{B:KT}{al:BM}{H:Hp}:∀{ls:Ap},(∀l∈ls,l.length<=1000000)->aB B al H (ls.map T.str) (ls.map λl=>SV l)
 |[],_=>J
 |l::ls,h=>⟨_,_,J,⟨J,h l<|eu ..⟩,qm λx a=>h x<|eE _ a⟩
theorem j0(c:Nat):∀(a:B1),∀l∈bH c a,l.length<=a.length
 |[],l,h=>by
  rw[kq.mp h];simp
 |d::a,l,h=>by
  have b:=j0 c a;rw[bH]at h;split at h
  .rcases bu.mp h with e|e
   .rw[e];simp
   .have:=b l e;simp;exact eT this<|fk ..
  .split at h
   .rename_i p r Ý
    rcases bu.mp h with e|e
    .have:=b p (by rw[Ý];exact eu ..)
     rw[e];simp;exact this
    .have:=b l (by rw[Ý];exact eE _ e)
     simp;exact eT this<|fk ..
   .rw[kq.mp h];simp
def Tq:PO X Y<|tP B nk:=LI ya λσ H Q z=>by
 obtain⟨g,s,t,s',x,h,k⟩:=z;cases h;exact k g H .refl x
def Il{t:T}{i:Int}(h:SW t=U i):t=.int i:=by
 cases t<;>first|(cases h;done)|(cases h;rfl)
def Tr(j:PE X a<|tE B fa):PO X (U a)<|tP B<|iS fa:=LI (yb j) λσ H Q z=>by
 obtain⟨g,s,t,s',x,h,k⟩:=z;obtain⟨⟨d,c⟩,m,h⟩:=ae h;obtain⟨i,l,h⟩:=ae h;cases Il (au l);cases h;exact⟨g,s,_,c,x,m,λv g1 H1 f b e=>⟨_,e,k g1 H1 f b⟩⟩
def Yo(K:a_):V->Dx->Dx->Hp->VK->Prop:=λx lo a H Q=>(∃z,x=.str z/\z.length<=cq/\Q (.str<|xa z lo a) H)\/R1 K x lo a H Q
def Yp:Lr X<|Yo X.K:=Nt.or yc
def Yq(E:B.K=X.K)(D:PE X a<|tE B fa)(hl:PO X Ye<|tP B Z)(C:PO X Yg<|tP B Yd):PE X (.Subscript a (.Slice Ye Yg Y S) pos)<|tE B<|jy fa Z Yd:=by
 refine aS (tm Yp D hl C) λσ H Q u=>?_;obtain⟨g,s,t,s',x,h,k⟩:=u;obtain⟨⟨tx,m⟩,I,h⟩:=ae h;obtain⟨⟨lo,s2⟩,G,h⟩:=ae h;obtain⟨⟨p,N⟩,F,h⟩:=ae h;obtain⟨M,c,h⟩:=ae h;cases h;have c:NO lo p tx=U _:=au c;refine⟨g,s,_,m,x,I,λv g1 H1 A y z=>⟨g1,m,_,s2,y,G,λg2 P S w=>⟨g2,s2,_,_,w,F,λg3 L f b=>?_⟩⟩⟩;have d:=(z.mv S.pre S.fr).mv f.pre f.fr;have e:=(A.trans S).trans f;cases tx<;>try(cases c;done)
 .cases c
  obtain⟨rfl,n⟩:=d;refine .inl ⟨_,J,Yb n,?_⟩;rw[cut_str];exact k _ g3 L e b ⟨J,eT (D7 _ _ _) n⟩
 .cases c
  obtain⟨a,j,rfl,q,r⟩:=d;refine .inr ⟨a,j,J,dM.of<|b.sub _ _ q,λl hl=>?_⟩;rw[yJ];have i:=Gr.new (o:=.lst<|cj j lo p) b.sub hl;exact k _ _ _ (e.trans<|b.kI i) (b.grow i) ⟨l,_,J,ao,(r.cut _ _).same i.fr⟩
 .cases c
  obtain⟨a,rfl,q⟩:=d;refine .inr ⟨a,_,J,E▸b.sub.seq q,λl hl=>?_⟩;rw[yJ,<- Ii];exact k _ _ _ (e.trans<|b.kI<|Gr.new b.sub hl) (b.grow<|Gr.new b.sub hl) ⟨l,_,J,ao,aB.ints _⟩
end
section
def noStar:cb->Bool
 |.Starred _ _=>Zn
 |_=>O
def aw(h:noStar e=O):cw (e::es) env=(Zn,e6 e env)::cw es env:=by
 cases e<;>first|rfl|(cases h)
theorem cJ:∀{es:Bz},es.all noStar=O->(hB pos<|cw es env).any (·.1)=Zn
 |[],_=>J
 |e::es,h=>by
  rw[d_,bT]at h;rw[aw h.1];show(Zn ||(hB pos<|cw es env).any (·.1))=Zn
  rw[cJ h.2];rfl
theorem nE:∀{es:Bz},es.all noStar=O->(hB pos<|cw es env).all (λx=>!x.1)=O
 |[],_=>J
 |e::es,h=>by
  rw[d_,bT]at h;rw[aw h.1];show(O&&(hB pos<|cw es env).all (λx=>!x.1))=O;rw[nE h.2];rfl
def G0(h:(e::es).all noStar=O)(hl:es.length<29):((hB R<|cw (e::es) env).all (λx=>!x.1)&&(ra R<|mr [] env).all (λx=>x.1.isSome)
   && decide ((e::es).length+([]:List tv).length+(if([]:List tv).isEmpty then 0 else 1)<30))=O:=by
 rw[nE h,bT];exact⟨J,bt<|show es.length+1+0+0<30 from Cm hl<|by decide⟩
def cV:cb->Bool
 |.Call (.Name _ _) [] [] _=>Zn
 |_=>O
def iT{f:Str}{a:Sem ar}(h:cV o=O):kf o f env a=a:=by
 unfold kf;split
 .cases h
 .rfl
def LM(X:Cx)(f:B1->FK->FR)(r:V->List V->Hp->VK->Prop):Prop:=∀(B:KT)(_:B.K=X.K)(al:BM)(HF H:Hp)(l:B1)(xs:List V)(t:T)(ts:FK)(Q:VK),aL HF H->l.length<=1000000->aB B al HF ts xs->f l ts=U t->(∀v a H',Gr HF H a H'->Rep B al a t v->Q v H')->r (SV l) xs H Q
def Im:T->Option B1
 |.str l=>U l
 |_=>Y
def j1(f:B1->FK->FR)(o:FE)(fl:FL):FE:=λs=>(o s).bind λp=>(dG<|Im p.1).bind λl=>(fl p.2).bind λq=>(dG<|f l q.1).bind λt=>.ok (t,q.2)
def Eb{t:T}{l:B1}(h:Im t=U l):t=.str l:=by
 cases t<;>first|(cases h;done)|(cases h;rfl)
def Yr{f:B1->FK->FR}{r:V->List V->Hp->VK->Prop}(w:B.K=X.K)(q:LM X f r):∀σ H Q,tE B (j1 f fo fl) σ H Q->Z8 X.K "str" r (tE B fo) (tA B fl) σ H Q:=by
 rintro σ H Q ⟨g,s,t,s',x,h,k⟩
 obtain⟨⟨tx,b⟩,C,h⟩:=ae h;obtain⟨l,A,h⟩:=ae h;obtain⟨⟨ts,s2⟩,z,h⟩:=ae h;obtain⟨F,y,h⟩:=ae h;cases h;cases Eb (au A);refine⟨g,s,_,b,x,C,λv g1 H1 o d m=>?_⟩;obtain⟨rfl,p⟩:=m;exact⟨J,g1,b,_,_,d,z,λe g2 E n a j=>q B w g2.al g2.HF E l e _ ts Q a.sub p j (au y) λu D H' c i=>k u (g2.grow D) H' ((o.trans n).trans<|a.kI c) (a.grow c) i⟩
def rk(l:B1):FK->FR
 |[.str s]=>U<|.bl<|pre s l
 |_=>Y
def Ys(l:B1):FK->FR
 |[.str s]=>U<|.bl<|v9 s l
 |_=>Y
def joinM(l:B1):FK->FR
 |[t]=>LC (.str l) t
 |_=>Y
def splitM(l:B1):FK->FR
 |[.str [c]]=>gd (l.length<=100000)<|.lst<|(bH c l).map .str
 |_=>Y
open PySem.Spec PyProof.Rows in
def i7(l:B1):FK->FR
 |[.str s]=>U<|.int<|o6 ⟨l.toArray⟩ ⟨s.toArray⟩
 |[.str s,.int i]=>U<|.int<|n5 ⟨l.toArray⟩ ⟨s.toArray⟩ i
 |_=>Y
def cu{al:BM}{H:Hp}{t:T}{xs:List V}(r:aB B al H [t] xs):∃v,xs=[v]/\Rep B al H t v:=by
 obtain⟨v,w,rfl,h,e⟩:=r;cases(show w=[]from e);exact⟨v,J,h⟩
def Io{al:BM}{H:Hp}{t u:T}{xs:List V}(r:aB B al H [t,u] xs):∃v w,xs=[v,w]/\Rep B al H t v/\Rep B al H u w:=by
 obtain⟨v,b,rfl,h,e⟩:=r;obtain⟨w,rfl,a⟩:=cu e;exact⟨v,w,J,h,a⟩
def Yt:LM X rk λx vs H Q=>∃a b,x=.str a/\vs=[.str b]/\Q (.bl<|o5 a b) H:=λB d al HF H l xs t ts Q sm c r h k=>by
 match ts,h with
 |[.str s],h=>
  cases h;obtain⟨v,rfl,rfl,_⟩:=cu r;refine⟨_,_,J,J,?_⟩;rw[N3];exact k _ HF H (.refl sm) J
def Yu:LM X Ys λx vs H Q=>∃a b,x=.str a/\vs=[.str b]/\Q (.bl<|sb a b) H:=λB d al HF H l xs t ts Q sm c r h k=>by
 match ts,h with
 |[.str s],h=>
  cases h;obtain⟨v,rfl,rfl,_⟩:=cu r;refine⟨_,_,J,J,?_⟩;rw[N4];exact k _ HF H (.refl sm) J
def N7:LM X joinM λx vs H Q=>∃b l ys,x=.str b/\vs=[.ref l]/\dM X.K H l (ys.map V.str)/\(ys.map (·.length)).sum+ys.length*b.length<=16777216/\Q (.str<|Str.join b ys) H:=λB j al HF H l xs t ts Q sm i r h k=>by
 match ts,h with
 |[u],h=>
  obtain⟨v,rfl,d⟩:=cu r;have h:LC (.str l) u=U t:=h;cases u with
  |lst c=>
   have h:(strsOf c).bind (λys=>gd ((ys.map (·.length)).sum+ys.length*l.length<=1000000)<|T.str<|fP l ys)=U t:=h
   obtain⟨g,f,h⟩:=bh.mp h;obtain⟨z,rfl⟩:=bG h;obtain⟨a,vs,rfl,q,r⟩:=d;have e:=ug r f;subst e;refine⟨_,a,_,J,J,dM.of<|sm _ _ q,?_,?_⟩
   .rw[D8,ck,fD];exact eT z (by decide)
   .rw[join_eq]
    exact k _ HF H (.refl sm) ⟨J,eT (qk _ _) z⟩
  |_=>cases h
def m_find:LM X i7 λx vs H Q=>(∃a b,x=.str a/\vs=[.str b]/\Q (.int<|o6 a b) H)\/∃a b i,x=.str a/\vs=[.str b,.int i]/\Q (.int<|n5 a b i) H:=λB d al HF H l xs t ts Q sm c r h k=>by
 match ts,h with
 |[.str s],h=>
  cases h;obtain⟨v,rfl,rfl,_⟩:=cu r;exact .inl ⟨_,_,J,J,k _ HF H (.refl sm) J⟩
 |[.str s,.int i],h=>
  cases h;obtain⟨v,w,rfl,⟨rfl,_⟩,rfl⟩:=Io r;exact .inr ⟨_,_,_,J,J,k _ HF H (.refl sm) J⟩
def m_split:LM X splitM λx vs H Q=>∃a b,x=.str a/\vs=[.str b]/\(b.length == 0)=Zn/\a.length<=cq/\(Txt.split a b).length<=cq/\∀l,H l=Y->Q (.ref l) (upd H l<|.lst<|(Txt.split a b).map V.str):=λB j al HF H l xs t ts Q sm d r h k=>by
 match ts,h with
 |[.str [c]],h=>
  obtain⟨z,rfl⟩:=bG h;obtain⟨v,rfl,rfl,_⟩:=cu r;have i:=split_len ⟨l.toArray⟩ ⟨([c]:B1).toArray⟩;rw[fD]at i;refine⟨_,_,J,J,J,by rw[fD,ez];exact eT z<|by decide,by rw[ez];lia,λq f=>?_⟩
  have e:(Txt.split ⟨l.toArray⟩ ⟨([c]:B1).toArray⟩).map V.str=(bH c l).map λl=>SV l:=by
   rw[show(⟨([c]:B1).toArray⟩:Str)=⟨#[c]⟩from J,Ea,pe];rfl
  rw[e];refine k _ _ _ (Gr.new sm f) ⟨q,_,J,ao,qm λm g=>?_⟩
  have:=j0 c l m g
  exact eT this d
 |[.str []],h=>cases h
 |[.str<|_::_::_],h=>cases h
def vq.or{id:String}{r d:V->List V->Hp->VK->Prop}(h:vq X id r)(h':vq X id d):vq X id λx vs H Q=>r x vs H Q\/d x vs H Q:=λe s σ H x vs v a Q I b c q=>by
 rcases q with q|q
 .exact h e s σ H x vs v a Q I b c q
 .exact h' e s σ H x vs v a Q I b c q
structure Þ(X:Cx)(n:Str)(f:B1->FK->FR):Prop where
 ex:∃id r,Slot "str" n id/\sx (.builtin id)=pure (.type "method_descriptor")/\vq X id r/\LM X f r
def Tt{n:Str}{f:B1->FK->FR}(M:Þ X n f)(i:B.K=X.K)(d:PE X o<|tE B fo)(h:PA X (e::es)<|tA B fl)(g:cV o=O)(b:(e::es).all noStar=O)(hl:es.length<29)(c:(cA.endLine == R.line)=O) :
  PE X (.Call (.Attribute o n cA) (e::es) [] R)<|tE B<|j1 f fo fl:=by
 obtain⟨id,r,m,l,k,j⟩:=M.ex;have a:=b;rw[d_,bT]at a;exact aS (C_ u9 m l k d h (iT g) (G0 b hl) c (aw a.1)<|cJ a.2)<|Yr i j
def Tu(l:B1):FK->FR
 |[.str s]=>U<|.int<|Txt.count ⟨l.toArray⟩ ⟨s.toArray⟩
 |_=>Y
def Ec:vq X "str.count" λx vs H Q=>∃a b,x=.str a/\vs=[.str b]/\Q (.int<|Txt.count a b) H:=by
 intro g s σ H x vs v e Q I c d h;obtain⟨a,b,rfl,rfl,q⟩:=h;obtain⟨t,rfl⟩:=c;obtain⟨u,rfl,⟨f,rfl⟩⟩:=d.one;exact SC.count ⟨.int _,H,I.tok _,⟨_,J⟩,q⟩
def Iq:LM X Tu λx vs H Q=>∃a b,x=.str a/\vs=[.str b]/\Q (.int<|Txt.count a b) H:=λB d al HF H l xs t ts Q sm c r h k=>by
 match ts,h with
 |[.str s],h=>
  cases h;obtain⟨v,rfl,rfl,_⟩:=cu r;exact⟨_,_,J,J,k _ HF H (.refl sm) J⟩
def we:List<|Str×(B1->FK->FR):=[("startswith",rk),("endswith",Ys),("join",joinM),("split",splitM),("find",i7),("count",Tu)]
def N8:∀p∈we,Þ X p.1 p.2:=by
 intro p h;simp only[we,bu,o_,nL]at h;rcases h with rfl|rfl|rfl|rfl|rfl|rfl
 .exact⟨_,_,PySem.F.slot_str_startswith,PySem.F.type_str_startswith,pD,Yt⟩
 .exact⟨_,_,PySem.F.slot_str_endswith,PySem.F.type_str_endswith,tw,Yu⟩
 .exact⟨_,_,PySem.F.slot_str_join,PySem.F.type_str_join,HG,N7⟩
 .exact⟨_,_,PySem.F.slot_str_split,PySem.F.type_str_split,D3,m_split⟩
 .exact⟨_,_,PySem.F.slot_str_find,PySem.F.type_str_find,vq.or D4 Dg,m_find⟩
 .exact⟨_,_,PySem.F.slot_str_count,PySem.F.type_str_count,Ec,Iq⟩
end
section
def dw:FK->FR
 |[t]=>(match t with
  |.gF _ _=>Y
  |t=>NN t)
 |_=>Y
def Tv:LN X dw λxs H Q=>∃x n,xs=[x]/\RM X.K x H n/\Q (.int n) H:=λB d al HF H xs t ts Q sm r h k=>by
 match ts,h with
 |[tx],h=>
  obtain⟨v,rfl,b⟩:=cu r;cases tx<;>try(cases h;done)
  .cases h
   obtain⟨rfl,e⟩:=b;exact⟨_,_,J,⟨Yb e,(fD _).symm⟩,k _ HF H (.refl sm) J⟩
  .cases h
   obtain⟨a,c,rfl,q,r⟩:=b;exact⟨_,_,J,.inr ⟨c,d▸cD sm q,r.len⟩,k _ HF H (.refl sm) J⟩
  .cases h
   obtain⟨a,c,rfl,q,r⟩:=b;exact⟨_,_,J,.inl ⟨c,dM.of<|sm _ _ q,r.len⟩,k _ HF H (.refl sm) J⟩
  .cases h
   obtain⟨a,rfl,q⟩:=b;exact⟨_,_,J,.inl ⟨_,d▸sm.seq q,(ck _).symm⟩,k _ HF H (.refl sm) J⟩
def Ir:FK->FR
 |[t]=>NP t
 |_=>Y
def wg:FK->FR
 |[t]=>HS t
 |_=>Y
def Tw:LN X Ir λxs H Q=>∃(p:bp)(ks:Fm),xs=[.ref p]/\dM X.K H p (ks.map V.bl)/\Q (.bl<|ks.all id) H:=λB g al HF H xs t ts Q sm r h k=>by
 match ts,h with
 |[tx],h=>
  obtain⟨v,rfl,c⟩:=cu r;have h:NP tx=U t:=h;cases tx with
  |lst b=>
   obtain⟨ks,d,h⟩:=cL.mp<|show(boolsOf b).map _=U t from h;obtain⟨a,f,rfl,q,r⟩:=c;have e:=kJ r d;subst e h;exact⟨a,ks,J,dM.of<|sm _ _ q,k _ HF H (.refl sm) J⟩
  |_=>cases h
def Tz:LN X wg λxs H Q=>∃(p:bp)(ks:Fm),xs=[.ref p]/\dM X.K H p (ks.map V.bl)/\Q (.bl<|ks.any id) H:=λB g al HF H xs t ts Q sm r h k=>by
 match ts,h with
 |[tx],h=>
  obtain⟨v,rfl,c⟩:=cu r;have h:HS tx=U t:=h;cases tx with
  |lst b=>
   obtain⟨ks,d,h⟩:=cL.mp<|show(boolsOf b).map _=U t from h;obtain⟨a,f,rfl,q,r⟩:=c;have e:=kJ r d;subst e h;exact⟨a,ks,J,dM.of<|sm _ _ q,k _ HF H (.refl sm) J⟩
  |_=>cases h
def eG(i:Int):B1:=(toString i).toList.map D1
def strN:FK->FR
 |[.int i]=>gd (i.natAbs.log2<1920/\(eG i).length<=1000000)<|.str<|eG i
 |_=>Y
def TH:LN X strN λxs H Q=>∃i,xs=[.int i]/\i.natAbs.log2<1920/\Q (.str<|toString i) H:=λB d al HF H xs t ts Q sm r h k=>by
 match ts,h with
 |[.int i],h=>
  obtain⟨v,rfl,a⟩:=cu r;obtain⟨⟨c,b⟩,rfl⟩:=bG h;cases a;refine⟨i,J,c,k _ HF H (.refl sm) ⟨?_,b⟩⟩;show V.str (g_<|toString i)=_;rw[Str.ofString_eq_toList];rfl
def AX:FK->FR
 |[.str l]=>(PySem.intText? ⟨l.toArray⟩).bind λn=>gd (l.length<=640)<|.int n
 |[.bl b]=>U<|.int<|if b then 1 else 0
 |_=>Y
abbrev TJ:List V->Hp->VK->Prop:=λxs H Q=>(∃y n,xs=[.str y]/\PySem.intText? y=U n/\y.length<=640/\Q (.int n) H)\/∃b,xs=[.bl b]/\Q (.int<|if b then 1 else 0) H
def AY:fJ X (.type "int") TJ:=by
 intro d s σ H xs c Q I r h;rcases h with⟨y,n,rfl,a,hl,q⟩|⟨b,rfl,q⟩
 .obtain⟨u,rfl,t,rfl⟩:=vals1 r
  exact PySem.W.KIN.call_text a hl ⟨.int n,H,I.tok _,⟨_,J⟩,q⟩
 .obtain⟨u,rfl,e⟩:=vals1 r
  cases(show u=pb b from e);exact PySem.call_int_bool ⟨.int<|if b then 1 else 0,H,I.tok _,⟨_,J⟩,q⟩
def TM:LN X AX TJ:=λB d al HF H xs t ts Q sm r h k=>by
 match ts,h with
 |[.str l],h=>
  obtain⟨v,rfl,a⟩:=cu r;obtain⟨n,c,h⟩:=bh.mp h;obtain⟨z,rfl⟩:=bG h;obtain⟨rfl,_⟩:=a;exact .inl ⟨_,n,J,c,by rw[fD];exact z,k _ HF H (.refl sm) J⟩
 |[.bl b],h=>
  obtain⟨v,rfl,a⟩:=cu r;cases h;cases a;exact .inr ⟨b,J,k _ HF H (.refl sm) J⟩
def LU:FK->FR
 |[t]=>LD t
 |_=>Y
def N9:LN X LU λxs H Q=>∃p ys,xs=[.ref p]/\(dM X.K H p ys\/k7 X.K H p ys)/\∀l,H l=Y->Q (.ref l) (upd H l<|.lst ys):=λB c al HF H xs t ts Q sm r h k=>by
 match ts,h with
 |[tx],h=>
  obtain⟨v,rfl,b⟩:=cu r;have h:LD tx=U t:=h;cases tx<;>try(cases h;done)
  .cases h
   obtain⟨l,xs,rfl,q,r⟩:=b;exact⟨l,xs,J,.inr<|c▸cD sm q,λp a=>k _ _ _ (Gr.new sm a) ⟨p,_,J,ao,r.same<|aQ<|sm.free a⟩⟩
  .cases h
   obtain⟨l,xs,rfl,q,r⟩:=b;exact⟨l,xs,J,.inl<|dM.of<|sm _ _ q,λp a=>k _ _ _ (Gr.new sm a) ⟨p,_,J,ao,r.same<|aQ<|sm.free a⟩⟩
structure Yv(X:Cx)(n:Str)(f:FK->FR):Prop where
 ex:∃r,LN X f r/\((∃id,hH n=U (.builtin id)/\fJ X (.builtin id) r)\/∃ty,hH n=U (.type ty)/\fJ X (.type ty) r)
 nn:n ≠ "__name__"
 nd:aV n
def TN{f:FK->FR}(M:Yv X x f)(i:B.K=X.K)(g:Gl X x)(d:X.mg x=Y)(h:PA X (e::es)<|tA B fl)(a:(e::es).all noStar=O):PE X (.Call (.Name x p) (e::es) [] pos)<|tE B<|aZ f fl:=by
 obtain⟨⟨r,j,k⟩,nn,nd⟩:=M;rw[d_,bT]at a;rcases k with⟨id,c,b⟩|⟨ty,c,b⟩
 .exact aS (fK b g d c h nn nd (aw a.1)<|cJ a.2)<|LK i j
 .exact aS (pZ b g d c h nn nd (aw a.1)<|cJ a.2)<|LK i j
def wj:List<|Str×(FK->FR):=[("len",dw),("all",Ir),("any",wg),("str",strN),("int",AX),("list",LU)]
def N_(a:X.calm=O):∀p∈wj,Yv X p.1 p.2:=by
 intro p h;simp only[wj,bu,o_,nL]at h;rcases h with rfl|rfl|rfl|rfl|rfl|rfl
 .exact⟨⟨_,Tv,.inl ⟨_,ti,sW⟩⟩,by decide,by decide⟩
 .exact⟨⟨_,Tw,.inl ⟨_,PyProof.Rows.boot_all,Dh a⟩⟩,by decide,by decide⟩
 .exact⟨⟨_,Tz,.inl ⟨_,PyProof.Rows.boot_any,Di a⟩⟩,by decide,by decide⟩
 .exact⟨⟨_,TH,.inr ⟨_,Li,qQ⟩⟩,by decide,by decide⟩
 .exact⟨⟨_,TM,.inr ⟨_,Lj,AY⟩⟩,by decide,by decide⟩
 .exact⟨⟨_,N9,.inr ⟨_,Ct,jL⟩⟩,by decide,by decide⟩
end
structure Pg where
 cn:Bi
 an:Bi
 tab:Ap
 sub:Ap
def Pg.fn(P:Pg):List Bi:=P.tab.map λl=>l.map λi=>P.an.getD i n6
structure Q5(K:a_)(mg:Str->D2)(n:Str)(ns:Bi)(C:bp):Prop where
 at_:mL K en n=U (U<|.ref C)
 gl:mg n=U (.ref C)
 nd:ns.Nodup
 G0:ns.length<=100
 cl:pS K C
 na:∀f∈ns,cz K C f
 ca:eQ K (.ref C) "__class__" = U (U<|.builtin "object.__class__")
 mo:Ai K C (.type "object")=U O
structure rl(K:a_)(mg:Str->D2)(P:Pg):Prop where
 cls:∀(c:Nat)(n:Str)(ns:Bi),P.cn[c]?=U n->P.fn[c]?=U ns->∃C,Q5 K mg n ns C
 sub:∀(c d:Nat)(n n':Str)(C D:bp)(l:B1),P.cn[c]?=U n->P.cn[d]?=U n'->mg n=U (.ref C)->mg n'=U (.ref D)->P.sub[c]?=U l->mJ K (.ref C) (.ref D)=U (decide<|d∈l)
 gt:xw K (.builtin "object.__class__") "__get__" = U (U<|.builtin "getset_descriptor.__get__")/\xx K (.builtin "object.__class__")=U O
abbrev Pg.kt(P:Pg)(X:Cx):KT:=⟨X.K,X.prog,X.w,P.cn,P.fn⟩
variable{P:Pg}
def rl.of(g:rl X.K X.mg P){c:Nat}{C:bp}{ns:Bi}(h:gH (P.kt X) c C ns):∃n,P.cn[c]?=U n/\P.fn[c]?=U ns/\Q5 X.K X.mg n ns C:=by
 obtain⟨n,b,a,f,d⟩:=h;obtain⟨e,F⟩:=g.cls c n ns b a
 have:C=e:=by
  have:=(show mL X.K en n=U (U<|.ref C)from d).symm.trans F.at_
  injection this with this
  injection this with this
  injection this
 subst this;exact⟨n,b,a,F⟩
theorem jl{f:Str}:∀{ns:Bi}{vs:List V}{j:Nat},ns.Nodup->ns[j]?=U f->(ns.zip vs).lookup f=vs[j]?
 |[],vs,j,_,h=>by simp at h
 |n::ns,[],j,_,_=>by simp
 |n::ns,v::vs,0,nd,h=>by
  simp at h;subst h;rw[qK,List.lookup_cons_self];rfl
 |n::ns,v::vs,j+1,nd,h=>by
  simp at h;have e:(f == n)=Zn:=beq_eq_false_iff_ne.mpr λz=>by subst z;exact(lF.mp nd).1<|gB h
  rw[qK,i9,e];simpa using jl (lF.mp nd).2 h
theorem iK{f:Str}:∀{ns:Bi}{vs:List V},f∉ns->(ns.zip vs).lookup f=Y
 |[],vs,_=>by simp
 |n::ns,[],_=>by simp
 |n::ns,v::vs,h=>by
  have e:(f == n)=Zn:=beq_eq_false_iff_ne.mpr λz=>h (by rw[z];exact eu ..)
  rw[qK,i9,e];exact iK λz=>h<|eE _ z
theorem yK{f:Str}{v:V}:∀{ns:Bi}{vs:List V}{j:Nat},ns.Nodup->ns[j]?=U f->vs.length<=ns.length->j<vs.length->L2.eU f v (ns.zip vs)=ns.zip (vs.set j v)
 |[],vs,j,_,h,_,_=>by simp at h
 |n::ns,[],j,_,_,_,h=>by simp at h
 |n::ns,w::vs,0,nd,h,_,_=>by
  simp at h;subst h;show(if n=n then(n,v)::ns.zip vs else(n,w)::L2.eU n v (ns.zip vs))=_
  rw[b7 J];rfl
 |n::ns,w::vs,j+1,nd,h,hl,a=>by
  simp at h hl a;show(if n=f then(n,v)::ns.zip vs else(n,w)::L2.eU f v (ns.zip vs))=_
  rw[b0 λz=>(lF.mp nd).1<|by rw[z];exact gB h,yK (lF.mp nd).2 h hl a]
  rfl
theorem rm{f:Str}{v:V}:∀{ns:Bi}{vs:List V},ns.Nodup->ns[vs.length]?=U f->L2.eU f v (ns.zip vs)=ns.zip (vs++[v])
 |[],vs,_,h=>by simp at h
 |n::ns,[],nd,h=>by
  simp at h;subst h;show L2.eU n v []=(n,v)::ns.zip [];simp[L2.eU]
 |n::ns,w::vs,nd,h=>by
  simp at h;show(if n=f then(n,v)::ns.zip vs else(n,w)::L2.eU f v (ns.zip vs))=_
  rw[b0 λz=>(lF.mp nd).1<|by rw[z];exact gB h,rm (lF.mp nd).2 h]
  rfl
def Iu{l:B1}{f j:Nat}(h:l.idxOf? f=U j):l[j]?=U f:=by
 rw[KW,KY]at h;obtain⟨a,b,_⟩:=h;rw[fH a,eq_of_beq b]
def rn{c f j:Nat}{n:Str}{ns:Bi}(b:P.an[f]?=U n)(a:P.fn[c]?=U ns)(h:DI P.tab c f=U j):ns[j]?=U n:=by
 unfold DI at h;obtain⟨l,e,d⟩:=bh.mp h;unfold Pg.fn at a;rw[gA,e]at a;cases a;rw[gA,Iu d];show U (P.an.getD f n6)=_;rw[xK,b];rfl
def LV(ql:rl X.K X.mg P){f:Nat}{n:Str}(G:P.an[f]?=U n)(he:PE X e<|tE (P.kt X) fa)(V:cV e=O):PE X (.Attribute e n pos)<|tE (P.kt X)<|aO P.tab f fa:=by
 refine aS (Ng he<|iT V) λσ H Q L=>?_;obtain⟨g,s,t,s',x,h,k⟩:=L;obtain⟨⟨tx,N⟩,h1,h⟩:=ae h;refine⟨g,s,_,N,x,h1,λv g1 H1 E d D=>?_⟩;cases tx<;>try(cases h;done)
 .rename_i c fs
  obtain⟨u,A,h⟩:=ae h;cases h;obtain⟨j,y,p⟩:=bh.mp<|au A;obtain⟨a,C,B,ns,M,rfl,hC,S,hl,hd,r⟩:=D;obtain⟨m,T,i,F⟩:=ql.of hC;have b:=rn G i y;obtain⟨w,o,R0⟩:=r.get p;exact⟨a,C,B,_,w,J,d.sub _ _ S,F.cl,F.na _<|gB b,by rw[jl F.nd b,o],k _ g1 H1 E d R0⟩
 .rename_i R
  obtain⟨c,A,h⟩:=ae h;obtain⟨ob,y,p⟩:=bh.mp<|au A;obtain⟨j,I,h6⟩:=bh.mp p;obtain⟨a,rfl,W⟩:=D;rcases d.st.at_ R ob y with⟨a',C,B,ns,M,Z⟩|⟨a',Z⟩
  case inr=>
   obtain⟨l,q,_⟩:=bh.mp I;have z:(P.tab.map _)[ob.c]?=Y:=Z.nf;rw[gA,q]at z;cases z
  have:=Z.al.symm.trans W
  cases this;obtain⟨m,T,i,F⟩:=ql.of Z.cl;have b:=rn G i I;obtain⟨w,o,sl⟩:=Z.f j c h6;cases c with
  |val t'=>
   cases h;exact⟨a,C,B,_,w,J,Z.h,F.cl,F.na _<|gB b,by rw[jl F.nd b,o],k _ g1 H1 E d sl⟩
  |ol ts=>cases h
  |od ks ts=>cases h
  |yg t=>cases h
def tyB(ty:String):T->Option Bool
 |.non=>U Zn
 |.bl _=>U<|ty == "bool" ||ty == "int"
 |.int _=>U<|ty == "int"
 |.str _=>U<|ty == "str"
 |.tup _=>U<|ty == "tuple"
 |.lst _=>U<|ty == "list"
 |_=>Y
def TQ(ty:String):T->FR:=λt=>(tyB ty t).map .bl
def Oa{B:KT}{al:BM}{H:Hp}{t:T}{v:V}{Ty:String}{u:Bool}(c:jk Ty)(r:Rep B al H t v)(h:tyB Ty t=U u):∃tn,iZ B.K H v tn/\mJ B.K tn (.type Ty)=U u:=by
 cases t with
 |non=>cases(show v=.non from r);cases h;exact⟨_,.non,kK B.K c.non⟩
 |bl b=>cases(show v=.bl b from r);cases h;exact⟨_,.bl _,kK B.K c.bl⟩
 |int i=>cases(show v=.int i from r);cases h;exact⟨_,.int _,kK B.K c.int⟩
 |str l=>obtain⟨rfl,_⟩:=r;cases h;exact⟨_,.str _,kK B.K c.str⟩
 |tup ts=>obtain⟨a,d,rfl,q,_⟩:=r;cases h;exact⟨_,.tup q,kK B.K c.tup⟩
 |lst ts=>obtain⟨a,d,rfl,q,_⟩:=r;cases h;exact⟨_,.lst q,kK B.K c.lst⟩
 |_=>cases h
def um:List<|Str×String:=[("int","int"),("bool","bool"),("str","str"),("tuple","tuple"),("list","list")]
def TR:∀q∈um,jk q.2/\hH q.1=U (.type q.2)/\q.1 ≠ "__name__" /\ (q.1 == ("__debug__" : Str))=Zn:=by
 intro p h;simp only[um,bu,o_,nL]at h;rcases h with rfl|rfl|rfl|rfl|rfl
 .exact⟨N5,Lj,by decide,by decide⟩
 .exact⟨Ij,PyProof.Rows.boot_bool,by decide,by decide⟩
 .exact⟨N6,Li,by decide,by decide⟩
 .exact⟨D9,PyProof.Rows.boot_tuple,by decide,by decide⟩
 .exact⟨Ik,Ct,by decide,by decide⟩
def Oc{B:KT}(c:B.K=X.K){ty:String}{d:Pos}(l:(y,ty)∈um)(n:X.mg "isinstance" = Y)(Ů:X.mg y=Y)(s:PE X a<|tE B fa)(o:Gl X "isinstance")(C:Gl X y)(f:noStar a=O) :
  PE X (.Call (.Name "isinstance" p) [a,.Name y d] [] pos)<|tE B<|dQ (TQ ty) fa:=by
 obtain⟨j,q,m,hd⟩:=TR _ l;have D:cw [Expr.Name y d] X.env=(Zn,e6 (.Name y d) X.env)::cw [] X.env:=J;refine aS (fK tF o n Cs (bf s (bf (xX C Ů q (v:=.ty ty) J m hd) dc D)<|aw f) (he:=aw f) (hpl:=J))
 <|LJ c (r:=λx H Q=>∃e g t b,[x,.ty ty]=[e,.ty g]/\iZ X.K H e t/\mJ X.K t (.type g)=U b/\Q (.bl b) H) λB c al HF H x t tx Q sm i h k=>?_
 obtain⟨u,A,rfl⟩:=cL.mp h;obtain⟨tn,z,w⟩:=Oa j (i.same sm) A;exact⟨x,ty,tn,u,J,c▸z,c▸w,k _ HF H (.refl sm) J⟩
def il(sub:Ap)(ds:B1):T->FR
 |.obj c _=>(sub[c]?).map λl=>.bl<|ds.any λd=>decide<|d∈l
 |_=>Y
def Ed:fJ X (.builtin "isinstance") λxs H Q=>∃x D t b,xs=[x,.ref D]/\iZ X.K H x t/\mJ X.K t (.ref D)=U b/\Q (.bl b) H:=by
 intro g s σ H xs d Q I r h;obtain⟨x,D,t,b,rfl,ty,e,q⟩:=h;obtain⟨u,f,rfl,a,c⟩:=vals2 r;cases c;exact pT I a ty e λtk=>⟨.bl b,H,I.tok _,J,q⟩
def TU(ql:rl X.K X.mg P){d:Nat}{c:Pos}(f:P.cn[d]?=U y)(z:X.mg "isinstance" = Y)(E:PE X a<|tE (P.kt X) fa)(B:Gl X "isinstance")(N:Gl X y)(i:noStar a=O)(hd:aV y)(M:(P.fn[d]?).isSome=O) :
  PE X (.Call (.Name "isinstance" p) [a,.Name y c] [] pos)<|tE (P.kt X)<|dQ (il P.sub [d]) fa:=by
 obtain⟨ns,o⟩:=BS.mp M;obtain⟨D,j⟩:=ql.cls d y ns f o;have R:cw [Expr.Name y c] X.env=(Zn,e6 (.Name y c) X.env)::cw [] X.env:=J;refine aS (fK Ed B z Cs (bf E (bf (lT (v:=.ref D) N j.gl J hd) dc R)<|aw i) (he:=aw i) (hpl:=J)) λσ H Q n=>?_;obtain⟨g,s,t,s',x,h,k⟩:=n;obtain⟨⟨tx,W⟩,I,h⟩:=ae h;obtain⟨T,b,h⟩:=ae h;cases h;refine⟨g,s,_,_,x,I,λv g1 H1 u e q=>?_⟩;have b:=au b;cases tx<;>try(cases b;done)
 obtain⟨l,hl,rfl⟩:=cL.mp b;obtain⟨a,C,Z,DK,S,rfl,G,w,A,ů,r⟩:=q;obtain⟨m,L,Yx,F⟩:=ql.of G;refine⟨_,D,_,_,J,.ins (e.sub _ _ w) F.cl F.ca ql.gt.1 ql.gt.2 F.mo,ql.sub _ d m y C D l L f F.gl j.gl hl,?_⟩
 have:=k (V.bl<|decide<|d∈l) g1 H1 u e (by show _=V.bl (([d]:B1).any λd=>decide<|d∈l);simp)
 exact this
abbrev gv(P:Pg)(K:a_)(Pr:cW)(w:c4):KT:=⟨K,Pr,w,P.cn,P.fn⟩
inductive oX(B:KT)(f:Fn)(vs:List V)(H:Hp)(Q:VK)(_:XK):Prop where
 |mk g ts m t m' (x:ef B g H m) (r:aB B g.al g.HF ts vs) (h:f ts m=.ok (t,m')) (k:∀v g' H',dC g H g' H'->ef B g' H' m'->Rep B g'.al g'.HF t v->Q v H')
structure Yy(P:Pg)(Pr:cW)(w:c4)(K:a_)(mg:Str->D2)(base:ed)(k:Nat)(x:Str)(ds:FK)(f:Fn):Prop where
 ex:∃(fa:bp)(fd:dy)(ps:Bi)(gD:B2)(dV:List V),bV Pr w K mg base ig k fa fd ps (oX (gv P K Pr w) f)/\mg x=U (.ref fa)/\jA K (.ref fa)=O/\Binds K fd ps gD/\Vals dV gD/\∀al H,aB (gv P K Pr w) al H ds dV
def fR{f:Fn}{ds:FK}{t:T}(h:aj f ds fl s=.ok (t,s')):∃ts s1 m',fl s=.ok (ts,s1)/\f (ts++ds) s1.m=.ok (t,m')/\s'={s1 with m:=m'}:=by
 obtain⟨⟨ts,s1⟩,a,h⟩:=ae h;dsimp only at h;cases q:f (ts++ds) s1.m with
 |ok r=>rw[q]at h;cases h;exact⟨ts,s1,r.2,a,q,J⟩
 |bad=>rw[q]at h;cases h
 |exc c fs s2=>rw[q]at h;cases h
def uo{B:KT}{f:Fn}{ts:FK}{t:T}{m':FV}{vs:List V}{Q:VK}{E:XK}(x:SR B g H σ s)(r:aB B g.al g.HF ts vs)(h:f ts s.m=.ok (t,m'))(k:∀v g' H',dC g H g' H'->SR B g' H' σ {s with m:=m'}->Rep B g'.al g'.HF t v->Q v H'):oX B f vs H Q E:=
 ⟨g.ak,ts,s.m,t,m',x.st.ak,r,h,λv g' H' p y a=>let⟨p2,x2⟩:=x.back p y;k v (G.back g g') H' p2 x2 a⟩
def s_call{k j:Nat}{ds:FK}{f:Fn}(D:Yy P X.prog X.w X.K X.mg X.base k x ds f)(u:bo j X.A)(r:k<=j)(E:PA X (e::es)<|tA (P.kt X) fl)(B:Gl X x)(L:aV x)(a:(e::es).all noStar=O) :
  PE X (.Call (.Name x p) (e::es) [] pos)<|tE (P.kt X)<|aj f ds fl:=by
 obtain⟨S,fd,ps,R,T,F,y,z,C,hd,c⟩:=D.ex;rw[d_,bT]at a;refine aS (x9 F (u.mono r) B y z C hd lg E L (aw a.1)<|cJ a.2) λσ H Q b=>?_;obtain⟨g,s,t,s',x,h,k⟩:=b;obtain⟨ts,l,N,I,G,rfl⟩:=fR h;exact⟨g,s,ts,l,x,I,λM g1 H1 q i n=>uo i (n.app<|c _ _) G λv g' H' o d m=>k v g' H' (q.trans o) d m⟩
def Iv{k j:Nat}{ds:FK}{f:Fn}(D:Yy P X.prog X.w X.K X.mg X.base k x ds f)(l:bo j X.A)(i:k<=j)(o:Gl X x)(y:aV x) :
  PE X (.Call (.Name x p) [] [] pos)<|tE (P.kt X)<|aj f ds bI:=by
 obtain⟨I,fd,ps,G,z,F,m,n,q,hd,b⟩:=D.ex;refine aS (CZ F (l.mono i) o m n q hd lg y) λσ H Q a=>?_;obtain⟨g,s,t,s',x,h,k⟩:=a;obtain⟨ts,B,C,u,r,rfl⟩:=fR h;cases u;exact uo (E:=E0) (vs:=[]++z) x (b _ _) r λv g' H' e c d=>k v g' H' e c d
structure Wg(P:Pg)(Pr:cW)(w:c4)(K:a_)(mg:Str->D2)(base:ed)(k:Nat)(c:Nat)(m:Str)(f:Fn):Prop where
 ex:∃(C fa:bp)(fd:dy)(ps:Bi)(ns:Bi),gH (gv P K Pr w) c C ns/\pS K C/\Meth K C m fa/\bV Pr w K mg base ig k fa fd ps (oX (gv P K Pr w) f)/\Binds K fd ps []/\m∉ns
def Ef{ι:Type}{t:ι->TE}{t':TE}{C:ι->Prop}(h:∀i,C i->PE X e (t i))(k:∀σ H Q,t' σ H Q->∃i,C i/\t i σ H Q):PE X e t':=λc s σ H Q I q=>by
 obtain⟨i,b,a⟩:=k σ H Q q;exact h i b c s σ H Q I a
def uq(X:Cx)(o:cb)(m:Str)(cA:Pos)(es:Bz)(pos:Pos):Prop:=∃a,e6 (.Call (.Attribute o m cA) es [] pos) X.env=(do
   let ov <- e6 o X.env
   tf cA.atName
   let(f,first) <- F1 [ov] (uk ov m a)
   callWith pos f first (hB pos<|cw es X.env) (ra pos<|mr [] X.env))
def ur{gm:Nat->Option Fn}{t:T}(h:bx gm fo fl s=.ok (t,s')):∃tx s1 c f ts s2 m',fo s=.ok (tx,s1)/\((∃k ob,tx=.own k/\s1.m[k]?=U ob/\ob.c=c)\/∃fs,tx=.obj c fs)/\gm c=U f/\fl s1=.ok (ts,s2)/\f (tx::ts) s2.m=.ok (t,m')/\s'={s2 with m:=m'}:=by
 obtain⟨⟨tx,s1⟩,i,h⟩:=ae h;cases tx<;>try(cases h;done)
 .rename_i c fs
  obtain⟨f,g,h⟩:=ae h;obtain⟨j,s2,m',e,a,rfl⟩:=fR h;obtain⟨⟨ts,l⟩,d,b⟩:=ae e;cases b;rw[bz]at a;exact⟨_,s1,c,f,ts,_,m',i,.inr ⟨fs,J⟩,au g,d,a,J⟩
 .rename_i n
  obtain⟨f,g,h⟩:=ae h;obtain⟨ob,p,o⟩:=bh.mp<|au g;obtain⟨j,s2,m',e,a,rfl⟩:=fR h;obtain⟨⟨ts,l⟩,d,b⟩:=ae e;cases b;rw[bz]at a;exact⟨_,s1,ob.c,f,ts,_,m',i,.inl ⟨n,ob,J,p,J⟩,o,d,a,J⟩
def rq{B:KT}{C:bp}{ns:Bi}{c:Nat}{tx:T}{v:V}(x:SR B g H σ s)(b:gH B c C ns)(r:Rep B g.al g.HF tx v)(h:(∃k ob,tx=.own k/\s.m[k]?=U ob/\ob.c=c)\/∃fs,tx=.obj c fs):∃a dx vs,v=.ref a/\H a=U (.ins C dx<|ns.zip vs):=by
 rcases h with⟨k,ob,rfl,f,rfl⟩|⟨fs,rfl⟩
 .obtain⟨a,rfl,e⟩:=r
  rcases x.st.at_ k ob f with⟨i,l,dx,j,vs,Z⟩|⟨i,Z⟩
  case inr=>
   obtain⟨n,q,_⟩:=b;rw[Z.nc]at q;cases q
  have:=Z.al.symm.trans e
  cases this;obtain⟨rfl,rfl⟩:=Z.cl.eq b;exact⟨a,dx,vs,J,Z.h⟩
 .obtain⟨a,l,dx,j,vs,rfl,Ű,d,_⟩:=r
  obtain⟨rfl,rfl⟩:=Ű.eq b;exact⟨a,dx,vs,J,x.sub _ _ d⟩
def Od{m:Str}{k j:Nat}{gm:Nat->Option Fn}(D:∀c f,gm c=U f->Wg P X.prog X.w X.K X.mg X.base k c m f)(T:bo j X.A)(S:k<=j)(W:PE X o<|tE (P.kt X) fo)(ha:PA X (e::es)<|tA (P.kt X) fl)(l:(e::es).all noStar=O)(d:uq X o m cA (e::es) pos) :
  PE X (.Call (.Attribute o m cA) (e::es) [] pos)<|tE (P.kt X)<|bx gm fo fl:=by
 obtain⟨pl,d⟩:=d;rw[d_,bT]at l;refine Ef (ι:=bp×Fn) (C:=λi=>∃c fa fd ps ns,gH (P.kt X) c i.1 ns/\gm c=U i.2/\pS X.K i.1/\Meth X.K i.1 m fa/\bV X.prog X.w X.K X.mg X.base ig k fa fd ps (oX (P.kt X) i.2)/\Binds X.K fd ps []/\m∉ns)
  (t:=λi=>sX i.1 m (oX (P.kt X) i.2) [] E0 (tE (P.kt X) fo)<|tA (P.kt X) fl) (by rintro i ⟨c,fa,fd,ps,ns,p,_,cl,M,F,n,_⟩;exact x_ (pl:=pl) W cl M F (T.mono S) n .nil lg ha (aw l.1) (cJ l.2) d) ?_
 rintro σ H Q ⟨g,s,t,s',x,h,k⟩
 obtain⟨tx,u,c,f,ts,s2,m',h1,hc,B,h3,h4,rfl⟩:=ur h;obtain⟨C,fa,fd,ps,ns,p,cl,M,F,n,z⟩:=(D c f B).ex;refine⟨(C,f),⟨c,fa,fd,ps,ns,p,B,cl,M,F,n,z⟩,g,s,_,u,x,h1,λv g1 H1 R q y=>?_⟩;obtain⟨a,dx,vs,rfl,Z⟩:=rq q p y hc;refine⟨a,dx,_,J,Z,iK z,g1,u,ts,s2,q,h3,λr g2 H2 b G L=>?_⟩;show oX _ _ (V.ref a::(r++[])) H2 Q E0;rw[bz];exact uo (ts:=tx::ts) G ⟨_,r,J,y.mv b.pre b.fr,L⟩ h4 λv g' H' N E I=>k v g' H' ((R.trans b).trans N) E I
def Iw{m:Str}{k j:Nat}{gm:Nat->Option Fn}(D:∀c f,gm c=U f->Wg P X.prog X.w X.K X.mg X.base k c m f)(I:bo j X.A)(G:k<=j)(L:PE X o<|tE (P.kt X) fo)(b:uq X o m cA [] pos) :
  PE X (.Call (.Attribute o m cA) [] [] pos)<|tE (P.kt X)<|bx gm fo bI:=by
 obtain⟨pl,b⟩:=b;refine Ef (ι:=bp×Fn) (C:=λi=>∃c fa fd ps ns,gH (P.kt X) c i.1 ns/\gm c=U i.2/\pS X.K i.1/\Meth X.K i.1 m fa/\bV X.prog X.w X.K X.mg X.base ig k fa fd ps (oX (P.kt X) i.2)/\Binds X.K fd ps []/\m∉ns)
  (t:=λi=>sX i.1 m (oX (P.kt X) i.2) [] E0 (tE (P.kt X) fo) Hn) (by rintro i ⟨c,fa,fd,ps,ns,e,_,cl,M,F,d,_⟩;exact sY (pl:=pl) L cl M F (I.mono G) d .nil lg b) ?_
 rintro σ H Q ⟨g,s,t,s',x,h,k⟩
 obtain⟨tx,u,c,f,ts,s2,Z,V,R,q,T,S,rfl⟩:=ur h;cases T;obtain⟨C,fa,fd,ps,ns,e,cl,M,F,d,p⟩:=(D c f q).ex;refine⟨(C,f),⟨c,fa,fd,ps,ns,e,q,cl,M,F,d,p⟩,g,s,_,u,x,V,λv g1 H1 B l n=>?_⟩;obtain⟨a,W,vs,rfl,N⟩:=rq l e n R;exact⟨a,W,_,J,N,iK p,uo (E:=E0) (ts:=[tx]) (vs:=[.ref a]) l (.one n) S λv g' H' z r y=>k v g' H' (B.trans z) r y⟩
def ß(C:bp)(ns:Bi):Sp:=λc H Q _=>∃x b a,c=.ref x::a/\a.length=ns.length/\H x=U (.ins C b [])/\Q .non (upd H x<|.ins C b<|ns.zip a)
structure Yz(P:Pg)(Pr:cW)(w:c4)(K:a_)(mg:Str->D2)(base:ed)(k:Nat)(c n:Nat)(x:Str):Prop where
 ex:∃(C fi:bp)(fd:dy)(ps:Bi)(ns:Bi),gH (gv P K Pr w) c C ns/\ns.length=n/\mg x=U (.ref C)/\Mk K C fi/\bV Pr w K mg base ig k fi fd ps (ß C ns)/\Binds K fd ps []
def rz{B:KT}{c:Nat}{C x dx:bp}{ns:Bi}{ts:FK}{vs:List V}(e:SR B g H σ s)(b:gH B c C ns)(hl:vs.length<=ns.length)(r:aB B g.al g.HF ts vs)(nx:H x=Y)(nd:H dx=Y)(a:dx≠x) :
  ∃f:Gr g.HF H (upd (upd g.HF dx<|.own x) x<|.ins C dx<|ns.zip vs) (upd (upd H dx<|.own x) x<|.ins C dx<|ns.zip vs),Rep B g.al (upd (upd g.HF dx<|.own x) x<|.ins C dx<|ns.zip vs) (.obj c ts)<|.ref x:=by
 have g2:=Gr.new (o:=.own x) e.sub nd;have d:upd H dx (.own x) x=Y:=by rw[af<|ew a];exact nx
 have g3:=Gr.new (o:=.ins C dx<|ns.zip vs) g2.sub d;exact⟨g2.trans g3,x,C,dx,ns,vs,J,b,ao,hl,by rw[af a,ao],r.same<|g2.fr.trans g3.fr⟩
def TV{k j c n:Nat}(D:Yz P X.prog X.w X.K X.mg X.base k c n x)(v:bo j X.A)(u:k+1<=j)(G:PA X (e::es)<|tA (P.kt X) fl)(B:Gl X x)(N:aV x)(b:(e::es).all noStar=O) :
  PE X (.Call (.Name x p) (e::es) [] pos)<|tE (P.kt X)<|c9 c n fl:=by
 obtain⟨C,f,fd,ps,ns,I,y,z,M,F,E⟩:=D.ex;rw[d_,bT]at b;refine aS (lX M F (v.mono u) B z E .nil lg G N (aw b.1)<|cJ b.2) λσ H Q o=>?_;obtain⟨g,s,t,s',x,h,k⟩:=o;obtain⟨⟨ts,S⟩,L,h⟩:=ae h;dsimp only at h;split at h
 .rename_i hl
  cases h;refine⟨g,s,ts,_,x,L,λd g1 H1 q a i x R nx nd r=>?_⟩;have m:d.length=ns.length:=by rw[<- i.len,hl,y]
  refine⟨x,R,d++[],J,by rw[bz,m],ao,J,?_⟩
  rw[bz,qM];obtain⟨l,rp⟩:=rz (c:=c) (ts:=ts) a I (Au m) i nx nd r;exact k _ (g1.grow _) _ (q.trans<|a.kI l) (a.grow l) rp
 .cases h
section
structure à(K:a_)(C:bp):Prop where
 makes:BI K C=O
 init:eQ K (.ref C) "__init__" = U (U<|.builtin "object.__init__")
 kp:jA K (.ref C)=O
def YB(C:bp):TE:=λ_ H Q=>∀x a,H x=Y->H a=Y->a≠x->Q (.ref x) (upd (upd H a<|.own x) x<|.ins C a [])
open PySem.W in
def Oe{C:bp}(M:à X.K C)(hg:Gl X x)(hm:X.mg x=U (.ref C))(fX:aV x:=by decide):PE X (.Call (.Name x p) [] [] pos)<|YB C:=by
 intro aa s σ H Q I h;refine ek<|eO I hg hm ?_ fX;refine BP I.gQ M.kp ?_;have hq:=h (s.heap.objs.size+1) s.heap.objs.size (I.bj.fresh<|xO _) (I.bj.fresh<|dS _)<|dO<|mQ _;have I2:=Inv.made (C:=C) I;have KX:=I.gQ;obtain⟨hh,g,d,t,os⟩:=s;refine fv ?_;have a:=makes_of (M:=b8 X.prog X.w) KX M.makes;refine make_core a (kz KX M.init) (λself=>Looks.of_pure<|oi_bind self) (.inr ⟨J,J⟩) ?_;have hz:(hh.push CC).objs.size=hh.objs.size+1:=ih ..;have gt:((hh.push CC).push<|instObj C hh.objs.size).get? (hh.objs.size+1)=U (instObj C hh.objs.size):=by
  rw[<- hz];exact de _ J
 have t1:sr (b8 X.prog X.w) ((hh.push CC).push<|instObj C hh.objs.size) (sx<|.ref<|hh.objs.size+1)<|.ref C:=(oC gt).andThen .now;have t2:sr (b8 X.prog X.w) ((hh.push CC).push<|instObj C hh.objs.size) (o4 (.ref<|hh.objs.size+1)<|.type "object") O:=t1.andThen<|a.top.keeps λb o e=>ax _<|ax _ e;refine eJ oi_plain entry_oi<|@check_slot (b8 X.prog X.w) _ _ _ "object.__init__" "object" "__init__" (.ref<|hh.objs.size+1) [] [] _ oi_kind oi_split t2 (oi_args<|.ref<|hh.objs.size+1) ?_;show cv _ _ (Builtin.«object.__init__» ⟨[Value.ref<|hh.objs.size+1],[]⟩) _ _ _;rw[oi_run];exact cC<|And.intro J ⟨V.ref<|hh.objs.size+1,_,I2,J,hq⟩
end
structure TY(P:Pg)(Pr:cW)(w:c4)(K:a_)(mg:Str->D2)(c:Nat)(x:Str):Prop where
 ex:∃(C:bp)(ns:Bi),gH (gv P K Pr w) c C ns/\mg x=U (.ref C)/\à K C
def Of{c:Nat}(D:TY P X.prog X.w X.K X.mg c x)(i:Gl X x)(l:aV x):PE X (.Call (.Name x p) [] [] pos)<|tE (P.kt X)<|c9 c 0 bI:=by
 obtain⟨C,ns,j,f,M⟩:=D.ex;refine aS (Oe M i f l) λσ H Q b=>?_;obtain⟨g,s,t,s',z,h,k⟩:=b;cases h;intro x m nx nd d;obtain⟨a,rp⟩:=rz (c:=c) (ts:=[]) (vs:=[]) z j (i_ _) J nx nd d;have e:ns.zip ([]:List V)=[]:=KZ
 have:=k _ (g.grow _) _ (z.kI a) (z.grow a) rp
 rw[e]at this;exact this
section
structure Walk(B:KT)(al:BM)(a:It)(HF:Hp)(ts:FK):Prop where
 go:∀i H,aL HF H->i<ts.length->a.go i H
 yld:∀i H x H',aL HF H->i<ts.length->a.yld i H x H'->∃t,ts[i]?=U t/\∀wm,aL HF wm->aL wm H->∃G1,Gr wm H G1 H'/\Rep B al G1 t x
 stop:∀i H,aL HF H->i=ts.length->a.stop i H
def AZ{B:KT}{al:BM}{HF:Hp}{l:bp}{ts:FK}{vs:List V}(h:HF l=U (.lst vs))(r:aB B al HF ts vs):Walk B al (VY B.K l) HF ts:=by
 refine⟨λi H sm a=>?_,λi H x H' sm a y=>?_,λi H sm a=>⟨vs,dM.of<|sm _ _ h,by rw[a,r.len];exact dS _⟩⟩
 .obtain⟨v,e,_⟩:=r.get<|fH a
  exact⟨vs,v,dM.of<|sm _ _ h,e⟩
 .obtain⟨rfl,y⟩:=y
  have e:=y vs<|dM.of<|sm _ _ h;obtain⟨t,f,d⟩:=r.AV e;exact⟨t,f,λb c s2=>⟨b,.refl s2,d.same c⟩⟩
def Eg{B:KT}{al:BM}{HF:Hp}{l:bp}{ts:FK}{vs:List V}(h:k7 B.K HF l vs)(r:aB B al HF ts vs):Walk B al (WW B.K l) HF ts:=by
 refine⟨λi H sm a=>?_,λi H x H' sm a y=>?_,λi H sm a=>⟨vs,cD sm h,by rw[a,r.len];exact dS _⟩⟩
 .obtain⟨v,e,_⟩:=r.get<|fH a
  exact⟨vs,v,cD sm h,e⟩
 .obtain⟨rfl,y⟩:=y
  have e:=y vs<|cD sm h;obtain⟨t,f,d⟩:=r.AV e;exact⟨t,f,λb c s2=>⟨b,.refl s2,d.same c⟩⟩
def uu{B:KT}{al:BM}{j:It}{a:List V}{ts:FK}{HF:Hp}(d:Xj j a λ_=>True)(r:aB B al HF ts a):Walk B al j HF ts:=by
 refine⟨λi H sm b=>d.go i H trivial<|by rw[<- r.len];exact b,λi H x H' sm b y=>?_,λi H sm b=>d.stop i H trivial<|by rw[<- r.len];exact b⟩
 obtain⟨rfl,e⟩:=d.yld i H x H' trivial (by rw[<- r.len];exact b) y
 obtain⟨t,h,g⟩:=r.AV e;exact⟨t,h,λc f s2=>⟨c,.refl s2,g.same f⟩⟩
theorem aB.sQ{B:KT}{al:BM}{H:Hp}(lo:Int)(n:Nat):aB B al H (D.sQ lo n)<|(gk n).map λk=>V.int<|lo+(k:Nat):=by
 have b:D.sQ lo n=((gk n).map λk=>lo+((k:Nat):Int)).map T.int:=by unfold D.sQ;rw[pe];rfl
 have a:((gk n).map λk=>V.int<|lo+(k:Nat))=((gk n).map λk=>lo+((k:Nat):Int)).map V.int:=by rw[pe];rfl
 rw[b,a];exact aB.ints _
structure Sets(B:KT)(al:BM)(HF:Hp)(S:B1)(σ σ':St)(ρ ρ':Fs):Prop where
 len:σ'.length=σ.length
 lenR:ρ'.length=ρ.length
 off:∀(i:Nat),i∉S->σ'[i]?=σ[i]?/\ρ'[i]?=ρ[i]?
 on:∀(i:Nat),i∈S->i<ρ.length->∃(t:T)(v:V),ρ'[i]?=U (U<|.val t)/\σ'[i]?=U (U v)/\Rep B al HF t v
structure pJ(B:KT)(g:TG)(fg:FG)(S:B1):Prop where
 ok:∀(al:BM)(HF H:Hp)(σ:St)(ρ:Fs)(t:T)(v:V)(ρ':Fs)(Q:St->Hp->Prop),aL HF H->Rep B al HF t v->fg t ρ=U ρ'->ρ.length=σ.length->(∀σ',Sets B al HF S σ σ' ρ ρ'->Q σ' H)->g v σ H Q
def Sets.one{B:KT}{al:BM}{HF:Hp}{i:Nat}{σ:St}{a:Fs}{t:T}{v:V}(hl:a.length=σ.length)(r:Rep B al HF t v):Sets B al HF [i] σ (σ.set i<|U v) a<|a.set i<|U<|.val t:=by
 refine⟨jD,jD,λj b=>?_,λj b c=>?_⟩
 .have:i≠j:=λe=>b (by simp[e])
  rw[ic this,ic this];exact⟨J,J⟩
 .have:j=i:=by simpa using b
  subst this;exact⟨t,v,by rw[ib c],by rw[ib<|by lia],r⟩
def yM{B:KT}(i:Nat):pJ B (sU i) (setG i) [i]:=⟨λal HF H σ b t v a Q sm r h hl q=>by
 cases h;exact q _<|.one hl r⟩
def Sets.cons{B:KT}{al:BM}{HF:Hp}{i:Nat}{S:B1}{σ d:St}{g e:Fs}{t:T}{v:V}(hl:g.length=σ.length)(r:Rep B al HF t v)(h:Sets B al HF S (σ.set i<|U v) d (g.set i<|U<|.val t) e):Sets B al HF (i::S) σ d g e:=by
 have o:=Sets.one (B:=B) (al:=al) (i:=i) hl r;refine⟨h.len.trans o.len,h.lenR.trans o.lenR,λj f=>?_,λj f m=>?_⟩
 .obtain⟨l,k⟩:=h.off j λz=>f<|by simp[z]
  obtain⟨s,q⟩:=o.off j λz=>f<|by simp at z;simp[z]
  exact⟨l.trans s,k.trans q⟩
 .by_cases hs:j∈S
  .exact h.on j hs (by rw[jD];exact m)
  .obtain⟨l,k⟩:=h.off j hs
   obtain⟨p,n,a,b,c⟩:=o.on j (by rcases bu.mp f with z|z;exact(by simp[z]);exact dk z hs) m
   exact⟨p,n,k.trans a,l.trans b,c⟩
def nF:B1->Ln
 |[]=>Rv
 |i::is=>Lo (sU i)<|nF is
theorem qo{B:KT}{al:BM}:∀(is:B1)(HF H:Hp)(σ:St)(c:Fs)(ts:FK)(vs:List V)(a:Fs)(Q:St->Hp->Prop),aL HF H->aB B al HF ts vs->yq is ts c=U a->c.length=σ.length->(∀b,Sets B al HF is σ b c a->Q b H)->nF is vs σ H Q
 |[],HF,H,σ,c,ts,vs,a,Q,sm,r,h,hl,q=>by
  cases ts with
  |cons t ts=>cases h
  |nil=>
   cases h;cases(show vs=[]from r);exact⟨J,q _ ⟨J,J,λ_ _=>⟨J,J⟩,λi g=>by cases g⟩⟩
 |i::is,HF,H,σ,c,ts,vs,a,Q,sm,r,h,hl,q=>by
  cases ts with
  |nil=>cases h
  |cons t ts=>
   obtain⟨v,d,rfl,f,e⟩:=r;refine⟨v,d,J,?_⟩;exact qo is HF H _ _ ts d a Q sm e h (by rw[jD,jD];exact hl) λb s=>q b<|.cons hl f s
def Eh{B:KT}(is:B1){n:Nat}(f:is.length=n:=by rfl):pJ B (MY B.K n<|nF is) (cQ is) is:=⟨λal HF H σ c t v b Q sm r h hl q=>by
 cases t<;>try(cases h;done)
 .rename_i ts
  obtain⟨a,d,rfl,q1,r⟩:=r;have g:∀(is:B1)(ts:FK)(c:Fs),yq is ts c=U b->is.length=ts.length:=by
   intro is
   induction is with
   |nil=>intro ts c h;cases ts with
    |nil=>rfl
    |cons=>cases h
   |cons i is e=>intro ts c h;cases ts with
    |nil=>cases h
    |cons t ts=>simp[e ts _ h]
  exact⟨a,d,J,cD sm q1,by rw[<- r.len,<- g _ _ _ h,f],qo is HF H σ c ts d b Q sm r h hl q⟩
⟩
theorem Walk.mv{al b:BM}{f:It}{HF a:Hp}{ts:FK}(w:Walk B al f HF ts)(p:al <+: b)(s:aL HF a):Walk B b f a ts:=
 ⟨λi H h=>w.go i H<|s.trans h,λi H x H' h e y=>let⟨t,h1,h2⟩:=w.yld i H x H' (s.trans h) e y;⟨t,h1,λc d s2=>let⟨G1,gr,r⟩:=h2 c (s.trans d) s2;⟨G1,gr,r.mv p<|aL.refl _⟩⟩,λi H h=>w.stop i H<|s.trans h⟩
inductive tI(B:KT)(f:FL)(σ:St)(H:Hp)(R:It->Hp->Prop):Prop where
 |mk g s ts s' (x:SR B g H σ s) (h:f s=.ok (ts,s')) (k:∀a g' H',dC g H g' H'->SR B g' H' σ s'->Walk B g'.al a g'.HF ts->R a H')
def yN:PI X tg e<|tI B jS:=λ_ _ _ _ _ _ a=>by obtain⟨_,_,_,_,_,h,_⟩:=a;cases h
def LW{t t':TI}(h:PI X tg e t)(h':PI X tg e t'):PI X tg e λσ H R=>t σ H R\/t' σ H R:=λa s σ H R I q=>by
 rcases q with q|q
 .exact h a s σ H R I q
 .exact h' a s σ H R I q
def Og:T->Bool
 |.str _=>Zn
 |_=>O
def Oh:T->FC
 |.str _=>Y
 |t=>Wf t
def Iz(a:FE):FL:=λs=>(a s).bind λp=>(dG<|Oh p.1).bind λts=>.ok (ts,p.2)
def A0{al:BM}{HF:Hp}{a:bp}{ns:Ee}(h:dM B.K HF a<|ns.map V.int):Walk B al (VY B.K a) HF<|ns.map T.int:=by
 refine⟨λi H sm b=>?_,λi H x H' sm b y=>?_,λi H sm b=>⟨_,sm.seq h,by rw[b,ck,ck];exact dS _⟩⟩
 .rw[ck]at b
  exact⟨_,.int ns[i],sm.seq h,by rw[gA,fH b];rfl⟩
 .rw[ck]at b
  obtain⟨rfl,y⟩:=y;have e:=y _<|sm.seq h;obtain⟨t,g,f⟩:=(aB.ints (B:=B) (al:=al) (H:=HF) ns).AV e;exact⟨t,g,λc d s2=>⟨c,.refl s2,f.same d⟩⟩
def LX(i:B.K=X.K)(n:PE X e<|tE B fa):PI X tg e<|tI B<|Iz fa:=by
 refine ua (LW (Hg n)<|M4 n) λσ H R o=>?_;obtain⟨g,s,t,s',x,h,k⟩:=o;obtain⟨⟨tx,p⟩,j,h⟩:=ae h;obtain⟨ts,b,h⟩:=ae h;cases h;have b:=au b;have m:=i.symm;cases tx<;>try(cases b;done)
 .cases b
  refine .inr ⟨g,s,_,_,x,j,λv g1 H1 d a c=>?_⟩;obtain⟨l,f,rfl,q,r⟩:=c;refine⟨l,J,⟨f,i▸cD a.sub q⟩,?_⟩;rw[m];exact k _ g1 H1 d a<|Eg q r
 .cases b
  refine .inl ⟨g,s,_,_,x,j,λv g1 H1 d a c=>?_⟩;obtain⟨l,f,rfl,q,r⟩:=c;refine⟨l,J,⟨f,dM.of<|a.sub _ _ q⟩,?_⟩;rw[m];exact k _ g1 H1 d a<|AZ q r
 .cases b
  refine .inl ⟨g,s,_,_,x,j,λv g1 H1 d a c=>?_⟩;obtain⟨l,rfl,q⟩:=c;refine⟨l,J,⟨_,i▸a.sub.seq q⟩,?_⟩;rw[m];exact k _ g1 H1 d a<|A0 q
def TZ(m:B.K=X.K){j:Pos}(b:PE X e<|tE B fa):PI X (.Name x j) e<|tI B<|vA fa:=by
 refine ua (LW (LX m b)<|Nr b) λσ H R d=>?_;obtain⟨g,s,t,s',z,h,k⟩:=d;obtain⟨⟨tx,n⟩,c,h⟩:=ae h;obtain⟨ts,a,h⟩:=ae h;cases h;by_cases hs:Og tx=O
 .refine .inl ⟨g,s,t,_,z,?_,k⟩
  unfold Iz;rw[c];show(dG<|Oh tx).bind _=_;have e:Oh tx=Wf tx:=by cases tx<;>first|rfl|(cases hs)
  rw[e,a];rfl
 .cases tx<;>first|(exact dk J hs)|skip
  have a:=au a;cases a;refine .inr ⟨g,s,_,_,z,c,λv g1 H1 l f i=>?_⟩;obtain⟨rfl,o⟩:=i;exact⟨_,J,k _ g1 H1 l f<|uu (HE _)<|aB.signs _⟩
def Ei(m:Gl X "range")(l:X.mg "range" = Y)(n:PE X a<|tE B fa)(j:noStar a=O):PI X tg (.Call (.Name "range" p) [a] [] pos)<|tI B<|GZ tW<|az fa bI:=by
 have h0:cw [a] X.env=[(Zn,e6 a X.env)]:=aw j;refine ua (AB m l (bf n dc h0) h0) λσ H R d=>?_;obtain⟨g,s,t,s',x,h,k⟩:=d;obtain⟨⟨ts,r⟩,c,h⟩:=ae h;obtain⟨q,b,h⟩:=ae h;cases h;obtain⟨⟨tx,s2⟩,o,c⟩:=ae c;cases c;have b:=au b;cases tx<;>try(cases b;done)
 obtain⟨z,rfl⟩:=bG b;refine⟨g,s,_,_,x,o,λv g1 H1 i e f=>?_⟩;cases f;exact⟨_,J,by lia,by lia,k _ g1 H1 i e<|uu (AI 0 _)<|aB.sQ 0 _⟩
def nu.sets{al:BM}{j:B1}{a:St}{r f:Fs}(x:nu B g H σ r)(ű:al=g.al)(t:Sets B al g.HF j σ a r f):nu B g H a f:=by
 subst ű;refine⟨by rw[t.lenR,t.len];exact x.len,λi c h=>?_⟩
 by_cases hi:i∈j
 .have l:i<r.length:=by rw[<- t.lenR];exact(dR.mp h).1
  obtain⟨u,v,b,e,d⟩:=t.on i hi l;rw[h]at b;cases b;exact⟨v,e,d⟩
 .obtain⟨b,e⟩:=t.off i hi
  rw[e]at h;obtain⟨v,d,k⟩:=x.at_ i c h;exact⟨v,b.trans d,k⟩
end
def wo{B:KT}{al:BM}{HF:Hp}{S:B1}{c:St}{j d:Fs}{k:Nat}{js:B1}{σ:St}(m:∀i∈S,i<k)(s:Sets B al HF S (cZ k js σ) c j d):du (cZ k js σ) c:=by
 have gen:∀(a b:St),a.length=b.length->(∀(i:Nat)(v:V),a[i]?=U (U v)->b[i]?=U (U v))->du a b:=by
  intro a
  induction a with
  |nil=>intro b hl _;cases b with
   |nil=>trivial
   |cons=>cases hl
  |cons x a l=>intro b hl h;cases b with
   |nil=>cases hl
   |cons y b=>
    have f:=l b (by simpa using hl) λi v e=>by simpa using h (i+1) v (by simpa using e)
    cases x with
    |none=>exact f
    |some v=>
     have:=h 0 v J
     simp at this;subst this;exact⟨J,f⟩
 refine gen _ _ s.len.symm λi v e=>?_;by_cases hi:i∈S
 .have g:=m i hi
  unfold cZ at e;rw[jB<|by rw[Am];exact g,B3,b7 g]at e
  cases e
 .rw[(s.off i hi).1];exact e
section
variable{scope:gg}{ls fs:Bi}{js S':B1}{n elt:cb}{t:Bz}{gt:TG}{vE:FL}{fg:FG}{ft:FT}{fe:FE}
theorem SR.kG:∀(js:B1){g:G}{s:S},SR B g H σ s->∃g',dC g H g' H/\SR B g' H σ {s with r:=kG js s.r}
 |[],g,s,x=>⟨g,.refl,x⟩
 |j::js,g,s,x=>by
  show ∃g',dC g H g' H/\SR B g' H σ {s with r:=D.kG js (HU s.r j)}
  have one:∃g1,dC g H g1 H/\SR B g1 H σ {s with r:=HU s.r j}:=by
   unfold HU;split
   .rename_i ts h
    obtain⟨g1,v,p,y,_⟩:=x.jE h;exact⟨g1,p,y⟩
   .exact⟨g,.refl,x⟩
  obtain⟨g1,d,b⟩:=one;obtain⟨g2,c,a⟩:=SR.kG js b;exact⟨g2,d.trans c,a⟩
def nu.block{r:Fs}(x:nu B g H σ r)(k:Nat)(js:B1):nu B g.ak H (cZ k js σ)<|jf k js r:=by
 refine⟨by unfold jf cZ;simp,λi c h=>?_⟩
 unfold jf at h;unfold cZ;by_cases hi:i<k
 .rw[jB<|by simpa using hi,B3,b7 hi]at h
  cases h
 .rw[iu<|by simpa using hi,Am,gA]at h
  rw[iu<|by simpa using hi,Am,gA]
  cases a:js[i-k]? with
  |none=>rw[a]at h;cases h
  |some j=>
   rw[a]at h;have h:(match r[j]? with|U<|U<|.val t=>U<|C.val t|_=>Y)=U c:=by injection h
   split at h
   .rename_i t b
    cases h;obtain⟨v,e,d⟩:=x.at_ j _ b;exact⟨v,by show U ((σ[j]?).join)=_;rw[e];rfl,d⟩
   .cases h
def SR.Oi{D:bp}{u:HO}(x:SR B g H σ s)(j:g.HF D=Y)(f:g.o D=Y)(hl:∃w,H D=U w):SR B g (upd H D u) σ s:=by
 have ne:∀b p,g.o b=U p->b≠D:=λb p e z=>by rw[z,f]at e;cases e
 refine⟨x.st.mv (λb w e=>?_) (λb p e=>?_) (aL.refl _) J λl p h _=>⟨h,af<|ne l p h⟩,x.lc.len,λi c e=>?_⟩
 .have:b≠D:=λz=>by rw[z,j]at e;cases e
  rw[af this];exact x.sub _ _ e
 .obtain⟨d,w,a⟩:=x.st.live b p e
  exact⟨d,w,by rw[af<|ne b p e];exact a⟩
 .obtain⟨v,d,a⟩:=x.lc.at_ i c e
  exact⟨v,d,bX.mv (g:=g) (g':=g) (aL.refl _) fV (λl h=>⟨h,af<|ne l _ h⟩) a⟩
def dC.Oi{D:bp}{u:HO}{g1:G}{H1:Hp}(p:dC g H g1 H1)(h0:H D=Y):dC g H g1<|upd H1 D u:=
 ⟨p.fr,p.pre,λb w h n z=>by
  have:b≠D:=aJ h h0
  rw[af this];exact p.rest b w h n z,λb h=>by
  by_cases hb:b=D
  .subst hb;exact h0
  .rw[af hb]at h;exact p.there b h⟩
def T9:GW X []<|tT B i6:=λa s σ H Q I z=>by
 obtain⟨g,st,t,s',x,h,k⟩:=z;cases h;exact HA a s σ H Q I<|k g H .refl x
def T_{c:cb}(h:PT X c<|tT B ft):GW X [c]<|tT B ft:=HB h
def wt{k:Nat}(BB:pJ B gt fg S')(hS:∀i∈S',i<k):∀σ H Q,tO B (eB vE k js fg ft fe) σ H Q->tComp (tI B vE) k js gt (tT B ft) (tE B fe) σ H Q:=by
 rintro σ H Q ⟨g,s,ys,s',x,h,kk⟩
 obtain⟨⟨xs,M⟩,h1,h⟩:=ae h;dsimp only at h;split at h
 case isFalse=>cases h
 rename_i hz;obtain⟨⟨rs,mm⟩,h2,h⟩:=ae h;cases h;unfold tComp;refine⟨g,s,xs,M,x,h1,λql g1 H1 p1 x1 C D F=>?_⟩;obtain⟨g2,X,L⟩:=x1.kG js;have C:=C.mv X.pre X.fr;obtain⟨b,hb⟩:∃b,b=jf k js (_root_.D.kG js M.r):=⟨_,J⟩;rw[<- hb]at h2;have á:=p1.trans X;have Ų:H D=Y:=á.there D F;have nD:∀{I:G}{ss:S},SR B I H1 σ ss->I.HF D=Y/\I.o D=Y:=λ{I ss} x=>⟨x.sub.free F,by
  cases q:I.o D with
  |none=>rfl
  |some p=>obtain⟨_,u,z⟩:=x.st.live D p q;rw[F]at z;cases z⟩
 obtain⟨f2,o2⟩:=nD L;obtain⟨â,_,_⟩:=jh (u:=.lst []) L F;refine⟨λi m w f=>m=xs.length-i/\i<=xs.length/\∃g3 m3 done rest,dC g2 H1 g3 f/\SR B g3 f σ ⟨_root_.D.kG js M.r,m3⟩/\g3.HF D=Y/\g3.o D=Y/\f D=U (.lst w)/\aB B g3.al g3.HF done w/\done.length<=i/\b_ fg ft fe b (xs.drop i) m3=.ok (rest,mm)/\rs=done++rest,
  ⟨xs.length,by simp,i_ _,g2.grow g2.HF,M.m,[],rs,L.kI â,L.grow â,f2,o2,ao,J,dS _,by rw[B8];exact h2,J⟩,?_⟩
 rintro i m w f ⟨rfl,hi,g3,m3,done,rest,n,d,R,Z,hl,rd,E,a,rfl⟩
 by_cases fB:i<xs.length
 .have ã:=n.fr.trans d.sub
  refine .inr ⟨C.go i f ã fB,λv H3 y=>?_⟩;obtain⟨t,ht,y2⟩:=C.yld i f v H3 ã fB y;obtain⟨K,l,rx⟩:=y2 g3.HF n.fr d.sub;have Ub:xs.drop i=t::xs.drop (i+1):=by
   obtain⟨hh,e⟩:=dR.mp ht;rw[xN hh,e]
  rw[Ub]at a;obtain⟨b1,q1,a⟩:=ae a;obtain⟨⟨c,s5⟩,q2,a⟩:=ae a;have A:=d.grow l;have p4:=n.trans<|d.kI l;obtain⟨hl4,f4⟩:=l.rest D _ hl R;have eb:=A.lc.block k js;rw[<- hb]at eb;refine BB.ok g3.al K H3 _ _ t v b1 _ A.sub (rx.mv n.pre<|aL.refl _) (au q1) eb.len λV Hh=>⟨wo hS Hh,?_⟩;have xb:SR B (g3.grow K).ak H3 V ⟨b1,m3⟩:=⟨A.st.ak,eb.sets J Hh⟩;refine⟨(g3.grow K).ak,⟨b1,m3⟩,c,s5,xb,q2,λg6 H6 p6 x6=>?_⟩;cases c with
  |true=>
   obtain⟨⟨y',s7⟩,q3,a⟩:=ae a;obtain⟨⟨ä,m8⟩,q4,a⟩:=ae a;cases a;refine lL ⟨g6,s5,y',s7,x6,q3,λv7 g7 H7 p7 x7 r7=>?_⟩;obtain⟨j,W⟩:=A.back (p6.trans p7) x7.st;have p8:=p4.trans j;obtain⟨T,P,N⟩:=(d.kI l |>.trans j).rest D _ hl R Z;have ų:w.length<cq:=by rw[<- rd.len,ez];lia
   refine⟨T,ų,xs.length-(i+1),xR fB<|mQ i,J,fB,G.back (g3.grow K) g7,s7.m,done++[y'],ä,p8.Oi F,W.Oi P N ⟨_,T⟩,P,N,ao,?_,by simp;exact E,q4,by simp⟩
   have st:=(d.kI l).trans j;exact(rd.mv st.pre st.fr).app<|.one r7
  |false=>
   obtain⟨j,W⟩:=A.back p6 x6.st;obtain⟨T,P,N⟩:=(d.kI l |>.trans j).rest D _ hl R Z;have st:=(d.kI l).trans j;exact m_ ⟨xs.length-(i+1),xR fB<|mQ i,J,fB,G.back (g3.grow K) g6,s5.m,done,rest,p4.trans j,W,P,N,T,rd.mv st.pre st.fr,eT E<|fk ..,a,J⟩
 .have e:i=xs.length:=Cp hi<|xP fB
  subst e;rw[Cd]at a;cases a;rw[bz]at kk;exact .inl ⟨C.stop _ f (n.fr.trans d.sub) J,kk D w g3 f (á.trans n) d Ų R Z hl rd⟩
def Ol(ls:Bi)(f:X.calm=O)(h:f_ X scope)(F:fL X scope js fs)(d:PI X tg n<|tI B vE)(e:∀cl C a s H,PG (X.block (ls++fs) scope cl C a s H) tg gt)(j:pJ B gt fg S')
  (b:∀cl C a s H,GW (X.block (ls++fs) scope cl C a s H) t<|tT B ft) (he:∀cl C a s H,PE (X.block (ls++fs) scope cl C a s H) elt<|tE B fe)
  (g:∀i∈S',i<ls.length) (c:∀x,eH n X.env x=pure x):PE X (.ListComp elt [⟨tg,n,t,0⟩] scope pos)<|tO B<|eB vE ls.length js fg ft fe:=
 aS (HC ls f h F d e b he c)<|wt j g
end
def wu(B:KT)(g:G)(H:Hp)(D:Ends):Out->S->Prop
 |.nx,s'=>∀a g' H',dC g H g' H'->SR B g' H' a s'->D.nx a H'
 |.rt t,s'=>∀v g' H',dC g H g' H'->ef B g' H' s'.m->Rep B g'.al g'.HF t v->D.rt v H'
 |.bk,s'=>∀a g' H',dC g H g' H'->SR B g' H' a s'->D.bk a H'
 |.ct,s'=>∀a g' H',dC g H g' H'->SR B g' H' a s'->D.ct a H'
inductive tS(B:KT)(f:FS)(D:Ends)(σ:St)(H:Hp):Prop where
 |mk g s o s' (x:SR B g H σ s) (h:f s=.ok (o,s')) (k:wu B g H D o s')
section
variable{c7 t:Pos}{ft:FT}{H1:Hp}{g1:G}{F n:FS}{st:gL}{rest d:Fh}{i:Nat}
def wu.mv{D:Ends}{o:Out}(k:wu B g H D o s')(p:dC g H g1 H1):wu B g1 H1 D o s':=by
 cases o with
 |nx=>exact λa g' H' q x=>k a g' H' (p.trans q) x
 |rt t=>exact λv g' H' q x r=>k v g' H' (p.trans q) x r
 |bk=>exact λa g' H' q x=>k a g' H' (p.trans q) x
 |ct=>exact λa g' H' q x=>k a g' H' (p.trans q) x
def Uc:gz X d<|tS B dB:=λ_ _ _ _ _ _ a=>by obtain⟨_,_,_,_,_,h,_⟩:=a;cases h
def c5:PS X st<|tS B dB:=λ_ _ _ _ _ _ a=>by obtain⟨_,_,_,_,_,h,_⟩:=a;cases h
def Ud:gz X []<|tS B aF:=nz lU λD σ H z=>by
 obtain⟨g,s,o,s',x,h,k⟩:=z;cases h;exact k σ g H .refl x
def Om(i:PS X st<|tS B F)(f:gz X rest<|tS B n):gz X (st::rest)<|tS B<|ah F n:=nz (gC i f) λD σ H z=>by
 obtain⟨g,s,o,s',x,h,k⟩:=z;obtain⟨⟨b,a⟩,j,h⟩:=ae h;refine⟨g,s,b,a,x,j,?_⟩;cases b with
 |nx=>exact λc g1 H1 e d=>⟨g1,a,o,s',d,h,k.mv e⟩
 |rt t=>cases h;exact k
 |bk=>cases h;exact k
 |ct=>cases h;exact k
def Ue(h:PS X st<|tS B F):gz X [st]<|tS B F:=iP h
def Oo:PS X (.Pass pos)<|tS B aF:=cH Hc λD σ H z=>by
 obtain⟨g,s,o,s',x,h,k⟩:=z;cases h;exact k σ g H .refl x
def LY(n:X.N.Nodup)(l:X.N[i]?=U x)(f:Loc X.env.scope x)(he:PE X e<|tE B fa)(j:eR e (U<|.Name x c7) pos.line X.env=pure Zn)(m:X.fn x=O\/X.env.scope.names.lookup x=U .local) :
  PS X (.Assign [.Name x c7] e pos)<|tS B<|aD i fa:=cH (iA n l f he j m) λD σ H z=>by
 obtain⟨g,s,o,s',x,h,k⟩:=z;obtain⟨⟨t,b⟩,p,h⟩:=ae h;cases h;exact⟨g,s,t,b,x,p,λv g1 H1 d a c=>k _ g1 H1 d<|a.set c⟩
def yO{D:Ends}{ts:FK}{s1:S}(k:wu B g H D .nx<|iR s1 i<|.ol ts){l:bp}{vs:List V}(d:dC g H g1 H1)(e:SR B g1 H1 σ s1)(h0:H l=Y)(j:g1.HF l=Y)(f:g1.o l=Y)(hl:H1 l=U (.lst vs))(r:aB B g1.al g1.HF ts vs):D.nx (σ.set i<|U<|.ref l) H1:=by
 refine k _ (g1.own l<|.loc i) H1 ⟨d.fr,d.pre,λb u h n z=>?_,d.there⟩<|e.own f j hl r;obtain⟨a,m,c⟩:=d.rest b u h n z
 have:b≠l:=aJ h h0
 exact⟨a,m,by show(if b=l then U (kH.loc i)else g1.o b)=Y;rw[b0 this];exact c⟩
def Ug(q:X.N.Nodup)(n:X.N[i]?=U x)(j:Loc X.env.scope x)(he:PE X e<|tO B fl)(m:eR e (U<|.Name x c7) pos.line X.env=pure Zn)(p:X.fn x=O\/X.env.scope.names.lookup x=U .local) :
  PS X (.Assign [.Name x c7] e pos)<|tS B<|pG i fl:=cH (iA q n j he m p) λD σ H z=>by
 obtain⟨g,s,o,s',x,h,k⟩:=z;obtain⟨⟨ts,b⟩,t,h⟩:=ae h;cases h;exact⟨g,s,ts,b,x,t,λl u g1 H1 c a h0 f d hl r=>yO k c a h0 f d hl r⟩
section
variable{scope:gg}{ls fs:Bi}{js V:B1}{Q elt:cb}{M:Bz}{gt:TG}{S:FL}{T:FG}{fe:FE}
def Oq(ls:Bi)(E:X.calm=O)(G:X.N.Nodup)(y:X.N[i]?=U x)(u:Loc X.env.scope x)(K:f_ X scope)(Fr:fL X scope js fs)(b:PI X tg Q<|tI B S)(z:∀cl C c s H,PG (X.block (ls++fs) scope cl C c s H) tg gt)(L:pJ B gt T V)
  (v:∀cl C c s H,GW (X.block (ls++fs) scope cl C c s H) M<|tT B ft) (he:∀cl C c s H,PE (X.block (ls++fs) scope cl C c s H) elt<|tE B fe)
  (F:∀i∈V,i<ls.length) (w:∀x,eH Q X.env x=pure x) (A:X.fn x=O\/X.env.scope.names.lookup x=U .local)
  (I:eR (.ListComp elt [⟨tg,Q,M,0⟩] scope R) (U<|.Name x c7) pos.line X.env=pure O) :
  PS X (.Assign [.Name x c7] (.ListComp elt [⟨tg,Q,M,0⟩] scope R) pos) (tS B<|pG i<|eB S ls.length js T ft fe) /\
  PS X (.Assign [.Name x c7] (.ListComp elt [⟨tg,Q,M,0⟩] scope R) pos) (tS B<|aD i<|iH<|eB S ls.length js T ft fe):=by
 constructor
 .refine cH (ye ls E G y u K Fr b z v he w A I) λD σ H d=>?_
  obtain⟨g,s,o,s',x,h,k⟩:=d;obtain⟨⟨ts,j⟩,p,h⟩:=ae h;cases h;exact wt L F σ H _ ⟨g,s,ts,j,x,p,λl f g1 H1 m e h0 a n hl r=>yO k m e h0 a n hl r⟩
 .refine cH (ye ls E G y u K Fr b z v he w A I) λD σ H d=>?_
  obtain⟨g,s,o,s',x,h,k⟩:=d;obtain⟨⟨t,s2⟩,q,h⟩:=ae h;obtain⟨⟨ts,j⟩,p,q⟩:=ae q;cases q;cases h;exact wt L F σ H _ ⟨g,s,ts,j,x,p,λl f g1 H1 m e h0 a n hl r=>k _ (g1.grow<|upd g1.HF l<|.lst f) H1 (m.wb h0 a)<|(e.wb a n hl).set (t:=.lst ts) ⟨l,f,J,ao,r.same<|aQ a⟩⟩
end
def Uh{gt:TG}{d:FG}{w:B1}(he:PE X e<|tE B fa)(n:PG X tg gt)(y:pJ B gt d w)(m:swapsWithSole [tg] e pos.line X.env=pure Zn)(l:so [tg] e X.env=pure Y)
  (p:(hU [tg] X.env).map (·.2)=[u6 tg X.env]):PS X (.Assign [tg] e pos)<|tS B<|tY d fa:=cH (MZ he n m l p) λD σ H z=>by
 obtain⟨g,s,o,s',x,h,k⟩:=z;obtain⟨⟨t,c⟩,u,h⟩:=ae h;obtain⟨i,q,h⟩:=ae h;cases h;exact⟨g,s,t,c,x,u,λv g1 H1 j a f=>y.ok g1.al g1.HF H1 σ c.r t v i _ a.sub f (au q) a.lc.len λb st=>k b g1 H1 j ⟨a.st,a.lc.sets J st⟩⟩
def Ui(he:PE X e<|tE B fa):PS X (.Return (U e) pos)<|tS B<|aq fa:=cH (CH he) λD σ H z=>by
 obtain⟨g,s,o,s',x,h,k⟩:=z;obtain⟨⟨t,b⟩,f,h⟩:=ae h;cases h;exact⟨g,s,t,b,x,f,λv g1 H1 d a c=>k v g1 H1 d a.st c⟩
def Ot:PS X (.Return Y pos)<|tS B<|aq<|cF .non:=cH Hd λD σ H z=>by
 obtain⟨g,s,o,s',x,h,k⟩:=z;cases h;exact k _ g H .refl x.st J
def Ou(he:PE X e<|tE B fa)(d:eR e Y pos.line X.env=pure Zn):PS X (.Expr e pos)<|tS B<|bM fa:=cH (lV he d) λD σ H z=>by
 obtain⟨g,s,o,s',x,h,k⟩:=z;obtain⟨⟨t,b⟩,f,h⟩:=ae h;cases h;exact⟨g,s,t,b,x,f,λv g1 H1 c a i=>k σ g1 H1 c a⟩
def YD{A f:Fh}(i:PT X c<|tT B ft)(l:gz X A<|tS B F)(j:gz X f<|tS B n):PS X (.If c A f pos)<|tS B<|aX ft F n:=cH (CI i l j) λD σ H z=>by
 obtain⟨g,s,o,s',x,h,k⟩:=z;obtain⟨⟨d,a⟩,m,h⟩:=ae h;refine⟨g,s,d,a,x,m,λg1 H1 e b=>?_⟩;cases d with
 |true=>exact lL ⟨g1,a,o,s',b,h,k.mv e⟩
 |false=>exact m_ ⟨g1,a,o,s',b,h,k.mv e⟩
def gU{r:Fs}{ts:FK}(h:rf r[i]?=U ts):r[i]?=U (U<|.ol ts):=by
 unfold rf at h;split at h
 .rename_i a;cases h;exact a
 .cases h
def SR.wx(x:SR B g H σ s){ts:FK}(h:s.r[i]?=U (U<|.ol ts)):∃l vs,σ[i]?=U (U<|.ref l)/\g.o l=U (.loc i)/\H l=U (.lst vs)/\aB B g.al g.HF ts vs:=by
 obtain⟨v,d,l,vs,rfl,c,b,a⟩:=x.lc.at_ i _ h;exact⟨l,vs,d,c,b,a⟩
def Uj{q:Pos}(he:PE X e<|tE B fa)(C:X.N[i]?=U y)(A:lR X.env.scope y)(hd:aV y)(E:fW y)(a:noStar e=O)(w:(cA.endLine == R.line)=O) :
  PS X (.Expr (.Call (.Attribute (.Name y q) "append" cA) [e] [] R) pos)<|tS B<|gS i fa:=by
 refine cH (lV (C_ tN tq tj ky (bZ C A hd E) (bf he dc<|aw a) (iT J) (G0 (by rw[d_,a];rfl)<|by decide) w (aw a) J) J) λD σ H d=>?_
 obtain⟨g,s,o,s',x,h,k⟩:=d;obtain⟨M,L,h⟩:=ae h;obtain⟨⟨t,m⟩,K,h⟩:=ae h;obtain⟨ts,I,h⟩:=ae h;obtain⟨P,G,h⟩:=ae h;obtain⟨z,rfl⟩:=bG<|au G;cases h;obtain⟨l0,å,q1,q2,p,q4⟩:=x.wx<|gU<|au L;refine⟨_,q1,.inl ⟨J,_,dM.of p⟩,g,s,t,m,x,K,λv g1 H1 u b n=>?_⟩;have c:=gU<|au I;obtain⟨l,j,w1,w2,w3,w4⟩:=b.wx c;rw[q1]at w1;cases w1;obtain⟨f,r⟩:=b.chg c q1<|w4.app<|.one n;exact⟨l0,j,v,J,J,w3,by rw[<- w4.len,ez];exact ee z<|by decide,k σ g1 _ (u.trans r) f⟩
def Uk{d:cb}{l:Fh}{gt:TG}{L:FG}{S':B1}(hc:X.calm=O)(hi:PI X tg d<|tI B fl)(hg:PG X tg gt)(BB:pJ B gt L S')(hb:gz X l<|tS B F)(hp:lx (b8 X.prog X.w) X.A X.env X.xe)
  (hs:∀x,eH d X.env x=pure x):PS X (.For tg d l [] pos)<|tS B<|gT fl L F:=by
 refine cH (CO hp hc hi hg hb hs) λD σ H zz=>?_;obtain⟨g,s,o,s',x,h,k⟩:=zz;obtain⟨⟨xs,R⟩,e1,h⟩:=ae h;refine⟨g,s,xs,R,x,e1,λql g1 H1 P x1 M=>?_⟩;refine⟨λi m j u=>m=xs.length-i/\i<=xs.length/\∃g2 s2,dC g1 H1 g2 u/\SR B g2 u j s2/\aM L F (xs.drop i) s2=.ok (o,s'),
  ⟨xs.length,by simp,i_ _,g1,R,.refl,x1,by rw[B8];exact h⟩,?_⟩
 rintro i m j u ⟨rfl,We,g2,s2,E,C,f⟩
 have Q:=E.fr.trans C.sub;by_cases fB:i<xs.length
 .have hx:xs[i]?=U xs[i]:=fH fB
  rw[xN fB]at f;obtain⟨S,q1,f⟩:=ae f;obtain⟨⟨T,N⟩,q2,f⟩:=ae f;refine .inr ⟨M.go i u Q fB,λz H'=>∃g' s5,dC g1 H1 g' H'/\SR B g' H' z s5/\aM L F (xs.drop<|i+1) s5=.ok (o,s'),
   by rintro z H' ⟨g',s5,a,b,c⟩;exact⟨xs.length-(i+1),xR fB<|mQ i,J,fB,g',s5,a,b,c⟩,λv Z y=>?_⟩
  obtain⟨t,V,y2⟩:=M.yld i u v Z Q fB y;rw[hx]at V;cases V;obtain⟨G1,W,rx⟩:=y2 g2.HF E.fr C.sub;have I:=C.grow W;have K:=E.trans<|C.kI W;refine BB.ok g2.al G1 Z j s2.r _ v S _ I.sub (rx.mv E.pre<|aL.refl _) (au q1) I.lc.len λσ4 st=>⟨g2.grow G1,⟨S,s2.m⟩,T,N,⟨I.st,I.lc.sets J st⟩,q2,?_⟩;cases T with
  |nx=>exact λn g5 G q p=>⟨g5,N,K.trans q,p,f⟩
  |ct=>exact λn g5 G q p=>⟨g5,N,K.trans q,p,f⟩
  |bk=>
   cases f;exact λn g5 G q p=>k n g5 G ((P.trans K).trans q) p
  |rt t=>
   cases f;exact λv g5 G q p r=>k v g5 G ((P.trans K).trans q) p r
 .have e:i=xs.length:=Cp We<|xP fB
  subst e;rw[Cd]at f;cases f;exact .inl ⟨M.stop _ u Q J,k j g2 u (P.trans E) C⟩
def IA{f:Fh}(n:Nat)(Q:PT X c<|tT B ft)(R:gz X f<|tS B F)(P:lx (b8 X.prog X.w) X.A X.env X.xe):PS X (.While c f [] pos)<|tS B<|jg n ft F:=by
 refine cH (sV P Q R) λD σ H M=>?_;obtain⟨g,s,o,s',x,h,k⟩:=M;refine⟨λm j C=>∃g2 s2,dC g H g2 C/\SR B g2 C j s2/\bg ft F m s2=.ok (o,s'),⟨n,g,s,.refl,x,h⟩,?_⟩
 rintro m j C ⟨g2,s2,K,N,e⟩
 cases m with
 |zero=>cases e
 |succ m=>
  obtain⟨⟨d,G⟩,q1,e⟩:=ae e;refine⟨g2,s2,d,G,N,q1,λg3 S I E=>?_⟩;cases d with
  |false=>
   cases e;exact m_<|k j g3 S (K.trans I) E
  |true=>
   obtain⟨⟨L,z⟩,q2,e⟩:=ae e;refine lL ⟨λq H'=>∃g' s5,dC g H g' H'/\SR B g' H' q s5/\bg ft F m s5=.ok (o,s'),by rintro q H' ⟨g',s5,a,b,c⟩;exact⟨m,mQ m,g',s5,a,b,c⟩,?_⟩
   refine⟨g3,G,L,z,E,q2,?_⟩;have y:=K.trans I;cases L with
   |nx=>exact λi g5 u p l=>⟨g5,z,y.trans p,l,e⟩
   |ct=>exact λi g5 u p l=>⟨g5,z,y.trans p,l,e⟩
   |bk=>
    cases e;exact λi g5 u p l=>k i g5 u (y.trans p) l
   |rt t=>
    cases e;exact λv g5 u p l r=>k v g5 u (y.trans p) l r
end
section
def kM{N:Bi}{vs:List V}{ts:FK}(r:aB B g.al g.HF ts vs):nu B g H (L2.start N vs)<|ts.map (λt=>U<|C.val t)++dN (N.length-ts.length) Y:=by
 refine⟨by unfold L2.start;simp[r.len],λi c h=>?_⟩
 by_cases hi:i<ts.length
 .rw[jB<|by simpa using hi,gA,fH hi]at h
  cases h;obtain⟨v,b,a⟩:=r.get<|fH hi;refine⟨v,?_,a⟩;unfold L2.start;rw[jB<|by rw[ck,<- r.len];exact hi,gA,b];rfl
 .rw[iu<|by simpa using hi,B3]at h
  split at h<;>cases h
def mh{a n:Nat}{F:FS}{ts:FK}{m m':FV}{t:T}(h:aI a n F ts m=.ok (t,m')):ts.length=a/\∃o s',F ⟨ts.map (λt=>U<|.val t)++dN (n-ts.length) Y,m⟩=.ok (o,s')/\s'.m=m'/\(o=.rt t\/(o=.nx/\t=.non)):=by
 unfold aI at h;split at h
 .rename_i hl
  obtain⟨⟨o,s'⟩,b,h⟩:=ae h;refine⟨hl,o,s',b,?_⟩;cases o with
  |rt u=>cases h;exact⟨J,.inl J⟩
  |nx=>cases h;exact⟨J,.inr ⟨J,J⟩⟩
  |bk=>cases h
  |ct=>cases h
 .cases h
variable{P:cW}{w:c4}{K:a_}{mg:Str->D2}{base:ed}
structure uv(K:a_)(x qual:Str)(st:gL)(f:bp)(fd:dy):Prop where
 ex:∃(oc:ar)(od:Option bp)(dV kV doc pm:ar)(an:Option bp)(fq ct:ar)(mZ:Array D2),
  fd=Aj x qual (jN st) (bW st) (aA st) dV kV doc pm an fq ct/\K.lookup f=U ⟨oc,od,.func fd,mZ⟩/\BQ K fq qual=O
 kp:jA K (.ref f)=O
def uv.ok{x qual:Str}{st:gL}{f:bp}{fd:dy}{N ps:Bi}{k:Nat}{sp:Sp}(F:uv K x qual st f fd)(g:fm N ps<|aA st)(len:∀vs H Q E,sp vs H Q E->vs.length=ps.length)
  (j:∀(a:ar)(A:dA)(outer:List Env)(s:ag)(H:Hp)(vs:List V)(Q:VK)(E:XK),bo k (A.deeper<|Cu qual (aA st) s.heap.objs.size f a)->sp vs H Q E ->
   ∃t,gz (ie ig P w K mg base N qual (aA st) f a A outer s H E).ph (bW st) t/\t {nx:=λ_ H'=>Q .non H',rt:=Q} (L2.start N vs) H):bV P w K mg base ig (k+1) f fd ps sp:=by
 obtain⟨m,od,o,kV,e,l,an,a,ct,n,rfl,b,d⟩:=F.ex;refine Lq b d g len λA outer s H vs Q E c i=>?_;obtain⟨t,h,q⟩:=j a A outer s H vs Q E c i;exact⟨t,h.ph,q⟩
def Ow{x qual:Str}{st:gL}{f:bp}{fd:dy}{N ps:Bi}{k:Nat}{F:FS}(Fn:uv K x qual st f fd)(u:fm N ps<|aA st)
  (a:∀(b:ar)(A:dA)(outer:List Env)(s:ag)(H:Hp)(E:XK),bo k (A.deeper<|Cu qual (aA st) s.heap.objs.size f b)->gz (ie ig P w K mg base N qual (aA st) f b A outer s H E).ph (bW st) (tS B F)) :
  bV P w K mg base ig (k+1) f fd ps<|oX B<|aI ps.length N.length F:=by
 refine Fn.ok u (λd H Q E h=>?_) λb A outer s H d Q E j h=>?_
 .obtain⟨g,ts,m,t,i,x,r,h,_⟩:=h
  rw[<- r.len,(mh h).1]
 .obtain⟨g,ts,m,t,i,x,r,h,q⟩:=h
  obtain⟨_,o,s',n,rfl,l⟩:=mh h;refine⟨_,a b A outer s H E j,g,_,o,s',⟨x,kM r⟩,n,?_⟩;rcases l with rfl|⟨rfl,rfl⟩
  .exact λv g' H' p y e=>q v g' H' p y e
  .exact λc g' H' p y=>q _ g' H' p y.st J
def IB{f:bp}{fd:dy}{ps:Bi}{k:Nat}{fn:Fn}(F:bV P w K mg base ig k f fd ps<|oX B fn):bV P w K mg base ig k f fd ps<|oX B<|aH fn:=F.imp λI H Q E h=>by
 obtain⟨g,ts,m,t,L,x,r,h,q⟩:=h;unfold aH at h;split at h
 case isFalse=>cases h
 rename_i C;cases e:fn ts []with
 |bad=>rw[e]at h;cases h
 |exc c fs s=>rw[e]at h;dsimp only at h;split at h<;>cases h
 |ok z=>
  rw[e]at h;dsimp only at h;split at h
  case isFalse=>cases h
  rename_i G;cases h;refine⟨⟨g.HF,λ_=>Y,[]⟩,ts,[],z.1,z.2,⟨x.sub,λb p e=>(by cases e),J,λk ob e=>(by simp at e)⟩,aB.no C r,e,λv g0 H' p y A=>?_⟩
  have keep:∀b p,g.o b=U p->H' b=H b/\g0.HF b=Y:=λb q D=>by
   obtain⟨j,u,i⟩:=x.live b q D;obtain⟨d,a,_⟩:=p.rest b u i j J;exact⟨d.trans i.symm,a⟩
  refine q v ⟨g0.HF,g.o,g.al⟩ H' ⟨p.fr,fV,λb u h n z=>?_,p.there⟩ (x.mv y.sub (λb p e=>?_) p.fr J λl p h _=>⟨h,(keep l p h).1⟩)<|Rep.no G A
  .obtain⟨d,a,_⟩:=p.rest b u h n J
   exact⟨d,a,z⟩
  .obtain⟨j,u,i⟩:=x.live b p e
   obtain⟨d,a⟩:=keep b p e;exact⟨a,u,d.trans i⟩
end
section
variable{c7:Pos}
def SR.LZ{k:Nat}{ob n:Ob}{a C dx:bp}{ns:Bi}{vs d:List V}(x:SR B g H σ s)(Z:HW B g H k ob a C dx ns vs)(A:s.m[k]?=U ob)(F:n.c=ob.c)(u:d.length<=ns.length)(Ŵ:d.length=n.fs.length)
  (E:∀j c,n.fs[j]?=U c->∃v,d[j]?=U v/\bX B g H (.fld k j) c v) :
  dC g H g (upd H a<|.ins C dx<|ns.zip d)/\SR B g (upd H a<|.ins C dx<|ns.zip d) σ {s with m:=s.m.set k n}:=by
 have ne:∀l q,g.o l=U q->q≠.ob k->upd H a (.ins C dx<|ns.zip d) l=H l:=λl q hl p=>af λz=>p (by rw[z,Z.o]at hl;cases hl;rfl)
 have sl:∀{q:kH}{c:_root_.D.C}{v:V},q≠.ob k->bX B g H q c v->bX B g (upd H a<|.ins C dx<|ns.zip d) q c v:=λp h=>bX.mv (g:=g) (g':=g) (aL.refl _) fV (λl hl=>⟨hl,ne l _ hl p⟩) h;refine⟨rh Z.o,⟨⟨λb w e=>?_,λb q e=>?_,by rw[jD];exact x.st.len,λt y e=>?_⟩,x.lc.len,λi c e=>?_⟩⟩
 .have:b≠a:=λz=>by rw[z,(x.st.live a _ Z.o).1]at e;cases e
  rw[af this];exact x.sub _ _ e
 .obtain⟨f,w,r⟩:=x.st.live b q e
  by_cases hb:b=a
  .exact⟨f,_,by rw[hb,ao]⟩
  .exact⟨f,w,by rw[af hb];exact r⟩
 .by_cases Um:k=t
  .subst Um
   have G:k<s.m.length:=(dR.mp A).1;have e:(s.m.set k n)[k]?=U y:=e;rw[ib G]at e;cases e;exact .inl ⟨a,C,dx,ns,d,Z.al,Z.o,by rw[F];exact Z.cl,ao,u,Ŵ,λj c h=>let⟨v,f,r⟩:=E j c h;⟨v,f,sl (λz=>by cases z) r⟩⟩
  .have e:(s.m.set k n)[t]?=U y:=e
   rw[ic Um]at e;refine(x.st.at_ t y e).mv (aL.refl _) fV λl q h p=>⟨h,ne l q h ?_⟩;rcases p with rfl|⟨j,rfl⟩
   .exact λz=>Um (by cases z;rfl)
   .exact λz=>by cases z
 .obtain⟨v,f,r⟩:=x.lc.at_ i c e
  exact⟨v,f,sl (λz=>by cases z) r⟩
def A2{fs a:List C}{j:Nat}{c:C}(h:setAt fs j c=U a):(j<fs.length/\a=fs.set j c)\/(j=fs.length/\a=fs++[c]):=by
 unfold setAt at h;split at h
 .rename_i q;cases h;exact .inl ⟨q,J⟩
 .split at h
  .rename_i q;cases h;exact .inr ⟨q,J⟩
  .cases h
def IC(N:rl X.K X.mg P){f:Nat}{n:Str}{k:Nat}{ob y:Ob}{u:_root_.D.C}{a C dx:bp}{ns:Bi}{vs:List V}{v:V}(A:P.an[f]?=U n)(x:SR (P.kt X) g H σ s)(Z:HW (P.kt X) g H k ob a C dx ns vs)(t:s.m[k]?=U ob)(h:LG P.tab f u ob=U y)
  (r:∀j,bX (P.kt X) g H (.fld k j) u v):pS X.K C/\cz X.K C n/\(ns.zip vs).length<1000 /\
  ∃p,L2.eU n v (ns.zip vs)=ns.zip p/\dC g H g (upd H a<|.ins C dx<|ns.zip p)/\SR (P.kt X) g (upd H a<|.ins C dx<|ns.zip p) σ {s with m:=s.m.set k y}:=by
 obtain⟨j,G,E⟩:=bh.mp h;obtain⟨L,B,rfl⟩:=cL.mp E;obtain⟨m,M,z,F⟩:=N.of Z.cl;have b:=rn A z G;have I:j<ns.length:=(dR.mp b).1;refine⟨F.cl,F.na _<|gB b,by rw[Ce];have:=F.G0;lia,?_⟩
 rcases A2 B with⟨o,rfl⟩|⟨rfl,rfl⟩
 .refine⟨vs.set j v,yK F.nd b Z.le<|by rw[Z.ln];exact o,?_⟩
  refine x.LZ Z t J (by rw[jD];exact Z.le) (by rw[jD,jD];exact Z.ln) λi c e=>?_
  by_cases hi:j=i
  .subst hi
   rw[ib o]at e;cases e;exact⟨v,by rw[ib<|by rw[Z.ln];exact o],r j⟩
  .rw[ic hi]at e
   obtain⟨w,l,d⟩:=Z.f i c e;exact⟨w,by rw[ic hi];exact l,d⟩
 .refine⟨vs++[v],rm F.nd<|by rw[Z.ln];exact b,?_⟩
  refine x.LZ Z t J (by rw[dq,Z.ln];exact I) (by rw[dq,dq,Z.ln];rfl) λi c e=>?_
  by_cases hi:i<ob.fs.length
  .rw[jB hi]at e
   obtain⟨w,l,d⟩:=Z.f i c e;exact⟨w,by rw[jB<|by rw[Z.ln];exact hi];exact l,d⟩
  .rw[iu<|by lia]at e
   have q:i-ob.fs.length=0:=by
    have:=(dR.mp e).1
    simp at this;exact this
   rw[q]at e;cases e;exact⟨v,by rw[iu<|by rw[Z.ln];lia,Z.ln,q];rfl,r i⟩
def Uo(ql:rl X.K X.mg P){f:Nat}{n:Str}(L:P.an[f]?=U n)(I:PE X o<|tE (P.kt X) fo)(he:PE X e<|tE (P.kt X) fa)(G:eR e (U<|.Attribute o n c7) pos.line X.env=pure Zn) :
  PS X (.Assign [.Attribute o n c7] e pos)<|tS (P.kt X)<|jT P.tab f fo fa:=cH (vS I he G) λD σ H z=>by
 obtain⟨g,s,oo,s',x,h,k⟩:=z;obtain⟨⟨t,i⟩,R,h⟩:=ae h;obtain⟨⟨tx,s2⟩,Q,h⟩:=ae h;cases tx<;>try(cases h;done)
 rename_i F;obtain⟨G2,N,h⟩:=ae h;cases h;obtain⟨ob,p,m⟩:=bh.mp<|au N;refine⟨g,s,t,i,x,R,λv g1 H1 E u A=>⟨g1,i,_,s2,u,Q,λw g2 H2 b d y=>?_⟩⟩;obtain⟨a,rfl,M⟩:=y;rcases d.st.at_ F ob p with⟨V,C,T,ns,W,Z⟩|⟨V,Z⟩
 case inr=>
  obtain⟨j,q,_⟩:=bh.mp m;obtain⟨l,q,_⟩:=bh.mp q;have z:(P.tab.map _)[ob.c]?=Y:=Z.nf;rw[gA,q]at z;cases z
 have:=Z.al.symm.trans M
 cases this;obtain⟨cl,na,hl,eZ,S,B,r⟩:=IC ql L d Z p m (v:=v) λj=>A.mv b.pre b.fr;refine⟨a,C,T,_,J,Z.h,cl,na,hl,?_⟩;rw[S];exact k σ g2 _ ((E.trans b).trans B) r
end
end D
namespace L2
open PySem PySem.Spec PyProof.Rows
section
variable{X:Cx}
end
end L2
namespace D
open PySem L2
variable{X:Cx}{env:Env}{a b c e o:cb}{fa fb d n:FE}{fl:FL}{g g':G}{H H':Hp}{B:KT}{es:Bz}{i:Nat}{j t p pos c7:Pos}{s s':S}{σ:St}{x y:Str}
section
variable{P:Pg}
theorem yP:∀{Ds:BM}{aG:B2},Vals (Ds.map V.ref) aG->aG=Ds.map Value.ref
 |[],_,h=>by cases h;rfl
 |D::Ds,_,h=>by
  cases h with
  |cons p q=>
   cases p;rw[yP q];rfl
def Ek:fJ X (.builtin "isinstance") λxs H Q=>∃(a C dx tp:bp)(fs:List (Str×V))(Ds:BM)(b:Bool),xs=[.ref a,.ref tp]/\H a=U (.ins C dx fs)/\pS X.K C/\eQ X.K (.ref C) "__class__" = U (U<|.builtin "object.__class__") /\
  xw X.K (.builtin "object.__class__") "__get__" = U (U<|.builtin "getset_descriptor.__get__")/\xx X.K (.builtin "object.__class__")=U O/\Ai X.K C (.type "object")=U O /\
  H tp=U (.tup<|Ds.map V.ref)/\BR X.K (.ref C) (Ds.map Value.ref)=U b/\Q (.bl b) H:=by
 intro D s σ H xs v Q I r h;obtain⟨a,C,dx,tp,fs,Ds,b,rfl,m,cl,j,g,p,i,k,e,q⟩:=h;obtain⟨u,x,rfl,d,t⟩:=vals2 r;cases d;cases t;obtain⟨B,E,_⟩:=jJ I.bj m;obtain⟨od,F,_⟩:=E.look;obtain⟨_,aG,c,o,g1,g2,n,g3⟩:=(show bK X.prog X.w H s.heap tp (.tup<|Ds.map V.ref)from I.bj tp _ k);have l:aG=Ds.map Value.ref:=yP c;obtain⟨y,f,Ő,A⟩:=o;cases g2;cases g3;rw[l]at g1;exact PySem.W.kia_tup (Km (cl.get _) cl.hd j g p i) I.gQ F g1 e (λz=>nomatch z) λtk=>⟨.bl b,H,I.tok _,J,q⟩
def G.lu(g:G)(a:bp):G:={g with o:=λb=>if b=a then U (.ob g.al.length)else g.o b,al:=g.al++[a]}
theorem SR.lu{c:Nat}{C q dx:bp}{ns:Bi}(x:SR B g H σ s)(y:gH B c C ns)(nx:H q=Y)(nd:H dx=Y)(E:dx≠q) :
  dC g H (g.lu q) (upd (upd H dx<|.own q) q<|.ins C dx [])/\SR B (g.lu q) (upd (upd H dx<|.own q) q<|.ins C dx []) σ {s with m:=s.m++[⟨c,[]⟩]}:=by
 have nf:g.HF q=Y:=x.sub.free nx;have ŵ:g.HF dx=Y:=x.sub.free nd;have no:∀l a,g.o l=U a->l≠q/\l≠dx:=λl a h=>by
  obtain⟨_,u,z⟩:=x.st.live l a h;exact⟨aJ z nx,aJ z nd⟩
 have p:∀l,l≠q->l≠dx->upd (upd H dx<|.own q) q (.ins C dx []) l=H l:=λl d f=>by rw[af d,af f]
 have w:∀l a,g.o l=U a->(g.lu q).o l=U a:=λl a h=>by
  show(if l=q then U (kH.ob g.al.length)else g.o l)=_
  rw[b0 (no l a h).1];exact h
 have pre:g.al <+: (g.lu q).al:=List.prefix_append _ _;refine⟨⟨aL.refl _,pre,λb u h n z=>?_,λb h=>?_⟩,⟨⟨λb u e=>?_,λb a e=>?_,?_,λk ob e=>?_⟩,x.lc.len,λi A e=>?_⟩⟩
 .have d:=aJ h nx
  have f:=aJ h nd;refine⟨(p b d f).trans h,n,?_⟩;show(if b=q then U (kH.ob g.al.length)else g.o b)=Y
  rw[b0 d];exact z
 .by_cases d:b=q
  .subst d;exact nx
  .by_cases f:b=dx
   .subst f;exact nd
   .rw[p b d f]at h;exact h
 .have d:b≠q:=λz=>by rw[z]at e;have e:g.HF q=U u:=e;rw[nf]at e;cases e
  have f:b≠dx:=λz=>by rw[z]at e;have e:g.HF dx=U u:=e;rw[ŵ]at e;cases e
  rw[p b d f];exact x.sub _ _ e
 .have e:(if b=q then U (kH.ob g.al.length)else g.o b)=U a:=e
  by_cases hb:b=q
  .subst hb;exact⟨nf,_,ao⟩
  .rw[b0 hb]at e
   obtain⟨d,u,f⟩:=x.st.live b a e;obtain⟨t,r⟩:=no b a e;exact⟨d,u,(p b t r).trans f⟩
 .show(s.m++[_]).length=(g.al++[q]).length
  rw[dq,dq,x.st.len];rfl
 .have e:(s.m++[(⟨c,[]⟩:Ob)])[k]?=U ob:=e
  by_cases hk:k<s.m.length
  .rw[jB hk]at e
   refine(x.st.at_ k ob e).mv (aL.refl _) pre λl a h _=>⟨w l a h,?_⟩;obtain⟨t,r⟩:=no l a h;exact p l t r
  .rw[iu<|by lia]at e
   have Ŷ:k-s.m.length=0:=by
    have:=(dR.mp e).1
    simp at this;exact this
   rw[Ŷ]at e;cases e;have D:k=g.al.length:=by have:=x.st.len;lia
   subst D;refine .inl ⟨q,C,dx,ns,[],?_,?_,y,?_,i_ _,J,λj c h=>by simp at h⟩
   .show(g.al++[q])[g.al.length]?=U q
    rw[iu<|dS _,xS];rfl
   .show(if q=q then U (kH.ob g.al.length)else g.o q)=_
    rw[b7 J]
   .rw[ao,KZ]
 .obtain⟨v,d,f⟩:=x.lc.at_ i A e
  refine⟨v,d,bX.mv (g:=g) (g':=g.lu q) (aL.refl _) pre (λl h=>⟨w l _ h,?_⟩) f⟩;obtain⟨t,r⟩:=no l _ h;exact p l t r
structure æ(P:Pg)(Pr:cW)(w:c4)(K:a_)(mg:Str->D2)(base:ed)(k:Nat)(c:Nat)(x:Str)(f:Fn):Prop where
 ex:∃(C fi:bp)(fd:dy)(ps:Bi)(ns:Bi),gH (gv P K Pr w) c C ns/\mg x=U (.ref C)/\Mk K C fi/\bV Pr w K mg base ig k fi fd ps (oX (gv P K Pr w) f)/\Binds K fd ps []
def ID{c:Nat}{f:Fn}{t:T}(h:v_ c f fl s=.ok (t,s')):∃ts s1 m',fl s=.ok (ts,s1)/\f (.own s1.m.length::ts) (s1.m++[⟨c,[]⟩])=.ok (.non,m')/\t=.own s1.m.length/\s'={s1 with m:=m'}:=by
 obtain⟨⟨ts,s1⟩,a,h⟩:=ae h;dsimp only at h;cases q:f (.own s1.m.length::ts) (s1.m++[⟨c,[]⟩])with
 |ok r=>
  rw[q]at h;obtain⟨u,m'⟩:=r;cases u<;>try(cases h;done)
  cases h;exact⟨ts,s1,m',a,q,J,J⟩
 |bad=>rw[q]at h;cases h
 |exc c fs s2=>rw[q]at h;cases h
def IE{c:Nat}{f:Fn}{C:bp}{ns:Bi}{ts:FK}{vs:List V}{m':FV}{Q:VK}(p:gH B c C ns)(d:SR B g H σ s)(n:aB B g.al g.HF ts vs)(r:f (.own s.m.length::ts) (s.m++[⟨c,[]⟩])=.ok (.non,m'))
  (k:∀v g' H',dC g H g' H'->SR B g' H' σ {s with m:=m'}->Rep B g'.al g'.HF (.own s.m.length) v->Q v H'):∀q a,H q=Y->H a=Y->a≠q->oX B f (.ref q::(vs++[])) (upd (upd H a<|.own q) q<|.ins C a []) (λv t=>v=.non/\Q (.ref q) t) E0:=λq a nx nd o=>by
 obtain⟨b,j⟩:=d.lu p nx nd o;rw[bz];have h:(g.lu q).al[s.m.length]?=U q:=by
  show(g.al++[q])[s.m.length]?=U q;rw[d.st.len,iu<|dS _,xS];rfl
 refine uo (E:=E0) (ts:=.own s.m.length::ts) j ⟨_,vs,J,⟨q,J,h⟩,n.mv b.pre b.fr⟩ r λv g' H' e i l=>⟨l,k _ g' H' (b.trans e) i ⟨q,J,l9 e.pre h⟩⟩
def Oz{k j c:Nat}{f:Fn}(D:æ P X.prog X.w X.K X.mg X.base k c x f)(u:bo j X.A)(r:k+1<=j)(E:PA X (e::es)<|tA (P.kt X) fl)(z:Gl X x)(N:aV x)(a:(e::es).all noStar=O) :
  PE X (.Call (.Name x p) (e::es) [] pos)<|tE (P.kt X)<|v_ c f fl:=by
 obtain⟨C,T,fd,ps,ns,G,y,M,F,B⟩:=D.ex;rw[d_,bT]at a;refine aS (lX M F (u.mono r) z y B .nil lg E N (aw a.1)<|cJ a.2) λσ H Q b=>?_;obtain⟨g,s,t,s',x,h,k⟩:=b;obtain⟨ts,l,S,L,I,rfl,rfl⟩:=ID h;exact⟨g,s,ts,l,x,L,λR g1 H1 q i n=>IE G i n I λv g' H' o d m=>k v g' H' (q.trans o) d m⟩
def rA:cb->Option (cb×Bz×List tv×Pos)
 |.Call f a k p=>U (f,a,k,p)
 |_=>Y
def asName:cb->Option Str
 |.Name x _=>U x
 |_=>Y
def jm:cb->Option (cb×Str×Pos)
 |.Attribute o f p=>U (o,f,p)
 |_=>Y
def jn(e:cb):Option<|Str×Bz×List tv:=(rA e).bind λq=>(asName q.1).map λf=>(f,q.2.1,q.2.2.1)
def kN{e:cb}{q}(h:rA e=U q):e=.Call q.1 q.2.1 q.2.2.1 q.2.2.2:=by
 cases e<;>first|(cases h;done)|(cases h;rfl)
def bq{e:cb}{x:Str}(h:asName e=U x):∃p,e=.Name x p:=by
 cases e<;>first|(cases h;done)|(cases h;exact⟨_,J⟩)
def j2{e:cb}{q}(h:jm e=U q):e=.Attribute q.1 q.2.1 q.2.2:=by
 cases e<;>first|(cases h;done)|(cases h;rfl)
def eK{e:cb}{q}(h:jn e=U q):∃p pos,e=.Call (.Name q.1 p) q.2.1 q.2.2 pos:=by
 obtain⟨w,d,c⟩:=bh.mp h;obtain⟨f,b,rfl⟩:=cL.mp c;obtain⟨p,a⟩:=bq b;rw[kN d,a];exact⟨_,_,J⟩
def j3{α b:Type}:List α->List b->Option α
 |[a],[]=>U a
 |_,_=>Y
def df{α c:Type}{a:α}{as:List α}{ks:List c}(h:j3 as ks=U a):as=[a]/\ks=[]:=by
 match as,ks,h with
 |[b],[],h=>cases h;exact⟨J,J⟩
def ç(e:cb):Option<|Str×cb:=(jn e).bind λq=>(j3 q.2.1 q.2.2).map λa=>(q.1,a)
def IF{e:cb}{q}(h:ç e=U q):∃p pos,e=.Call (.Name q.1 p) [q.2] [] pos:=by
 obtain⟨u,c,h⟩:=bh.mp h;obtain⟨a,b,rfl⟩:=cL.mp h;obtain⟨p,r,g⟩:=eK c;obtain⟨f,d⟩:=df b;exact⟨p,r,by rw[g,f,d]⟩
def è(e:cb):Option<|cb×Str×cb:=(rA e).bind λq=>(jm q.1).bind λw=>(j3 q.2.1 q.2.2.1).bind λa=>if noStar a=O/\(w.2.2.endLine == q.2.2.2.line)=O then U (w.1,w.2.1,a)else Y
def IG{e o a:cb}{m:Str}(h:è e=U (o,m,a)):noStar a=O/\∃c cp,e=.Call (.Attribute o m c) [a] [] cp/\(c.endLine == cp.line)=O:=by
 obtain⟨u,g,h⟩:=bh.mp h;obtain⟨w,f,h⟩:=bh.mp h;obtain⟨b,d,h⟩:=bh.mp h;obtain⟨⟨q1,q2⟩,h⟩:=h_.mp h;cases h;obtain⟨j,i⟩:=df d;exact⟨q1,_,_,by rw[kN g,j2 f,j,i],q2⟩
def yQ:gL->Option (Str×Str×cb)
 |.Assign ts e _=>(match ts with
  |[t]=>(jm t).bind λq=>(asName q.1).map λs=>(s,q.2.1,e)
  |_=>Y)
 |_=>Y
def rB{st:gL}{q}(h:yQ st=U q):∃b a pos,st=.Assign [.Attribute (.Name q.1 b) q.2.1 a] q.2.2 pos:=by
 cases st<;>try(cases h;done)
 rename_i ts e pos
 match ts,h with
 |[t],h=>
  obtain⟨w,g,f⟩:=bh.mp<|show(jm t).bind _=U q from h;obtain⟨s,d,rfl⟩:=cL.mp f;obtain⟨p,c⟩:=bq d;rw[j2 g,c];exact⟨_,_,_,J⟩
def rC(st:gL):Option<|Str×Str×Str:=(yQ st).bind λw=>(asName w.2.2).map λq=>(w.1,w.2.1,q)
def wy{st:gL}{z:Str×Str×Str}(h:rC st=U z):∃b a c pos,st=.Assign [.Attribute (.Name z.1 b) z.2.1 a] (.Name z.2.2 c) pos:=by
 obtain⟨w,g,f⟩:=bh.mp h;obtain⟨q,e,rfl⟩:=cL.mp f;obtain⟨b,a,pos,rfl⟩:=rB g;obtain⟨p,d⟩:=bq e;rw[d];exact⟨_,_,_,_,J⟩
def nG(N:Bi):Nat->Fh->Bi->Bool
 |_,[],[]=>O
 |i,st::rest,n::ns=>(match rC st with
  |some z=>decide (N[0]?=U z.1)&&decide (N[i]?=U z.2.2)&&decide (z.2.1=n)
  |none=>Zn)&&nG N (i+1) rest ns
 |_,_,_=>Zn
def Wi(K:a_):Nat->Bi->TS
 |_,[]=>CG
 |i,n::ns=>Rq (RO K (vH 0) (vH i) n)<|Wi K (i+1) ns
theorem yR(c:∀(i:Nat)(x:Str),X.N[i]?=U x->lR X.env.scope x/\aV x/\fW x):∀(a:Fh)(ns:Bi)(i:Nat),nG X.N i a ns=O->gz X a (Wi X.K i ns)
 |[],[],_,_=>lU
 |[],_::_,_,h=>by cases h
 |st::rest,[],_,h=>by cases h
 |st::rest,n::ns,i,h=>by
  have h:((match rC st with
   |some z=>decide (X.N[0]?=U z.1)&&decide (X.N[i]?=U z.2.2)&&decide (z.2.1=n)
   |none=>Zn)&&nG X.N (i+1) rest ns)=O:=h
  rw[bT]at h;obtain⟨b,l⟩:=h;cases e:rC st with
  |none=>rw[e]at b;cases b
  |some z=>
   rw[e]at b;simp only[bT,cx]at b;obtain⟨⟨f,d⟩,rfl⟩:=b;obtain⟨p,o,m,pos,rfl⟩:=wy e;obtain⟨k,j,g⟩:=c 0 _ f;obtain⟨w1,w2,w3⟩:=c i _ d;exact gC (vS (bZ f k j g) (bZ d w1 w2 w3) J)<|yR c rest ns (i+1) l
theorem yS{K:a_}{C q dx:bp}{N:Bi}{all:List V}{D:Ends}(cl:pS K C):∀(ns d:Bi)(as c:List V)(H:Hp),(∀f∈ns,cz K C f)->(d++ns).Nodup->(d++ns).length<=100->c.length=d.length->as.length=ns.length->all=.ref q::(c++as)->H q=U (.ins C dx<|d.zip c) ->
  D.nx (L2.start N all) (upd H q<|.ins C dx<|(d++ns).zip<|c++as)->Wi K (c.length+1) ns D (L2.start N all) H
 |[],d,as,c,H,_,_,_,l,hl,g,m,k=>by
  have:as=[]:=KS.mp hl
  subst this;rw[bz,bz]at k;have e:upd H q (.ins C dx<|d.zip c)=H:=by
   funext b
   by_cases hb:b=q
   .subst hb;rw[ao,m]
   .rw[af hb]
  rw[e]at k;exact k
 |n::ns,d,[],c,H,_,_,_,l,hl,g,m,k=>by cases hl
 |n::ns,d,v::as,c,H,j,nd,i,l,hl,g,m,k=>by
  have s:(L2.start N all)[c.length+1]?=U (U v):=by
   unfold L2.start;rw[jB<|by rw[g];simp,gA,g,List.getElem?_cons_succ,iu<|dS _,xS];rfl
  have h0:(L2.start N all)[0]?=U (U<|.ref q):=by
   unfold L2.start;rw[jB<|by rw[g];simp,gA,g];rfl
  have w:n∉d:=λz=>by
   rw[K0]at nd;exact nd.2.2 n z n (eu ..) J
  refine⟨v,s,.ref q,h0,q,C,dx,d.zip c,J,m,cl,j n<|eu ..,?_,?_⟩
  .rw[Ce];rw[dq]at i;lia
  .have u:L2.eU n v (d.zip c)=(d++[n]).zip (c++[v]):=by
    have:=rm (f:=n) (v:=v) (ns:=d++[n]) (vs:=c) (by
     rw[show d++n::ns=(d++[n])++ns by simp]at nd
     exact(K0.mp nd).1) (by rw[l,iu<|dS _,xS];rfl)
    rw[<- this]
    congr 1
    have:∀(a:Bi)(b:List V)(r:Bi),b.length=a.length->a.zip b=(a++r).zip b:=by
     intro a
     induction a with
     |nil=>intro b r h;cases b with
      |nil=>simp
      |cons=>cases h
     |cons x a p=>intro b r h;cases b with
      |nil=>cases h
      |cons y b=>rw[qK,K1,qK,p b r<|by simpa using h]
    exact this d c [n] l
   rw[u];have o:=yS (N:=N) (all:=all) (D:=D) (q:=q) (dx:=dx) cl ns (d++[n]) as (c++[v]) (upd H q<|.ins C dx<|(d++[n]).zip<|c++[v]) (λf t=>j f<|eE _ t) (by simpa using nd) (by simpa using i) (by simp[l]) (by simpa using hl) (by rw[g];simp) ao (by
    rw[qM];simpa using k)
   rw[show(c++[v]).length+1=c.length+1+1 by simp]at o
   exact o
end
section
variable{tg:cb}
theorem nH:∀(k:Int)(ts:FK),(fj k ts).length=ts.length
 |_,[]=>J
 |k,_::ts=>eD (· + 1)<|nH (k+1) ts
theorem yT:∀(k:Nat)(ts:FK)(i:Nat)(t:T),ts[i]?=U t->(fj (k:Int) ts)[i]?=U (.tup [.int ((k+i:Nat):Int),t])
 |_,[],_,_,h=>by simp at h
 |k,_::ts,0,_,h=>by simp at h;subst h;rfl
 |k,_::ts,i+1,t,h=>by
  have:=yT (k+1) ts i t (by simpa using h)
  rw[show k+(i+1)=k+1+i by lia]
  exact this
def Up(L:B.K=X.K)(m:Nat):∀σ H R,tI B (nq (m:Int) fa) σ H R->NJ X.K m (tA B<|az fa bI) σ H R:=by
 rintro σ H R ⟨g,s,t,s',x,h,k⟩
 obtain⟨⟨tx,A⟩,E,h⟩:=ae h;obtain⟨ts,f,h⟩:=ae h;cases h;have f:=au f;obtain⟨c,rfl,rfl⟩:∃c,tx=.lst c/\t=fj m c:=by
  cases tx<;>first|(cases f;done)|(cases f;exact⟨_,J,J⟩)
 have D:az fa bI s=.ok ([.lst c],A):=by
  show(fa s).bind _=_;rw[E];rfl
 refine⟨g,s,_,_,x,D,λI g1 H1 C j b=>?_⟩;obtain⟨v,rfl,l,r,rfl,q1,b⟩:=cu b;refine⟨l,r,J,dM.of<|j.sub _ _ q1,k _ g1 H1 C j ⟨λi q e a=>?_,λi q x M e a y=>?_,λi q e a=>?_⟩⟩
 .rw[nH,b.len]at a
  exact⟨a,dM.of<|e _ _ q1⟩
 .obtain⟨p,d,n,G,rfl,rfl⟩:=y
  obtain⟨t1,F,ŷ⟩:=b.AV G;refine⟨_,yT m c i t1 F,λu z s5=>⟨upd u p<|.tup [.int ((m+i:Nat):Int),d],.new s5 n,p,[.int ((m+i:Nat):Int),d],J,k7.of ao,?_⟩⟩;have w:=z.trans<|aQ (o:=.tup [.int ((m+i:Nat):Int),d])<|s5.free n;exact⟨.int ((m+i:Nat):Int),[d],J,J,.one<|ŷ.same w⟩
 .rw[nH,b.len]at a
  exact⟨a,dM.of<|e _ _ q1⟩
def Ur(i:B.K=X.K){b:Bz}{d:Nat}{e:Pos}(g:Gl X "enumerate")(f:X.mg "enumerate" = Y)(h:PE X a<|tE B fa)(c:noStar a=O):PI X (.Tuple b d e) (.Call (.Name "enumerate" p) [a] [] pos)<|tI B<|nq 0 fa:=
 ua (SH g f (l_ h ri<|aw c)<|aw c)<|Up i 0
def Us(j:B.K=X.K){b:Bz}{d k1:Nat}{f e kp:Pos}(h:Gl X "enumerate")(g:X.mg "enumerate" = Y)(i:PE X a<|tE B fa)(c:noStar a=O):PI X (.Tuple b d f) (.Call (.Name "enumerate" p) [a] [⟨U<|g_ "start",.Constant (.int 1) k1 e,kp⟩] pos)<|tI B<|nq 1 fa:=
 ua (NK h g (l_ i ri<|aw c)<|aw c)<|Up j 1
end
section
variable{P:Pg}
def yU{m:Str}(d:cV o=O)(a:es.all noStar=O)(hl:es.length<30)(b:(j.endLine == pos.line)=O):uq X o m j es pos:=by
 have c:methodCallForm (es.length+0) (hB pos<|cw es X.env) (ra pos<|mr [] X.env)=O:=by
  unfold methodCallForm;rw[nE a];show(O&&O&&decide (es.length+0+0<30))=O;rw[bt<|show es.length+0+0<30 from ee hl<|by decide];rfl
 refine⟨(do return(<- importBound o X.env).getD O),?_⟩
 show(do
  let ov <- kf o m X.env (e6 o X.env)
  tf j.atName
  methodCall o m j pos X.env ov (es.length+0) (hB pos<|cw es X.env) (ra pos<|mr [] X.env))=_
 rw[iT d];unfold methodCall;rw[c];unfold calleeOf methodCallPos;rw[b];rfl
def II{Pr:cW}{w:c4}{K:a_}{mg:Str->D2}{base:ed}{n qual:Str}{st:gL}{f C:bp}{fd:dy}{N ps ns:Bi}{k:Nat}(Fn:uv K n qual st f fd)(m:fm N ps<|aA st)
  (e:∀(i:Nat)(x:Str),N[i]?=U x->lR (aA st) x/\aV x/\fW x) (g:nG N 1 (bW st) ns=O) (hl:ps.length=ns.length+1) (cl:pS K C) (na:∀f∈ns,cz K C f) (nd:ns.Nodup) (G0:ns.length<=100) :
  bV Pr w K mg base ig (k+1) f fd ps<|ß C ns:=by
 refine Fn.ok m (λc H Q E h=>?_) λj A outer s H c Q E o h=>?_
 .obtain⟨x,l,a,rfl,b,_⟩:=h
  rw[eS,b,hl]
 .obtain⟨x,l,a,rfl,b,d,q⟩:=h
  refine⟨Wi K 1 ns,yR (X:=(ie ig Pr w K mg base N qual (aA st) f j A outer s H E).ph) e _ ns 1 g,?_⟩;exact yS (N:=N) (D:={nx:=λ_ H'=>Q .non H',rt:=Q}) cl ns [] a [] H na (by simpa using nd) (by simpa using G0) J b J (by simpa using d) (by simpa using q)
def é(K:a_)(C:bp)(n:Str):Sp:=λb H Q _=>∃x a p ys,b=[.ref x,.ref p]/\H x=U (.ins C a [])/\dM K H p ys/\∀l,H l=Y->Q .non (upd (upd H l<|.lst ys) x<|.ins C a [(n,.ref l)])
def rF(st:gL):Option<|Str×Str×Str:=(yQ st).bind λw=>(jn w.2.2).bind λc=>(match c.2.1,c.2.2 with
 |[a],[]=>if c.1=("list" : Str)then(asName a).map λq=>(w.1,w.2.1,q)else Y
 |_,_=>Y)
def uw{st:gL}{z:Str×Str×Str}(h:rF st=U z):∃i g d pl pc pos,st=.Assign [.Attribute (.Name z.1 i) z.2.1 g] (.Call (.Name "list" pl) [.Name z.2.2 d] [] pc) pos:=by
 obtain⟨w,o,n⟩:=bh.mp h;obtain⟨⟨f,as,j⟩,c,b⟩:=bh.mp n
 match as,j,c,b with
 |[a],[],c,b=>
  dsimp only at b;split at b
  .rename_i e
   obtain⟨q,m,rfl⟩:=cL.mp b;obtain⟨i,g,pos,rfl⟩:=rB o;obtain⟨pl,pc,l⟩:=eK c;obtain⟨d,k⟩:=bq m;rw[l,k,e];exact⟨_,_,_,_,_,_,J⟩
  .cases b
def El{Pr:cW}{w:c4}{K:a_}{mg:Str->D2}{base:ed}{nm qual b q n:Str}{st j:gL}{f C:bp}{fd:dy}{N ps:Bi}{k:Nat}(Fn:uv K nm qual st f fd)(F:fm N ps<|aA st)
  (z:bW st=[j]) (B:rF j=U (b,n,q)) (h0:N[0]?=U b) (d:N[1]?=U q) (c:∀(i:Nat)(x:Str),N[i]?=U x->lR (aA st) x/\aV x/\fW x) (v:mg "list" = Y) (y:(aA st).names.lookup ("list" : Str)=U .globalImplicit) (hl:ps.length=2) (cl:pS K C) (na:cz K C n) :
  bV Pr w K mg base ig (k+1) f fd ps<|é K C n:=by
 obtain⟨M,L,G,I,pc,pos,rfl⟩:=uw B;refine Fn.ok F (λm H Q E h=>?_) λD A outer s H m Q E P h=>?_
 .obtain⟨x,g,p,ys,rfl,_⟩:=h
  exact hl.symm
 .obtain⟨x,g,p,ys,rfl,a,u,k⟩:=h
  obtain⟨t,r,o⟩:=c 0 _ h0;obtain⟨w1,w2,w3⟩:=c 1 _ d;rw[z];refine⟨_,iP<|vS (bZ h0 t r o) (pZ jL (X:=(ie ig Pr w K mg base N qual (aA st) f D A outer s H E).ph) y v Ct<|bf (bZ d w1 w2 w3) dc) J,?_⟩;refine⟨.ref p,J,p,ys,J,.inl u,λl hl=>⟨.ref x,J,x,C,g,[],J,?_,cl,na,by decide,k l hl⟩⟩
  rw[af (λe=>by subst e;rw[hl]at a;cases a)]
  exact a
structure ê(P:Pg)(Pr:cW)(w:c4)(K:a_)(mg:Str->D2)(base:ed)(k:Nat)(c:Nat)(x:Str):Prop where
 ex:∃(C fi:bp)(fd:dy)(ps:Bi)(n:Str),gH (gv P K Pr w) c C [n]/\mg x=U (.ref C)/\Mk K C fi/\bV Pr w K mg base ig k fi fd ps (é K C n)/\Binds K fd ps []
def OA{k j c:Nat}(D:ê P X.prog X.w X.K X.mg X.base k c x)(W:bo j X.A)(V:k+1<=j)(ha:PE X e<|tE (P.kt X) fa)(hg:Gl X x)(fX:aV x)(G:noStar e=O) :
  PE X (.Call (.Name x p) [e] [] pos)<|tE (P.kt X)<|dQ (NR c) fa:=by
 obtain⟨C,fi,fd,ps,n,hC,hm,M,F,f⟩:=D.ex;refine aS (lX M F (W.mono V) hg hm f .nil lg (bf ha dc<|aw G) fX (aw G) J) λσ H Q I=>?_;obtain⟨g,s,t,s',z,h,k⟩:=I;obtain⟨⟨tx,s1⟩,h1,h⟩:=ae h;obtain⟨t',r,h⟩:=ae h;cases h;have r:=au r;cases tx<;>try(cases r;done)
 rename_i ts;cases r;refine⟨g,s,_,_,z,h1,λv g1 H1 T m N x a nx nd E=>?_⟩;obtain⟨q,d,rfl,Z,L⟩:=N;have g2:=Gr.new (o:=.own x) m.sub nd;have YA:upd H1 a (.own x) x=Y:=by rw[af<|ew E];exact nx
 have i:H1 q=U (.lst d):=m.sub _ _ Z;have S:q≠a:=λe=>by subst e;rw[nd]at i;cases i
 have R:q≠x:=λe=>by subst e;rw[nx]at i;cases i
 refine⟨x,a,q,d,J,ao,dM.of<|by rw[af R,af S];exact i,λl hl=>⟨J,?_⟩⟩
 have u:l≠x:=λe=>by subst e;rw[ao]at hl;cases hl
 have B:upd H1 a (.own x) l=Y:=by rw[af u]at hl;exact hl
 have ld:l≠a:=λe=>by subst e;rw[ao]at B;cases B
 have g3:=Gr.new (o:=.lst d) g2.sub B;have Ÿ:upd (upd H1 a<|.own x) l (.lst d) x=Y:=by rw[af<|ew u];exact YA
 have g4:=Gr.new (o:=.ins C a [(n,.ref l)]) g3.sub Ÿ;have e:upd (upd (upd (upd H1 a<|.own x) x<|.ins C a []) l<|.lst d) x (.ins C a [(n,.ref l)])=upd (upd (upd H1 a<|.own x) l<|.lst d) x (.ins C a [(n,.ref l)]):=by
  funext b
  by_cases f:b=x
  .subst f;rw[ao,ao]
  .rw[af f,af f]
   by_cases hb2:b=l
   .subst hb2;rw[ao,ao]
   .rw[af hb2,af hb2,af f]
 rw[e];have y:=(g2.trans g3).trans g4;refine k _ (g1.grow _) _ (T.trans<|m.kI y) (m.grow y) ⟨x,C,a,[n],[.ref l],J,hC,ao,dS _,?_,.one ⟨l,d,J,?_,L.same y.fr⟩⟩
 .show upd (upd (upd g1.HF a<|.own x) l<|.lst d) x _ a=_
  rw[af E,af<|ew ld,ao]
 .show upd (upd (upd g1.HF a<|.own x) l<|.lst d) x _ l=_
  rw[af u,ao]
theorem yV{K:a_}{t:ar}:∀{cs:B2}{bs:Fm},cs.length=bs.length->(∀(i:Nat)(c:ar)(b:Bool),cs[i]?=U c->bs[i]?=U b->mJ K t c=U b)->BR K t cs=U (bs.any id)
 |[],[],_,_=>J
 |[],_::_,h,_=>by cases h
 |_::_,[],h,_=>by cases h
 |c::cs,b::bs,hl,h=>by
  have d:=h 0 c b J J;have a:=yV (cs:=cs) (bs:=bs) (by simpa using hl) λi c b f e=>h (i+1) c b (by simpa using f) (by simpa using e)
  unfold BR;rw[d];cases b with
  |true=>rfl
  |false=>exact a
def namesOf:Bz->Option Bi
 |[]=>U []
 |.Name x _::es=>(namesOf es).map (x::·)
 |_=>Y
theorem ux{Ds:BM}:∀{es:Bz}{ys:Bi}{Ds:BM},namesOf es=U ys->ys.length=Ds.length->(∀(i:Nat)(y:Str)(D:bp),ys[i]?=U y->Ds[i]?=U D->Gl X y/\X.mg y=U (.ref D)/\aV y)->PA X es (λ_ H Q=>Q (Ds.map V.ref) H)
 |[],_,Ds,h,hl,_=>by
  cases h;cases Ds with
  |nil=>exact dc
  |cons=>cases hl
 |e::es,ys,Ds,h,hl,k=>by
  cases e<;>try(cases h;done)
  rename_i x f;obtain⟨d,a,rfl⟩:=cL.mp<|show(namesOf es).map (x::·)=U ys from h
  cases Ds with
  |nil=>cases hl
  |cons D Ds=>
   obtain⟨k1,k2,k3⟩:=k 0 x D J J;exact bf (lT (v:=.ref D) k1 k2 J k3) (ux (Ds:=Ds) a (by simpa using hl) λi y D c b=>k (i+1) y D (by simpa using c)<|by simpa using b) J
def Uv(ql:rl X.K X.mg P){ds:B1}{ys:Bi}{q:Nat}{Z:Pos}(ë:namesOf es=U ys)(hd:ys.length=ds.length)(z:∀(i d:Nat)(y:Str),ds[i]?=U d->ys[i]?=U y->P.cn[d]?=U y/\(P.fn[d]?).isSome=O/\Gl X y/\aV y)
  (hl:es.length<=100) (hm:X.mg "isinstance" = Y) (ha:PE X a<|tE (P.kt X) fa) (hg:Gl X "isinstance") (E:noStar a=O) :
  PE X (.Call (.Name "isinstance" p) [a,.Tuple es q Z] [] pos)<|tE (P.kt X)<|dQ (il P.sub ds) fa:=by
 have cls:∀(ds:B1)(ys:Bi),ys.length=ds.length->(∀(i d:Nat)(y:Str),ds[i]?=U d->ys[i]?=U y->P.cn[d]?=U y/\(P.fn[d]?).isSome=O/\Gl X y/\aV y)->∃Ds:BM,Ds.length=ds.length/\∀(i:Nat)(y:Str)(D:bp),ys[i]?=U y->Ds[i]?=U D->X.mg y=U (.ref D):=by
  intro ds
  induction ds with
  |nil=>intro ys hl _;exact⟨[],J,λi y D _ h=>by simp at h⟩
  |cons d ds w=>
   intro ys hl h;cases ys with
   |nil=>cases hl
   |cons y ys=>
    obtain⟨u,n,_⟩:=h 0 d y J J;obtain⟨ns,R⟩:=BS.mp n;obtain⟨D,F⟩:=ql.cls d y ns u R;obtain⟨Ds,hD,k⟩:=w ys (by simpa using hl) λi d y f j=>h (i+1) d y (by simpa using f) (by simpa using j)
    refine⟨D::Ds,by simp[hD],λi N D' f j=>?_⟩
    cases i with
    |zero=>simp at f j;subst f j;exact F.gl
    |succ i=>exact k i N D' (by simpa using f) (by simpa using j)
 obtain⟨Ds,B,ì⟩:=cls ds ys hd z;have get:∀(i:Nat)(y:Str),ys[i]?=U y->∃d,ds[i]?=U d:=λi y h=>by
  have:=(dR.mp h).1
  exact⟨_,fH<|by lia⟩
 have names:=ux (X:=X) (Ds:=Ds) ë (by rw[hd,B]) λi y D f j=>by
  obtain⟨d,A⟩:=get i y f;obtain⟨_,_,h3,h4⟩:=z i d y A f;exact⟨h3,ì i y D f j,h4⟩
 refine aS (fK Ek hg hm Cs (bf ha (bf (CW names) dc J)<|aw E) (he:=aw E) (hpl:=J)) λσ H Q L=>?_;obtain⟨g,s,t,s',x,h,k⟩:=L;obtain⟨⟨tx,s1⟩,u,h⟩:=ae h;obtain⟨t',n,h⟩:=ae h;cases h;refine⟨g,s,_,_,x,u,λv g1 H1 W q T=>?_⟩;have n:=au n;cases tx<;>try(cases n;done)
 obtain⟨l,Az,rfl⟩:=cL.mp n;obtain⟨b,C,dx,DK,vs,rfl,hC,hq,hle,ů,r⟩:=T;obtain⟨m,Yw,Yx,F⟩:=ql.of hC;have c8:ys.length=es.length:=by
  have:∀(es:Bz)(ys:Bi),namesOf es=U ys->ys.length=es.length:=by
   intro es
   induction es with
   |nil=>intro ys h;cases h;rfl
   |cons e es w=>
    intro ys h;cases e<;>try(cases h;done)
    rename_i x px;obtain⟨M,u,rfl⟩:=cL.mp<|show(namesOf es).map (x::·)=U ys from h
    rw[eS,eS,w M u]
  exact this es ys ë
 refine⟨by rw[ck,B,<- hd,c8,ez];exact eT hl<|by decide,λS YG=>?_⟩
 have g2:=Gr.new (o:=.tup<|Ds.map V.ref) q.sub YG;have YH:=yV (K:=X.K) (t:=.ref C) (cs:=Ds.map Value.ref) (bs:=ds.map λd=>decide<|d∈l) (by rw[ck,ck,B]) λi c bb f j=>by
  rw[gA]at f j;obtain⟨D,A,rfl⟩:=cL.mp f;obtain⟨d,I,rfl⟩:=cL.mp j;have hi:i<ys.length:=by rw[hd];exact(dR.mp I).1
  have G:ys[i]?=U ys[i]:=fH hi;obtain⟨f1,_⟩:=z i d _ I G;exact ql.sub _ d m _ C D l Yw f1 F.gl (ì i _ D G A) Az
 refine⟨b,C,dx,S,_,Ds,_,J,g2.sub _ _<|g2.fr _ _ hq,F.cl,F.ca,ql.gt.1,ql.gt.2,F.mo,ao,YH,?_⟩
 have:=k (V.bl<|ds.any λd=>decide<|d∈l) (g1.grow _) _ (W.trans<|q.kI g2) (q.grow g2) J
 rw[B6];exact this
def IJ(o:B.K=X.K){c:Pos}(j:X.N[i]?=U y)(d:lR X.env.scope y)(hd:aV y)(n:fW y)(f:Gl X "len")(e:X.mg "len" = Y) :
  PE X (.Call (.Name "len" p) [.Name y c] [] pos)<|tE B<|yo i:=by
 refine aS (fK sW f e ti (bf (bZ j d hd n) dc J) (he:=J) (hpl:=J)) λσ H Q a=>?_;obtain⟨g,s,t,s',x,h,k⟩:=a;obtain⟨ts,m,h⟩:=ae h;cases h;obtain⟨l,b,w1,w2,w3,w4⟩:=x.wx<|gU<|au m;exact⟨_,w1,_,_,J,.inl ⟨b,dM.of w3,w4.len⟩,k _ g H .refl x J⟩
def yW:T->T->FR
 |.int i,.int j=>U<|.int<|i+j
 |_,_=>Y
def Uw(u:X.N.Nodup)(q:X.N[i]?=U x)(m:Loc X.env.scope x)(he:PE X e<|tE B fa)(r:X.fn x=O\/X.env.scope.names.lookup x=U .local) :
  PS X (.AugAssign (.Name x c7) .Add e pos)<|tS B<|DJ yW i fa:=cH (M0 u q m he M1 r) λD σ H b=>by
 obtain⟨g,s,o,s',z,h,k⟩:=b;unfold DJ at h;split at h
 .rename_i tx p
  obtain⟨⟨ty,d⟩,y,h⟩:=ae h;obtain⟨t,a,h⟩:=ae h;cases h;obtain⟨v,n,f⟩:=z.lc.at_ i _ p;have a:=au a;cases tx<;>first|(cases a;done)|(cases ty<;>try(cases a;done))
  cases a;cases(show v=V.int _ from f);refine⟨_,n,g,s,_,d,z,y,λw g1 H1 l c j=>?_⟩;cases(show w=V.int _ from j);exact⟨_,_,J,J,k _ g1 H1 l<|c.set (t:=.int _) J⟩
 .cases h
def yX(K:a_)(mg:Str->D2)(x:Str)(t:T):Prop:=∃u v,mg x=U u/\RelV v u/\∀(B:KT)(al:BM)(H:Hp),B.K=K->Rep B al H t v
def Ux{t:T}(h:yX X.K X.mg x t)(b:B.K=X.K)(a:Gl X x)(hd:aV x):PE X (.Name x pos)<|tE B<|cF t:=by
 obtain⟨u,v,e,d,c⟩:=h;exact jV (lT a e d hd) λal H=>c B al H b
end
def IK(a:Bool):T->T->FR
 |x,.gF b _=>(DH x).map λk=>.bl<|if a then !decide (k∈b)else decide (k∈b)
 |_,_=>Y
def aU(op:kA)(x y:T):FR:=match op,y with
 |.In,.gF b a=>IK Zn x<|.gF b a
 |.NotIn,.gF b a=>IK O x<|.gF b a
 |op,y=>Ih op x y
def Q7:Option (Option C)->Option (List Ky×FK)
 |U<|U<|.od ks ts=>U (ks,ts)
 |_=>Y
def uy:kA->Option Bool
 |.In=>U Zn
 |.NotIn=>U O
 |_=>Y
def Uy(b:Bool)(i:Nat)(a:FE):FE:=λs=>(a s).bind λp=>(dG<|Q7 p.2.r[i]?).bind λd=>(dG<|DH p.1).bind λk=>.ok (.bl<|if b then !decide (k∈d.1)else decide (k∈d.1),p.2)
def YI(i:Nat)(s:S):Bool:=(Q7 s.r[i]?).isSome
def yY(c:Bool)(i:Nat)(a:FE):FE:=λs=>(a s).bind λp=>(dG<|rf p.2.r[i]?).bind λts=>(dG<|GY p.1<|.lst ts).bind λb=>.ok (.bl<|if c then !b else b,p.2)
def YJ(i:Nat)(s:S):Bool:=(rf s.r[i]?).isSome
def vB(op:kA)(b:Bool)(i:Nat)(a:FE):FE:=λs=>if YI i s then Uy b i a s else if YJ i s then yY b i a s else dD (aU op) a (vF i) s
def Em(i:Nat):FS:=λs=>.ok (.nx,iR s i<|.od [] [])
def j4(ks:List Ky)(ts:FK)(k:Ky)(t:T):List Ky×FK:=if k∈ks then(ks,(ks.zip ts).map λp=>if p.1=k then t else p.2)else(ks++[k],ts++[t])
def yZ(i:Nat)(b a:FE):FS:=λs=>(a s).bind λp=>(b p.2).bind λq=>(dG<|Q7 p.2.r[i]?).bind λ_=>(dG<|Q7 q.2.r[i]?).bind λd=>(dG<|DH q.1).bind λk=>(dG<|gd (d.1.length<1000000) ()).bind λ_=>.ok (.nx,iR q.2 i<|let z:=j4 d.1 d.2 k p.1;.od z.1 z.2)
def IL:B1->B1->B1:=Pf.eV
def nI:T->FR
 |.str l=>gd (l.all (· < 128)=O/\l.length<=4000)<|.int ((IL [] l).length:Nat)
 |_=>Y
section
variable{F p1:Pos}{al:BM}
def y9{a b:Ky}(h:nt a=nt b):a=b:=by
 cases a<;>cases b
 .injection h with h;rw[h]
 .cases h
 .cases h
 .injection h with h
  injection h with h
  have h:=eD rr h;dsimp only at h;rw[h]
def rG{t:T}{v:V}{k:Ky}(h:DH t=U k)(r:Rep B al H t v):v=kV (nt k):=by
 cases t<;>try(cases h;done)
 .cases h;exact r
 .cases h;exact r.1
theorem rH:∀{ks:List Ky}{vs:List V},ks.length=vs.length->∀k,(kC ((ks.map nt).zip vs)<|nt k).isSome=decide (k∈ks)
 |[],_,_,k=>by simp[kC]
 |q::ks,[],h,_=>by cases h
 |q::ks,v::vs,h,k=>by
  rw[eF,qK];by_cases e:q=k
  .rw[jP (p:=(nt q,v))<|by rw[e]]
   simp[e]
  .rw[jQ (p:=(nt q,v)) λz=>e<|y9 z,rH (Cq.inj h) k]
   have:(k∈q::ks) ↔ (k∈ks):=⟨λz=>(bu.mp z).elim (λz=>dk z.symm e) id,eE _⟩
   simp only[this]
theorem y_{k:Ky}{v:V}{t:T}(rt:Rep B al H t v):∀{ks:List Ky}{vs:List V}{ts:FK},ks.length=vs.length->aB B al H ts vs ->
  ((ks.map nt).zip vs).map (λa=>if a.1=nt k then(a.1,v)else a)=(ks.map nt).zip ((ks.zip vs).map λp=>if p.1=k then v else p.2)/\ks.length=((ks.zip vs).map λp=>if p.1=k then v else p.2).length/\aB B al H ((ks.zip ts).map λp=>if p.1=k then t else p.2) ((ks.zip vs).map λp=>if p.1=k then v else p.2)
 |[],[],_,_,r=>⟨J,J,by cases ‹FK›<;>exact J⟩
 |q::ks,[],_,h,_=>by cases h
 |[],_::_,_,h,_=>by cases h
 |q::ks,u::vs,ts,h,r=>by
  cases ts with
  |nil=>cases(show u::vs=[]from r)
  |cons j ts=>
   obtain⟨i,l,e,c,d⟩:=r;cases e;obtain⟨b,g,f⟩:=y_ rt (ks:=ks) (vs:=vs) (ts:=ts) (Cq.inj h) d;refine⟨?_,?_,?_⟩
   .simp only[eF,qK]at b ⊢
    rw[b];by_cases e:q=k
    .rw[b7<|by rw[e],b7 e]
    .rw[b0 λz=>e<|y9 z,b0 e]
   .simp only[qK,eF,eS]
    rw[<- g]
   .simp only[qK,eF]
    refine⟨_,_,J,?_,f⟩;by_cases e:q=k
    .rw[b7 e,b7 e];exact rt
    .rw[b0 e,b0 e];exact c
def OB{ks:List Ky}{ts:FK}{vs:List V}{k:Ky}{t:T}{v:V}(hl:ks.length=vs.length)(r:aB B al H ts vs)(rt:Rep B al H t v) :
  ∃a,L2.putK ((ks.map nt).zip vs) (nt k) v=((j4 ks ts k t).1.map nt).zip a/\(j4 ks ts k t).1.length=a.length/\aB B al H (j4 ks ts k t).2 a:=by
 unfold L2.putK j4;rw[ni,rH hl];by_cases e:k∈ks
 .rw[b7<|bt e,b7 e]
  obtain⟨d,c,b⟩:=y_ (k:=k) rt hl r;exact⟨_,d,c,b⟩
 .rw[b0<|by simpa using e,b0 e]
  refine⟨vs++[v],?_,by simp[hl],r.app<|.one rt⟩
  rw[sJ,List.zip_append<|by rw[ck];exact hl]
  rfl
def Q8(b:Bool):R2:=λx y H Q=>∃a o,y=.ref a/\DA H a x o/\Q (.bl<|if b then !o.isSome else o.isSome) H
def En(d:X.A.units+1<mx):f6 X (eh .In)<|Q8 Zn:=λi s σ H x y v u Q I c b z=>by
 obtain⟨a,o,e,g,q⟩:=z;subst e
 obtain rfl:u=Value.ref a:=b
 exact XI d I g c λh f=>⟨.bl o.isSome,H,f,J,q⟩
def za(d:X.A.units+1<mx):f6 X (eh .NotIn)<|Q8 O:=λi s σ H x y v u Q I c b z=>by
 obtain⟨a,o,e,g,q⟩:=z;subst e
 obtain rfl:u=Value.ref a:=b
 exact HP d I g c λh f=>⟨.bl<|!o.isSome,H,f,J,q⟩
def L7(b:Bool):pH X (IK b)<|Q8 b:=λB m al HF H x y t tx ty Q sm d c h k=>by
 unfold IK at h;split at h
 case h_2=>cases h
 rename_i j ts;obtain⟨l,g,rfl⟩:=cL.mp h;obtain⟨a,i,rfl,f,e,n⟩:=c;rw[rG g d];refine⟨a,_,J,.k<|sm _ _ f,?_⟩;rw[rH e];exact k _ HF H (.refl sm) J
def mj{op:kA}{k:Nat}(g:bo k X.A):∃r,f6 X (eh op) r/\pH X (aU op) r:=by
 have f:X.A.units+1<mx:=by have:=g.units;lia
 obtain⟨r,e,d⟩:=N1 (op:=op) g;have i:(∀x y,aU op x y=Ih op x y)->∃r,f6 X (eh op) r/\pH X (aU op) r:=λz=>⟨r,e,by
  have:aU op=Ih op:=yj λx=>yj λy=>z x y
  rw[this];exact d⟩
 cases op
 case In=>exact⟨_,e.or<|En f,λB c al HF H x y t tx ty Q sm b a h k=>by
  unfold aU at h;split at h
  .exact .inr<|L7 Zn B c al HF H x y t tx _ Q sm b a h k
  .rename_i q;cases q
  .exact .inl<|d B c al HF H x y t tx _ Q sm b a h k⟩
 case NotIn=>exact⟨_,e.or<|za f,λB c al HF H x y t tx ty Q sm b a h k=>by
  unfold aU at h;split at h
  .rename_i q;cases q
  .exact .inr<|L7 O B c al HF H x y t tx _ Q sm b a h k
  .exact .inl<|d B c al HF H x y t tx _ Q sm b a h k⟩
 all_goals exact i λx y=>by cases y<;>rfl
def OC{op:kA}{k:Nat}(h:B.K=X.K)(c:bo k X.A)(g:PE X a<|tE B fa)(f:PE X b<|tE B fb)(e:eP op b=Zn):PE X (.Compare a [op] [b] pos)<|tE B<|dD (aU op) fa fb:=by
 obtain⟨r,d,hl⟩:=mj (op:=op) c;exact aS (lW d g f e)<|iJ h hl
def IM{op:kA}{k:Nat}(h:B.K=X.K)(c:bo k X.A)(g:PE X a<|tE B fa)(f:PE X b<|tE B fb)(e:eP op b=Zn):PT X (.Compare a [op] [b] pos)<|tT B<|dm<|dD (aU op) fa fb:=by
 obtain⟨r,d,hl⟩:=mj (op:=op) c;exact DM (jI d g f e) λσ H Q q=>iJ h hl σ H _<|LS q
def rJ{q:Option<|Option C}{d:List Ky×FK}(h:Q7 q=U d):q=U (U<|.od d.1 d.2):=by
 unfold Q7 at h;split at h
 .cases h;rfl
 .cases h
def SR.OD(x:SR B g H σ s){ks:List Ky}{ts:FK}(h:s.r[i]?=U (U<|.od ks ts)):∃l vs,σ[i]?=U (U<|.ref l)/\g.o l=U (.loc i)/\H l=U (.dK<|(ks.map nt).zip vs)/\ks.length=vs.length/\aB B g.al g.HF ts vs:=by
 obtain⟨v,e,l,vs,rfl,d,c,b,a⟩:=x.lc.at_ i _ h;exact⟨l,vs,e,d,c,b,a⟩
def Ep{a:Bool}:∀σ H Q,tE B (Uy a i fa) σ H Q->GV (Q8 a) (tE B fa) (vH i) σ H Q:=by
 rintro σ H Q ⟨g,s,t,s',x,h,k⟩
 obtain⟨⟨tx,n⟩,j,h⟩:=ae h;obtain⟨d,f,h⟩:=ae h;obtain⟨o,e,h⟩:=ae h;cases h;refine⟨g,s,tx,_,x,j,λv g1 H1 p1 b c=>?_⟩;obtain⟨l,m,w1,w2,w3,w4,w5⟩:=b.OD<|rJ<|au f;refine⟨_,w1,?_⟩;rw[rG (au e) c];refine⟨l,_,J,.k w3,?_⟩;rw[rH w4];exact k _ g1 H1 p1 b J
def uz{op:kA}{a:Bool}(b:X.A.units+1<mx)(h:uy op=U a):f6 X (eh op)<|Q8 a:=by
 cases op<;>try(cases h;done)
 .cases h;exact En b
 .cases h;exact za b
def zb{a:Bool}(m:B.K=X.K):∀σ H Q,tE B (yY a i fa) σ H Q->GV (ue X.K a) (tE B fa) (vH i) σ H Q:=by
 rintro σ H Q ⟨g,s,t,s',x,h,k⟩
 obtain⟨⟨tx,q⟩,p,h⟩:=ae h;obtain⟨ts,o,h⟩:=ae h;obtain⟨b,n,h⟩:=ae h;cases h;refine⟨g,s,tx,_,x,p,λv g1 H1 p1 c j=>?_⟩;obtain⟨l,d,w1,w2,w3,w4⟩:=c.wx<|gU<|au o;have f:=(c.st.live l _ w2).1;refine⟨_,w1,DZ (HF:=upd g1.HF l<|.lst d) (ty:=.lst ts) m (λb u e=>?_) (j.mv fV<|aQ f) ⟨l,d,J,ao,w4.mv fV<|aQ f⟩ (au n)<|k _ g1 H1 p1 c J⟩;by_cases hb:b=l
 .subst hb;rw[ao]at e;cases e;exact w3
 .rw[af hb]at e;exact c.sub _ _ e
def qp{op:kA}{a:Bool}(h:uy op=U a):f6 X (eh op)<|ue X.K a:=by
 cases op<;>try(cases h;done)
 .cases h;exact DY
 .cases h;exact yG
def Uz{op:kA}{b:Bool}{k:Nat}{m:Pos}(p:B.K=X.K)(n:bo k X.A)(o:uy op=U b)(f:PE X a<|tE B fa)(j:X.N[i]?=U y)(d:lR X.env.scope y)(hd:aV y)(l:fW y) :
  PE X (.Compare a [op] [.Name y m] pos)<|tE B<|vB op b i fa:=by
 have u:X.A.units+1<mx:=by have:=n.units;lia
 obtain⟨r,v,hl⟩:=mj (op:=op) n;have e:eP op (.Name y m)=Zn:=by cases op<;>rfl
 refine Ef (ι:=Option Bool) (C:=λ_=>True) (t:=λq=>match q with|some true=>GV (Q8 b) (tE B fa)<|vH i|none=>GV (ue X.K b) (tE B fa)<|vH i|some false=>GV r (tE B fa)<|tE B<|vF i) (λq _=>?_) λσ H Q ⟨g,s,t,s',x,h,c⟩=>?_
 .match q with
  |some true=>exact lW (uz u o) f (bZ j d hd l) e
  |none=>exact lW (qp o) f (bZ j d hd l) e
  |some false=>exact lW v f (yw j d hd l) e
 .unfold vB at h
  split at h
  .exact⟨U O,trivial,Ep σ H Q ⟨g,s,t,s',x,h,c⟩⟩
  .split at h
   .exact⟨Y,trivial,zb p σ H Q ⟨g,s,t,s',x,h,c⟩⟩
   .exact⟨U Zn,trivial,iJ p hl σ H Q ⟨g,s,t,s',x,h,c⟩⟩
def OE{op:kA}{b:Bool}{k:Nat}{o:Pos}(v:B.K=X.K)(p:bo k X.A)(u:uy op=U b)(j:PE X a<|tE B fa)(l:X.N[i]?=U y)(e:lR X.env.scope y)(hd:aV y)(m:fW y) :
  PT X (.Compare a [op] [.Name y o] pos)<|tT B<|dm<|vB op b i fa:=by
 have w:X.A.units+1<mx:=by have:=p.units;lia
 obtain⟨r,z,hl⟩:=mj (op:=op) p;have f:eP op (.Name y o)=Zn:=by cases op<;>rfl
 have E:=jI (pos:=pos) z j (yw (B:=B) l e hd m) f;have D:=jI (pos:=pos) (uz w u) j (bZ l e hd m) f;have C:=jI (pos:=pos) (qp u) j (bZ l e hd m) f;intro n c σ H Q I q;obtain⟨g,s,t,s',x,h,d⟩:=LS q;unfold vB at h;split at h
 .exact D n c σ H Q I<|Ep σ H _ ⟨g,s,t,s',x,h,d⟩
 .split at h
  .exact C n c σ H Q I<|zb v σ H _ ⟨g,s,t,s',x,h,d⟩
  .exact E n c σ H Q I<|iJ v hl σ H _ ⟨g,s,t,s',x,h,d⟩
def Er(i:X.calm=O)(o:X.mg "len" = Y)(n:X.mg "set" = Y)(j:PE X a<|tE B fa)(q:Gl X "len")(m:Gl X "set")(f:noStar a=O) :
  PE X (.Call (.Name "len" p) [.Call (.Name "set" p1) [a] [] F] [] pos)<|tE B<|dQ nI fa:=by
 refine aS (AR i o n j q m (aw f) J J J) λσ H Q c=>?_;obtain⟨g,s,t,s',x,h,k⟩:=c;obtain⟨⟨tx,u⟩,l,h⟩:=ae h;obtain⟨r,b,h⟩:=ae h;cases h;have b:=au b;cases tx<;>try(cases b;done)
 obtain⟨z,rfl⟩:=bG b;refine⟨g,s,_,_,x,l,λv g1 H1 p1 d e=>?_⟩;obtain⟨rfl,w⟩:=e;refine⟨_,J,?_,?_,k _ g1 H1 p1 d J⟩
 .rw[List.all_toArray];exact z.1
 .rw[cP]
  show _+1<4096
  have:=z.2
  lia
def OF{dp:Pos}(t:X.N.Nodup)(p:X.N[i]?=U x)(m:Loc X.env.scope x)(r:X.fn x=O\/X.env.scope.names.lookup x=U .local) :
  PS X (.Assign [.Name x c7] (.Dict [] [] dp) pos)<|tS B<|Em i:=cH (iA t p m DC J r) λD σ H z=>by
 obtain⟨g,s,o,s',x,h,k⟩:=z;cases h;intro q d;obtain⟨e,l,j⟩:=jh (u:=.dK []) x d;have f:=x.grow e;have p1:=x.kI e;refine k _ ((g.grow g.HF).own q<|.loc i) _ ⟨p1.fr,p1.pre,λb u h n z=>?_,p1.there⟩<|f.X5 (ks:=[]) (ts:=[]) (vs:=[]) j l ao J J;obtain⟨a,v,c⟩:=p1.rest b u h n z
 have:b≠q:=aJ h d
 exact⟨a,v,by show(if b=q then U (kH.loc i)else g.o b)=Y;rw[b0 this];exact c⟩
def OG{m:Pos}{k:Nat}(L:bo k X.A)(he:PE X e<|tE B fa)(M:PE X b<|tE B fb)(P:X.N[i]?=U y)(G:lR X.env.scope y)(hd:aV y)(Z:fW y)
  (K:eR e (U<|.Subscript (.Name y m) b c7) pos.line X.env=pure Zn) :
  PS X (.Assign [.Subscript (.Name y m) b c7] e pos)<|tS B<|yZ i fb fa:=by
 have I:X.A.units+1<mx:=by have:=L.units;lia
 refine cH (HQ I (bZ P G hd Z) M he K) λD σ H p=>?_;obtain⟨g,s,o,s',x,h,k⟩:=p;obtain⟨⟨t,j⟩,W,h⟩:=ae h;obtain⟨⟨tk,s2⟩,V,h⟩:=ae h;obtain⟨d0,T,h⟩:=ae h;obtain⟨d,S,h⟩:=ae h;obtain⟨F,R,h⟩:=ae h;obtain⟨_,Q,h⟩:=ae h;obtain⟨z,_⟩:=bG<|au Q;cases h;refine⟨g,s,t,j,x,W,λv g1 H1 p1 f w=>?_⟩;obtain⟨l,vs,w1,w2,w3,w4,w5⟩:=f.OD<|rJ<|au T;refine⟨_,w1,g1,j,tk,s2,f,V,λu g2 H2 a c r=>?_⟩;have n:=rJ<|au S;obtain⟨l',eZ,q1,q2,C,q4,q5⟩:=c.OD n;rw[w1]at q1;cases q1;obtain⟨Q9,e1,e2,e3⟩:=OB (k:=F) q4 q5<|w.mv a.pre a.fr;obtain⟨q,E⟩:=c.X6 n w1 e2 e3;rw[rG (au R) r];refine⟨l,_,J,.k C ?_,?_⟩
 .rw[Ce,ck,ez]
  have:d.1.length<1000000:=z
  lia
 .rw[e1]
  exact k σ g2 _ ((p1.trans a).trans E) q
end
end D
namespace L2
open PySem PySem.Spec PyProof.Rows PySem.Builtin PySem.Builtin.Str
section
variable{X:Cx}
def Es{e:cb}{y:Str}{k2 j i pos}{b:TE}(h:PE X e b) :
  PE X (.JoinedStr [.FormattedValue e 114 Y j,.Constant (.str y) k2 i] pos) λa H Q=>b a H λv H1=>∃z:Str,v=.str z/\(p0 z).length+y.length<=cq/\∀x:Str,Q (.str x) H1:=by
 intro l s a H Q I q;refine JoinedStr_many<|joinParts_cons<|wpAny_FormattedValue_repr<|cK (h l _ a H _ (I.tok _) q) λv p g=>?_;obtain⟨n,H1,m,r,z,k,c,q1⟩:=g;subst k;obtain⟨t,rfl⟩:=r;have f:(n6++p0 z).length=(p0 z).length:=by rw[strLen_append];exact Av _
 have d:(n6++p0 z++y).length=(p0 z).length+y.length:=by rw[strLen_append,f]
 refine wpAny_pyReprObj_str ?_ (by lia)
 exact formatField_str (λo tk=>⟨by rw[f];lia,joinParts_cons<|z4 ⟨by rw[d];exact c,joinParts_nil ⟨.str<|n6++p0 z++y,H1,m.tok _,⟨_,J⟩,q1 _⟩<|by rw[d];exact c⟩⟩) (by lia)
def OH:∀c,97<=c->c<=122->hJ c=[c-32]:=by
 have:(gk 26).all (λk=>hJ (97+k) == [65+k])=O:=by decide +kernel
 intro c b a;have h:=bF.mp this (c-97)<|sH.mpr<|by lia
 rw[F6,show 97+(c-97)=c by lia,show 65+(c-97)=c-32 by lia]at h
 exact h
def uA(l:B1)(h:∀c∈l,97<=c/\c<=122):placed ⟨l.toArray⟩ (λ_ c=>hJ c)=(l.map (· - 32)).toArray:=by
 apply Array.toList_inj.mp;unfold placed;rw[Array.toList_flatten];simp only[List.mapIdx_toArray,pe];show(Ao _<|l.mapIdx λi c=>(hJ c).toArray).flatten=_;rw[List.mapIdx_eq_zipIdx_map,pe]
 have:∀(l:B1)(k:Nat),(∀c∈l,97<=c/\c<=122)->((l.zipIdx k).map<|rr∘λp=>(hJ p.1).toArray).flatten=l.map (· - 32):=by
  intro l
  induction l with
  |nil=>intro k _;rfl
  |cons c l a=>
   intro k h;obtain⟨e,b⟩:=h c<|eu ..;rw[List.zipIdx_cons,eF,KQ,a (k+1) λd hd=>h d<|eE _ hd];show hJ c++_=_;rw[OH c e b];rfl
 exact this l 0 h
def Et:vq X "str.upper" λx vs H Q=>∃l:B1,x=.str ⟨l.toArray⟩/\vs=[]/\l.length<=1000000/\(∀c∈l,97<=c/\c<=122)/\Q (.str ⟨(l.map (· - 32)).toArray⟩) H:=by
 intro i s f H x vs v g Q I d e h;obtain⟨l,rfl,rfl,hl,b,q⟩:=h;obtain⟨t,rfl⟩:=d;cases e;have a:tooLong (placed ⟨l.toArray⟩ λ_ c=>hJ c).size=Zn:=by
  rw[uA l b];unfold tooLong cq;exact a9 (by simp;lia)
 refine call_gives F.slot_str_upper (n0 _ _ _) F.entry_str_upper (F.args_str_upper_1 _) (gives_str_upper _ t a) ⟨fit_le a,?_⟩;rw[uA l b];exact⟨.str _,H,I.tok _,⟨_,J⟩,q⟩
end
end L2
namespace D
open PySem L2
def Q_:T->FR
 |.str l=>gd (l.all (λc=>decide<|97<=c/\c<=122)=O)<|.str<|l.map (· - 32)
 |_=>Y
def IP{t u:T}(h:Q_ t=U u):∃l,t=.str l/\l.all (λc=>decide<|97<=c/\c<=122)=O/\u=.str (l.map (· - 32)):=by
 cases t<;>try(cases h;done)
 obtain⟨z,rfl⟩:=bG h;exact⟨_,J,z,J⟩
def Wj:T->FR
 |.str l=>gd (l.length<=1000/\l.all (· < 1114112)=O)<|.str []
 |_=>Y
def mn:Int->Ee->Int
 |a,[]=>a
 |a,b::l=>mn (if b<a then b else a) l
theorem wz:∀(a:Int)(l:Ee),(mn a l=a\/mn a l∈l)/\mn a l<=a/\∀b∈l,mn a l<=b
 |a,[]=>⟨.inl J,Int.le_refl _,λ_ h=>by cases h⟩
 |a,b::l=>by
  obtain⟨i,g,f⟩:=wz (if b<a then b else a) l
  rw[mn];by_cases h:b<a
  .rw[b7 h]at i g f ⊢
   refine⟨.inr ?_,by lia,λc d=>?_⟩
   .rcases i with e|e
    .rw[e];exact eu ..
    .exact eE _ e
   .rcases bu.mp d with rfl|d
    .exact g
    .exact f c d
  .rw[b0 h]at i g f ⊢
   refine⟨?_,g,λc d=>?_⟩
   .rcases i with e|e
    .exact .inl e
    .exact .inr<|eE _ e
   .rcases bu.mp d with rfl|d
    .lia
    .exact f c d
def UA{a M:Int}{l:Ee}(h:M∈a::l)(c:∀b∈a::l,M<=b):M=mn a l:=by
 obtain⟨k1,k2,k3⟩:=wz a l
 have:M<=mn a l:=by
  rcases k1 with e|e
  .rw[e];exact c _<|eu ..
  .exact c _<|eE _ e
 have:mn a l<=M:=by
  rcases bu.mp h with rfl|h
  .exact k2
  .exact k3 _ h
 lia
def nJ:FK->Option Ee
 |[]=>U []
 |.int i::ts=>(nJ ts).map (i::·)
 |_=>Y
theorem ints_rep{B:KT}{al:BM}{H:Hp}:∀{ts:FK}{ns:Ee}{vs:List V},nJ ts=U ns->aB B al H ts vs->vs=ns.map V.int
 |[],ns,vs,h,r=>by
  cases h;exact r
 |t::ts,ns,vs,h,r=>by
  cases t<;>try(cases h;done)
  rename_i i;obtain⟨ms,c,rfl⟩:=cL.mp h;obtain⟨v,d,rfl,b,a⟩:=r;cases(show v=.int i from b);rw[ints_rep c a];rfl
def YL:Ee->FR
 |[]=>Y
 |n::ns=>U<|.int<|mn n ns
def Eu:FK->FR
 |[.lst ts]=>(nJ ts).bind YL
 |_=>Y
section
variable{X:Cx}{B:KT}{a:cb}{p pos y R:Pos}{E:FE}
def A3(Ź:X.calm=O):fJ X (.builtin "min") λvs H Q=>∃l n,∃ns:Ee,vs=[.ref l]/\dM X.K H l ((n::ns).map V.int)/\Q (.int<|mn n ns) H:=by
 intro D s y H vs z Q I r h;obtain⟨l,n,ns,rfl,w,q⟩:=h;obtain⟨u,rfl,g⟩:=vals1 r;cases g;obtain⟨aG,k,o,A⟩:=I.list w;have e:=intsAre_of k;obtain⟨ys,d⟩:=e.allInts.items;have b:ys.toList.map (·.1)=n::ns:=by
  rw[<- nums_intItems,<- d];exact e.numsOf
 have B:ys.size=ns.length+1:=by
  have:=eD sI b
  simpa using this
 refine min_intList (xs:=ys) (I.ok.hd Ź) (by rw[<- d];exact o.isList) (by lia) λv C tk m p=>?_
 obtain⟨t,rfl⟩:=intItems_at m;obtain⟨b1,b2⟩:=argBest_lt (numAt ys)<|ys.size-1;refine⟨.int<|mn n ns,H,I.kept (t':=tk) p,⟨t,?_⟩,q⟩;rw[UA (a:=n) (l:=ns) (M:=numAt ys<|argBest (λi j=>decide<|numAt ys i<numAt ys j)<|ys.size-1) ?_ λc f=>?_]
 .rw[<- b,numAt_eq];exact getD_mem (by rw[ck,fC];lia)
 .rw[<- b]at f
  obtain⟨j,x,rfl⟩:=mem_getD f;rw[ck,fC]at x;rw[<- numAt_eq];exact b2 j (by lia)
def OI:LN X Eu λvs H Q=>∃l n,∃ns:Ee,vs=[.ref l]/\dM X.K H l ((n::ns).map V.int)/\Q (.int<|mn n ns) H:=λB b al HF H xs t ts Q sm r h k=>by
 match ts,h with
 |[.lst us],h=>
  obtain⟨ns,a,h⟩:=bh.mp<|show(nJ us).bind YL=U t from h;cases ns with
  |nil=>cases h
  |cons n ns=>
   cases h;obtain⟨v,rfl,l,vs,rfl,q,r⟩:=cu r;cases ints_rep a r;exact⟨l,n,ns,J,dM.of<|sm _ _ q,k _ HF H (.refl sm) J⟩
def YM(n:PE X a<|tE B E)(m:cV a=O)(hl:(y.endLine == R.line)=O):PE X (.Call (.Attribute a "upper" y) [] [] R)<|tE B<|dQ Q_ E:=by
 refine aS (Nl u9 PySem.F.slot_str_upper PySem.F.type_str_upper Et n (iT m) hl) λq H Q d=>?_;obtain⟨g,s,t,w,x,h,k⟩:=d;obtain⟨⟨tx,u⟩,p,h⟩:=ae h;obtain⟨r,o,h⟩:=ae h;cases h;obtain⟨l,rfl,z,rfl⟩:=IP<|au o;refine⟨g,s,_,_,x,p,λv g1 H1 i e f=>?_⟩;obtain⟨rfl,b⟩:=f;exact⟨J,l,J,J,b,λc j=>aR<|bF.mp z c j,k _ g1 H1 i e ⟨J,by rw[ck];exact b⟩⟩
end
end D
namespace D
open PySem L2 PyProof.Rows
def uB{α:Type}:Res α->Res α
 |.ok a=>.ok a
 |_=>.bad
def bC(f:FE):FE:=λs=>uB<|f s
def eg(F:FS):FS:=λs=>uB<|F s
def bQ(c:FT):FT:=λs=>uB<|c s
def kO(f:FL):FL:=λs=>uB<|f s
def gx{α:Type}{x:Res α}{a:α}(h:uB x=.ok a):x=.ok a:=by cases x<;>first|exact h|cases h
def gW{α:Type}{x:Res α}{c:Nat}{fs:FK}{s:S}(h:uB x=.exc c fs s):False:=by cases x<;>cases h
def aW{α b:Type}{x:Res α}{f:α->Res b}{c:Nat}{fs:FK}{s:S}(h:x.bind f=.exc c fs s):x=.exc c fs s\/∃a,x=.ok a/\f a=.exc c fs s:=by
 cases x with
 |ok a=>exact .inr ⟨a,J,h⟩
 |bad=>cases h
 |exc _ _ _=>cases h;exact .inl J
def j5{α:Type}{o:Option α}{c:Nat}{fs:FK}{s:S}(h:dG o=.exc c fs s):False:=by cases o<;>cases h
abbrev XN:=List<|bp×Option Str
def XF(f:Option Str)(fs:FK)(d:Option bp)(H:Hp):Prop:=match f with
 |none=>d=Y/\fs=[]
 |some f=>∃i a,d=U a/\fs=[.int i]/\H a=U (XD a [(f,.int i)])
def XQ(N:XN)(E:XK)(c:Nat)(fs:FK)(H:Hp):Prop:=∃k,N[c]?=U k/\∀d,XF k.2 fs d H->E (.ref k.1) d H
def XR(B:KT)(N:XN)(E:XK)(g:G)(H:Hp)(c:Nat)(fs:FK)(s':S):Prop:=∀b a,dC g H b a->ef B b a s'.m->XQ N E c fs a
def XR.mv{B:KT}{N:XN}{E:XK}{g g1:G}{H H1:Hp}{c:Nat}{fs:FK}{s':S}(k:XR B N E g H c fs s')(p:dC g H g1 H1):XR B N E g1 H1 c fs s':=λa b q=>k a b<|p.trans q
inductive wA(B:KT)(N:XN)(E:XK)(f:FE)(σ:L2.St)(H:Hp)(Q:VK):Prop where
 |ok g s t s' (x:SR B g H σ s) (h:f s=.ok (t,s')) (k:∀v g' H',dC g H g' H'->SR B g' H' σ s'->Rep B g'.al g'.HF t v->Q v H')
 |ex g s c fs s' (x:SR B g H σ s) (h:f s=.exc c fs s') (k:XR B N E g H c fs s')
inductive L8(B:KT)(N:XN)(E:XK)(f:FL)(σ:L2.St)(H:Hp)(Q:List V->Hp->Prop):Prop where
 |ok g s ts s' (x:SR B g H σ s) (h:f s=.ok (ts,s')) (k:∀vs g' H',dC g H g' H'->SR B g' H' σ s'->aB B g'.al g'.HF ts vs->Q vs H')
 |ex g s c fs s' (x:SR B g H σ s) (h:f s=.exc c fs s') (k:XR B N E g H c fs s')
inductive tX(B:KT)(N:XN)(E:XK)(f:FS)(D:Ends)(σ:L2.St)(H:Hp):Prop where
 |ok g s o s' (x:SR B g H σ s) (h:f s=.ok (o,s')) (k:wu B g H D o s')
 |ex g s c fs s' (x:SR B g H σ s) (h:f s=.exc c fs s') (k:XR B N E g H c fs s')
inductive sf(B:KT)(N:XN)(f:Fn)(vs:List V)(H:Hp)(Q:VK)(E:XK):Prop where
 |ok g ts m t m' (x:ef B g H m) (r:aB B g.al g.HF ts vs) (h:f ts m=.ok (t,m')) (k:∀v g' H',dC g H g' H'->ef B g' H' m'->Rep B g'.al g'.HF t v->Q v H')
 |ex g ts m c fs s' (x:ef B g H m) (r:aB B g.al g.HF ts vs) (h:f ts m=.exc c fs s') (k:XR B N E g H c fs s')
section
variable{B:KT}{P:Pg}{X:Cx}{e c o:cb}{es:Bz}{pos p a cA bw d:Pos}{fa fo:FE}{fl:FL}{ft:FT}{F u:FS}{N:XN}{E:XK}{rest:Fh}{st:gL}{x y:Str}{g:G}{H:Hp}{σ:L2.St}{s:S}{f:Fn}
def UB(h:PE X e<|tE B fa):PE X e<|wA B N E<|bC fa:=aS h λσ H Q z=>by
 rcases z with⟨g,s,t,a,x,h,k⟩|⟨g,s,c,fs,a,x,h,k⟩
 .exact⟨g,s,t,a,x,gx h,k⟩
 .exact(gW h).elim
def OL:PA X []<|L8 B N E bI:=qh dc λσ H Q z=>by
 rcases z with⟨g,s,t,a,x,h,k⟩|⟨g,s,c,fs,a,x,h,k⟩
 .cases h
  exact k [] g H .refl x J
 .cases h
def IQ(r:PE X e<|wA B N E fa)(q:PA X es<|L8 B N E fl)(p:cw (e::es) X.env=(Zn,e6 e X.env)::cw es X.env):PA X (e::es)<|L8 B N E<|az fa fl:=qh (bf r q p) λσ H Q z=>by
 rcases z with⟨g,s,t,d,x,h,k⟩|⟨g,s,c,fs,d,x,h,k⟩
 .obtain⟨⟨tx,a⟩,j,h⟩:=ae h
  obtain⟨⟨ty,s2⟩,m,h⟩:=ae h;cases h;exact .ok g s tx a x j λv g1 H1 i b l=>.ok g1 a ty s2 b m λw g2 u f n o=>k (v::w) g2 u (i.trans f) n ⟨v,w,J,l.mv f.pre f.fr,o⟩
 .rcases aW h with h|⟨⟨tx,a⟩,j,h⟩
  .exact .ex g s c fs d x h k
  .rcases aW h with h|⟨⟨ty,s2⟩,m,h⟩
   .exact .ok g s tx a x j λv g1 H1 i b l=>.ex g1 a c fs d b h<|k.mv i
   .cases h
def wB{ts:FK}{t:T}{m':FV}{vs:List V}{Q:VK}(x:SR B g H σ s)(r:aB B g.al g.HF ts vs)(h:f ts s.m=.ok (t,m'))(k:∀v g' H',dC g H g' H'->SR B g' H' σ {s with m:=m'}->Rep B g'.al g'.HF t v->Q v H'):sf B N f vs H Q E:=
 .ok g.ak ts s.m t m' x.st.ak r h λv g' H' p y a=>let⟨p2,x2⟩:=x.back p y;k v (G.back g g') H' p2 x2 a
def Ew{ts fs:FK}{c:Nat}{s' s2:S}{vs:List V}{Q:VK}(x:SR B g H σ s)(r:aB B g.al g.HF ts vs)(h:f ts s.m=.exc c fs s')(a:s2.m=s'.m)(k:XR B N E g H c fs s2):sf B N f vs H Q E:=
 .ex g.ak ts s.m c fs s' x.st.ak r h λb d p y=>let⟨p2,x2⟩:=x.back p y;k (G.back g b) d p2 (by rw[a];exact x2.st)
def call_exc{ds:FK}{c:Nat}{fs:FK}{s':S}(h:aj f ds fl s=.exc c fs s'):fl s=.exc c fs s'\/∃ts s1 s2,fl s=.ok (ts,s1)/\f (ts++ds) s1.m=.exc c fs s2/\s'={s1 with m:=s2.m}:=by
 rcases aW h with h|⟨⟨ts,s1⟩,a,h⟩
 .exact .inl h
 .dsimp only at h
  cases q:f (ts++ds) s1.m with
  |ok r=>rw[q]at h;cases h
  |bad=>rw[q]at h;cases h
  |exc c fs s2=>rw[q]at h;cases h;exact .inr ⟨ts,s1,s2,a,q,J⟩
structure UC(P:Pg)(Pr:cW)(w:c4)(K:a_)(mg:Str->D2)(base:ed)(N:XN)(k:Nat)(x:Str)(f:Fn):Prop where
 ex:∃(fa:bp)(fd:dy)(ps:Bi),bV Pr w K mg base (qe Pr w) k fa fd ps (sf (gv P K Pr w) N f)/\mg x=U (.ref fa)/\jA K (.ref fa)=O/\Binds K fd ps []
def IS{k j:Nat}(G:Passes (qe X.prog X.w) X E)(D:UC P X.prog X.w X.K X.mg X.base N k x f)(C:bo j X.A)(B:k<=j)(S:PA X (e::es)<|L8 (P.kt X) N E fl)(M:Gl X x)(V:aV x)(m:(e::es).all noStar=O) :
  PE X (.Call (.Name x p) (e::es) [] pos)<|wA (P.kt X) N E<|aj f [] fl:=by
 obtain⟨ff,fd,ps,F,I,L,R⟩:=D.ex;rw[d_,bT]at m;refine aS (x9 F (C.mono B) M I L R .nil G S V (aw m.1)<|cJ m.2) λσ H Q q=>?_;rcases q with⟨g,s,t,o,x,h,k⟩|⟨g,s,c,fs,o,x,h,k⟩
 .obtain⟨ts,d,Z,n,a,rfl⟩:=fR h
  rw[bz]at a;exact .ok g s ts d x n λu g1 H1 l b i=>wB b (by rw[bz];exact i) a λv T W z r y=>k v T W (l.trans z) r y
 .rcases call_exc h with h|⟨ts,d,s2,n,a,rfl⟩
  .exact .ex g s c fs o x h k
  .rw[bz]at a
   exact .ok g s ts d x n λu g1 H1 l b i=>Ew b (by rw[bz];exact i) a J<|k.mv l
structure YN(P:Pg)(Pr:cW)(w:c4)(K:a_)(mg:Str->D2)(base:ed)(N:XN)(k:Nat)(c:Nat)(m:Str)(f:Fn):Prop where
 ex:∃(Ca fa:bp)(fd:dy)(ps:Bi)(ns:Bi),gH (gv P K Pr w) c Ca ns/\pS K Ca/\Meth K Ca m fa/\bV Pr w K mg base (qe Pr w) k fa fd ps (sf (gv P K Pr w) N f)/\Binds K fd ps []/\m∉ns
def í(c:Nat)(m:FV):T->Option Unit
 |.own k=>(m[k]?).bind λob=>if ob.c=c then U ()else Y
 |_=>Y
def zc{c:Nat}{m:FV}{t:T}{u:Unit}(h:í c m t=U u):∃k ob,t=.own k/\m[k]?=U ob/\ob.c=c:=by
 cases t<;>try(cases h;done)
 obtain⟨ob,b,a⟩:=bh.mp<|show(m[_]?).bind _=U u from h;split at a
 .rename_i e;exact⟨_,ob,J,b,e⟩
 .cases a
def kP(c:Nat)(g:Fn)(o:FE)(fl:FL):FE:=λs=>(uB<|o s).bind λp=>(dG<|í c p.2.m p.1).bind λ_=>aj g [] (az (cF p.1) fl) p.2
def Ey{t:T}{ts:FK}{s':S}(h:az (cF t) fl s=.ok (ts,s')):∃us,fl s=.ok (us,s')/\ts=t::us:=by
 obtain⟨⟨us,b⟩,a,h⟩:=ae<|show(fl s).bind _=_ from h;cases h;exact⟨us,a,J⟩
def IT{t:T}{fs:FK}{c:Nat}{s':S}(h:az (cF t) fl s=.exc c fs s'):fl s=.exc c fs s':=by
 rcases aW (show(fl s).bind _=_ from h)with h|⟨_,_,h⟩
 .exact h
 .cases h
def zd{c:Nat}{m:Str}{M:bp}{ns:Bi}{ta:TA}{Q:VK}(K:gH (P.kt X) c M ns)(I:m∉ns)(G:∀σ H Q,L8 (P.kt X) N E fl σ H Q->ta σ H Q)(z:wA (P.kt X) N E (kP c f fo fl) σ H Q) :
  sX M m (sf (P.kt X) N f) [] E (tE (P.kt X) fo) ta σ H Q:=by
 have L:∀{vs:List V}{a:V}{p:Hp},sf (P.kt X) N f (a::vs) p Q E->sf (P.kt X) N f (a::(vs++[])) p Q E:=λ{vs a p} z=>by rw[bz];exact z
 rcases z with⟨g,s,t,F,x,h,k⟩|⟨g,s,d,fs,F,x,h,k⟩
 .obtain⟨⟨tx,i⟩,C,h⟩:=ae h
  obtain⟨_,B,h⟩:=ae h;obtain⟨ts,s2,m',A,n,rfl⟩:=fR h;obtain⟨j,y,rfl⟩:=Ey A;rw[bz]at n;refine⟨g,s,tx,i,x,gx C,λv g1 H1 q e l=>?_⟩;obtain⟨a,D,vs,rfl,w⟩:=rq e K l<|.inl<|zc<|au B;exact⟨a,D,_,J,w,iK I,G _ _ _<|.ok g1 i j s2 e y λo g2 p b r u=>L<|wB (ts:=tx::j) (vs:=.ref a::o) r ⟨_,o,J,l.mv b.pre b.fr,u⟩ n λv W Z T R S=>k v W Z ((q.trans b).trans T) R S⟩
 .rcases aW h with h|⟨⟨tx,i⟩,C,h⟩
  .exact(gW h).elim
  rcases aW h with h|⟨_,B,h⟩
  .exact(j5 h).elim
  refine⟨g,s,tx,i,x,gx C,λv g1 H1 q e l=>?_⟩;obtain⟨a,D,vs,rfl,w⟩:=rq e K l<|.inl<|zc<|au B;refine⟨a,D,_,J,w,iK I,G _ _ _ ?_⟩;rcases call_exc h with h|⟨ts,s2,s3,A,n,rfl⟩
  .exact .ex g1 i d fs F e (IT h)<|k.mv q
  .obtain⟨j,y,rfl⟩:=Ey A
   rw[bz]at n;exact .ok g1 i j s2 e y λo g2 p b r u=>L<|Ew (ts:=tx::j) (vs:=.ref a::o) r ⟨_,o,J,l.mv b.pre b.fr,u⟩ n J<|k.mv<|q.trans b
def IU{c k j:Nat}{m:Str}(h:Passes (qe X.prog X.w) X E)(D:YN P X.prog X.w X.K X.mg X.base N k c m f)(g:bo j X.A)(d:k<=j)(i:PE X o<|tE (P.kt X) fo)(p:PA X (e::es)<|L8 (P.kt X) N E fl)(b:(e::es).all noStar=O)(a:uq X o m cA (e::es) bw) :
  PE X (.Call (.Attribute o m cA) (e::es) [] bw)<|wA (P.kt X) N E<|kP c f fo fl:=by
 obtain⟨pl,a⟩:=a;obtain⟨t,fa,fd,ps,ns,r,cl,M,s,n,l⟩:=D.ex;rw[d_,bT]at b;exact aS (x_ (pl:=pl) i cl M s (g.mono d) n .nil h p (aw b.1) (cJ b.2) a) λσ H Q z=>zd r l (λ_ _ _ q=>q) z
def Ez{c k j:Nat}{m:Str}(e:Passes (qe X.prog X.w) X E)(D:YN P X.prog X.w X.K X.mg X.base N k c m f)(d:bo j X.A)(b:k<=j)(i:PE X o<|tE (P.kt X) fo)(a:uq X o m cA [] bw) :
  PE X (.Call (.Attribute o m cA) [] [] bw)<|wA (P.kt X) N E<|kP c f fo bI:=by
 obtain⟨pl,a⟩:=a;obtain⟨u,fa,fd,ps,ns,p,cl,M,r,n,l⟩:=D.ex;refine aS (sY (pl:=pl) i cl M r (d.mono b) n .nil e a) λσ H Q z=>zd p l (λσ H Q q=>?_) z;rcases q with⟨g,s,ts,t,x,h,q⟩|⟨_,_,_,_,_,_,h,_⟩
 .cases h
  exact q [] g H .refl x J
 .cases h
def OM{k j c n:Nat}(D:Yz P X.prog X.w X.K X.mg X.base k c n x)(G:bo j X.A)(B:k+1<=j)(T:PA X (e::es)<|L8 (P.kt X) N E fl)(R:Gl X x)(W:aV x)(b:(e::es).all noStar=O) :
  PE X (.Call (.Name x p) (e::es) [] pos)<|wA (P.kt X) N E<|c9 c n fl:=by
 obtain⟨C,f,fd,ps,ns,V,I,L,M,F,S⟩:=D.ex;rw[d_,bT]at b;refine aS (lX M F (G.mono B) R L S .nil lg T W (aw b.1)<|cJ b.2) λσ H Q u=>?_;rcases u with⟨g,s,t,l,x,h,k⟩|⟨g,s,d,fs,l,x,h,k⟩
 .obtain⟨⟨ts,v⟩,o,h⟩:=ae h
  dsimp only at h;split at h
  .rename_i hl
   cases h;refine .ok g s ts _ x o λi g1 H1 y a m x Z nx nd z=>?_;have r:i.length=ns.length:=by rw[<- m.len,hl,I]
   refine⟨x,Z,i++[],J,by rw[bz,r],ao,J,?_⟩
   rw[bz,qM];obtain⟨q,rp⟩:=rz (c:=c) (ts:=ts) a V (Au r) m nx nd z;exact k _ (g1.grow _) _ (y.trans<|a.kI q) (a.grow q) rp
  .cases h
 .rcases aW h with h|⟨⟨ts,v⟩,o,h⟩
  .exact .ex g s d fs l x h k
  .dsimp only at h
   split at h<;>cases h
def YO(h:PS X st<|tS B F):PS X st<|tX B N E<|eg F:=cH h λD σ H z=>by
 rcases z with⟨g,s,o,a,x,h,k⟩|⟨g,s,c,fs,a,x,h,k⟩
 .exact⟨g,s,o,a,x,gx h,k⟩
 .exact(gW h).elim
def UD:gz X []<|tX B N E aF:=nz lU λD σ H z=>by
 rcases z with⟨g,s,o,a,x,h,k⟩|⟨g,s,c,fs,a,x,h,k⟩
 .cases h
  exact k σ g H .refl x
 .cases h
def ON(m:PS X st<|tX B N E F)(l:gz X rest<|tX B N E u):gz X (st::rest)<|tX B N E<|ah F u:=nz (gC m l) λD σ H z=>by
 rcases z with⟨g,s,o,b,x,h,k⟩|⟨g,s,c,fs,b,x,h,k⟩
 .obtain⟨⟨d,a⟩,j,h⟩:=ae h
  refine .ok g s d a x j ?_;cases d with
  |nx=>exact λe g1 H1 i f=>.ok g1 a o b f h<|k.mv i
  |rt t=>cases h;exact k
  |bk=>cases h;exact k
  |ct=>cases h;exact k
 .rcases aW h with h|⟨⟨d,a⟩,j,h⟩
  .exact .ex g s c fs b x h k
  .cases d with
   |nx=>exact .ok g s .nx a x j λe g1 H1 i f=>.ex g1 a c fs b f h<|k.mv i
   |rt t=>cases h
   |bk=>cases h
   |ct=>cases h
def YQ{a b:Fh}(m:PT X c<|tT B ft)(p:gz X a<|tX B N E F)(n:gz X b<|tX B N E u):PS X (.If c a b pos)<|tX B N E<|aX (bQ ft) F u:=cH (CI m p n) λD σ H z=>by
 rcases z with⟨g,s,o,i,x,h,k⟩|⟨g,s,c,fs,i,x,h,k⟩
 .obtain⟨⟨d,e⟩,l,h⟩:=ae h
  refine⟨g,s,d,e,x,gx l,λg1 H1 j f=>?_⟩;cases d with
  |true=>exact lL<|.ok g1 e o i f h<|k.mv j
  |false=>exact m_<|.ok g1 e o i f h<|k.mv j
 .rcases aW h with h|⟨⟨d,e⟩,l,h⟩
  .exact(gW h).elim
  refine⟨g,s,d,e,x,gx l,λg1 H1 j f=>?_⟩;cases d with
  |true=>exact lL<|.ex g1 e c fs i f h<|k.mv j
  |false=>exact m_<|.ex g1 e c fs i f h<|k.mv j
def UE{i:Nat}{b:Pos}(r:X.N.Nodup)(p:X.N[i]?=U x)(m:Loc X.env.scope x)(he:PE X e<|wA B N E fa)(n:eR e (U<|.Name x b) pos.line X.env=pure Zn)(q:X.fn x=O\/X.env.scope.names.lookup x=U .local) :
  PS X (.Assign [.Name x b] e pos)<|tX B N E<|aD i fa:=cH (iA r p m he n q) λD σ H z=>by
 rcases z with⟨g,s,o,a,x,h,k⟩|⟨g,s,c,fs,a,x,h,k⟩
 .obtain⟨⟨t,f⟩,u,h⟩:=ae h
  cases h;exact .ok g s t f x u λv g1 H1 l d j=>k _ g1 H1 l<|d.set j
 .rcases aW h with h|⟨_,_,h⟩
  .exact .ex g s c fs a x h k
  .cases h
def UG(he:PE X e<|wA B N E fa):PS X (.Return (U e) pos)<|tX B N E<|aq fa:=cH (CH he) λD σ H z=>by
 rcases z with⟨g,s,o,a,x,h,k⟩|⟨g,s,c,fs,a,x,h,k⟩
 .obtain⟨⟨t,d⟩,j,h⟩:=ae h
  cases h;exact .ok g s t d x j λv g1 H1 i b f=>k v g1 H1 i b.st f
 .rcases aW h with h|⟨_,_,h⟩
  .exact .ex g s c fs a x h k
  .cases h
def OO(he:PE X e<|wA B N E fa)(i:eR e Y pos.line X.env=pure Zn):PS X (.Expr e pos)<|tX B N E<|bM fa:=cH (lV he i) λD σ H z=>by
 rcases z with⟨g,s,o,a,x,h,k⟩|⟨g,s,c,fs,a,x,h,k⟩
 .obtain⟨⟨t,d⟩,j,h⟩:=ae h
  cases h;exact .ok g s t d x j λv g1 H1 f b l=>k σ g1 H1 f b
 .rcases aW h with h|⟨_,_,h⟩
  .exact .ex g s c fs a x h k
  .cases h
def UH{i:Nat}{A:Pos}(he:PE X e<|wA B N E fa)(L:X.N[i]?=U y)(K:lR X.env.scope y)(hd:aV y)(M:fW y)(b:noStar e=O)(I:(cA.endLine == bw.line)=O) :
  PS X (.Expr (.Call (.Attribute (.Name y A) "append" cA) [e] [] bw) pos)<|tX B N E<|gS i fa:=by
 refine cH (lV (C_ tN tq tj ky (bZ L K hd M) (bf he dc<|aw b) (iT J) (G0 (by rw[d_,b];rfl)<|by decide) I (aw b) J) J) λD σ H p=>?_
 rcases p with⟨g,s,o,m,x,h,k⟩|⟨g,s,c,fs,m,x,h,k⟩
 .obtain⟨u,d,h⟩:=ae h
  obtain⟨⟨t,j⟩,R,h⟩:=ae h;obtain⟨ts,Q,h⟩:=ae h;obtain⟨S,P,h⟩:=ae h;obtain⟨z,rfl⟩:=bG<|au P;cases h;obtain⟨l0,å,q1,q2,a,q4⟩:=x.wx<|gU<|au d;refine⟨_,q1,.inl ⟨J,_,dM.of a⟩,.ok g s t j x R λv g1 H1 G f w=>?_⟩;have n:=gU<|au Q;obtain⟨l,r,w1,w2,w3,w4⟩:=f.wx n;rw[q1]at w1;cases w1;obtain⟨q,C⟩:=f.chg n q1<|w4.app<|.one w;exact⟨l0,r,v,J,J,w3,by rw[<- w4.len,ez];exact ee z<|by decide,k σ g1 _ (G.trans C) q⟩
 .rcases aW h with h|⟨u,d,h⟩
  .exact(j5 h).elim
  obtain⟨l0,å,q1,q2,a,q4⟩:=x.wx<|gU<|au d;refine⟨_,q1,.inl ⟨J,_,dM.of a⟩,?_⟩;rcases aW h with h|⟨⟨t,j⟩,_,h⟩
  .exact .ex g s c fs m x h k
  .rcases aW h with h|⟨_,_,h⟩
   .exact(j5 h).elim
   .rcases aW h with h|⟨_,_,h⟩
    .exact(j5 h).elim
    .cases h
end
def RX(B:KT)(N:XN)(E:XK)(g:G)(H:Hp)(D:Ends):Res (Out×S)->Prop
 |.ok p=>wu B g H D p.1 p.2
 |.exc c fs a=>XR B N E g H c fs a
 |.bad=>False
section
variable{B:KT}{P:Pg}{X:Cx}{e c tg iter:cb}{es:Bz}{body:Fh}{pos p np bw:Pos}{fl:FL}{ft:FT}{F:FS}{N:XN}{E:XK}{x:Str}{g:G}{H:Hp}{σ:L2.St}{s:S}{f:Fn}
def tX.of{D:Ends}{R:Res<|Out×S}(x:SR B g H σ s)(h:F s=R)(k:RX B N E g H D R):tX B N E F D σ H:=by
 cases R with
 |ok q=>exact .ok g s q.1 q.2 x h k
 |exc c fs a=>exact .ex g s c fs a x h k
 |bad=>exact k.elim
def tX.to{D:Ends}(z:tX B N E F D σ H):∃g s,SR B g H σ s/\RX B N E g H D (F s):=by
 rcases z with⟨g,s,o,a,x,h,k⟩|⟨g,s,c,fs,a,x,h,k⟩
 .exact⟨g,s,x,by rw[h];exact k⟩
 .exact⟨g,s,x,by rw[h];exact k⟩
def IV(n:Nat)(Z:PT X c<|tT B ft)(hb:gz X body<|tX B N E F)(W:lx (b8 X.prog X.w) X.A X.env X.xe):PS X (.While c body [] pos)<|tX B N E<|jg n (bQ ft) F:=by
 refine cH (sV W Z hb) λD σ H z=>?_;obtain⟨g,s,x,z⟩:=z.to;obtain⟨R,P⟩:∃R,bg (bQ ft) F n s=R:=⟨_,J⟩;rw[show jg n (bQ ft) F s=R from P]at z;refine⟨λm h K=>∃g2 s2,dC g H g2 K/\SR B g2 K h s2/\bg (bQ ft) F m s2=R,⟨n,g,s,.refl,x,P⟩,?_⟩
 rintro m h K ⟨g2,s2,T,Q,e⟩
 cases m with
 |zero=>subst e;exact z.elim
 |succ m=>
  replace e:((bQ ft s2).bind λp=>if p.1 then(F p.2).bind λq=>(match q.1 with
   |.nx=>bg (bQ ft) F m q.2
   |.ct=>bg (bQ ft) F m q.2
   |.bk=>.ok (.nx,q.2)
   |.rt t=>.ok (.rt t,q.2))else .ok (.nx,p.2))=R:=e
  cases G:ft s2 with
  |bad=>rw[bQ,G]at e;subst e;exact z.elim
  |exc _ _ _=>rw[bQ,G]at e;subst e;exact z.elim
  |ok q=>
  obtain⟨d,y⟩:=q;rw[bQ,G]at e;refine⟨g2,s2,d,y,Q,G,λg3 H3 S M=>?_⟩;have k:=T.trans S;cases d with
  |false=>
   have e:Res.ok (Out.nx,y)=R:=e;subst e;exact m_<|z h g3 H3 k M
  |true=>
   replace e:((F y).bind λq=>(match q.1 with
   |.nx=>bg (bQ ft) F m q.2
   |.ct=>bg (bQ ft) F m q.2
   |.bk=>.ok (.nx,q.2)
   |.rt t=>.ok (.rt t,q.2)))=R:=e
   refine lL ⟨λl L=>∃C s5,dC g H C L/\SR B C L l s5/\bg (bQ ft) F m s5=R,by rintro l L ⟨C,s5,a,b,c⟩;exact⟨m,mQ m,C,s5,a,b,c⟩,?_⟩
   refine tX.of M J ?_;cases I:F y with
   |bad=>rw[I]at e;subst e;exact z.elim
   |exc c1 fs1 o=>rw[I]at e;subst e;exact XR.mv z k
   |ok q=>
    obtain⟨V,o⟩:=q;rw[I]at e;cases V with
    |nx=>exact λf g5 u j i=>⟨g5,o,k.trans j,i,e⟩
    |ct=>exact λf g5 u j i=>⟨g5,o,k.trans j,i,e⟩
    |bk=>
     have e:Res.ok (Out.nx,o)=R:=e;subst e;exact λf g5 u j i=>z f g5 u (k.trans j) i
    |rt t=>
     have e:Res.ok (Out.rt t,o)=R:=e;subst e;exact λv g5 u j i r=>z v g5 u (k.trans j) i r
def UI{gt:TG}{f:FG}{S':B1}(hc:X.calm=O)(hi:PI X tg iter<|tI B fl)(hg:PG X tg gt)(BB:pJ B gt f S')(hb:gz X body<|tX B N E F)(hp:lx (b8 X.prog X.w) X.A X.env X.xe)
  (hs:∀x,eH iter X.env x=pure x):PS X (.For tg iter body [] pos)<|tX B N E<|gT (kO fl) f F:=by
 refine cH (CO hp hc hi hg hb hs) λD σ H zz=>?_;obtain⟨g,s,x,z⟩:=zz.to;cases S:fl s with
 |bad=>unfold gT kO at z;rw[S]at z;exact z.elim
 |exc _ _ _=>unfold gT kO at z;rw[S]at z;exact z.elim
 |ok q=>
 obtain⟨xs,V⟩:=q;obtain⟨R,hR⟩:∃R,aM f F xs V=R:=⟨_,J⟩;rw[show gT (kO fl) f F s=R by unfold gT kO;rw[S];exact hR]at z
 refine⟨g,s,xs,V,x,S,λql g1 H1 P x1 T=>?_⟩;refine⟨λi m h n=>m=xs.length-i/\i<=xs.length/\∃g2 s2,dC g1 H1 g2 n/\SR B g2 n h s2/\aM f F (xs.drop i) s2=R,
  ⟨xs.length,by simp,i_ _,g1,V,.refl,x1,by rw[B8];exact hR⟩,?_⟩
 rintro i m h n ⟨rfl,We,g2,s2,I,u,d⟩
 have Z:=I.fr.trans u.sub;by_cases fB:i<xs.length
 .have hx:xs[i]?=U xs[i]:=fH fB
  rw[xN fB]at d
  replace d:((dG<|f xs[i] s2.r).bind λr=>(F ⟨r,s2.m⟩).bind λp=>match p.1 with
   |.nx=>aM f F (xs.drop<|i+1) p.2
   |.ct=>aM f F (xs.drop<|i+1) p.2
   |.bk=>.ok (.nx,p.2)
   |.rt t=>.ok (.rt t,p.2))=R:=d
  cases q1:f xs[i] s2.r with
  |none=>rw[q1]at d;subst d;exact z.elim
  |some M=>
  rw[q1]at d
  replace d:((F ⟨M,s2.m⟩).bind λp=>match p.1 with
   |.nx=>aM f F (xs.drop<|i+1) p.2
   |.ct=>aM f F (xs.drop<|i+1) p.2
   |.bk=>.ok (.nx,p.2)
   |.rt t=>.ok (.rt t,p.2))=R:=d
  refine .inr ⟨T.go i n Z fB,λo H'=>∃Q s5,dC g1 H1 Q H'/\SR B Q H' o s5/\aM f F (xs.drop<|i+1) s5=R,
   by rintro o H' ⟨Q,s5,a,b,c⟩;exact⟨xs.length-(i+1),xR fB<|mQ i,J,fB,Q,s5,a,b,c⟩,λv H3 y=>?_⟩
  obtain⟨t,ht,y2⟩:=T.yld i n v H3 Z fB y;rw[hx]at ht;cases ht;obtain⟨G1,Ul,rx⟩:=y2 g2.HF I.fr u.sub;have L:=u.grow Ul;have G:=I.trans<|u.kI Ul;refine BB.ok g2.al G1 H3 h s2.r _ v M _ L.sub (rx.mv I.pre<|aL.refl _) q1 L.lc.len λσ4 st=>tX.of (g:=g2.grow G1) (s:=⟨M,s2.m⟩) ⟨L.st,L.lc.sets J st⟩ J ?_;cases W:F ⟨M,s2.m⟩with
  |bad=>rw[W]at d;subst d;exact z.elim
  |exc c1 fs1 C=>rw[W]at d;subst d;exact XR.mv z<|P.trans G
  |ok q=>
   obtain⟨o3,C⟩:=q;rw[W]at d;cases o3 with
   |nx=>exact λj g5 K l k=>⟨g5,C,G.trans l,k,d⟩
   |ct=>exact λj g5 K l k=>⟨g5,C,G.trans l,k,d⟩
   |bk=>
    have d:Res.ok (Out.nx,C)=R:=d;subst d;exact λj g5 K l k=>z j g5 K ((P.trans G).trans l) k
   |rt t=>
    have d:Res.ok (Out.rt t,C)=R:=d;subst d;exact λv g5 K l k r=>z v g5 K ((P.trans G).trans l) k r
 .have e:i=xs.length:=Cp We<|xP fB
  subst e;rw[Cd]at d;have d:Res.ok (Out.nx,s2)=R:=d;subst d;exact .inl ⟨T.stop _ n Z J,z h g2 n (P.trans I) u⟩
def A4:FK->Dx
 |[.int i]=>U i
 |_=>Y
def nK{ts:FK}{i:Int}(h:A4 ts=U i):ts=[.int i]:=by
 unfold A4 at h;split at h<;>cases h;rfl
def EA(d:Nat)(fl:FL):FS:=λs=>(uB<|fl s).bind λp=>(dG<|A4 p.1).bind λi=>.exc d [.int i] p.2
def wC(d:Nat)(a:FE):FS:=λs=>(uB<|a s).bind λp=>.exc d [] p.2
structure Wk(K:a_)(P:cW)(w:c4)(mg:Str->D2)(base:ed)(C:bp)(f x:Str):Prop where
 ex:∃fI fd ps,Du K C fI=O/\Ah K (.ref fI)=O/\bV P w K mg base ig 1 fI fd ps (By C f)/\XG P w K mg base fI fd ps (By C f)/\ps.length=2/\Binds K fd ps []
 kp:jA K (.ref C)=O
 at_:mg x=U (.ref C)
structure î(K:a_)(mg:Str->D2)(C:bp)(x:Str):Prop where
 ex:Kq K C Ny "ValueError.__new__" = O
 at_:mg x=U (.ref C)
def EB{d:Nat}{C:bp}{fn:Str}(F:N[d]?=U (C,U fn))(Z:v5 X E)(M:Wk X.K X.prog X.w X.mg X.base C fn x)(u:bo 2 X.A)(y:PA X (e::es)<|tA B fl)(v:Gl X x)(L:aV x)(j:(e::es).all noStar=O) :
  PS X (.Raise (U<|.Call (.Name x np) (e::es) [] bw) Y pos)<|tX B N E<|EA d fl:=by
 obtain⟨R,fd,ps,m1,m2,m3,_,_,m4⟩:=M.ex;rw[d_,bT]at j;refine cH (AM Z m1 M.kp m2 m3 m4 u M.at_ y v L (aw j.1)<|cJ j.2) λD σ H z=>?_;rcases z with⟨g,s,o,p,x,h,k⟩|⟨g,s,c,fs,p,x,h,z⟩
 .obtain⟨_,_,h⟩:=ae h
  obtain⟨_,_,h⟩:=ae h;cases h
 rcases aW h with h|⟨⟨ts,Q⟩,I,h⟩
 .exact(gW h).elim
 rcases aW h with h|⟨i,G,h⟩
 .exact(j5 h).elim
 cases h
 obtain rfl:=nK<|au G
 refine⟨g,s,_,_,x,gx I,λP g1 H1 t b f=>?_⟩;obtain⟨n,f,rfl,q1,r⟩:=f;cases(show n=.int i from q1);cases(show f=[]from r);refine⟨_,J,λa hd=>?_⟩;have m:=Gr.jh (o:=XD a [(fn,V.int i)]) b.sub hd;obtain⟨k,l,q⟩:=z _ _ (t.trans<|b.kI m) (b.grow m).st;rw[F]at l;cases l;exact q (U a) ⟨i,a,J,J,ao⟩
def uC{d:Nat}{C:bp}{a:TE}{f:FE}(u:N[d]?=U (C,Y))(Z:v5 X E)(M:î X.K X.mg C x)(r:PE X e a)(ź:∀σ H(Q:Hp->Prop),tE B f σ H (λ_ H1=>Q H1)->a σ H λv H1=>[v].length=1/\Q H1)(p:Gl X x)(y:aV x)(n:noStar e=O) :
  PS X (.Raise (U<|.Call (.Name x np) [e] [] bw) Y pos)<|tX B N E<|wC d f:=by
 refine cH (Dv Z M.ex M.at_ r p y<|aw n) λD σ H z=>?_;rcases z with⟨g,s,o,l,x,h,k⟩|⟨g,s,c,fs,l,x,h,k⟩
 .obtain⟨_,_,h⟩:=ae h
  cases h
 .rcases aW h with h|⟨⟨t,j⟩,w,h⟩
  .exact(gW h).elim
  cases h;refine ź σ H _ ⟨g,s,t,j,x,gx w,λv g1 H1 m i _=>?_⟩;obtain⟨A,b,q⟩:=k g1 H1 m i.st;rw[u]at b;cases b;exact q Y ⟨J,J⟩
end
section
variable{B:KT}{P:cW}{w:c4}{K:a_}{mg:Str->D2}{base:ed}{N:XN}
def ze{a n:Nat}{F:FS}{ts:FK}{m:FV}{c:Nat}{fs:FK}{s':S}(h:aI a n F ts m=.exc c fs s'):ts.length=a/\F ⟨ts.map (λt=>U<|.val t)++dN (n-ts.length) Y,m⟩=.exc c fs s':=by
 unfold aI at h;split at h
 .rename_i hl
  refine⟨hl,?_⟩;rcases aW h with h|⟨⟨o,b⟩,d,h⟩
  .exact h
  .cases o<;>cases h
 .cases h
def IW{x qual:Str}{st:gL}{f:bp}{fd:dy}{e ps:Bi}{k:Nat}{F:FS}(Fn:uv K x qual st f fd)(R:fm e ps<|aA st)
  (b:∀(a:ar)(A:dA)(outer:List Env)(s:ag)(H:Hp)(E:XK),bo k (A.deeper<|Cu qual (aA st) s.heap.objs.size f a)->v5 (ie (qe P w) P w K mg base e qual (aA st) f a A outer s H E) E ->
   gz (ie (qe P w) P w K mg base e qual (aA st) f a A outer s H E) (bW st) (tX B N E F)) :
  bV P w K mg base (qe P w) (k+1) f fd ps<|sf B N<|aI ps.length e.length F:=by
 obtain⟨T,od,W,kV,M,S,an,a,ct,V,rfl,C,L⟩:=Fn.ex;refine Lq C L R (λn H Q E h=>?_) λA outer s H n Q E D h=>?_
 .rcases h with⟨g,ts,m,t,z,x,r,h,_⟩|⟨g,ts,m,c,fs,d,x,r,h,_⟩
  .rw[<- r.len];exact(mh h).1
  .rw[<- r.len];exact(ze h).1
 .refine⟨_,b a A outer s H E D ⟨λ_ _ h=>h,J,J,J,J⟩,?_⟩
  rcases h with⟨g,ts,m,t,z,x,r,h,q⟩|⟨g,ts,m,c,fs,d,x,r,h,q⟩
  .obtain⟨_,o,d,I,rfl,G⟩:=mh h
   refine .ok g _ o d ⟨x,kM r⟩ I ?_;rcases G with rfl|⟨rfl,rfl⟩
   .exact λv i j p y u=>q v i j p y u
   .exact λl i j p y=>q _ i j p y.st J
  .exact .ex g _ c fs d ⟨x,kM r⟩ (ze h).2 q
def OP{f:bp}{fd:dy}{ps:Bi}{k:Nat}{fn:Fn}(F:bV P w K mg base (qe P w) k f fd ps<|sf B N fn):bV P w K mg base ig k f fd ps<|oX B fn:=by
 have a:∀{b H Q E},oX B fn b H Q E->sf B N fn b H Q λ_ _ _=>False:=by
  rintro _ _ _ _ ⟨g,ts,m,t,l,x,r,h,q⟩;exact .ok g ts m t l x r h q
 refine⟨λb H Q E h=>F.len b H Q _<|a h,λA outer s H c i b Q E n u o j h=>fA (F.run A outer s H c i b Q _ n u o j<|a h) λr v d=>?_⟩;cases r with
 |ok p=>cases p<;>exact d
 |error e=>
  obtain⟨_,_,_,_,_,_,_,_,_,_,_,_,_,z⟩:=d;exact z.elim
def EC{f:bp}{fd:dy}{ps:Bi}{k:Nat}{fn:Fn}(F:bV P w K mg base (qe P w) k f fd ps<|sf B N fn):bV P w K mg base (qe P w) k f fd ps<|sf B N<|aH fn:=F.imp λS H Q E h=>by
 have go:∀{g:G}{ts:FK}{m:FV},ef B g H m->aB B g.al g.HF ts S->∀R,aH fn ts m=R->R≠.bad->(∀t L,R=.ok (t,L)->∀v D d,dC g H D d->ef B D d L->Rep B D.al D.HF t v->Q v d)->(∀c fs I,R=.exc c fs I->XR B N E g H c fs I)->sf B N fn S H Q E:=λ{g ts m} x r R h A q1 q2=>by
  have M:ef B ⟨g.HF,λ_=>Y,[]⟩ H []:=⟨x.sub,λb p e=>(by cases e),J,λk ob e=>(by simp at e)⟩
  have back:∀{g0:G}{d:Hp},dC ⟨g.HF,λ_=>Y,[]⟩ H g0 d->aL g0.HF d->dC g H ⟨g0.HF,g.o,g.al⟩ d/\ef B ⟨g0.HF,g.o,g.al⟩ d m:=λ{g0 d} p ys=>by
   have keep:∀b p,g.o b=U p->d b=H b/\g0.HF b=Y:=λb q X=>by
    obtain⟨T,u,C⟩:=x.live b q X;obtain⟨j,i,_⟩:=p.rest b u C T J;exact⟨j.trans C.symm,i⟩
   refine⟨⟨p.fr,fV,λb u h n z=>?_,p.there⟩,x.mv ys (λb p e=>?_) p.fr J λl p h _=>⟨h,(keep l p h).1⟩⟩
   .obtain⟨j,i,_⟩:=p.rest b u h n J
    exact⟨j,i,z⟩
   .obtain⟨T,u,C⟩:=x.live b p e
    obtain⟨j,i⟩:=keep b p e;exact⟨i,u,j.trans C⟩
  unfold aH at h;by_cases hn:aN ts=O
  .rw[b7 hn]at h
   cases e:fn ts []with
   |bad=>rw[e]at h;exact dk h.symm A
   |ok z=>
    rw[e]at h;dsimp only at h;by_cases CT:noOwn z.1=O
    .rw[b7 CT]at h
     exact .ok _ ts [] z.1 z.2 M (aB.no hn r) e λv g0 d p y W=>let⟨a,b⟩:=back p y.sub;q1 _ _ h.symm v _ d a b<|Rep.no CT W
    .rw[b0 CT]at h;exact dk h.symm A
   |exc c0 s V=>
    rw[e]at h;dsimp only at h;by_cases CT:aN s=O
    .rw[b7 CT]at h
     exact .ex _ ts [] c0 s V M (aB.no hn r) e λg0 d p y=>let⟨a,b⟩:=back p y.sub;q2 _ _ _ h.symm _ d a b
    .rw[b0 CT]at h;exact dk h.symm A
  .rw[b0 hn]at h;exact dk h.symm A
 rcases h with⟨g,ts,m,t,L,x,r,h,q⟩|⟨g,ts,m,c,fs,I,x,r,h,q⟩
 .exact go x r _ h (λz=>nomatch z) (λ_ _ z=>by cases z;exact q) λ_ _ _ z=>nomatch z
 .exact go x r _ h (λz=>nomatch z) (λ_ _ z=>nomatch z) λ_ _ _ z=>by cases z;exact q
end
end D
namespace L2
open PySem PySem.W PyProof.Rows PySem.Calls PySem.Builtin PySem.Builtin.ObjectAttr PySem.Builtin.Getset_descriptor
section
variable{K:v3}{C a:bp}{n:Obj}{prog:cW}{w:c4}{A:dA}
def ED{M:vk}{h:ed}{x:bp}{f g:ar}{name:Str}(X:K.In h)(c:qW K (.ref C) name=U (U f))(b:specialIn K f "__get__" = U (U g))(a:takesIn K f=U O) :
  sr M h (Hz (.ref x) (.ref C) name)<|.bind g f:=
 (kz X c).andThen<|(looks_specialIn X b).andThen<|(show sr M h (HD (U f)<|U g) (U (g,f))from(looks_takesIn (M:=M) X a).andThen .now).andThen<|Looks.tag .now
def EE{R:GK->ag->Prop}{s:ag}{tp:ar}{x:bp}(X:K.In s.heap)(he:s.heap.get? x=U n)(c:n.cls=.ref C)(a:mroIn K C (.type "object")=U O)
  (h:R (.ok<|.ret<|.ref C) s):hQ (b8 prog w) A (.call (.builtin "getset_descriptor.__get__") ⟨[.builtin "object.__class__",.ref x,tp],[]⟩) R s:=by
 obtain⟨b,g,d,t,os⟩:=s;have e:sr (b8 prog w) b (sx<|.ref x)<|.ref C:=c▸(oC he).andThen .now;have L1:=qx (M:=b8 prog w) X a;refine eJ KF.slot_gs.plain KF.entry_gs<|KF.slot_gs.check _ _ _ _ _ _ _ _ KF.type_class (KF.args_gs _ _ _) ?_;unfold Builtin.«getset_descriptor.__get__» descrGet;rw[dga_obj];refine av<|cC ?_;unfold descrGetter descrCheckInstance descrNameAndClass o4;simp only[KF.owner_class]
 repeat lk
 refine⟨i5 _<|by decide +kernel,mM KF.entry_class ?_⟩
 unfold Builtin.«object.__class__» shownTypeOf
 repeat lk
 exact h
structure pK(K:v3)(C:bp):Prop where
 ga:qW K (.ref C) "__getattribute__" = U (U<|.builtin "BaseException.__getattribute__")
 gn:qW K (.ref C) "__getattr__" = U Y
 cl:qW K (.ref C) "__class__" = U (U<|.builtin "object.__class__")
 gt:specialIn K (.builtin "object.__class__") "__get__" = U (U<|.builtin "getset_descriptor.__get__")
 tk:takesIn K (.builtin "object.__class__")=U O
 mb:mroIn K C (.type "BaseException")=U O
 mo:mroIn K C (.type "object")=U O
def A5{M:vk}{E:ar->ag->Prop}{Q:Unit->ag->Prop}{s:ag}{b:ar}(Z:pK K C)(X:K.In s.heap)(he:s.heap.get? a=U n)(i:n.cls=.ref C)(e:Q () s) :
  cv M A (ll "BaseException.__getattribute__" ⟨[.ref a,b],[]⟩) Q E s:=by
 obtain⟨h,g,d,t,os⟩:=s;have L0:sr M h (sx<|.ref a)<|.ref C:=i▸(oC he).andThen .now;have L4:=qx (M:=M) X Z.mb;have f:builtinKind "BaseException.__getattribute__" = U .slot:=by decide +kernel
 have c:splitId "BaseException.__getattribute__" = U ("BaseException","__getattribute__"):=by decide +kernel
 have j:=F.args_bexc_ga (.ref a) b;simp only[ll,f,c];refine av ?_;unfold o4;refine av<|L0.at<|L4.at ?_
 repeat (first|wp_step)
 exact e
def OQ{E:ar->ag->Prop}{Q:D2->ag->Prop}{s:ag}(Z:pK K C)(X:K.In s.heap)(he:s.heap.get? a=U n)(b:n.cls=.ref C)(h:Q (U<|.ref C) {s with toks:=s.toks+1}) :
  cv (b8 prog w) A (getAttr? (.ref a) "__class__") Q E s:=by
 obtain⟨c,g,d,t,os⟩:=s;have L0:sr (b8 prog w) c (sx<|.ref a)<|.ref C:=b▸(oC he).andThen .now;have L1:=kz (M:=b8 prog w) X Z.ga;have L2:=kz (M:=b8 prog w) X Z.gn;have m:=ED (M:=b8 prog w) (x:=a) X Z.cl Z.gt Z.tk;have l:=qx (M:=b8 prog w) X Z.mb;have e:=F.excAttr_ValueError.ga.bind<|.ref a;have k:builtinKind "BaseException.__getattribute__" = U .slot:=by decide +kernel
 have j:splitId "BaseException.__getattribute__" = U ("BaseException","__getattribute__"):=by decide +kernel
 have i:(gV "BaseException.__getattribute__" == gV "object.__getattribute__")=Zn:=by decide +kernel
 have f:(onTheHeap (Value.ref C)&&gV "BaseException.__getattribute__" == gV "object.__getattribute__")=Zn:=by rw[i];rfl
 unfold getAttr? getAttrBy? getAttrBy;refine av<|wpAny_mkText<|av<|y8<|eI<|av<|L0.at<|av<|L1.at ?_;dsimp only;rw[f,b0<|by decide]
 unfold getAttrByItsOwn;refine av ?_;show cv _ _ (sT (.ref C) "__getattr__") _ _ _;refine L2.at ?_;refine av<|y8<|eI ?_;show cv _ _ (q0 _ _ _) _ _ _;unfold q0;rw[e];refine av<|cC ?_;refine fv<|eJ F.excAttr_ValueError.ga.plain F.entry_bexc_ga ?_;refine A5 Z X he b ?_;unfold «object.__getattribute__»
 repeat ((fail_if_success (with_reducible show cv _ _ (PySem.call _ _ _) _ _ _));lk)
 refine fv<|EE X he b Z.mo ?_
 repeat lk
 exact h
end
section
variable{K:v3}{C a:bp}{t:Obj}
def zf(Z:pK K C):∃a,clsIn K C=U a:=by
 have h:=Z.mo;unfold mroIn at h;obtain⟨a,e,_⟩:=bh.mp h;exact⟨a,e⟩
def EG(Z:pK K C)(d:t.cls=.ref C):KitX K (.ref a) (.ref C) λh=>h.get? a=U t where
 ty:=λ_ _ _ e=>d▸(oC e).andThen .now
 it:=λ_ _ X _=>by
  obtain⟨Ż,b⟩:=zf Z;unfold clsIn at b;split at b
  .rename_i i g ż l c
   intro s p r m k q;unfold isType loadHead;exact av<|x8 (k _ _<|X _ _ c)<|cC q
  .cases b
 ne:=λh f o aG n sl X j=>by
  obtain⟨Ż,b⟩:=zf Z;refine Bool.eq_false_iff.mpr λq=>?_;have e:C=f:=Value.ref.inj<|beq_iff_eq.mp q;subst e;unfold clsIn at b;split at b
  .rename_i i g ż l c
   have z:=(X _ _ c).symm.trans j;cases z
  .cases b
 ca:=λX e k=>OQ Z X e d k
end
end L2
namespace D
open PySem L2 PySem.W PyProof.Rows
def ï(i:Nat)(a:bp)(d:Obj)(b:Bool):TE:=λc H Q=>c[i]?=U (U<|.ref a)/\H a=U (EX a d)/\Q (.bl b) H
def L_(i:Nat)(a:bp)(c:Obj)(bs:Fm):TA:=λb H Q=>b[i]?=U (U<|.ref a)/\H a=U (EX a c)/\Q (bs.map V.bl) H
def YR(K:v3)(mg:Str->D2)(C:bp)(y:Str)(b:Bool):Prop:=aV y/\((∃D,mg y=U (.ref D)/\kitOne K (.ref C) (.ref D)=U b)\/∃T,mg y=Y/\hH y=U (.type T)/\y ≠ "__name__" /\ kitOne K (.ref C) (.type T)=U b)
section
variable{X:Cx}{a C:bp}{R:Obj}{n y:Str}{pn B p pos:Pos}{i j:Nat}{b:Bool}{e:cb}{t:Bz}{bs:Fm}
def EH(Z:pK X.K C)(h:R.cls=.ref C):fJ X (.builtin "isinstance") λvs H Q=>∃c u b,vs=[.ref a,c]/\(∀d,RelV c d->d=u)/\H a=U (EX a R)/\kitOne X.K (.ref C) u=U b/\Q (.bl b) H:=by
 rintro m s k H vs l Q I r ⟨c,u,b,rfl,g,i,j,q⟩
 cases r with
 |cons f r=>
  cases r with
  |cons e r=>
   cases r;cases(show _=Value.ref a from f);cases g _ e;exact kia_one (EG Z h) I.gQ (EX.at_<|I.bj a _ i) j (λz=>nomatch z) λtk=>⟨.bl b,H,I.tok tk,J,q⟩
def OR(Z:pK X.K C)(k:R.cls=.ref C)(F:YR X.K X.mg C y b)(r:X.mg "isinstance" = Y)(l:X.N[i]?=U n)(h:lR X.env.scope n)(hd:aV n)(m:fW n)(j:Gl X "isinstance")(q:Gl X y) :
  PE X (.Call (.Name "isinstance" p) [.Name n pn,.Name y B] [] pos)<|ï i a R b:=by
 obtain⟨o,⟨D,g,f⟩|⟨T,g,f,u,t⟩⟩:=F
 .exact aS (fK (EH Z k) j r Cs (bf (bZ l h hd m) (bf (lT (v:=.ref D) q g J o) dc J) J) (he:=J) (hpl:=J)) λs H Q ⟨e,d,c⟩=>⟨.ref a,e,_,.ref D,b,J,λ_ z=>z,d,f,c⟩
 .exact aS (fK (EH Z k) j r Cs (bf (bZ l h hd m) (bf (xX q g f (v:=.ty T) J u o) dc J) J) (he:=J) (hpl:=J)) λs H Q ⟨e,d,c⟩=>⟨.ref a,e,_,.type T,b,J,λ_ z=>z,d,t,c⟩
def OS:PA X []<|L_ i a R []:=qh dc λ_ _ _ h=>h.2.2
def IX(h:PE X e<|ï i a R b)(g:PA X t<|L_ i a R bs)(f:cw (e::t) X.env=(Zn,e6 e X.env)::cw t X.env):PA X (e::t)<|L_ i a R<|b::bs:=
 qh (bf h g f) λ_ _ _ ⟨d,c,j⟩=>⟨d,c,d,c,j⟩
def UJ{f:Str}{d:bp}{g:Array ar}{fs:List<|Str×V}{v:V}(Z:lO X.K C)(nf:cz X.K C f)(y:R.cls=.ref C)(l:R.data=.fields g)(t:R.dict=U d)(hl:fs.lookup f=U v)(z:X.N[i]?=U n)(m:lR X.env.scope n)(hd:aV n)(E:fW n) :
  PE X (.Attribute (.Name n pn) f pos) λb H Q=>b[i]?=U (U<|.ref a)/\H a=U (EX a R)/\H d=U (XD d fs)/\Q v H:=by
 intro G s b H Q I ⟨D,B,A,q⟩;refine xZ J<|cK (bZ z m hd E G s b H (λx H1=>x=.ref a/\H1=H) I ⟨.ref a,D,J,J⟩) λu h e=>?_;obtain⟨x,H1,I1,j,ex,F⟩:=e;subst ex F
 obtain rfl:u=Value.ref a:=j
 obtain⟨⟨k,ns,_,r⟩,_⟩:=(show bK X.prog X.w H1 h.heap d (XD d fs)from I1.bj d _ A);obtain⟨u,p,c⟩:=iy.some_of (v:=v) (o:=k f) (by rw[<- hl];exact r f)
 exact Xp I1.gQ Z nf (EX.at_<|I1.bj a _ B) y l t ns p (pR c) ⟨v,H1,I1.tok _,c,q⟩
end
section
variable{P:Pg}{X:Cx}{N:XN}{k j i m:Nat}{y n x:Str}{f:Fn}{fl a:FL}{e:cb}{d:Bz}{pos t u v z B:Pos}{E:XK}
def OT{a d C:bp}{f:Obj}{ws:Array ar}{fn:Str}{v:V}{b1 b2 b3:Fm}{T S W:Bz}{p1 p2 p3 p4 p5 q1 q2 q3 q4 q5 r1 r2 r3 s1 s2 s3 s4 s5 s6 t1 t2 t3 t4 t5:Pos}{z1 z2:Nat}
  (Z:lO X.K C) (nf:cz X.K C fn) (hc:f.cls=.ref C) (hw:f.data=.fields ws) (hn:f.dict=U d) (hz:b1.length+b2.length+b3.length<=1000) (pL:QV (.bl O) (qS ((b1++b2++b3).map V.bl) Y<|U 3)=O)
  (h1:PA X T<|L_ i a f b1) (h2:PA X S<|L_ i a f b2) (h3:PA X W<|L_ i a f b3)
  (F:X.N.Nodup) (hN:X.N[i]?=U n) (hv:lR X.env.scope n) (hd:aV n) (fZ:fW n)
  (p:X.N[j]?=U x) (L:Loc X.env.scope x) (I:lR X.env.scope x) (dx:aV x) (M:fW x) (fx:X.fn x=O\/X.env.scope.names.lookup x=U .local)
  (hm:X.N[m]?=U y) (ly:Loc X.env.scope y) (fy:X.fn y=O\/X.env.scope.names.lookup y=U .local) :
  gz X [.Assign [.Name x p1] (.List T q1) r1,.Assign [.Name x p2] (.BinOp (.Name x p3) .Add (.List S q2) q3) r2,.Assign [.Name x p4] (.BinOp (.Name x p5) .Add (.List W q4) q5) r3,
   .If (.Compare (.Constant (.bool O) z1 s1) [.In] [.Subscript (.Name x s2) (.Slice Y (U<|.Constant (.int 3) z2 s3) Y s4) s5] s6) [.Assign [.Name y t1] (.Attribute (.Name n t2) fn t3) t4] [] t5]
   λE e H=>e[i]?=U (U<|.ref a)/\H a=U (EX a f)/\H d=U (XD d [(fn,v)])/\j<e.length/\j≠i/\∀l H1,(∀HF,aL HF H->Gr HF H HF H1)->H l=Y->H1 l=U (.lst<|(b1++b2++b3).map V.bl)->E.nx ((e.set j<|U<|.ref l).set m<|U v) H1:=by
 have lk:ir fn [(fn,v)]=U v:=by simp only[ir,nr]
 refine nz (gC (iA F p L (mY h1) J fx)<|gC (iA F p L (k8 vY (bZ p I dx M)<|mY h2) J fx)<|gC (iA F p L (k8 vY (bZ p I dx M)<|mY h3) J fx)
 <|iP<|CI (jI p9 Lm (tm yc (bZ p I dx M) ya<|yb Cz) J) (iP<|iA F hm ly (UJ (a:=a) Z nf hc hw hn lk hN hv hd fZ) J fy) lU) ?_
 intro E e H zz;obtain⟨R,c,g,P,UK,k⟩:=zz;have hz':1000<=cq:=by decide
 have Q:∀v,(e.set j v)[i]?=U (U<|.ref a):=λv=>by rw[ic UK];exact R
 have G:∀u w:Option V,(e.set j u).set j w=e.set j w:=λu w=>K2 ..;have na:∀{H':Hp}{l:bp}{b:bp}{o:HO},H' b=U o->H' l=Y->b≠l:=λh n z=>by rw[z,n]at h;cases h
 refine⟨R,c,by rw[ck];lia,λl1 D=>?_⟩
 have a1:=na c D;have d1:=na g D;refine⟨.ref l1,ib P,Q _,by rw[af a1];exact c,by rw[ck];lia,λl2 s=>?_⟩
 have YT:l1≠l2:=na ao s;have a2:a≠l2:=na (by rw[af a1];exact c) s
 have d2:d≠l2:=na (by rw[af d1];exact g) s
 refine⟨l1,l2,_,_,J,J,by rw[af YT];exact ao,ao,by rw[ck,ck];lia,λl3 B=>?_⟩
 have a3:a≠l3:=na (by rw[af a2,af a1];exact c) B
 have d3:d≠l3:=na (by rw[af d2,af d1];exact g) B
 refine⟨.ref l3,by rw[G];exact ib P,by rw[G];exact Q _,by rw[af a3,af a2,af a1];exact c,by rw[ck];lia,λl4 r=>?_⟩
 have YU:l3≠l4:=na ao r;have a4:a≠l4:=na (by rw[af a3,af a2,af a1];exact c) r
 have d4:d≠l4:=na (by rw[af d3,af d2,af d1];exact g) r
 refine⟨l3,l4,_,_,J,J,by rw[af YU];exact ao,ao,by rw[dq,ck,ck,ck];exact eT hz<|by decide,λl5 A=>?_⟩
 have a5:a≠l5:=na (by rw[af a4,af a3,af a2,af a1];exact c) A
 have d5:d≠l5:=na (by rw[af d4,af d3,af d2,af d1];exact g) A
 dsimp only[sU];rw[G,G];have e5:b1.map V.bl++b2.map V.bl++b3.map V.bl=(b1++b2++b3).map V.bl:=by rw[sJ,sJ]
 rw[e5];refine⟨.ref l5,ib P,3,J,l5,_,J,dM.of ao,λl6 t=>?_⟩;have a6:a≠l6:=na (by rw[af a5,af a4,af a3,af a2,af a1];exact c) t
 have d6:d≠l6:=na (by rw[af d5,af d4,af d3,af d2,af d1];exact g) t
 have YV:l5≠l6:=na ao t;refine⟨l6,_,J,.inl<|dM.of ao,J,?_,O,by rw[pL];rfl,lL ⟨Q _,?_,?_,?_⟩⟩
 .rw[bF];intro q hq;obtain⟨b,_,rfl⟩:=iw.mp<|Cf<|List.mem_of_mem_take hq;rfl
 .rw[af a6,af a5,af a4,af a3,af a2,af a1];exact c
 .rw[af d6,af d5,af d4,af d3,af d2,af d1];exact g
 .refine k l5 _ (λHF sm=>?_) ?_ (by rw[af YV];exact ao)
  .have g1:=Gr.jh (o:=.lst<|b1.map V.bl) sm D
   have g2:=g1.trans<|Gr.jh (o:=.lst<|b2.map V.bl) g1.sub s;have g3:=g2.trans<|Gr.jh (o:=.lst<|b1.map V.bl++b2.map V.bl) g2.sub B;have g4:=g3.trans<|Gr.jh (o:=.lst<|b3.map V.bl) g3.sub r;have g5:=g4.trans<|Gr.jh (o:=.lst<|(b1++b2++b3).map V.bl) g4.sub A;exact g5.trans<|Gr.jh g5.sub t
  .exact((aQ D).trans<|(aQ s).trans<|(aQ B).trans<|aQ r).free A
end
end D
namespace D
open PySem L2 PyProof.Rows
section
variable{P:Pg}{X:Cx}{N:XN}{k j i m:Nat}{y n x:Str}{f:Fn}{fl:FL}{fo:FE}{e o:cb}{es:Bz}{p pos bw iY np IY OJ:Pos}{E:XK}{aa:dE}{s:ag}{σ:L2.St}{H:Hp}{g:G}{ss:S}{Ex:ar->ag->Prop}
def YW(P:Pg)(X:Cx)(N:XN)(aa:dE)(σ:L2.St)(g:G)(H:Hp)(c:Nat)(fs:FK)(s':S)(Ex:ar->ag->Prop):Prop:=∃k,N[c]?=U k/\∀a t d c2 b sa H1 g1 e sh,Inv X aa σ b sa->sh.os=sa.os->kl sh.gens->Lies X.prog X.w X.stack b sa H1 e sh.heap->jd e X.stack a (.ref k.1) (.ref t) (d,c2) sh.heap->(d=Y->c2=.none)->dC g H g1 H1->SR (P.kt X) g1 H1 σ s'->XF k.2 fs d H1->Ex (.ref a) sh
def UL{G:bp}{fd:dy}{ps:Bi}{Q:ar->ag->Prop}{us:B2}{vs:List V}{ts:FK}
  (S:bV X.prog X.w X.K X.mg X.base (qe X.prog X.w) k G fd ps<|sf (P.kt X) N f) (hr:bo k X.A) (hb:Binds X.K fd ps []) (I:Inv X aa σ H s) (x:SR (P.kt X) g H σ ss) (l:Vals vs us) (r:aB (P.kt X) g.al g.HF ts vs)
  (B:(∃t m',f ts ss.m=.ok (t,m')/\∀u v sh g' H',Inv X aa σ H' sh->RelV v u->dC g H g' H'->SR (P.kt X) g' H' σ {ss with m:=m'}->Rep (P.kt X) g'.al g'.HF t v->Q u sh)\/(∃c fs i,f ts ss.m=.exc c fs i/\YW P X N aa σ g H c fs {ss with m:=i.m} Ex)) :
  cv (b8 X.prog X.w) X.A (call (.ref G) us) Q Ex s:=by
 have run:∀(n:VK)(o:XK),sf (P.kt X) N f vs H n o->hQ (b8 X.prog X.w) X.A (.call (.ref G) ⟨us,[]⟩) (CR (qe X.prog X.w) X.stack X.prog X.w H s n o) s:=λn o sp=>by
  have hl:us.length=ps.length:=by rw[<- l.length];exact S.len _ _ _ _ sp
  have M:=hb s us I.gQ (by rw[bz];exact hl)
  rw[bz]at M;exact S.run X.A X.stack s H ⟨us,[]⟩ us vs n o hr I.CY M l sp
 rcases B with⟨t,m',F,q⟩|⟨c,fs,i,F,E,hk,q⟩
 .refine fv<|fA (run (λv h=>∃g2,dC g H g2 h/\SR (P.kt X) g2 h σ {ss with m:=m'}/\Rep (P.kt X) g2.al g2.HF t v) (λ_ _ _=>False)<|wB x r F λv g' H' j y l=>⟨g',j,y,l⟩) λr i b=>?_
  cases r with
  |error e=>
   obtain⟨_,_,_,_,_,_,_,_,_,_,_,_,_,z⟩:=b;exact z.elim
  |ok fo=>
   cases fo with
   |ret u=>
    obtain⟨v,h,R,W,g2,j,y,Z⟩:=I.after b;exact q u v i g2 h R W j y Z
   |next=>exact ey b
   |brk=>exact ey b
   |cont=>exact ey b
 .refine fv<|fA (run (λ_ _=>False) (λCv d h=>∃g2,Cv=.ref E.1/\XF E.2 fs d h/\dC g H g2 h/\SR (P.kt X) g2 h σ {ss with m:=i.m})<|.ex g.ak ts ss.m c fs i x.st.ak r F λg' H' j T=>⟨E,hk,λd hd=>let⟨D,p⟩:=x.back j T;⟨_,J,hd,D,p⟩⟩) λr s2 b=>?_
  cases r with
  |error e=>
   obtain⟨a,t,C,d,c2,h,Bh,rfl,ho,j6,L,Fl,Ž,g2,eC,hd,D,p⟩:=b;cases eC;exact q a t d c2 H s h g2 Bh s2 I ho j6 L Fl Ž D p hd
  |ok fo=>
   cases fo with
   |ret u=>
    obtain⟨v,h,R,_,z⟩:=I.after b;exact z.elim
   |next=>exact ey b
   |brk=>exact ey b
   |cont=>exact ey b
def uD{Q:ar->ag->Prop}(D:UC P X.prog X.w X.K X.mg X.base N k x f)(hr:bo j X.A)(kL:k<=j)(ha:PA X.ph (e::es)<|tA (P.kt X) fl)(hg:Gl X x)(fX:aV x)(G:(e::es).all noStar=O)(I:Inv X aa σ H s)(T:SR (P.kt X) g H σ ss)
  (E:(∃t s',aj f [] (kO fl) ss=.ok (t,s')/\∀u v sh g' H',Inv X aa σ H' sh->RelV v u->dC g H g' H'->SR (P.kt X) g' H' σ s'->Rep (P.kt X) g'.al g'.HF t v->Q u sh)\/(∃c fs s',aj f [] (kO fl) ss=.exc c fs s'/\YW P X N aa σ g H c fs s' Ex)) :
  cv (b8 X.prog X.w) X.A (e6 (.Call (.Name x p) (e::es) [] bw) X.env) Q Ex s:=by
 obtain⟨fa,fd,ps,FF,hm,M,hb⟩:=D.ex;rw[d_,bT]at G;obtain⟨ts,b,n,i⟩:∃ts b,fl ss=.ok (ts,b)/\((∃t l,f ts b.m=.ok (t,l)/\∀u v sh g' H',Inv X aa σ H' sh->RelV v u->dC g H g' H'->SR (P.kt X) g' H' σ {b with m:=l}->Rep (P.kt X) g'.al g'.HF t v->Q u sh)\/(∃c fs s',f ts b.m=.exc c fs s'/\YW P X N aa σ g H c fs {b with m:=s'.m} Ex)):=by
  rcases E with⟨t,s',h,q⟩|⟨c,fs,s',h,q⟩
  .obtain⟨ts,b,l,n,i,rfl⟩:=fR h
   rw[bz]at i;exact⟨ts,b,gx n,.inl ⟨t,l,i,q⟩⟩
  .rcases call_exc h with h|⟨ts,b,s2,n,i,rfl⟩
   .exact(gW h).elim
   .rw[bz]at i
    exact⟨ts,b,gx n,.inr ⟨c,fs,s2,i,q⟩⟩
 refine ek<|eO I hg hm ?_ fX;refine xy (h₀:=X.base) I.ok.mod.kin M (et (ha bw aa s σ H (λC y=>∃g2,dC g H g2 y/\SR (P.kt X) g2 y σ b/\aB (P.kt X) g2.al g2.HF ts C) (I.lJ _) ⟨g,ss,ts,b,T,n,λC g2 y o B F=>⟨g2,o,B,F⟩⟩) (λus s3 S=>?_) λ_ _ z=>z.elim) (aw G.1)<|cJ G.2;obtain⟨C,y,r,ž,g2,o,B,F⟩:=S;have r:=r.gp;refine⟨r.gQ,UL FF (hr.mono kL) hb r B ž F ?_⟩;rcases i with⟨t,l,R,q⟩|⟨c,fs,s',R,kk,M,q⟩
 .exact .inl ⟨t,l,R,λu v sh g' H' I' Z p' W r'=>q u v sh g' H' I' Z (o.trans p') W r'⟩
 .exact .inr ⟨c,fs,s',R,kk,M,λa t d c2 Ha sa H1 g1 Bh sh Ia ho j6 L Fl hc p1 V hd=>q a t d c2 Ha sa H1 g1 Bh sh Ia ho j6 L Fl hc (o.trans p1) V hd⟩
def A6(d1 d2:Nat)(F:FE)(fo:FE):FS:=λs=>match F s with
 |.ok p=>.ok (.rt p.1,p.2)
 |.exc c _ a=>if c=d1 then EA d2 (az fo bI) a else .bad
 |.bad=>.bad
def OV{d1 d2:Nat}{C1 C2 CB:bp}{fn z:Str}{zp ð kp ñ:Pos}{k0:Nat}(W:N[d1]?=U (C1,Y))(T:N[d2]?=U (C2,U fn))(Z:v5 X E)(hp:∀a,rb (b8 X.prog X.w) (X.A.mark<|U<|.ref a) X.A X.env X.xe)
  (D:UC P X.prog X.w X.K X.mg X.base N k x f) (hr:bo j X.A) (kL:k<=j) (G:bo 2 X.A) (ha:PA X.ph (e::es)<|tA (P.kt X) fl) (hg:Gl X x) (fX:aV x) (hs:(e::es).all noStar=O)
  (hm:X.mg y=U (.ref CB)) (YX:Ak X.K (.ref C1) (.ref CB)=U O) (YY:Gl X y) (Ra:aV y)
  (M:Wk X.K X.prog X.w X.mg X.base C2 fn z) (Q:Gl X z) (R:aV z) (ho:∀a,PE (vz X a X.xe) o<|tE (P.kt X) fo) (ò:noStar o=O) :
  PS X (.Try [.Return (U<|.Call (.Name x p) (e::es) [] bw) OJ] [.ExceptHandler (U<|.Name y np) Y [.Raise (U<|.Call (.Name z zp) [o] [] ð) (U<|.Constant .none k0 kp) ñ] IY] [] [] iY)<|tX (P.kt X) N E<|A6 d1 d2 (aj f []<|kO fl) fo:=by
 intro aa s σ H Dn I z0;obtain⟨g,ss,xr,b⟩:=z0.to;clear z0;unfold A6 at b;refine wpAny_Try_except<|kS<|wpAny_Return_some<|uD D hr kL ha hg fX hs I xr ?_;cases q:aj f [] (kO fl) ss with
 |bad=>rw[q]at b;exact b.elim
 |ok pq=>
  rw[q]at b;exact .inl ⟨pq.1,pq.2,J,λu v sh g' H' I' ru p' x' r'=>⟨v,σ,H',I',ru,b v g' H' p' x'.st r'⟩⟩
 |exc c fs C=>
  rw[q]at b;dsimp only at b;split at b
  case isFalse=>exact b.elim
  rename_i ec;subst ec;refine .inr ⟨c,fs,C,J,_,W,λa t d c2 Ha sa H1 g1 Bh sh Ia vG j6 L Fl hc p1 n hd=>?_⟩;obtain⟨rfl,rfl⟩:=(show d=Y/\fs=[]from hd);cases hc J;refine Dw Ia Z.st Z.fr vG j6 L Fl hm YX (λh5 L5 F5=>NF Ia vG j6 (hp a) L5 F5 λF ws s6 ó YZ h2 new I6=>?_) YY Ra;obtain⟨fI,fd,ps,m1,m2,_,m3,m5,m4⟩:=M.ex;refine et (iP (AO I.ok Z m1 M.kp m2 m3 m5 m4 G M.at_ (l_ (ho a) ri<|aw ò) Q R (aw ò) J) aa s6 σ _ Dn I6 ?_) (λfl s8 q=>?_) λ_ _ z=>z
  .have g0:=Gr.jh (o:=EX a F) n.sub new
   have x2:=n.grow g0;have p2:=p1.trans<|n.kI g0;unfold EA at b;cases q2:az fo bI C with
   |bad=>rw[q2]at b;exact b.elim
   |exc _ _ _=>rw[q2]at b;exact b.elim
   |ok w=>
    obtain⟨ts,s2⟩:=w;rw[q2]at b;cases q3:A4 ts with
    |none=>replace b:RX (P.kt X) N E g H Dn<|(dG<|A4 ts).bind λi=>.exc d2 [.int i] s2:=b;rw[q3]at b;exact b.elim
    |some r=>
     obtain rfl:=nK q3
     refine⟨_,C,_,s2,x2,q2,λvs g3 H3 p3 B r3=>?_⟩;obtain⟨v1,r1,rfl,q4,q5⟩:=r3;cases(show v1=.int r from q4);cases(show r1=[]from q5);have Â:H3 a=U (EX a F):=by
      have n1:g1.HF a=Y:=n.sub.free new;have n2:g1.o a=Y:=by
       cases qq:g1.o a with
       |none=>rfl
       |some w=>obtain⟨_,u,y⟩:=n.st.live a w qq;rw[new]at y;cases y
      exact(p3.rest a _ ao n1 n2).1
     refine⟨_,F,ws,J,Â,YZ,h2,λdd S=>?_⟩;have gr:=Gr.jh (o:=XD dd [(fn,V.int r)]) B.sub S;obtain⟨kk,hk,q⟩:=b _ _ ((p2.trans p3).trans<|B.kI gr) (B.grow gr).st;rw[T]at hk;cases hk;exact q (U dd) ⟨r,dd,J,J,ao⟩
  .cases fl with
   |next=>obtain⟨h,m,l,q⟩:=q;exact⟨h,m,Inv.AN I.ok l,q⟩
   |brk=>obtain⟨h,m,l,q⟩:=q;exact⟨h,m,Inv.AN I.ok l,q⟩
   |cont=>obtain⟨h,m,l,q⟩:=q;exact⟨h,m,Inv.AN I.ok l,q⟩
   |ret u=>obtain⟨v,h,m,l,r,q⟩:=q;exact⟨v,h,m,Inv.AN I.ok l,r,q⟩
end
def OW(i j m:Nat)(kb:List Fm)(c:Nat)(fs:FK):FS:=λs=>(dG<|kb[c]?).bind λbs=>(dG<|A4 fs).bind λr=>match s.r[i]? with
 |some none=>.ok (.nx,iR (iR s j<|.val<|.lst<|bs.map .bl) m<|.val<|.int r)
 |_=>.bad
def uE(F:FE)(A:Nat->FK->FS):FS:=λs=>match F s with
 |.ok p=>.ok (.nx,p.2)
 |.exc c fs a=>A c fs a
 |.bad=>.bad
def SR.slot{B:KT}{g:G}{H:Hp}{a:L2.St}{s:S}{i:Nat}(x:SR B g H a s)(b:s.r[i]?=U Y)(w:Option V):SR B g H (a.set i w) s:=
 ⟨x.st,by rw[jD];exact x.lc.len,λm c h=>by
  have:i≠m:=λz=>by rw[z,h]at b;cases b
  rw[ic this];exact x.lc.at_ m c h⟩
theorem zg{B:KT}{al:BM}{HF:Hp}:∀bs:Fm,aB B al HF (bs.map T.bl)<|bs.map V.bl
 |[]=>J
 |b::bs=>⟨_,_,J,J,zg bs⟩
def tSu(i j m:Nat)(a d:bp)(c:Obj)(fn:Str)(v:V)(bs:Fm):TS:=λE b H=>b[i]?=U (U<|.ref a)/\H a=U (EX a c)/\H d=U (XD d [(fn,v)])/\j<b.length/\j≠i/\∀l H1,(∀HF,aL HF H->Gr HF H HF H1)->H l=Y->H1 l=U (.lst<|bs.map V.bl)->E.nx ((b.set j<|U<|.ref l).set m<|U v) H1
section
variable{P:Pg}{X:Cx}{N:XN}{k jj i j m:Nat}{y n x:Str}{f:Fn}{fl:FL}{e:cb}{es:Bz}{st:gL}{lj:Fh}{p pos bw iY np IY Y0:Pos}{kb:List Fm}
def OX{CB:bp}(W:X.xe=λ_ _=>False)(D:UC P X.prog X.w X.K X.mg X.base N k x f)(hr:bo jj X.A)(kL:k<=jj)(ha:PA X.ph (e::es)<|tA (P.kt X) fl)(hg:Gl X x)(fX:aV x)(hs:(e::es).all noStar=O)
  (hm:X.mg y=U (.ref CB)) (YY:Gl X y) (Ra:aV y)
  (hN:X.N.Nodup) (hi:X.N[i]?=U n) (hj:j<X.N.length) (UK:j≠i) (G3:m≠i) (hk:X.env.scope.names.lookup n=U .local)
  (Y3:∀(c:Nat)bs,kb[c]?=U bs->∃C fn,N[c]?=U (C,U fn)/\Ak X.K (.ref C) (.ref CB)=U O/\∀a d E R v,E.cls=.ref C->E.data=.fields R->E.dict=U d->gz (vz X a λ_ _=>False) (st::lj) (tSu i j m a d E fn v bs))
  (GS:X.stack=X.env::X.outer) (vv:X.env.frame=U X.env.locals) :
  PS X (.Try [.Expr (.Call (.Name x p) (e::es) [] bw) Y0] [.ExceptHandler (U<|.Name y np) (U n) (st::lj) IY] [] [] iY)<|tS (P.kt X)<|uE (aj f []<|kO fl)<|OW i j m kb:=by
 rintro aa s B H Dn I ⟨g,ss,o,s',xr,h,kk⟩
 rw[W];unfold uE at h;refine wpAny_Try_except<|kS<|wpAny_Expr_any (uD D hr kL ha hg fX hs I xr ?_) I.quiet J;cases q:aj f [] (kO fl) ss with
 |bad=>rw[q]at h;cases h
 |ok pq=>
  rw[q]at h;cases h;exact .inl ⟨pq.1,pq.2,J,λu v sh g' H' I' ru p' x' r'=>hX<|hX ⟨B,H',I',kk B g' H' p' x'⟩⟩
 |exc c fs s2=>
  rw[q]at h;obtain⟨bs,h1,h⟩:=ae h;obtain⟨F,h2,h⟩:=ae h;have h1:=au h1
  obtain rfl:=nK<|au h2
  have T:s2.r[i]?=U Y/\o=.nx/\s'=iR (iR s2 j<|.val<|.lst<|bs.map .bl) m (.val<|.int F):=by
   split at h
   .rename_i q
    cases h;exact⟨q,J,J⟩
   .cases h
  obtain⟨Q,rfl,rfl⟩:=T;obtain⟨C,fn,Z,YX,Y3⟩:=Y3 c bs h1;refine .inr ⟨c,_,s2,J,_,Z,λa t dd c2 Ha sa H1 g1 Bh sh Ia ho j6 L Fl _ p1 M hd=>?_⟩;obtain⟨r1,d,rfl,er,hd⟩:=hd;cases er;refine Dw Ia GS vv ho j6 L Fl hm YX (λh5 L5 F5=>HL Ia ho j6 hN hi hk L5 F5 λE R s6 ó YZ fZ new I6=>?_) YY Ra;have Ox:j<B.length:=by rw[I.len];exact hj
  have da:d≠a:=λz=>by rw[z,new]at hd;cases hd
  refine et (Y3 a d E R (.int F) ó YZ fZ aa s6 (B.set i<|U<|.ref a) (upd H1 a<|EX a E) {nx:=λG H8=>∀s9,Inv X aa (G.set i Y) H8 s9->SP X aa Dn .next s9,rt:=λ_ _=>False} I6 ⟨ib<|by rw[I.len];exact(dR.mp hi).1,ao,by rw[af da];exact hd,by rw[jD];exact Ox,UK,λl H2 gr S hl s9 I9=>?_⟩) (λf s8 q=>?_) λ_ _ z=>z
  .refine⟨_,H2,I9,?_⟩
   have Y4:∀{b},upd H1 a (EX a E) b=Y->H1 b=Y:=λ{b} z=>by
    by_cases q:b=a
    .rw[q];exact new
    .rw[af q]at z;exact z
   have g0:=Gr.jh (o:=EX a E) M.sub new;have g2:=g0.trans<|gr g1.HF g0.sub;have x2:=M.grow g2;have no:g1.o l=Y:=by
    cases q:g1.o l with
    |none=>rfl
    |some p=>obtain⟨_,u,y⟩:=M.st.live l p q;rw[Y4 S]at y;cases y
   have ô:g1.HF l=Y:=M.sub.free<|Y4 S;have x3:=x2.wb (l:=l) ô no hl;have p3:=(p1.trans<|M.kI g2).wb (l:=l) (u:=.lst<|bs.map V.bl) (p1.there l<|Y4 S) ô;have x4:=(x3.set (i:=j) (t:=.lst<|bs.map .bl) (v:=.ref l) ⟨l,_,J,ao,zg bs⟩).set (i:=m) (t:=.int F) (v:=.int F) J;have x5:=x4.slot (i:=i) (by show((s2.r.set j _).set m _)[i]?=_;rw[ic G3,ic UK];exact Q) Y
   have e1:(((B.set i<|U<|.ref a).set j<|U<|.ref l).set m<|U<|.int F).set i Y=((B.set j<|U<|.ref l).set m<|U<|.int F).set i Y:=by
    have c:(B.set i<|U<|V.ref a).set j (U<|V.ref l)=(B.set j<|U<|V.ref l).set i (U<|V.ref a):=K3 _ _<|ew UK;have c2:((B.set j<|U<|V.ref l).set i<|U<|V.ref a).set m (U<|V.int F)=((B.set j<|U<|V.ref l).set m<|U<|V.int F).set i (U<|V.ref a):=K3 _ _<|ew G3;rw[c,c2,K2]
   rw[e1];exact kk _ _ H2 p3 x5
  .cases f with
   |next=>
    obtain⟨G,H8,I8,q⟩:=q;exact⟨G,H8,I8,q⟩
   |brk=>obtain⟨_,_,_,q⟩:=q;exact q.elim
   |cont=>obtain⟨_,_,_,q⟩:=q;exact q.elim
   |ret u=>obtain⟨_,_,_,_,_,q⟩:=q;exact q.elim
end
end D
namespace D
open PySem L2
def gc:cb->Option Const
 |.Constant c _ _=>U c
 |_=>Y
def EI(e:cb):Option Str:=match gc e with
 |U<|.str x=>U x
 |_=>Y
def isSlice:cb->Bool
 |.Slice _ _ _ _=>O
 |_=>Zn
section
variable{e:cb}{x:Str}
def gI{q}(h:gc e=U q):∃k p,e=.Constant q k p:=by
 cases e<;>first|(cases h;done)|(cases h;exact⟨_,_,J⟩)
def str_inv(h:EI e=U x):∃b p,e=.Constant (.str x) b p:=by
 unfold EI at h;cases a:gc e with
 |none=>rw[a]at h;cases h
 |some c=>
  rw[a]at h;cases c<;>try(cases h;done)
  cases h;exact gI a
end
end D
namespace D
open PySem
structure Lc where
 N:Bi
 sc:gg
 mu:Bi
inductive Ck where
 |fz (c n:Nat)|z0 (c:Nat)|cp (c:Nat)|nw (c i:Nat)
structure Gm where
 P:Pg
 cs:List<|Str×T
 fs:List<|Str×FK×Nat
 cl:List<|Str×Ck
 ms:List<|Str×List (Nat×Nat)
 bl:Bi
 xc:List<|Str×Option Str×Nat:=[]
 xs:List<|Str×Nat:=[]
 xt:List<|Str×Nat×Nat:=[]
 ys:Bi:=[]
 kb:List Fm:=[]
 xm:Str := ""
def jz(N:Bi)(x:Str):Option Nat:=N.idxOf? x
def j7(x:Str):Bool:=x == ("__debug__" : Str) ||x == ("__classdict__" : Str)
def gX(L:Lc)(x:Str):Bool:=match L.sc.names.lookup x with
 |some .local=>!j7 x
 |some .cell=>!j7 x
 |_=>Zn
def rK(L:Lc)(x:Str):Bool:=decide (L.sc.names.lookup x=U .globalImplicit)&&!j7 x
structure Rc where
 E:Lc->cb->FE
 T:Lc->cb->FT
 I:Lc->cb->cb->FL
 O:Lc->cb->FL
def dX:List FE->FL
 |[]=>bI
 |a::r=>az a<|dX r
def EJ:List FE->FE
 |[]=>bO
 |[a]=>a
 |a::r=>tU a<|EJ r
def OY:List FT->FT
 |[]=>pF
 |[a]=>a
 |a::r=>yn a<|OY r
def OZ:List FE->FE
 |[]=>bO
 |[a]=>a
 |a::r=>SS a<|OZ r
def EK:List FT->FT
 |[]=>pF
 |[a]=>a
 |a::r=>kF a<|EK r
def EL(sc outer:gg):gg:={sc with names:=sc.names.map λ(n,k)=>if(k == NameKind.free&&outer.kind == .function&&outer.names.lookup n == U .cell)then(n,NameKind.cell)else(n,k)}
def locals(sc:gg):Bi:=sc.names.filterMap λp=>if p.2=.local then U p.1 else Y
def frees(sc:gg):Bi:=sc.names.filterMap λp=>if p.2=.free then U p.1 else Y
def idxs(N:Bi):Bi->Option B1
 |[]=>U []
 |x::xs=>(jz N x).bind λi=>(idxs N xs).map (i::·)
def O0(L:Lc)(sc:gg):Bool:=decide (sc.kind=.function)&&sc.names.all (λp=>decide (p.2≠.cell)&&(decide (p.2=.local)->decide (sc.names.lookup p.1=U .local))&&(decide (p.2=.free)->(decide (sc.names.lookup p.1=U .free)&&decide (L.sc.names.lookup p.1=U .cell))))&&decide (L.sc.kind=.function)
def Ma(N:Bi)(ok:Str->Bool):cb->Option (FG×B1)
 |.Name x _=>if ok x then(jz N x).map λi=>(setG i,[i])else Y
 |.Tuple a _ _=>(namesOf a).bind λxs=>if xs.all ok then(idxs N xs).map λis=>(cQ is,is)else Y
 |_=>Y
def isSet:cb->Bool
 |.Set _ _ _=>O
 |_=>Zn
def Mb(r:Rc)(L:Lc):Bz->FT
 |[]=>i6
 |[c]=>r.T L c
 |_=>pF
def EM(L:Lc)(sc:gg):Lc:=⟨locals sc++frees sc,EL sc L.sc,[]⟩
def nM(r:Rc)(L:Lc)(elt:cb)(q:Comprehension)(sc:gg):FL:=if q.is_async=0/\(O0 L sc&&decide ((locals sc++frees sc).Nodup)&&!isSet q.iter&&decide (q.ifs.length<=1))=O then(match idxs L.N (frees sc),Ma (locals sc) (λx=>decide<|sc.names.lookup x=U .local) q.target with
  |some a,some (g,_)=>eB (r.I L q.target q.iter) (locals sc).length a g (Mb r (EM L sc) q.ifs)<|r.E (EM L sc) elt
  |_,_=>jS)else jS
def zh(r:Rc)(L:Lc):cb->FL
 |.ListComp a gs sc _=>(match gs with
  |[g]=>nM r L a g sc
  |_=>jS)
 |_=>jS
def O1(r:Rc)(L:Lc):Option cb->FO
 |none=>nk
 |some e=>iS<|r.E L e
def uF(M:Gm)(L:Lc):Bi->Option B1
 |[]=>U []
 |y::ys=>if rK L y&&((jz M.P.cn y).bind λd=>M.P.fn[d]?).isSome then(jz M.P.cn y).bind λd=>(uF M L ys).map (d::·)else Y
def blt(M:Gm)(L:Lc)(x:Str):Bool:=M.bl.contains x&&rK L x
def õ(M:Gm)(r:Rc)(L:Lc)(a:cb):cb->FE
 |.Name y _=>(match um.lookup y with
  |some ty=>if M.bl.contains y&&rK L y then dQ (TQ ty) (r.E L a)else bO
  |none=>(match uF M L [y]with
   |some ds=>dQ (il M.P.sub ds)<|r.E L a
   |none=>bO))
 |.Tuple b _ _=>if b.length<=100 then(match(namesOf b).bind (uF M L)with
  |some ds=>dQ (il M.P.sub ds)<|r.E L a
  |none=>bO)else bO
 |_=>bO
def aY(l:List<|Nat×Nat)(ak:Nat->Fn)(c:Nat):Option Fn:=(l.lookup c).map ak
def O2(L:Lc):cb->Option Nat
 |.Name y _=>if gX L y then jz L.N y else Y
 |_=>Y
def uG(M:Gm)(r:Rc)(L:Lc)(a:cb)(op:kA)(b:cb):FE:=match uy op,O2 L b with
 |some c,some i=>vB op c i<|r.E L a
 |_,_=>dD (aU op) (r.E L a)<|r.E L b
def UM:List<|Str×(FK->FR):=("min",Eu)::wj
def setArg(M:Gm)(L:Lc)(f:Str)(a:Bz):Option cb:=(j3 a ([]:B1)).bind λe=>(ç e).bind λq=>if f=("len" : Str)/\q.1=("set" : Str)/\blt M L ("set" : Str)=O/\noStar q.2=O then U q.2 else Y
def O3(L:Lc)(f:Str)(a:Bz):Option Nat:=(j3 a ([]:B1)).bind λe=>if f=("len" : Str)/\((asName e).any L.mu.contains)=O then O2 L e else Y
def wD(M:Gm)(ak:Nat->Fn)(r:Rc)(L:Lc)(f:Str)(b:Bz):FE:=
 if b.all noStar then(match M.fs.lookup f with
  |some (ds,i)=>if rK L f then aj (ak i) ds (dX<|b.map<|r.E L)else bO
  |none=>(match M.cl.lookup f with
   |U<|.fz c n=>if rK L f&&!b.isEmpty then c9 c n (dX<|b.map<|r.E L)else bO
   |U<|.z0 c=>if rK L f&&b.isEmpty then c9 c 0 bI else bO
   |U<|.cp c=>(match b with
    |[a]=>if rK L f then dQ (NR c) (r.E L a)else bO
    |_=>bO)
   |U<|.nw c i=>if rK L f&&!b.isEmpty then v_ c (ak i) (dX<|b.map<|r.E L)else bO
   |none=>if blt M L f then(match f == ("isinstance" : Str),b with
     |true,[a,q]=>õ M r L a q
     |_,_=>(match setArg M L f b with
        |some a=>dQ nI<|r.E L a
        |none=>(match O3 L f b with
        |some i=>yo i
        |none=>(match UM.lookup f,b with
         |some g,_::_=>aZ g<|dX<|b.map<|r.E L
         |_,_=>bO))))else bO))else bO
def EN:Const->FE
 |.int i=>cF<|.int i
 |.bool b=>cF<|.bl b
 |.none=>cF .non
 |.str s=>if s.length<=1000000 then cF (.str s.cps.toList)else bO
 |_=>bO
def EO(M:Gm)(L:Lc)(x:Str):FE:=match jz L.N x with
 |some i=>if gX L x then vF i else bO
 |none=>(match M.cs.lookup x with
  |some t=>if rK L x then cF t else bO
  |none=>bO)
def unE(a:FE):UnaryOp->FE
 |.USub=>dQ q_ a
 |.Not=>AS a
 |_=>bO
def boE(l:List FE):BoolOp->FE
 |.And=>EJ l
 |.Or=>OZ l
def Y5(M:Gm)(r:Rc)(L:Lc)(a:cb):List kA->Bz->FE
 |[op],[b]=>if eP op b then bO else uG M r L a op b
 |_,_=>bO
def Y6(r:Rc)(L:Lc)(o i:cb):FE:=dD uf (r.E L o)<|r.E L i
def O4(r:Rc)(L:Lc)(o:cb):cb->FE
 |.Slice lo a st _=>(match st with
  |none=>jy (r.E L o) (O1 r L lo)<|O1 r L a
  |some _=>bO)
 |i=>Y6 r L o i
def Y7(M:Gm)(r:Rc)(L:Lc)(o:cb)(f:Str):FE:=if cV o then(match jz M.P.an f with
  |some j=>aO M.P.tab j<|r.E L o
  |none=>bO)else bO
def O5(M:Gm)(ak:Nat->Fn)(r:Rc)(L:Lc)(o:cb)(m:Str)(b:Pos)(a:Bz)(cp:Pos):FE:=if cV o&&a.all noStar&&decide (a.length<29)&&b.endLine == cp.line then(match M.ms.lookup m with
   |some l=>bx (aY l ak) (r.E L o)<|dX<|a.map<|r.E L
   |none=>(match we.lookup m,a with
    |some g,_::_=>j1 g (r.E L o)<|dX<|a.map<|r.E L
    |_,[]=>if m=("upper" : Str)then dQ Q_ (r.E L o)else bO
    |_,_=>bO))else bO
def Y8(M:Gm)(ak:Nat->Fn)(r:Rc)(L:Lc)(a:Bz)(cp:Pos):cb->FE
 |.Name f _=>wD M ak r L f a
 |.Attribute o m b=>O5 M ak r L o m b a cp
 |_=>bO
def Mc(M:Gm)(ak:Nat->Fn)(r:Rc)(L:Lc):cb->FE
 |.Constant c _ _=>EN c
 |.Name x _=>EO M L x
 |.BinOp a e b _=>dD (pI e) (r.E L a)<|r.E L b
 |.UnaryOp e a _=>unE (r.E L a) e
 |.BoolOp e d _=>boE (d.map<|r.E L) e
 |.Compare a h bs _=>Y5 M r L a h bs
 |.IfExp c a b _=>AU (r.T L c) (r.E L a)<|r.E L b
 |.Tuple d _ _=>if d.all noStar then aZ gu (dX<|d.map<|r.E L)else bO
 |.List d _=>if d.all noStar then aZ bJ (dX<|d.map<|r.E L)else bO
 |.Subscript o i _=>O4 r L o i
 |.Attribute o f _=>Y7 M r L o f
 |.ListComp j gs sc p=>iH<|zh r L<|.ListComp j gs sc p
 |.Call f g k cp=>(match k with
  |[]=>Y8 M ak r L g cp f
  |_::_=>bO)
 |_=>bO
def boT(l:List FT):BoolOp->FT
 |.And=>EK l
 |.Or=>OY l
def Y9(M:Gm)(r:Rc)(L:Lc)(a:cb):List kA->Bz->FT
 |[op],[b]=>if eP op b then pF else dm (uG M r L a op b)
 |_,_=>pF
def stepT(M:Gm)(r:Rc)(L:Lc)(e:cb):FT:=match e with
 |.BoolOp c d _=>boT (d.map<|r.T L) c
 |.UnaryOp c a _=>(match c with
  |.Not=>dU<|r.T L a
  |_=>tB<|r.E L e)
 |.Compare a b bs _=>Y9 M r L a b bs
 |.IfExp _ _ _ _=>pF
 |_=>tB<|r.E L e
def zj(e:cb):Option Bz:=(jn e).bind λq=>if q.1=("range" : Str)/\q.2.2.isEmpty=O then U q.2.1 else Y
def uH(e:cb):Option<|cb×Int:=(jn e).bind λq=>if q.1=("enumerate" : Str)then(match q.2.1 with
 |[a]=>(match q.2.2 with
  |[]=>U (a,0)
  |[w]=>(match gc w.value with
   |U<|.int n=>if w.arg=U ("start" : Str)/\n=1 then U (a,n)else Y
   |_=>Y)
  |_=>Y)
 |_=>Y)else Y
def O6:cb->Bool
 |.Tuple _ _ _=>O
 |_=>Zn
def IZ:cb->Bool
 |.Name _ _=>O
 |_=>Zn
def stepI(M:Gm)(r:Rc)(L:Lc)(tg e:cb):FL:=match zj e with
 |some b=>if blt M L ("range" : Str)&&b.all noStar then(match b with
   |[a]=>GZ tW<|dX [r.E L a]
   |_=>jS)else jS
 |none=>(match uH e with
  |some (a,n)=>if blt M L ("enumerate" : Str)&&O6 tg&&noStar a then nq n (r.E L a)else jS
  |none=>if IZ tg then vA (r.E L e)else Iz (r.E L e))
def Me(r:Rc)(L:Lc):cb->FL
 |.List a _=>if a.all noStar then rj (dX<|a.map<|r.E L)else jS
 |_=>jS
def comp(M:Gm)(ak:Nat->Fn):Nat->Rc
 |0=>⟨λ_ _=>bO,λ_ _=>pF,λ_ _ _=>jS,λ_ _=>jS⟩
 |n+1=>⟨Mc M ak<|comp M ak n,stepT M<|comp M ak n,stepI M<|comp M ak n,Me<|comp M ak n⟩
def ER(L:Lc)(t:Str)(tp:Pos):cb->Bool
 |.ListComp _ _ sc p=>(if L.sc.kind.isAnnotationScope then ScopeKind.function else L.sc.kind) == .function&&L.sc.names.lookup t == U .local&&tp.line == p.line&&!(sc.names.any λ(n,k)=>n == t&&(k == .local ||k == .cell))
 |_=>Zn
def uI:cb->Bool
 |.ListComp _ _ _ _=>O
 |.SetComp _ _ _ _=>O
 |.DictComp _ _ _ _ _=>O
 |_=>Zn
def rL(nm:Str)(mu:Bi)(e:cb):Option<|Str×cb:=(è e).bind λw=>(asName w.1).bind λy=>if w.2.1=nm/\mu.contains y=O then U (y,w.2.2)else Y
def ES:cb->Bool
 |.Dict [] [] _=>O
 |_=>Zn
def ET(M:Gm)(ak:Nat->Fn)(n:Nat)(L:Lc)(x:Str)(e:cb):FS:=match jz L.N x with
 |some i=>if gX L x then(if L.mu.contains x then(if ES e then Em i else pG i ((comp M ak n).O L e))else aD i ((comp M ak n).E L e))else dB
 |none=>dB
def Mf:cb->Bool
 |.Tuple a _ _=>a.all<|foldedForSure 8
 |_=>O
abbrev many:Nat:=1000000
def tupS(M:Gm)(ak:Nat->Fn)(n:Nat)(L:Lc)(a:Bz)(e:cb):FS:=if uI e || !Mf e || !a.all noStar then dB else(match Ma L.N (gX L) (.Tuple a 0 ⟨0,0,0,0⟩)with
  |some (g,_)=>tY g<|(comp M ak n).E L e
  |none=>dB)
def O7(M:Gm)(ak:Nat->Fn)(n:Nat)(L:Lc)(o:cb)(f:Str)(e:cb):FS:=match jz M.P.an f with
  |some j=>jT M.P.tab j ((comp M ak n).E L o)<|(comp M ak n).E L e
  |none=>dB
def O8(M:Gm)(ak:Nat->Fn)(n:Nat)(L:Lc)(o b e:cb):FS:=if uI e then dB else match(asName o).bind λy=>if gX L y then jz L.N y else Y with
  |some i=>yZ i ((comp M ak n).E L b)<|(comp M ak n).E L e
  |none=>dB
def asS(M:Gm)(ak:Nat->Fn)(n:Nat)(L:Lc)(e:cb):cb->FS
 |.Name x _=>ET M ak n L x e
 |.Tuple a _ _=>tupS M ak n L a e
 |.Attribute o f _=>O7 M ak n L o f e
 |.Subscript o b _=>O8 M ak n L o b e
 |_=>dB
def O9(M:Gm)(ak:Nat->Fn)(n:Nat)(L:Lc)(t:cb)(op:rg)(e:cb):FS:=match(asName t).bind λx=>(jz L.N x).map λi=>(x,i)with
  |some (x,i)=>if op=.Add/\gX L x=O then DJ yW i ((comp M ak n).E L e)else dB
  |none=>dB
def Y_(M:Gm)(ak:Nat->Fn)(n:Nat)(L:Lc)(e:cb):FS:=match rL "append" L.mu e with
  |some (y,a)=>(match jz L.N y with
   |some i=>if gX L y then gS i ((comp M ak n).E L a)else dB
   |none=>dB)
  |none=>if uI e then dB else bM ((comp M ak n).E L e)
def retS(M:Gm)(ak:Nat->Fn)(n:Nat)(L:Lc):Option cb->FS
 |some e=>aq<|(comp M ak n).E L e
 |none=>aq<|cF .non
def O_(M:Gm)(ak:Nat->Fn)(n:Nat)(L:Lc)(b:FS)(tg it:cb):FS:=if isSet it then dB else(match Ma L.N (gX L) tg with
  |some (g,_)=>gT ((comp M ak n).I L tg it) g b
  |none=>dB)
def I_:gL->Option cb
 |.Expr e _=>U e
 |_=>Y
def qt:gL->Option (Str×cb)
 |.Assign ts e _=>(match ts with
  |[t]=>(asName t).map λx=>(x,e)
  |_=>Y)
 |_=>Y
def UN:gL->Option (cb×Fh×Fh)
 |.If c a b _=>U (c,a,b)
 |_=>Y
def ö(M:Gm)(e:cb):Option<|Nat×Nat×cb×Bz:=(rA e).bind λq=>(jm q.1).bind λw=>(M.xt.lookup w.2.1).bind λa=>if q.2.2.1.isEmpty=O/\cV w.1=O/\q.2.1.all noStar=O/\q.2.1.length<29/\(w.2.2.endLine == q.2.2.2.line)=O then U (a.1,a.2,w.1,q.2.1)else Y
def UO(L:Lc)(e:cb):Option<|Str×Bz:=(jn e).bind λq=>if q.2.2.isEmpty=O/\q.2.1.isEmpty=Zn/\rK L q.1=O/\q.2.1.all noStar=O then U (q.1,q.2.1)else Y
def Wm(M:Gm)(L:Lc)(e:cb):Option<|Nat×Bz:=(UO L e).bind λq=>(M.xs.lookup q.1).map λi=>(i,q.2)
def ø(M:Gm)(L:Lc)(e:cb):Option<|Nat×Nat×Bz:=(UO L e).bind λq=>match M.cl.lookup q.1 with
 |U<|.fz c n=>U (c,n,q.2)
 |_=>Y
def xE(M:Gm)(ak:Nat->Fn)(r:Rc)(L:Lc):Nat->cb->Option FE
 |0,_=>Y
 |d+1,e=>match ö M e with
  |some (c,i,o,b)=>U<|kP c (ak i) (r.E L o)<|dX<|b.map λa=>bC<|r.E L a
  |none=>match Wm M L e with
   |some (i,b)=>U<|aj (ak i) []<|dX<|b.map λa=>bC<|r.E L a
   |none=>match ø M L e with
    |some (c,n,b)=>if b.any (λa=>(xE M ak r L d a).isSome)then U (c9 c n<|dX<|b.map λa=>(xE M ak r L d a).getD<|bC<|r.E L a)else Y
    |none=>Y
def isA(nm:Str)(e:cb):Option Str:=(jn e).bind λq=>match q.2.1 with
 |[a,b]=>if q.1=("isinstance" : Str)/\q.2.2.isEmpty=O/\asName a=U nm then asName b else Y
 |_=>Y
def rM(nm:Str):Bz->Option Bi
 |[]=>U []
 |e::es=>(isA nm e).bind λy=>(rM nm es).map (y::·)
def EU:cb->Option Bz
 |.List a _=>U a
 |_=>Y
def Za(x:Str):cb->Option Bz
 |.BinOp a c b _=>if c=.Add/\asName a=U x then EU b else Y
 |_=>Y
def Pa(o:Option cb):Bool:=match o.bind gc with
 |U<|.int n=>decide<|n=3
 |_=>Zn
def Ja(e:cb):Bool:=match gc e with
 |U<|.bool b=>b
 |_=>Zn
def Pb(o:Option cb):Bool:=match o.bind gc with
 |some .none=>O
 |_=>Zn
def EV:cb->Option cb
 |.Subscript o i _=>(match i with
  |.Slice lo a st _=>if lo.isNone=O/\st.isNone=O/\Pa a=O then U o else Y
  |_=>Y)
 |_=>Y
def ù(x:Str):cb->Bool
 |.Compare a c bs _=>(match j3 bs ([]:B1)with
  |some b=>decide (c=[.In])&&Ja a&&decide ((EV b).bind asName=U x)
  |none=>Zn)
 |_=>Zn
def Pc(nm f:Str)(e:cb):Bool:=match jm e with
 |some q=>decide (asName q.1=U nm)&&decide (q.2.1=f)
 |none=>Zn
def ú(M:Gm)(nm f:Str):Fh->Option (Str×Str)
 |[s1,s2,s3,s4]=>(qt s1).bind λq1=>(qt s2).bind λq2=>(qt s3).bind λa=>(UN s4).bind λt=>(j3 t.2.1 t.2.2).bind λs5=>(qt s5).bind λp=>
   (EU q1.2).bind λl1=>(Za q1.1 q2.2).bind λl2=>(Za q1.1 a.2).bind λl3=>(rM nm l1).bind λd=>(rM nm l2).bind λc=>(rM nm l3).bind λb=>
   if(q2.1=q1.1/\a.1=q1.1)/\ù q1.1 t.1=O/\Pc nm f p.2=O/\d++c++b=M.ys then U (q1.1,p.1)else Y
 |_=>Y
def Pd(M:Gm)(ak:Nat->Fn)(n:Nat)(L:Lc):Fh->List zv->Option FS
 |[s],[.ExceptHandler ty nm su _]=>(I_ s).bind λe=>(Wm M L e).bind λq=>(ty.bind asName).bind λy=>nm.bind λnm=>(ú M nm ("row" : Str) su).bind λx=>(jz L.N nm).bind λi=>(jz L.N x.1).bind λj=>(jz L.N x.2).bind λm=>
   if(rK L y=O/\y=M.xm/\rK L ("isinstance" : Str)=O/\M.ys.all (rK L)=O/\M.bl.contains ("isinstance" : Str)=O)/\(gX L x.1=O/\gX L x.2=O/\gX L nm=O)/\L.sc.names.lookup nm=U .local/\j≠i/\m≠i then U (uE (aj (ak q.1) []<|kO<|dX<|q.2.map<|(comp M ak n).E L)<|OW i j m M.kb)else Y
 |_,_=>Y
def UP(M:Gm)(ak:Nat->Fn)(n:Nat)(g:Lc->Fh->FS)(L:Lc):gL->FS
 |.Assign ts e _=>(match ts with
  |[t]=>asS M ak n L e t
  |_=>dB)
 |.AugAssign t j e _=>O9 M ak n L t j e
 |.Expr e _=>Y_ M ak n L e
 |.Return o _=>retS M ak n L o
 |.If c a b _=>aX ((comp M ak n).T L c) (g L a)<|g L b
 |.For i it d f _=>(match f with
  |[]=>O_ M ak n L (g L d) i it
  |_::_=>dB)
 |.While c d f _=>(match f with
  |[]=>jg many ((comp M ak n).T L c)<|g L d
  |_::_=>dB)
 |.Try d h f k _=>(match h,f,k with
  |_::_,[],[]=>(match Pd M ak n L d h with
   |some F=>F
   |none=>dB)
  |_,_,_=>dB)
 |.Pass _=>aF
 |_=>dB
def jo(M:Gm)(ak:Nat->Fn)(n:Nat):Nat->Lc->Fh->FS
 |0,_,_=>dB
 |_+1,_,[]=>aF
 |k+1,L,[st]=>UP M ak n (jo M ak n k) L st
 |k+1,L,st::rest=>ah (UP M ak n (jo M ak n k) L st)<|jo M ak n k L rest
def Pe:gL->Option (cb×Option cb)
 |.Raise e c _=>e.map λe=>(e,c)
 |_=>Y
def Wn(M:Gm)(x:Str):Option<|Nat×Option Str:=((M.xc.map (·.1)).idxOf? x).bind λc=>(M.xc[c]?).map λq=>(c,q.2.1)
def UQ:cb->Option cb
 |.FormattedValue e a sp _=>if a=114/\sp.isNone=O then U e else Y
 |_=>Y
def û:cb->Option cb
 |.JoinedStr l _=>(match l with
  |[a,b]=>(UQ a).bind λe=>(EI b).bind λy=>if y.length<=1000 then U e else Y
  |_=>Y)
 |_=>Y
def ü(M:Gm)(ak:Nat->Fn)(n:Nat)(L:Lc)(e:cb):Option FS:=(UO L e).bind λq=>(Wn M q.1).bind λc=>match c.2 with
 |some _=>U<|EA c.1<|dX<|q.2.map<|(comp M ak n).E L
 |none=>(j3 q.2 ([]:B1)).map λa=>match û a with
  |some b=>wC c.1<|dQ Wj<|(comp M ak n).E L b
  |none=>wC c.1<|(comp M ak n).E L a
def EW:gL->Option cb
 |.Return o _=>o
 |_=>Y
def Mg(M:Gm)(ak:Nat->Fn)(n:Nat)(L:Lc):gL->Option FS
 |.Try b d c f _=>(match d with
  |[.ExceptHandler ty nm su _]=>(j3 b<|c.map λ_=>0).bind λs=>(j3 su<|f.map λ_=>0).bind λt=>(EW s).bind λe=>(Wm M L e).bind λq=>(ty.bind asName).bind λy=>(Pe t).bind λz=>(UO L z.1).bind λw=>(j3 w.2 ([]:B1)).bind λa=>(jm a).bind λat_=>(asName at_.1).bind λv=>
   (Wn M y).bind λc1=>(Wn M w.1).bind λc2=>(jz L.N v).bind λi=>(jz M.P.an at_.2.1).bind λj=>
   if(nm.isNone=O/\Pb z.2=O/\rK L y=O)/\gX L v=O/\c1.2.isNone=O/\c2.2.isSome=O then U (A6 c1.1 c2.1 (aj (ak q.1) []<|kO<|dX<|q.2.map<|(comp M ak n).E L)<|aO M.P.tab j<|vF i)else Y
  |_=>Y)
 |_=>Y
def xD:Nat:=4
def Wo(M:Gm)(ak:Nat->Fn)(n:Nat)(f:Lc->Fh->FS)(L:Lc)(st:gL):FS:=match(Pe st).bind λz=>if z.2.isNone then ü M ak n L z.1 else Y with
 |some F=>F
 |none=>match(I_ st).bind (xE M ak (comp M ak n) L xD)with
 |some fe=>bM fe
 |none=>match(EW st).bind (xE M ak (comp M ak n) L xD)with
 |some fe=>aq fe
 |none=>match(qt st).bind λq=>(xE M ak (comp M ak n) L xD q.2).bind λfe=>(jz L.N q.1).bind λi=>if gX L q.1=O/\L.mu.contains q.1=Zn then U (i,fe)else Y with
 |some (i,fe)=>aD i fe
 |none=>match(I_ st).bind λe=>(rL "append" L.mu e).bind λq=>(xE M ak (comp M ak n) L xD q.2).bind λfe=>(jz L.N q.1).bind λi=>if gX L q.1=O then U (i,fe)else Y with
 |some (i,fe)=>gS i fe
 |none=>match Mg M ak n L st with
 |some F=>F
 |none=>(match st with
   |.If c a b _=>aX (bQ<|(comp M ak n).T L c) (f L a)<|f L b
   |.For j it d h _=>(match h with
    |[]=>if isSet it then dB else(match Ma L.N (gX L) j with
     |some (g,_)=>gT (kO<|(comp M ak n).I L j it) g<|f L d
     |none=>dB)
    |_::_=>dB)
   |.While c d h _=>(match h with
    |[]=>jg many (bQ<|(comp M ak n).T L c)<|f L d
    |_::_=>dB)
   |st=>eg<|UP M ak n (jo M ak n 200) L st)
def uJ(M:Gm)(ak:Nat->Fn)(n:Nat):Nat->Lc->Fh->FS
 |0,_,_=>dB
 |_+1,_,[]=>aF
 |k+1,L,[st]=>Wo M ak n (uJ M ak n k) L st
 |k+1,L,st::rest=>ah (Wo M ak n (uJ M ak n k) L st)<|uJ M ak n k L rest
end D
namespace D
open PySem L2
def EY(K:a_)(mg:Str->D2)(C:bp):Bi->Fm->Prop
 |[],[]=>True
 |y::ys,b::bs=>YR K mg C y b/\EY K mg C ys bs
 |_,_=>False
theorem EY.split{K:a_}{mg:Str->D2}{C:bp}:∀{xs ys:Bi}{bs:Fm},EY K mg C (xs++ys) bs->∃b1 b2,bs=b1++b2/\EY K mg C xs b1/\EY K mg C ys b2
 |[],ys,bs,h=>⟨[],bs,J,trivial,h⟩
 |x::xs,ys,b::bs,h=>by
  obtain⟨b1,b2,e,c,a⟩:=EY.split<|show EY K mg C (xs++ys) bs from h.2;exact⟨b::b1,b2,by rw[e];rfl,⟨h.1,c⟩,a⟩
structure ý(M:Gm)(Pr:cW)(w:c4)(K:a_)(mg:Str->D2)(base:ed)(N:XN):Prop where
 one:∀(c:Nat)x f i,M.xc[c]?=U (x,U f,i)->∃C,N[c]?=U (C,U f)/\Wk K Pr w mg base C f x
 non:∀(c:Nat)x i,M.xc[c]?=U (x,Y,i)->∃C,N[c]?=U (C,Y)/\î K mg C x/\Ak K (.ref C) (.ref C)=U O
 kd:∃CB,mg M.xm=U (.ref CB)/\∀(c:Nat)bs,M.kb[c]?=U bs->∃C,N[c]?=U (C,U ("row" : Str))/\lO K C/\pK K C/\cz K C "row" /\ Ak K (.ref C) (.ref CB)=U O/\EY K mg C M.ys bs/\bs.length<=1000/\QV (.bl O) (qS (bs.map V.bl) Y<|U 3)=O
structure wF(M:Gm)(N:XN)(Pr:cW)(w:c4)(K:a_)(mg:Str->D2)(base:ed)(ak:Nat->Fn)(k:Nat):Prop where
 pg:rl K mg M.P
 cst:∀x t,M.cs.lookup x=U t->yX K mg x t
 fns:∀x ds i,M.fs.lookup x=U (ds,i)->Yy M.P Pr w K mg base k x ds (ak i)
 fz:∀x c n,M.cl.lookup x=U (.fz c n)->Yz M.P Pr w K mg base k c n x
 z0:∀x c,M.cl.lookup x=U (.z0 c)->TY M.P Pr w K mg c x
 cp:∀x c,M.cl.lookup x=U (.cp c)->ê M.P Pr w K mg base k c x
 nw:∀x c i,M.cl.lookup x=U (.nw c i)->æ M.P Pr w K mg base k c x (ak i)
 mts:∀m l c i,M.ms.lookup m=U l->l.lookup c=U i->Wg M.P Pr w K mg base k c m (ak i)
 bl:∀x,x∈M.bl->mg x=Y
 xf:ý M Pr w K mg base N
 xs:∀x i,M.xs.lookup x=U i->UC M.P Pr w K mg base N k x (ak i)
 xt:∀m c i,M.xt.lookup m=U (c,i)->YN M.P Pr w K mg base N k c m (ak i)
structure CxOk(M:Gm)(N:XN)(ak:Nat->Fn)(k:Nat)(L:Lc)(X:Cx):Prop where
 gm:wF M N X.prog X.w X.K X.mg X.base ak k
 N:X.N=L.N
 sc:X.env.scope=L.sc
 calm:X.calm=O
 room:∃j,k+1<=j/\bo j X.A
variable{X:Cx}{a b c e o:cb}{M:Gm}{L:Lc}{es:Bz}{i k:Nat}{ak:Nat->Fn}{d j p pos F:Pos}{K:a_}{r:Rc}{x y:Str}{mg:Str->D2}{N:XN}
def gy{N:Bi}{x:Str}{i:Nat}(h:jz N x=U i):N[i]?=U x:=by
 unfold jz at h;rw[KW,KY]at h;obtain⟨a,b,_⟩:=h;rw[fH a,eq_of_beq b]
def Jb(h:j7 x=Zn):aV x/\fW x:=by
 unfold j7 at h;exact xF.mp h
def eL(C:CxOk M N ak k L X)(h:gX L x=O):Loc X.env.scope x/\lR X.env.scope x/\aV x/\fW x:=by
 rw[C.sc];unfold gX at h;split at h
 .rename_i e
  obtain⟨b,a⟩:=Jb (by simpa using h)
  exact⟨.inl e,.inl e,b,a⟩
 .rename_i e
  obtain⟨b,a⟩:=Jb (by simpa using h)
  exact⟨.inr e,.inr<|.inl e,b,a⟩
 .cases h
def dY(C:CxOk M N ak k L X)(h:rK L x=O):Gl X x/\aV x:=by
 unfold rK at h;rw[bT]at h;obtain⟨b,a⟩:=h;refine⟨?_,(Jb<|by simpa using a).1⟩
 show X.env.scope.names.lookup x=_;rw[C.sc];exact aR b
def BC(M:Gm)(X:Cx)(r:Rc)(L:Lc):Prop:=∀e,PE X e<|tE (M.P.kt X)<|r.E L e
def Zb(M:Gm)(X:Cx)(r:Rc)(L:Lc):Prop:=∀e,PT X e<|tT (M.P.kt X)<|r.T L e
def OkI(M:Gm)(X:Cx)(r:Rc)(L:Lc):Prop:=∀a e,PI X a e<|tI (M.P.kt X)<|r.I L a e
def OkO(M:Gm)(X:Cx)(r:Rc)(L:Lc):Prop:=∀e,PE X e<|tO (M.P.kt X)<|r.O L e
def wG(M:Gm)(N:XN)(ak:Nat->Fn)(k:Nat)(r:Rc):Prop:=∀L X,CxOk M N ak k L X->BC M X r L/\Zb M X r L/\OkI M X r L/\OkO M X r L
theorem fE(a:BC M X r L):∀es:Bz,es.all noStar=O->PA X es (tA (M.P.kt X)<|dX<|es.map<|r.E L)
 |[],_=>ri
 |e::es,h=>by
  rw[d_,bT]at h;exact l_ (a e) (fE a es h.2)<|aw h.1
theorem uK(c:BC M X r L):∀es:Bz,PE X (.BoolOp .And es pos)<|tE (M.P.kt X)<|EJ<|es.map<|r.E L
 |[]=>ba
 |[a]=>DO<|c a
 |a::b::es=>NV (c a)<|uK c<|b::es
theorem zk(c:BC M X r L):∀es:Bz,PE X (.BoolOp .Or es pos)<|tE (M.P.kt X)<|OZ<|es.map<|r.E L
 |[]=>ba
 |[a]=>DO<|c a
 |a::b::es=>S7 (c a)<|zk c<|b::es
def UR:PW X e<|tT (M.P.kt X) pF:=λ_ _ _ _ _ _ _ a=>by obtain⟨_,_,_,_,_,h,_⟩:=a;cases h
theorem uL(c:Zb M X r L):∀es:Bz,PW X (.BoolOp .And es pos)<|tT (M.P.kt X)<|EK<|es.map<|r.T L
 |[]=>UR
 |[a]=>NU<|c a
 |a::b::es=>S5 (c a)<|uL c<|b::es
theorem zm(c:Zb M X r L):∀es:Bz,PW X (.BoolOp .Or es pos)<|tT (M.P.kt X)<|OY<|es.map<|r.T L
 |[]=>UR
 |[a]=>S4<|c a
 |a::b::es=>X_ (c a)<|zm c<|b::es
def cR{α:Type}{l:List<|Str×α}{x:Str}{a:α}(h:l.lookup x=U a):(x,a)∈l:=by
 induction l with
 |nil=>simp at h
 |cons p l c=>
  obtain⟨q,b⟩:=p;rw[i9]at h;split at h
  .rename_i e
   cases h;rw[eq_of_beq e];exact eu ..
  .exact eE _<|c h
theorem wH(C:CxOk M N ak k L X):∀{ys:Bi}{ds:B1},uF M L ys=U ds->ys.length=ds.length/\∀(i d:Nat)(y:Str),ds[i]?=U d->ys[i]?=U y->M.P.cn[d]?=U y/\(M.P.fn[d]?).isSome=O/\Gl X y/\aV y
 |[],ds,h=>by
  cases h;exact⟨J,λi d y h=>by simp at h⟩
 |y::ys,ds,h=>by
  unfold uF at h;split at h
  .rename_i q
   rw[bT]at q;obtain⟨d,c,l⟩:=bh.mp h;obtain⟨m,j,rfl⟩:=cL.mp l;obtain⟨g,f⟩:=wH C j;obtain⟨g1,g2⟩:=dY C q.1;refine⟨by simp[g],λi n e b a=>?_⟩
   cases i with
   |zero=>
    simp at b a;subst b a;refine⟨gy c,?_,g1,g2⟩;have q2:=q.2;rw[c]at q2;exact q2
   |succ i=>exact f i n e (by simpa using b) (by simpa using a)
  .cases h
def j8(C:CxOk M N ak k L X)(h:blt M L x=O):Gl X x/\X.mg x=Y/\aV x:=by
 unfold blt at h;rw[bT]at h;obtain⟨g1,g2⟩:=dY C h.2;exact⟨g1,C.gm.bl x<|B9.mp h.1,g2⟩
def US(C:CxOk M N ak k L X)(h:BC M X r L){q:cb}(j:blt M L ("isinstance" : Str)=O)(e:noStar a=O):PE X (.Call (.Name "isinstance" p) [a,q] [] pos)<|tE (M.P.kt X)<|õ M r L a q:=by
 obtain⟨g,f,_⟩:=j8 C j;cases q with
 |Name y v=>
  show PE X _<|tE (M.P.kt X)<|match um.lookup y with|some ty=>_|none=>_
  split
  .rename_i ty s
   split
   .rename_i q
    rw[bT]at q;obtain⟨g1,g2⟩:=dY C q.2;exact Oc J (cR s) f (C.gm.bl _<|B9.mp q.1) (h a) g g1 e
   .exact ba
  .split
   .rename_i ds b
    obtain⟨i,c⟩:=wH C b
    match ds,i,c with
    |[d],_,c=>
     obtain⟨o,n,m,l⟩:=c 0 d y J J;exact TU C.gm.pg o f (h a) g m e l n
   .exact ba
 |Tuple es t u=>
  show PE X _<|tE (M.P.kt X)<|if es.length<=100 then _ else bO
  split
  .rename_i hl
   split
   .rename_i ds b
    obtain⟨ys,h0,b⟩:=bh.mp b;obtain⟨i,c⟩:=wH C b;exact Uv C.gm.pg h0 i c hl f (h a) g e
   .exact ba
  .exact ba
 |_=>exact ba
def EZ{f:Str}{c:Bz}(h:setArg M L f c=U a):f=("len" : Str)/\blt M L ("set" : Str)=O/\noStar a=O/\∃d i,c=[.Call (.Name "set" d) [a] [] i]:=by
 obtain⟨e,h0,h⟩:=bh.mp h;obtain⟨⟨g,b⟩,k,h⟩:=bh.mp h;obtain⟨⟨q1,q2,j,q4⟩,h⟩:=h_.mp h;cases h;obtain⟨d,i,l⟩:=IF k;exact⟨q1,j,q4,d,i,by rw[(df h0).1,l,q2]⟩
def nN(C:CxOk M N ak k L X){i:Nat}(h:O2 L b=U i):∃y a,b=.Name y a/\X.N[i]?=U y/\lR X.env.scope y/\aV y/\fW y:=by
 cases b<;>try(cases h;done)
 replace h:(if _ then _ else Y)=U i:=h
 split at h
 .rename_i q
  obtain⟨l1,l2,l3,l4⟩:=eL C q;exact⟨_,_,J,by rw[C.N];exact gy h,l2,l3,l4⟩
 .cases h
def Jc(C:CxOk M N ak k L X)(c:BC M X r L){op:kA}(h:eP op b=Zn):PE X (.Compare a [op] [b] pos)<|tE (M.P.kt X)<|uG M r L a op b:=by
 obtain⟨j,n,d⟩:=C.room;unfold uG;split
 .rename_i f i l g
  obtain⟨y,m,rfl,q1,q2,e,q4⟩:=nN C g;exact Uz J d l (c a) q1 q2 e q4
 .exact OC J d (c a) (c b) h
def E1(C:CxOk M N ak k L X)(c:BC M X r L){op:kA}(h:eP op b=Zn):PT X (.Compare a [op] [b] pos)<|tT (M.P.kt X)<|dm<|uG M r L a op b:=by
 obtain⟨j,n,d⟩:=C.room;unfold uG;split
 .rename_i f i l g
  obtain⟨y,m,rfl,q1,q2,e,q4⟩:=nN C g;exact OE J d l (c a) q1 q2 e q4
 .exact IM J d (c a) (c b) h
def Jd(a:X.calm=O):∀p∈UM,Yv X p.1 p.2:=by
 intro p h;rcases bu.mp h with rfl|h
 .exact⟨⟨_,OI,.inl ⟨_,PyProof.Rows.boot_min,A3 a⟩⟩,by decide,by decide⟩
 .exact N_ a p h
def E2(C:CxOk M N ak k L X)(o:BC M X r L)(f:Str)(b:Bz):PE X (.Call (.Name f p) b [] pos)<|tE (M.P.kt X)<|wD M ak r L f b:=by
 obtain⟨j,m,l⟩:=C.room;unfold wD;split
 case isFalse=>exact ba
 rename_i d;have s:=fE o b d;split
 .rename_i ds i t
  split
  case isFalse=>exact ba
  rename_i q;obtain⟨g1,g2⟩:=dY C q;cases b with
  |nil=>exact Iv (C.gm.fns f ds i t) l (eT (fk ..) m) g1 g2
  |cons a b=>exact s_call (C.gm.fns f ds i t) l (eT (fk ..) m) s g1 g2 d
 .split
  .rename_i c n g
   split
   case isFalse=>exact ba
   rename_i q;rw[bT]at q;obtain⟨g1,g2⟩:=dY C q.1;cases b with
   |nil=>cases q.2
   |cons a b=>exact TV (C.gm.fz f c n g) l m s g1 g2 d
  .rename_i c g
   split
   case isFalse=>exact ba
   rename_i q;rw[bT]at q;obtain⟨g1,g2⟩:=dY C q.1;cases b with
   |nil=>exact Of (C.gm.z0 f c g) g1 g2
   |cons a b=>cases q.2
  .rename_i c g
   split
   .rename_i a
    split
    case isFalse=>exact ba
    rename_i q;obtain⟨g1,g2⟩:=dY C q;exact OA (C.gm.cp f c g) l m (o a) g1 g2 (by simpa using d)
   .exact ba
  .rename_i c i g
   split
   case isFalse=>exact ba
   rename_i q;rw[bT]at q;obtain⟨g1,g2⟩:=dY C q.1;cases b with
   |nil=>cases q.2
   |cons a b=>exact Oz (C.gm.nw f c i g) l m s g1 g2 d
  .split
   case isFalse=>exact ba
   rename_i u;obtain⟨g1,g2,g3⟩:=j8 C u;split
   .rename_i a q e
    have e:=eq_of_beq e;subst e;rw[d_,bT]at d;exact US C o u d.1
   .split
    .rename_i a x
     obtain⟨rfl,B,A,E,F,rfl⟩:=EZ x;obtain⟨k1,k2,k3⟩:=j8 C B;exact Er C.calm g2 k2 (o a) g1 k1 A
    .split
     .rename_i i v
      obtain⟨e,h0,h⟩:=bh.mp v;obtain⟨q,z⟩:=h_.mp h
      obtain rfl:=q.1
      obtain⟨y,D,rfl,l1,l2,l3,l4⟩:=nN C z;rw[(df h0).1];exact IJ J l1 l2 l3 l4 g1 g2
     .split
      .rename_i w _ _ _
       exact TN (Jd C.calm (f,_)<|cR w) J g1 g2 s d
      .exact ba
theorem nO{sc:gg}(C:CxOk M N ak k L X)(b:∀x∈frees sc,sc.names.lookup x=U .free/\L.sc.names.lookup x=U .cell):∀{xs:Bi}{js:B1},idxs L.N xs=U js->(∀x∈xs,x∈frees sc)->fL X sc js xs
 |[],js,h,_=>by cases h;exact .nil
 |x::xs,js,h,a=>by
  obtain⟨i,g,f⟩:=bh.mp<|show(jz L.N x).bind _=U js from h;obtain⟨c,e,rfl⟩:=cL.mp f;obtain⟨l,j⟩:=b x<|a x<|eu ..;refine .cons (by rw[C.N];exact gy g) l ?_<|nO C b e λy d=>a y<|eE _ d
  show X.env.scope.names.lookup x=_;rw[C.sc];exact j
def A7{sc:gg}{x:Str}(h:x∈frees sc):(x,NameKind.free)∈sc.names:=by
 unfold frees at h;obtain⟨q,c,a⟩:=B0.mp h;obtain⟨n,b⟩:=q;split at a
 .rename_i e;cases a;have e:b=.free:=e;subst e;exact c
 .cases a
def E3(C:CxOk M N ak k L X)(sc:gg):FD sc X.env=EL sc L.sc:=by
 unfold FD EL Env.kindOf;rw[C.sc]
theorem wI{d:Bi}{ok:Str->Bool}(f:X.N.Nodup)(h:∀x i,ok x=O->jz d x=U i->X.N[i]?=U x/\Loc X.env.scope x/\(X.fn x=O\/X.env.scope.names.lookup x=U .local)):∀{es:Bz}{xs:Bi}{is:B1},namesOf es=U xs->xs.all ok=O->idxs d xs=U is ->
  Ru X es (nF is)/\(hU es X.env).length=is.length/\(hU es X.env).findIdx? (·.1)=Y
 |[],xs,is,a,_,b=>by
  cases a;cases b;exact⟨Hf,J,J⟩
 |e::es,xs,is,a,c,b=>by
  cases e<;>try(cases a;done)
  rename_i x q;obtain⟨p,o,rfl⟩:=cL.mp<|show(namesOf es).map (x::·)=U xs from a
  rw[d_,bT]at c;obtain⟨i,n,m⟩:=bh.mp<|show(jz d x).bind _=U is from b;obtain⟨r,l,rfl⟩:=cL.mp m;obtain⟨g1,g2,g3⟩:=h x i c.1 n;obtain⟨k,j,g⟩:=wI f h o c.2 l;refine⟨CJ (qO f g1 g2 g3) k J,?_,?_⟩
  .show((Zn,_)::hU es X.env).length=_
   rw[eS,j];rfl
  .show List.findIdx? (·.1) ((Zn,_)::hU es X.env)=Y
   rw[List.findIdx?_cons];simp only[g];rfl
def E4{B:KT}(m:B.K=X.K){e:Bi}{ok:Str->Bool}{tg:cb}{g:FG}{is:B1}(l:X.calm=O)(d:X.N.Nodup)(h:∀x i,ok x=O->jz e x=U i->X.N[i]?=U x/\Loc X.env.scope x/\(X.fn x=O\/X.env.scope.names.lookup x=U .local))
  (a:Ma e ok tg=U (g,is)):∃gt,PG X tg gt/\pJ B gt g is:=by
 cases tg<;>try(cases a;done)
 .rename_i x s
  replace a:(if ok x=O then _ else Y)=U (g,is):=a
  split at a
  .rename_i q
   obtain⟨i,c,b⟩:=cL.mp a;cases b;obtain⟨g1,g2,g3⟩:=h x i q c;exact⟨_,qO d g1 g2 g3,yM i⟩
  .cases a
 .rename_i es p r
  replace a:(namesOf es).bind _=U (g,is):=a
  obtain⟨xs,c,b⟩:=bh.mp a;split at b
  .rename_i q
   obtain⟨t,o,n⟩:=cL.mp b;cases n;obtain⟨k,j,f⟩:=wI d h c q o;refine⟨_,CK l k j f,?_⟩;rw[<- m];exact Eh _ J
  .cases b
def Ph{b:Bi}{ok:Str->Bool}{tg:cb}{g:FG}{is:B1}(a:Ma b ok tg=U (g,is)):∀i∈is,i<b.length:=by
 have lt:∀{x i},jz b x=U i->i<b.length:=λh=>(dR.mp<|gy h).1;cases tg<;>try(cases a;done)
 .rename_i x t
  replace a:(if ok x=O then _ else Y)=U (g,is):=a
  split at a
  .obtain⟨i,f,c⟩:=cL.mp a
   cases c;intro j e;rw[kq.mp e];exact lt f
  .cases a
 .rename_i es r s
  replace a:(namesOf es).bind _=U (g,is):=a
  obtain⟨xs,f,c⟩:=bh.mp a;split at c
  .obtain⟨u,q,p⟩:=cL.mp c
   cases p
   have:∀(xs:Bi)(is:B1),idxs b xs=U is->∀i∈is,i<b.length:=by
    intro xs
    induction xs with
    |nil=>intro is h;cases h;intro i l;cases l
    |cons x xs k=>
     intro is h;obtain⟨i,o,n⟩:=bh.mp<|show(jz b x).bind _=U is from h;obtain⟨d,m,rfl⟩:=cL.mp n;intro j e;rcases bu.mp e with z|z
     .rw[z];exact lt o
     .exact k d m j z
   exact this xs _ q
  .cases c
def rN{it:cb}(h:isSet it=Zn):∀x,eH it X.env x=pure x:=λx=>by
 unfold eH;cases it<;>first|rfl|(cases h)
structure Pj(M:Gm)(X:Cx)(r:Rc)(L:Lc)(elt tg iter:cb)(ifs:Bz)(sc:gg)(js:B1)(g:FG)(is:B1):Prop where
 sco:f_ X sc
 fr:fL X sc js<|frees sc
 nd:(locals sc++frees sc).Nodup
 it:PI X tg iter<|tI (M.P.kt X)<|r.I L tg iter
 ex:∃gt,(∀cl C fp s H,PG (X.block (locals sc++frees sc) sc cl C fp s H) tg gt)/\pJ (M.P.kt X) gt g is
 ts:∀cl C fp s H,GW (X.block (locals sc++frees sc) sc cl C fp s H) ifs<|tT (M.P.kt X)<|Mb r (EM L sc) ifs
 el:∀cl C fp s H,PE (X.block (locals sc++frees sc) sc cl C fp s H) elt<|tE (M.P.kt X)<|r.E (EM L sc) elt
 lt:∀i∈is,i<(locals sc).length
 st:∀x,eH iter X.env x=pure x
def zo(R:wG M N ak k r)(C:CxOk M N ak k L X){elt tg d:cb}{j:Bz}{sc:gg}{js:B1}{g:FG}{is:B1}(h:(O0 L sc&&decide ((locals sc++frees sc).Nodup)&&!isSet d&&decide (j.length<=1))=O)(A:idxs L.N (frees sc)=U js)
  (f:Ma (locals sc) (λx=>decide<|sc.names.lookup x=U .local) tg=U (g,is)):Pj M X r L elt tg d j sc js g is:=by
 obtain⟨hE,W,E,Z⟩:=R L X C;simp only[bT,cx,BW]at h;obtain⟨⟨⟨l,u⟩,Q⟩,I⟩:=h;unfold O0 at l;simp only[bT,cx,bF]at l;obtain⟨⟨k1,k2⟩,k3⟩:=l;have z:∀x∈frees sc,sc.names.lookup x=U .free/\L.sc.names.lookup x=U .cell:=λx p=>by
  have:=(k2 _<|A7 p).2 J
  exact this
 have bs:f_ X sc:=⟨k1,λq n=>(k2 q n).1.1,λq n e=>(k2 q n).1.2 e,λq n e=>by
  show X.env.scope.names.lookup q.1=_;rw[C.sc];exact((k2 q n).2 e).2⟩
 have V9:∀cl b a s H,CxOk M N ak k (EM L sc)<|X.block (locals sc++frees sc) sc cl b a s H:=λcl b a s H=>⟨C.gm,J,E3 C sc,C.calm,C.room⟩;refine⟨bs,nO C z A λ_ h=>h,u,E tg d,?_,λcl b a s H=>?_,λcl b a s H=>(R _ _<|V9 cl b a s H).1 elt,Ph f,rN Q⟩
 .-- the target's names are the block's own
  have m:∀cl b a s H,∀x i,decide (sc.names.lookup x=U .local)=O->jz (locals sc) x=U i->(X.block (locals sc++frees sc) sc cl b a s H).N[i]?=U x/\Loc (X.block (locals sc++frees sc) sc cl b a s H).env.scope x/\((X.block (locals sc++frees sc) sc cl b a s H).fn x=O\/(X.block (locals sc++frees sc) sc cl b a s H).env.scope.names.lookup x=U .local):=λcl b a s H x i p D=>by
   have hl:(FD sc X.env).names.lookup x=U .local:=lookup_relabel_local<|aR p;have l:=gy D;refine⟨?_,.inl hl,.inr hl⟩;show(locals sc++frees sc)[i]?=U x;rw[jB (dR.mp l).1];exact l
  cases tg<;>try(cases f;done)
  .rename_i x V
   replace f:(if _ then _ else Y)=U (g,is):=f
   split at f
   .rename_i q
    obtain⟨i,t,o⟩:=cL.mp f;cases o;exact⟨_,λcl b a s H=>by
     obtain⟨g1,g2,g3⟩:=m cl b a s H x i q t;exact qO u g1 g2 g3,yM i⟩
   .cases f
  .rename_i es S T
   replace f:(namesOf es).bind _=U (g,is):=f
   obtain⟨xs,t,o⟩:=bh.mp f;split at o
   .rename_i q
    obtain⟨Zc,G,F⟩:=cL.mp o;cases F;refine⟨MY X.K is.length<|nF is,λcl b a s H=>?_,Eh (B:=M.P.kt X) is J⟩;obtain⟨y,w,v⟩:=wI (X:=X.block (locals sc++frees sc) sc cl b a s H) u (m cl b a s H) t q G;exact CK (X:=X.block (locals sc++frees sc) sc cl b a s H) C.calm y w v
   .cases o
 .match j,I with
  |[],_=>exact T9
  |[c],_=>exact T_<|(R _ _<|V9 cl b a s H).2.1 c
def uM(R:wG M N ak k r)(C:CxOk M N ak k L X)(e:cb):PE X e<|tO (M.P.kt X)<|zh r L e:=by
 cases e<;>first|exact iI|skip
 rename_i elt gs sc p
 match gs with
 |[]=>exact iI
 |_::_::_=>exact iI
 |[⟨tg,iter,ifs,ay⟩]=>
  show PE X _<|tO (M.P.kt X)<|nM r L elt ⟨tg,iter,ifs,ay⟩ sc;unfold nM;split
  case isFalse=>exact iI
  rename_i h;obtain⟨rfl,h⟩:=h;split
  .rename_i f g is b a
   have K:=zo R C (elt:=elt) h b a;obtain⟨gt,d,c⟩:=K.ex;exact Ol (locals sc) C.calm K.sco K.fr K.it d c K.ts K.el K.lt K.st
  .exact iI
def E5(a:BC M X r L):∀e:Option cb,PO X e<|tP (M.P.kt X)<|O1 r L e
 |none=>Tq
 |some e=>Tr<|a e
def Je(h:isSlice e=Zn):lY e:=λo i=>by
 unfold subscripted;cases e<;>first|rfl|(cases h)
def zq{l:List<|Nat×Nat}{m:Str}(C:CxOk M N ak k L X)(h:M.ms.lookup m=U l):∀c f,aY l ak c=U f->Wg M.P X.prog X.w X.K X.mg X.base k c m f:=λc f a=>by
 obtain⟨i,b,rfl⟩:=cL.mp a;exact C.gm.mts m l c i h b
def E6{a:Nat}(c:Const):PE X (.Constant c a pos)<|tE (M.P.kt X)<|EN c:=by
 cases c with
 |int i=>exact jV Cz λ_ _=>J
 |bool b=>exact jV Lm λ_ _=>J
 |none=>exact jV MQ λ_ _=>J
 |str s=>
  show PE X _<|tE _<|if s.length<=1000000 then cF (.str s.cps.toList)else bO
  split
  .rename_i h
   obtain⟨⟨l⟩⟩:=s;exact jV MR λ_ _=>⟨J,by rw[<- fD l];exact h⟩
  .exact ba
 |_=>exact ba
def Jf(C:CxOk M N ak k L X)(x:Str):PE X (.Name x pos)<|tE (M.P.kt X)<|EO M L x:=by
 unfold EO;split
 .rename_i i b
  split
  .rename_i q
   obtain⟨l1,l2,l3,l4⟩:=eL C q;exact yw (by rw[C.N];exact gy b) l2 l3 l4
  .exact ba
 .split
  .rename_i t a
   split
   .rename_i q
    obtain⟨g1,g2⟩:=dY C q;exact Ux (C.gm.cst _ _ a) J g1 g2
   .exact ba
  .exact ba
def UT(a:BC M X r L){i:cb}(h:lY i):PE X (.Subscript o i pos)<|tE (M.P.kt X)<|Y6 r L o i:=Yn J (a _) (a _) h
def Pk(C:CxOk M N ak k L X)(c:BC M X r L)(o:cb)(m:Str)(t:Pos)(b:Bz)(cp:Pos):PE X (.Call (.Attribute o m t) b [] cp)<|tE (M.P.kt X)<|O5 M ak r L o m t b cp:=by
 obtain⟨j,q,p⟩:=C.room;unfold O5;split
 case isFalse=>exact ba
 rename_i h;simp only[bT,cx]at h;obtain⟨⟨⟨n,d⟩,i⟩,f⟩:=h;have s:=fE c b d;split
 .rename_i l hl
  cases b with
  |nil=>exact Iw (zq C hl) p (eT (fk ..) q) (c o)<|yU n d (ee i<|by decide) f
  |cons a b=>exact Od (zq C hl) p (eT (fk ..) q) (c o) s d<|yU n d (ee i<|by decide) f
 .split
  .rename_i g a þ u
   exact Tt (N8 (m,g)<|cR u) J (c o) s n d (by rw[eS]at i;exact Cm (fk ..) i) f
  .split
   .rename_i e
    subst e;exact YM (c o) n f
   .exact ba
  .exact ba
def E7(R:wG M N ak k r)(C:CxOk M N ak k L X)(e:cb):PE X e<|tE (M.P.kt X)<|Mc M ak r L e:=by
 obtain⟨d,u,D,B⟩:=R L X C;cases e with
 |Constant c _ _=>exact E6 c
 |Name x _=>exact Jf C x
 |BinOp a g b _=>exact Th J _ (d _)<|d _
 |UnaryOp g a _=>cases g with
  |USub=>exact Ti J<|d _
  |Not=>exact NW<|d _
  |_=>exact ba
 |BoolOp g es _=>cases g with
  |And=>exact uK d _
  |Or=>exact zk d _
 |Compare a n bs _=>
  match n,bs with
  |[g],[b]=>
   show PE X _<|tE (M.P.kt X)<|if eP g b then bO else uG M r L a g b
   split
   .exact ba
   .rename_i h
    exact Jc C d (by simpa using h)
  |[],_=>exact ba
  |_::_::_,_=>exact ba
  |[_],[]=>exact ba
  |[_],_::_::_=>exact ba
 |IfExp c a b _=>exact S8 (u _) (d _)<|d _
 |Tuple es _ _=>
  show PE X _<|tE (M.P.kt X)<|if es.all noStar then _ else bO
  split
  .rename_i h;exact S2<|fE d _ h
  .exact ba
 |List es _=>
  show PE X _<|tE (M.P.kt X)<|if es.all noStar then _ else bO
  split
  .rename_i h;exact S3<|fE d _ h
  .exact ba
 |Subscript o i _=>
  show PE X _<|tE (M.P.kt X)<|O4 r L o i;cases q:isSlice i with
  |false=>
   rw[show O4 r L o i=Y6 r L o i by cases i<;>first|rfl|cases q]
   exact UT d<|Je q
  |true=>
   cases i<;>try(cases q;done)
   rename_i lo A st _;cases st with
   |none=>exact Yq J (d _) (E5 d _)<|E5 d _
   |some _=>exact ba
 |Attribute o f _=>
  show PE X _<|tE (M.P.kt X)<|if cV o then _ else bO
  split
  .rename_i h
   split
   .rename_i j t
    exact LV C.gm.pg (gy t) (d _) h
   .exact ba
  .exact ba
 |ListComp v gs sc p=>exact DN<|uM R C _
 |Call f l s cp=>
  cases s with
  |cons w z=>exact ba
  |nil=>cases f with
   |Name f _=>exact E2 C d _ _
   |Attribute o m y=>exact Pk C d o m y l cp
   |_=>exact ba
 |_=>exact ba
def E8(R:wG M N ak k r)(C:CxOk M N ak k L X)(e:cb):PT X e<|tT (M.P.kt X)<|stepT M r L e:=by
 obtain⟨g,f,l,j⟩:=R L X C;cases e with
 |BoolOp c es _=>cases c with
  |And=>exact(uL f _).pt
  |Or=>exact(zm f _).pt
 |UnaryOp c a _=>cases c with
  |Not=>exact S6<|f _
  |_=>exact LL (g _) J λi=>J
 |Compare a d bs _=>
  match d,bs with
  |[c],[b]=>
   show PT X _<|tT (M.P.kt X)<|if eP c b then pF else dm (uG M r L a c b)
   split
   .exact ji
   .rename_i h
    exact E1 C g (by simpa using h)
  |[],_=>exact ji
  |_::_::_,_=>exact ji
  |[_],[]=>exact ji
  |[_],_::_::_=>exact ji
 |IfExp _ _ _ _=>exact ji
 |_=>exact LL (g _) J λi=>J
def Jg{e:cb}{a:Bz}(h:zj e=U a):∃p pos,e=.Call (.Name "range" p) a [] pos:=by
 obtain⟨⟨f,as,c⟩,d,b⟩:=bh.mp h;clear h;obtain⟨p,pos,rfl⟩:=eK d;have h:=b;clear b;split at h
 .rename_i q
  obtain⟨rfl,q⟩:=q;cases h;rw[show c=[]from qL.mp q];exact⟨_,_,J⟩
 .cases h
def E9{e a:cb}{n:Int}(h:uH e=U (a,n)):∃p pos,(n=0/\e=.Call (.Name "enumerate" p) [a] [] pos)\/(n=1/\∃k1 d kp,e=.Call (.Name "enumerate" p) [a] [⟨U<|g_ "start",.Constant (.int 1) k1 d,kp⟩] pos):=by
 obtain⟨⟨f,as,i⟩,j,g⟩:=bh.mp h;clear h;obtain⟨p,pos,rfl⟩:=eK j;have h:=g;clear g;split at h
 case isFalse=>cases h
 rename_i q
 replace q:f=("enumerate" : Str):=q
 subst q
 match as,i,h with
 |[a'],[],h=>cases h;exact⟨_,_,.inl ⟨J,J⟩⟩
 |[a'],[⟨an,v,kp⟩],h=>
  dsimp only at h;cases b:gc v with
  |none=>rw[b]at h;cases h
  |some c=>
   rw[b]at h;cases c<;>try(cases h;done)
   obtain⟨k1,d,rfl⟩:=gI b;dsimp only at h;split at h
   .rename_i q;obtain⟨rfl,rfl⟩:=q;cases h;exact⟨_,_,.inr ⟨J,_,_,_,J⟩⟩
   .cases h
def E_(R:wG M N ak k r)(C:CxOk M N ak k L X)(tg e:cb):PI X tg e<|tI (M.P.kt X)<|stepI M r L tg e:=by
 obtain⟨b,q,t,s⟩:=R L X C;unfold stepI;split
 .rename_i f i
  obtain⟨p,pos,rfl⟩:=Jg i;split
  case isFalse=>exact yN
  rename_i h;rw[bT]at h;obtain⟨g1,g2,_⟩:=j8 C h.1;have g:=h.2;split
  .exact Ei g1 g2 (b _) (by simpa using g)
  .exact yN
 .split
  .rename_i a n m
   split
   case isFalse=>exact yN
   rename_i h;simp only[bT]at h;obtain⟨⟨l,j⟩,d⟩:=h;obtain⟨g1,g2,_⟩:=j8 C l;cases tg<;>try(cases j;done)
   obtain⟨p,pos,c|c⟩:=E9 m
   .obtain⟨rfl,rfl⟩:=c
    exact Ur J g1 g2 (b a) d
   .obtain⟨rfl,k1,o,kp,rfl⟩:=c
    exact Us J g1 g2 (b a) d
  .split
   .rename_i h
    cases tg<;>try(cases h;done)
    exact TZ J<|b e
   .exact LX J<|b e
def Fb(R:wG M N ak k r)(C:CxOk M N ak k L X)(e:cb):PE X e<|tO (M.P.kt X)<|Me r L e:=by
 obtain⟨a,b,d,c⟩:=R L X C;cases e with
 |List es _=>
  show PE X _<|tO (M.P.kt X)<|if es.all noStar then _ else jS
  split
  .rename_i h;exact NT<|fE a _ h
  .exact iI
 |_=>exact iI
theorem cy:∀n,wG M N ak k<|comp M ak n
 |0=>λL X C=>⟨λ_=>ba,λ_=>ji,λ_ _=>yN,λ_=>iI⟩
 |n+1=>λL X C=>⟨E7 (cy n) C,E8 (cy n) C,E_ (cy n) C,Fb (cy n) C⟩
structure A8(M:Gm)(N:XN)(ak:Nat->Fn)(k:Nat)(L:Lc)(X:Cx):Prop extends CxOk M N ak k L X where
 fn:∀x,X.fn x=O
 nd:X.N.Nodup
 xe:X.xe=λ_ _=>False
 stk:X.stack=X.env::X.outer
 frm:X.env.frame=U X.env.locals
def jq{t:Option cb}{l:Nat}(h:uI e=Zn):eR e t l X.env=pure Zn:=by
 cases e<;>first|rfl|(cases h)
def Po(C:CxOk M N ak k L X){tp:Pos}{l:Nat}(h:uI e=O->∃elt gs sc p,e=.ListComp elt gs sc p):eR e (U<|.Name x tp) l X.env=pure (ER L x tp e):=by
 cases e<;>first|rfl|skip
 .unfold eR ER Env.blockKind Env.kindOf
  rw[C.sc];rfl
 .obtain⟨_,_,_,_,z⟩:=h J;cases z
 .obtain⟨_,_,_,_,z⟩:=h J;cases z
def passes(C:A8 M N ak k L X):lx (b8 X.prog X.w) X.A X.env X.xe:=by rw[C.xe];exact PassesOwn.never
def Jh(h:ES e=O):∃dp,e=.Dict [] [] dp:=by
 cases e<;>try(cases h;done)
 rename_i b a dp
 match b,a,h with
 |[],[],_=>exact⟨_,J⟩
def Pp(h:uI e=O):ES e=Zn:=by
 cases e<;>first|rfl|(cases h)
def iL{B:KT}{st:gL}{F:FS}(h:∀s,F s=.bad):PS X st<|tS B F:=λ_ _ _ _ _ _ z=>by
 obtain⟨g,s,o,a,_,e,_⟩:=z;rw[h]at e;cases e
def Ji(C:A8 M N ak k L X)(n:Nat)(e:cb):PS X (.Assign [.Name x F] e pos)<|tS (M.P.kt X)<|ET M ak n L x e:=by
 obtain⟨v,A,B,u⟩:=cy (M:=M) (N:=N) (ak:=ak) (k:=k) n L X C.toCxOk;unfold ET;split
 case h_2=>exact c5
 rename_i i t;split
 case isFalse=>exact c5
 rename_i q;obtain⟨l1,l2,l3,l4⟩:=eL C.toCxOk q;have m:X.N[i]?=U x:=by rw[C.N];exact gy t
 have j:X.fn x=O\/X.env.scope.names.lookup x=U .local:=.inl<|C.fn x;by_cases hlc:uI e=Zn
 .split
  .split
   .rename_i hd
    obtain⟨dp,rfl⟩:=Jh hd;exact OF C.nd m l1 j
   .exact Ug C.nd m l1 (u e) (jq hlc) j
  .exact LY C.nd m l1 (v e) (jq hlc) j
 .rw[Pp<|by simpa using hlc,b0 ia]
  cases n with
  |zero=>split<;>exact iL λ_=>J
  |succ n=>
   cases e with
   |ListComp elt gs sc cp=>
    have R:=cy (M:=M) (N:=N) (ak:=ak) (k:=k) n;split
    .exact iL λ_=>J
    show PS X (.Assign [.Name x F] (.ListComp elt gs sc cp) pos)<|tS (M.P.kt X)<|aD i<|iH<|zh (comp M ak n) L<|.ListComp elt gs sc cp;have o:=Po (X:=X) (x:=x) (tp:=F) (l:=pos.line) (e:=.ListComp elt gs sc cp) C.toCxOk λ_=>⟨_,_,_,_,J⟩;cases p:ER L x F (.ListComp elt gs sc cp)with
    |false=>
     rw[p]at o;exact LY C.nd m l1 (DN<|uM R C.toCxOk _) o j
    |true=>
     rw[p]at o
     match gs with
     |[]=>exact iL λ_=>J
     |_::_::_=>exact iL λ_=>J
     |[⟨tg,iter,ifs,ay⟩]=>
      rw[show zh (comp M ak n) L (.ListComp elt [⟨tg,iter,ifs,ay⟩] sc cp)=nM (comp M ak n) L elt ⟨tg,iter,ifs,ay⟩ sc from J];unfold nM;split
      case isFalse=>exact iL λ_=>J
      rename_i h;obtain⟨rfl,h⟩:=h;split
      .rename_i z g is s r
       have K:=zo R C.toCxOk (elt:=elt) h s r;obtain⟨gt,y,w⟩:=K.ex;exact(Oq (locals sc) C.calm C.nd m l1 K.sco K.fr K.it y w K.ts K.el K.lt K.st j o).2
      .exact iL λ_=>J
   |SetComp a b c d=>split<;>exact iL λ_=>J
   |DictComp a b c d f=>split<;>exact iL λ_=>J
   |_=>exact dk J hlc
def zr{nm:Str}{mu:Bi}{e a:cb}{y:Str}(h:rL nm mu e=U (y,a)):noStar a=O/\∃d c cp,e=.Call (.Attribute (.Name y d) nm c) [a] [] cp/\(c.endLine == cp.line)=O:=by
 obtain⟨⟨o,m,b⟩,g,h⟩:=bh.mp h;obtain⟨z,f,h⟩:=bh.mp h;obtain⟨⟨q1,_⟩,h⟩:=h_.mp h;cases h;obtain⟨z,c,cp,k,j⟩:=IG g;obtain⟨d,i⟩:=bq f;exact⟨z,_,_,_,by rw[k,<- q1,<- i],j⟩
def rO{es:Bz}{a:Nat}{tp:Pos}(h:Mf e=O):so [.Tuple es a tp] e X.env=pure Y:=by
 cases e<;>first|rfl|skip
 rename_i b _ _;unfold so;dsimp only;rw[show b.all (foldedForSure 8)=O from h];split
 .rfl
 split
 .rfl
 split
 .rfl
 rfl
def Zd(C:A8 M N ak k L X):∀x i,gX L x=O->jz L.N x=U i->X.N[i]?=U x/\Loc X.env.scope x/\(X.fn x=O\/X.env.scope.names.lookup x=U .local):=λx i b a=>⟨by rw[C.N];exact gy a,(eL C.toCxOk b).1,.inl<|C.fn x⟩
def Jj(C:A8 M N ak k L X)(n:Nat)(es:Bz){a:Nat}{tp:Pos}(e:cb):PS X (.Assign [.Tuple es a tp] e pos)<|tS (M.P.kt X)<|tupS M ak n L es e:=by
 obtain⟨c,i,l,j⟩:=cy (M:=M) (N:=N) (ak:=ak) (k:=k) n L X C.toCxOk;unfold tupS;split
 .exact c5
 .rename_i h
  simp only[BX,not_or,Bool.not_eq_true,Bool.not_eq_eq_eq_not,KG,KI]at h;obtain⟨⟨f,d⟩,m⟩:=h;split
  .rename_i g is b
   obtain⟨gt,q1,q2⟩:=E4 (B:=M.P.kt X) (tg:=.Tuple es a tp) J C.calm C.nd (Zd C) b;exact Uh (c e) q1 q2 (show eR e (U<|.Tuple es a tp) pos.line X.env=pure Zn from jq f) (rO<|by simpa using d) J
  .exact c5
def Fc{f:Str}{a:Pos}{l:Nat}:eR e (U<|.Attribute o f a) l X.env=pure Zn:=by
 cases e<;>rfl
def Jk(C:A8 M N ak k L X)(n:Nat)(o:cb)(f:Str){c:Pos}(e:cb):PS X (.Assign [.Attribute o f c] e pos)<|tS (M.P.kt X)<|O7 M ak n L o f e:=by
 obtain⟨a,d,h,g⟩:=cy (M:=M) (N:=N) (ak:=ak) (k:=k) n L X C.toCxOk;unfold O7;split
 .rename_i j b
  exact Uo C.gm.pg (gy b) (a o) (a e) Fc
 .exact c5
def Jl(C:A8 M N ak k L X)(n:Nat)(o b:cb){sp:Pos}(e:cb):PS X (.Assign [.Subscript o b sp] e pos)<|tS (M.P.kt X)<|O8 M ak n L o b e:=by
 obtain⟨c,p,s,r⟩:=cy (M:=M) (N:=N) (ak:=ak) (k:=k) n L X C.toCxOk;obtain⟨j,m,d⟩:=C.room;unfold O8;split
 .exact c5
 rename_i h;split
 .rename_i i f
  obtain⟨y,g,a⟩:=bh.mp f;obtain⟨l,rfl⟩:=bq g;split at a
  .rename_i q
   obtain⟨l1,l2,l3,l4⟩:=eL C.toCxOk q;exact OG d (c e) (c b) (by rw[C.N];exact gy a) l2 l3 l4<|jq<|by simpa using h
  .cases a
 .exact c5
def Jm(C:A8 M N ak k L X)(n:Nat)(t:cb)(op:rg)(e:cb):PS X (.AugAssign t op e pos)<|tS (M.P.kt X)<|O9 M ak n L t op e:=by
 obtain⟨c,l,o,m⟩:=cy (M:=M) (N:=N) (ak:=ak) (k:=k) n L X C.toCxOk;unfold O9;split
 case h_2=>exact c5
 rename_i x i b;obtain⟨g,f,a⟩:=bh.mp b;obtain⟨j,a,d⟩:=cL.mp a;cases d;obtain⟨h,rfl⟩:=bq f;split
 .rename_i q
  obtain⟨rfl,q⟩:=q;obtain⟨l1,l2,l3,l4⟩:=eL C.toCxOk q;exact Uw C.nd (by rw[C.N];exact gy a) l1 (c _)<|.inl<|C.fn _
 .exact c5
def Pq(C:A8 M N ak k L X)(n:Nat)(e:cb):PS X (.Expr e pos)<|tS (M.P.kt X)<|Y_ M ak n L e:=by
 obtain⟨b,l,o,m⟩:=cy (M:=M) (N:=N) (ak:=ak) (k:=k) n L X C.toCxOk;unfold Y_;split
 .rename_i y a d
  obtain⟨g,j,p,cp,rfl,f⟩:=zr d;split
  .rename_i i c
   split
   .rename_i q
    obtain⟨l1,l2,l3,l4⟩:=eL C.toCxOk q;exact Uj (b a) (by rw[C.N];exact gy c) l2 l3 l4 g f
   .exact c5
  .exact c5
 .split
  .exact c5
  .rename_i h
   exact Ou (b e)<|jq<|by simpa using h
def wJ{st:gL}(h:I_ st=U e):∃p,st=.Expr e p:=by
 cases st<;>first|(cases h;done)|(cases h;exact⟨_,J⟩)
def j9{st:gL}{q}(h:qt st=U q):∃p a,st=.Assign [.Name q.1 p] q.2 a:=by
 cases st<;>try(cases h;done)
 rename_i ts e p
 match ts,h with
 |[t],h=>
  obtain⟨x,b,rfl⟩:=cL.mp<|show(asName t).map _=U q from h;obtain⟨p,rfl⟩:=bq b;exact⟨_,_,J⟩
def Pu{st:gL}{q}(h:UN st=U q):∃p,st=.If q.1 q.2.1 q.2.2 p:=by
 cases st<;>first|(cases h;done)|(cases h;exact⟨_,J⟩)
def ml{q:Str×Bz}(h:UO L e=U q):∃a es p cp,q.2=a::es/\e=.Call (.Name q.1 p) (a::es) [] cp/\rK L q.1=O/\(a::es).all noStar=O:=by
 obtain⟨⟨f,l,i⟩,j,h⟩:=bh.mp h;obtain⟨⟨g,d,c,b⟩,h⟩:=h_.mp h;cases h;obtain⟨p,cp,rfl⟩:=eK j;cases(qL.mp g:i=[]);cases l with
 |nil=>cases d
 |cons a r=>exact⟨a,r,p,cp,J,J,c,b⟩
def wK{q:Nat×Bz}(h:Wm M L e=U q):∃x a es p cp,M.xs.lookup x=U q.1/\q.2=a::es/\e=.Call (.Name x p) (a::es) [] cp/\rK L x=O/\(a::es).all noStar=O:=by
 obtain⟨w,j,h⟩:=bh.mp h;obtain⟨i,g,rfl⟩:=cL.mp h;obtain⟨a,es,p,cp,f,d,c,b⟩:=ml j;exact⟨w.1,a,es,p,cp,g,f,d,c,b⟩
def Pw{z:Nat×Nat×cb×Bz}(h:ö M e=U z):∃m a cp,e=.Call (.Attribute z.2.2.1 m a) z.2.2.2 [] cp/\M.xt.lookup m=U (z.1,z.2.1)/\cV z.2.2.1=O/\z.2.2.2.all noStar=O/\z.2.2.2.length<29/\(a.endLine == cp.line)=O:=by
 obtain⟨⟨g,as,c,cp⟩,i,h⟩:=bh.mp h;obtain⟨w,f,h⟩:=bh.mp h;obtain⟨j,d,h⟩:=bh.mp h;obtain⟨⟨q1,q2,b,q4,q5⟩,h⟩:=h_.mp h;cases h;cases(qL.mp q1:c=[]);exact⟨w.2.1,w.2.2,cp,by rw[kN i,j2 f],d,q2,b,q4,q5⟩
def Px{q:Nat×Nat×Bz}(h:ø M L e=U q):∃x a es p cp,M.cl.lookup x=U (.fz q.1 q.2.1)/\q.2.2=a::es/\e=.Call (.Name x p) (a::es) [] cp/\rK L x=O/\(a::es).all noStar=O:=by
 obtain⟨w,j,h⟩:=bh.mp h;split at h
 .rename_i c n i
  cases h;obtain⟨a,es,p,cp,g,f,d,b⟩:=ml j;exact⟨w.1,a,es,p,cp,i,g,f,d,b⟩
 .cases h
theorem j_{E:XK}{g:cb->FE}(h:∀e,PE X e<|wA (M.P.kt X) N E<|g e):∀es:Bz,es.all noStar=O->PA X es (L8 (M.P.kt X) N E<|dX<|es.map g)
 |[],_=>OL
 |e::es,a=>by
  rw[d_,bT]at a;exact IQ (h e) (j_ h es a.2)<|aw a.1
theorem Mh{E:XK}(C:CxOk M N ak k L X)(t:Passes (qe X.prog X.w) X E)(u:BC M X r L):∀(d:Nat)(e:cb){fe:FE},xE M ak r L d e=U fe->PE X e (wA (M.P.kt X) N E fe)
 |0,_,_,h=>by cases h
 |d+1,e,fe,h=>by
  obtain⟨G,z,s⟩:=C.room;have v:=eT (fk k 1) z;have ok:∀e,PE X e<|wA (M.P.kt X) N E<|bC<|r.E L e:=λe=>UB<|u e;rw[xE]at h;split at h
  .rename_i c i o b l
   cases h;obtain⟨m,H,cp,rfl,F,j,g,B,A⟩:=Pw l;dsimp only at j g B ⊢;have D:=C.gm.xt m c i F;cases b with
   |nil=>exact Ez t D s v (u o)<|yU j J (by decide) A
   |cons a b=>exact IU t D s v (u o) (j_ ok _ g) g<|yU j g (ee B<|by decide) A
  split at h
  .rename_i i b l
   cases h;obtain⟨x,a,es,p,cp,y,rfl,rfl,j,g⟩:=wK l;obtain⟨g1,g2⟩:=dY C j;exact IS t (C.gm.xs x i y) s v (j_ ok _ g) g1 g2 g
  split at h
  .rename_i c n b l
   split at h
   .cases h
    obtain⟨x,a,es,p,cp,y,rfl,rfl,j,g⟩:=Px l;obtain⟨g1,g2⟩:=dY C j;refine OM (C.gm.fz x c n y) s z (j_ (λe=>?_) _ g) g1 g2 g;cases q:xE M ak r L d e with
    |none=>exact ok e
    |some f=>exact Mh C t u d e q
   .cases h
  .cases h
def Jo{nm y:Str}(h:isA nm e=U y):∃p pn d cp,e=.Call (.Name "isinstance" p) [.Name nm pn,.Name y d] [] cp:=by
 obtain⟨⟨f,l,k⟩,n,c⟩:=bh.mp h;clear h;obtain⟨p,cp,rfl⟩:=eK n;dsimp only at c;split at c
 .rename_i a b
  obtain⟨⟨j,i,g⟩,m⟩:=h_.mp c;cases(j:f=_);cases(qL.mp i:k=[]);obtain⟨pn,q⟩:=bq g;obtain⟨d,o⟩:=bq m;exact⟨_,_,_,_,by rw[q,o]⟩
 .cases c
theorem zt{C:bp}{d:Obj}{a:bp}{nm:Str}(Z:pK X.K C)(j:d.cls=.ref C)(m:X.mg "isinstance" = Y)(g:Gl X "isinstance")(k:X.N[i]?=U nm)(f:lR X.env.scope nm)(hd:aV nm)(l:fW nm) :
  ∀{es:Bz}{ys:Bi}{bs:Fm},rM nm es=U ys->EY X.K X.mg C ys bs->(∀y∈ys,Gl X y)->PA X es (L_ i a d bs)
 |[],ys,bs,h,c,_=>by
  cases h;cases bs with
  |nil=>exact OS
  |cons _ _=>cases c
 |e::es,ys,bs,h,c,Q0=>by
  obtain⟨y,q,h⟩:=bh.mp h;obtain⟨ä,o,rfl⟩:=cL.mp h;cases bs with
  |nil=>cases c
  |cons b bs=>
   obtain⟨p,pn,r,cp,rfl⟩:=Jo q;exact IX (OR Z j c.1 m k f hd l g<|Q0 y<|eu ..) (zt Z j m g k f hd l o c.2 λz n=>Q0 z<|eE _ n) J
def lst_inv(h:EU e=U es):∃p,e=.List es p:=by
 cases e<;>first|(cases h;done)|(cases h;exact⟨_,J⟩)
def Fd(h:Za x e=U es):∃p q r,e=.BinOp (.Name x p) .Add (.List es q) r:=by
 cases e<;>try(cases h;done)
 obtain⟨⟨b,a⟩,c⟩:=h_.mp h;obtain⟨p,f⟩:=bq a;obtain⟨q,d⟩:=lst_inv c;exact⟨_,_,_,by rw[f,d,b]⟩
def Py{h:Option cb}(q:Pa h=O):∃k p,h=U (.Constant (.int 3) k p):=by
 unfold Pa at q;split at q
 .rename_i n a
  obtain⟨e,rfl,b⟩:=bh.mp a;obtain⟨k,p,rfl⟩:=gI b;rw[aR q];exact⟨_,_,J⟩
 .cases q
def Pz(q:Ja e=O):∃k p,e=.Constant (.bool O) k p:=by
 unfold Ja at q;split at q
 .rename_i b a
  obtain⟨k,p,rfl⟩:=gI a;subst q;exact⟨_,_,J⟩
 .cases q
def PB{h:Option cb}(q:Pb h=O):∃k p,h=U (.Constant .none k p):=by
 unfold Pb at q;split at q
 .rename_i a
  obtain⟨e,rfl,b⟩:=bh.mp a;obtain⟨k,p,rfl⟩:=gI b;exact⟨_,_,J⟩
 .cases q
def Jp(h:EV e=U o):∃a f d s5,e=.Subscript o (.Slice Y (U<|.Constant (.int 3) a f) Y d) s5:=by
 cases e<;>try(cases h;done)
 rename_i g i s5;cases i<;>try(cases h;done)
 obtain⟨⟨c,a,b⟩,h⟩:=h_.mp h;cases h;obtain⟨k,p,rfl⟩:=Py b;cases(sF.mp c);cases(sF.mp a);exact⟨_,_,_,_,J⟩
def Jq(h:ù x e=O):∃f s1 s2 d j i s5 g,e=.Compare (.Constant (.bool O) f s1) [.In] [.Subscript (.Name x s2) (.Slice Y (U<|.Constant (.int 3) d j) Y i) s5] g:=by
 cases e<;>try(cases h;done)
 rename_i a c bs g
 replace h:(match j3 bs ([]:B1)with|some b=>decide (c=[.In])&&Ja a&&decide ((EV b).bind asName=U x)|none=>Zn)=O:=h
 split at h
 .rename_i b k
  rw[bT,bT,cx,cx]at h;obtain⟨⟨q,p⟩,n⟩:=h;obtain⟨f,s1,rfl⟩:=Pz p;obtain⟨o,m,l⟩:=bh.mp n;obtain⟨d,j,i,s5,rfl⟩:=Jp m;obtain⟨s2,rfl⟩:=bq l;rw[(df k).1,q];exact⟨_,_,_,_,_,_,_,_,J⟩
 .cases h
def Ff{nm f:Str}(h:Pc nm f e=O):∃p q,e=.Attribute (.Name nm p) f q:=by
 unfold Pc at h;split at h
 .rename_i q a
  rw[bT,cx,cx]at h;obtain⟨p,b⟩:=bq h.1;exact⟨p,q.2.2,by rw[j2 a,b,h.2]⟩
 .cases h
def PD{nm f:Str}{su:Fh}{q:Str×Str}(h:ú M nm f su=U q):∃l1 l2 l3 d b a z y x w v q1 q2 u q4 q5 t s r s1 s2 g e s5 p t1 t2 t3 t4 t5 o n,(rM nm l1=U d/\rM nm l2=U b/\rM nm l3=U a/\d++b++a=M.ys) /\
  su=[.Assign [.Name q.1 z] (.List l1 q1) t,.Assign [.Name q.1 y] (.BinOp (.Name q.1 x) .Add (.List l2 q2) u) s,.Assign [.Name q.1 w] (.BinOp (.Name q.1 v) .Add (.List l3 q4) q5) r,
   .If (.Compare (.Constant (.bool O) o s1) [.In] [.Subscript (.Name q.1 s2) (.Slice Y (U<|.Constant (.int 3) n g) Y e) s5] p) [.Assign [.Name q.2 t1] (.Attribute (.Name nm t2) f t3) t4] [] t5]:=by
 rcases su with _|⟨s1,_|⟨s2,_|⟨g,_|⟨e,_|⟨_,_⟩⟩⟩⟩⟩<;>try(cases h;done)
 obtain⟨⟨L,R⟩,F,h⟩:=bh.mp h;obtain⟨⟨K,Q⟩,E,h⟩:=bh.mp h;obtain⟨⟨I,P⟩,D,h⟩:=bh.mp h;obtain⟨⟨c,t1,t2⟩,C,h⟩:=bh.mp h;obtain⟨s5,B,h⟩:=bh.mp h;obtain⟨⟨H,N⟩,A,h⟩:=bh.mp h;obtain⟨l1,k,h⟩:=bh.mp h;obtain⟨l2,j,h⟩:=bh.mp h;obtain⟨l3,i,h⟩:=bh.mp h;obtain⟨d,k1,h⟩:=bh.mp h;obtain⟨b,k2,h⟩:=bh.mp h;obtain⟨a,k3,h⟩:=bh.mp h;obtain⟨⟨⟨w1,w2⟩,w3,w4,w5⟩,h⟩:=h_.mp h;cases h;dsimp only at w1 w2 w3 w4 k j i;subst w1 w2;obtain⟨_,_,rfl⟩:=j9 F;obtain⟨_,_,rfl⟩:=j9 E;obtain⟨_,_,rfl⟩:=j9 D;obtain⟨_,rfl⟩:=Pu C;obtain⟨_,_,G⟩:=j9 A;obtain⟨m,l⟩:=df B;dsimp only at m l ⊢;obtain⟨_,rfl⟩:=lst_inv k;obtain⟨_,_,_,rfl⟩:=Fd j;obtain⟨_,_,_,rfl⟩:=Fd i;obtain⟨_,_,_,_,_,_,_,_,rfl⟩:=Jq w3;obtain⟨_,_,rfl⟩:=Ff w4;rw[m,l,G];exact⟨_,_,_,_,_,_,_,_,_,_,_,_,_,_,_,_,_,_,_,_,_,_,_,_,_,_,_,_,_,_,_,_,⟨k1,k2,k3,w5⟩,J⟩
def Jr(C:A8 M N ak k L X)(n:Nat){b:Fh}{A:List zv}{F:FS}(h:Pd M ak n L b A=U F):PS X (.Try b A [] [] pos)<|tS (M.P.kt X) F:=by
 match b,A,h with
 |[s],[.ExceptHandler ty nm su hp],h=>
  obtain⟨e,h1,h⟩:=bh.mp h;obtain⟨⟨q1,q2⟩,h2,h⟩:=bh.mp h;obtain⟨y,G,h⟩:=bh.mp h;obtain⟨ty',Hv,G⟩:=bh.mp G;obtain⟨ÿ,B,h⟩:=bh.mp h;obtain⟨⟨x,y2⟩,h4,h⟩:=bh.mp h;obtain⟨i,W,h⟩:=bh.mp h;obtain⟨j,Q,h⟩:=bh.mp h;obtain⟨m,I,h⟩:=bh.mp h;obtain⟨⟨⟨w1,w2,w3,w4,w5⟩,⟨w6,w7,w8⟩,w9,v1,v2⟩,h⟩:=h_.mp h;cases h;subst Hv B w2;dsimp only at Q I w6 w7;obtain⟨yp,rfl⟩:=bq G;obtain⟨ep,rfl⟩:=wJ h1;obtain⟨f,a,es,p,cp,k1,k2,rfl,k4,V⟩:=wK h2;cases k2;obtain⟨l1,l2,l3,y1,Z,y3,p1,p2,p3,p4,p5,r1,r2,r3,r4,r5,t1,t2,t3,s1,s2,s3,s4,s5,s6,u1,u2,u3,u4,u5,b1,b2,⟨i1,i2,i3,o⟩,rfl⟩:=PD h4;obtain⟨CB,m1,m2⟩:=C.gm.xf.kd;obtain⟨g1,g2⟩:=dY C.toCxOk k4;obtain⟨g3,g4⟩:=dY C.toCxOk w1;obtain⟨g5,_⟩:=dY C.toCxOk w3;obtain⟨z,w,u,t⟩:=eL C.toCxOk w6;obtain⟨r,ly2,ly3,ly4⟩:=eL C.toCxOk w7;obtain⟨n1,T,S,R⟩:=eL C.toCxOk w8;obtain⟨jr,hj,hr⟩:=C.room;have E:X.N[i]?=U ÿ:=by rw[C.N];exact gy W
  have Ā:X.N[j]?=U x:=by rw[C.N];exact gy Q
  have D:X.N[m]?=U y2:=by rw[C.N];exact gy I
  have H:∀y∈M.ys,Gl X y:=λy l=>(dY C.toCxOk<|bF.mp w4 y l).1;have CN:CxOk M N ak k L X.ph:=⟨C.gm,C.N,C.sc,C.calm,C.room⟩;have hA:=fE (X:=X.ph) (cy (M:=M) (N:=N) (ak:=ak) (k:=k) n L X.ph CN).1 (a::es) V;refine OX C.xe (C.gm.xs f q1 k1) hr (eT (fk ..) hj) hA g1 g2 V m1 g3 g4 C.nd E (dR.mp Ā).1 v1 v2 (by rw[C.sc];exact w9) (λc bs hb=>?_) C.stk C.frm
  obtain⟨ā,e1,e2,e3,e4,e5,q,e7,e8⟩:=m2 c bs hb;refine⟨ā,_,e1,e5,λa d oe ws v c1 c2 c3=>?_⟩;rw[<- o]at q;obtain⟨b12,b3,rfl,q,x3⟩:=q.split;obtain⟨b1,b2,rfl,x1,x2⟩:=q.split;have mi:X.mg "isinstance" = Y:=C.gm.bl _<|B9.mp w5;have g:∀{es:Bz}{ys:Bi}{bs:Fm},rM ÿ es=U ys->EY X.K X.mg ā ys bs->(∀y∈ys,y∈M.ys)->PA (vz X a λ_ _=>False) es (L_ i a oe bs):=λq1 q2 q3=>zt (X:=vz X a λ_ _=>False) e3 c1 mi g5 E T S R q1 q2 λy l=>H y<|q3 y l;exact OT (X:=vz X a λ_ _=>False) e2 e4 c1 c2 c3 (by simpa[Nat.add_assoc]using e7) e8 (g i1 x1 λy l=>by rw[<- o];simp[l]) (g i2 x2 λy l=>by rw[<- o];simp[l]) (g i3 x3 λy l=>by rw[<- o];simp[l])
   C.nd E T S R Ā z w u t (.inl<|C.fn _) D r<|.inl<|C.fn _
def wL(C:A8 M N ak k L X)(n:Nat){l:Lc->Fh->FS}(j:∀r,gz X r<|tS (M.P.kt X)<|l L r)(st:gL):PS X st<|tS (M.P.kt X)<|UP M ak n l L st:=by
 obtain⟨y,q,v,A⟩:=cy (M:=M) (N:=N) (ak:=ak) (k:=k) n L X C.toCxOk;cases st with
 |Assign ts e pos=>
  match ts with
  |[]=>exact c5
  |_::_::_=>exact c5
  |[t]=>cases t with
   |Name x _=>exact Ji C n _
   |Tuple es _ _=>exact Jj C n es e
   |Attribute o f _=>exact Jk C n o f e
   |Subscript o b _=>exact Jl C n o b e
   |_=>exact c5
 |AugAssign t s e pos=>exact Jm C n t s e
 |Expr e pos=>exact Pq C n e
 |Return o pos=>cases o with
  |none=>exact Ot
  |some e=>exact Ui<|y _
 |If c a b pos=>exact YD (q _) (j _)<|j _
 |For p it d i pos=>cases i with
  |cons _ _=>exact c5
  |nil=>
   show PS X _<|tS (M.P.kt X)<|O_ M ak n L (l L d) p it;unfold O_;split
   .exact c5
   .rename_i h
    split
    .rename_i g is u
     obtain⟨gt,q1,q2⟩:=E4 (B:=M.P.kt X) J C.calm C.nd (Zd C) u;exact Uk C.calm (v p it) q1 q2 (j d) (passes C)<|rN<|by simpa using h
    .exact c5
 |While c d i pos=>cases i with
  |cons _ _=>exact c5
  |nil=>exact IA _ (q _) (j _)<|passes C
 |Try d m i z pos=>
  match m,i,z with
  |[],_,_=>exact c5
  |_::_,_::_,_=>exact c5
  |_::_,[],_::_=>exact c5
  |h::m,[],[]=>
   show PS X _<|tS (M.P.kt X)<|match Pd M ak n L d (h::m)with|some F=>F|none=>dB
   split
   .rename_i F w
    exact Jr C n w
   .exact c5
 |Pass _=>exact Oo
 |_=>exact c5
theorem gJ(n:Nat):∀(m:Nat)(L:Lc)(X:Cx),A8 M N ak k L X->∀a,gz X a<|tS (M.P.kt X)<|jo M ak n m L a
 |0,_,_,_,_=>Uc
 |m+1,L,X,C,[]=>Ud
 |m+1,L,X,C,[st]=>Ue<|wL C n (gJ n m L X C) st
 |m+1,L,X,C,st::s2::rest=>Om (wL C n (gJ n m L X C) st)<|gJ n m L X C<|s2::rest
def Fg{st:gL}{z:cb×Option cb}(h:Pe st=U z):∃p,st=.Raise (U z.1) z.2 p:=by
 cases st<;>try(cases h;done)
 obtain⟨e,a,rfl⟩:=cL.mp h;subst a;exact⟨_,J⟩
def zu{st:gL}(h:EW st=U e):∃p,st=.Return (U e) p:=by
 cases st<;>try(cases h;done)
 rename_i o p;cases(show o=U e from h);exact⟨_,J⟩
def rP{q:Nat×Option Str}(h:Wn M x=U q):∃i,M.xc[q.1]?=U (x,q.2,i):=by
 obtain⟨c,d,h⟩:=bh.mp h;obtain⟨⟨e,f,i⟩,b,rfl⟩:=cL.mp h;have a:=gy<|show jz (M.xc.map (·.1)) x=U c from d
 rw[gA,b]at a;cases a;exact⟨i,b⟩
def PF(h:UQ e=U a):∃d,e=.FormattedValue a 114 Y d:=by
 cases e<;>try(cases h;done)
 obtain⟨⟨c,b⟩,h⟩:=h_.mp h;cases h;subst c;cases(sF.mp b);exact⟨_,J⟩
def PH(h:û e=U a):∃y c k2 b p,e=.JoinedStr [.FormattedValue a 114 Y c,.Constant (.str y) k2 b] p/\y.length<=1000:=by
 cases e<;>try(cases h;done)
 rename_i l p;rcases l with _|⟨u,_|⟨v,_|⟨_,_⟩⟩⟩<;>try(cases h;done)
 obtain⟨e,f,h⟩:=bh.mp h;obtain⟨y,d,h⟩:=bh.mp h;obtain⟨z,h⟩:=h_.mp h;cases h;obtain⟨c,rfl⟩:=PF f;obtain⟨k2,b,rfl⟩:=str_inv d;exact⟨_,_,_,_,_,J,z⟩
def Js{t u:T}(h:Wj t=U u):∃l,t=.str l/\u=.str []/\l.length<=1000/\l.all (· < 1114112)=O:=by
 cases t<;>try(cases h;done)
 obtain⟨z,rfl⟩:=bG h;exact⟨_,J,J,z.1,z.2⟩
def PJ{E:XK}(C:CxOk M N ak k L X)(hk:1<=k)(Z:v5 X E)(n:Nat){F:FS}(h:ü M ak n L e=U F):PS X (.Raise (U e) Y pos)<|tX (M.P.kt X) N E F:=by
 obtain⟨A,hT,hI,hO⟩:=cy (M:=M) (N:=N) (ak:=ak) (k:=k) n L X C;obtain⟨jr,hj,R⟩:=C.room;obtain⟨⟨x,l⟩,h1,h⟩:=bh.mp h;obtain⟨⟨c,fo⟩,W,h⟩:=bh.mp h;obtain⟨a,es,p,cp,k1,k2,k3,j⟩:=ml h1;obtain⟨i,B⟩:=rP W;dsimp only at k1 k2 k3 B h;subst k1 k2;obtain⟨g1,g2⟩:=dY C k3;cases fo with
 |some f=>
  cases h;obtain⟨Ca,o,m⟩:=C.gm.xf.one c x f i B;exact EB o Z m (R.mono<|by lia) (fE A _ j) g1 g2 j
 |none=>
  obtain⟨Ca,o,m,_⟩:=C.gm.xf.non c x i B;obtain⟨b,V,rfl⟩:=cL.mp<|show(j3 (a::es) ([]:B1)).map _=U F from h;obtain⟨T,_⟩:=df V;cases T;rw[d_,bT]at j;split
  .rename_i d hd
   obtain⟨y,p2,k2,p3,pp,rfl,K⟩:=PH hd;refine uC o Z m (Es<|A d) (λG H Q z=>?_) g1 g2 J;obtain⟨g,s,t,D,x,h,q⟩:=z;obtain⟨⟨tx,I⟩,q1,h⟩:=ae h;obtain⟨t',q2,h⟩:=ae h;cases h;obtain⟨l,rfl,rfl,q3,q4⟩:=Js<|au q2;refine⟨g,s,_,I,x,q1,λv g1 H1 w r u=>?_⟩;obtain⟨rfl,_⟩:=u;refine⟨_,J,?_,λx=>⟨J,q (SV []) g1 H1 w r ⟨J,i_ _⟩⟩⟩;have hl:(p0 ⟨l.toArray⟩).length<=10*(⟨l.toArray⟩:Str).length+2:=StrLaws.reprText_len ⟨l.toArray⟩ λc S=>by
    have:=bF.mp q4 c (by simpa using S)
    exact ee (aR this) (by decide)
   have e:(⟨l.toArray⟩:Str).length=l.length:=fD l;rw[ez];exact eT (Nat.add_le_add hl K) (by rw[e];omega)
  .refine uC o Z m (A _) (λG H Q z=>?_) g1 g2 j.1
   obtain⟨g,s,t,D,x,h,q⟩:=z;exact⟨g,s,t,D,x,h,λv g1 H1 w r u=>⟨J,q v g1 H1 w r u⟩⟩
def Fi{E:XK}(C:CxOk M N ak k L X)(hk:1<=k)(Z:v5 X E)(hp:∀a,rb (b8 X.prog X.w) (X.A.mark<|U<|.ref a) X.A X.env X.xe)(n:Nat){st:gL}{F:FS}(h:Mg M ak n L st=U F):PS X st<|tX (M.P.kt X) N E F:=by
 obtain⟨jr,hj,m⟩:=C.room;cases st<;>try(cases h;done)
 rename_i z hs W fb tp;rcases hs with _|⟨⟨ty,nm,su,hp'⟩,_|⟨_,_⟩⟩<;>try(cases h;done)
 obtain⟨s,h1,h⟩:=bh.mp h;obtain⟨t,h2,h⟩:=bh.mp h;obtain⟨e,h3,h⟩:=bh.mp h;obtain⟨⟨q1,q2⟩,h4,h⟩:=bh.mp h;obtain⟨y,b,h⟩:=bh.mp h;obtain⟨V,Hv,b⟩:=bh.mp b;obtain⟨⟨z1,z2⟩,h6,h⟩:=bh.mp h;obtain⟨⟨w1,w2⟩,h7,h⟩:=bh.mp h;obtain⟨a,h8,h⟩:=bh.mp h;obtain⟨at_,h9,h⟩:=bh.mp h;obtain⟨v,k1,h⟩:=bh.mp h;obtain⟨⟨c1,f1⟩,k2,h⟩:=bh.mp h;obtain⟨⟨c2,f2⟩,k3,h⟩:=bh.mp h;obtain⟨i,k4,h⟩:=bh.mp h;obtain⟨j,k5,h⟩:=bh.mp h;obtain⟨⟨⟨T,l,S⟩,R,g,d⟩,h⟩:=h_.mp h;cases h;subst Hv;obtain⟨b1,b2⟩:=df h1;obtain⟨b3,b4⟩:=df h2;have b2:W=[]:=Cc.mp b2;have b4:fb=[]:=Cc.mp b4;subst b1 b2 b3 b4;cases(sF.mp T);obtain⟨rp,rfl⟩:=zu h3;obtain⟨f,a',es,p,cp,d1,d2,rfl,d4,d5⟩:=wK h4;cases d2;obtain⟨yp,rfl⟩:=bq b;obtain⟨ñ,rfl⟩:=Fg h6;obtain⟨a2,YS,zp,ð,x,u,r,e4⟩:=ml h7;dsimp only at x u r l g d k3;subst x u;obtain⟨e5,_⟩:=df h8;cases e5;obtain⟨k0,kp,o⟩:=PB l;dsimp only at o ⊢;subst o;obtain⟨vp,e7⟩:=bq k1;have c:=j2 h9;rw[e7]at c;obtain⟨i1,Q⟩:=rP k2;obtain⟨i2,K⟩:=rP k3;cases f1 with
 |some _=>cases g
 |none=>
 cases f2 with
 |none=>cases d
 |some fn=>
 obtain⟨C1,I,H,G⟩:=C.gm.xf.non c1 y i1 Q;obtain⟨C2,D,B⟩:=C.gm.xf.one c2 w1 fn i2 K;obtain⟨g1,g2⟩:=dY C d4;obtain⟨g3,g4⟩:=dY C S;obtain⟨g5,g6⟩:=dY C r;obtain⟨l1,l2,l3,l4⟩:=eL C R;have CN:CxOk M N ak k L X.ph:=⟨C.gm,C.N,C.sc,C.calm,C.room⟩;have hA:=fE (X:=X.ph) (cy (M:=M) (N:=N) (ak:=ak) (k:=k) n L X.ph CN).1 (a'::es) d5;refine OV I D Z hp (C.gm.xs f q1 d1) m (eT (fk ..) hj) (m.mono<|by lia) hA g1 g2 d5 H.at_ G g3 g4 B g5 g6 (λq=>?_) (by rw[c];rfl)
 rw[c];exact LV (X:=vz X q X.xe) C.gm.pg (gy k5) (yw (X:=vz X q X.xe) (by show X.N[i]?=_;rw[C.N];exact gy k4) l2 l3 l4) J
def rQ{E:XK}{st:gL}:PS X st<|tX (M.P.kt X) N E dB:=λ_ _ _ _ _ _ z=>by
 rcases z with⟨_,_,_,_,_,h,_⟩|⟨_,_,_,_,_,_,h,_⟩<;>cases h
def Fj{E:XK}(n:Nat)(K:1<=k)(C:CxOk M N ak k L X)(CS:A8 M N ak k L X.ph)(Z:v5 X E)(G:lx (b8 X.prog X.w) X.A X.env X.xe)(PK:∀a,rb (b8 X.prog X.w) (X.A.mark<|U<|.ref a) X.A X.env X.xe){r:Lc->Fh->FS}(m:∀R,gz X R<|tX (M.P.kt X) N E<|r L R)(st:gL) :
  PS X st<|tX (M.P.kt X) N E<|Wo M ak n r L st:=by
 obtain⟨hE,Q,W,hO⟩:=cy (M:=M) (N:=N) (ak:=ak) (k:=k) n L X C;have l:∀{e fe},xE M ak (comp M ak n) L xD e=U fe->PE X e (wA (M.P.kt X) N E fe):=λ{e fe} q=>Mh C (Sn Z) hE xD e q;have Ă:∀{e fe},xE M ak (comp M ak n) L xD e=U fe->uI e=Zn:=λ{e fe} q=>by
  cases e<;>first|rfl|(cases q)
 have plain:PS X st<|tX (M.P.kt X) N E<|eg<|UP M ak n (jo M ak n 200) L st:=YO λaa s S H D I h=>et (wL CS n (gJ n 200 L X.ph CS) st aa s S H D (I.lJ _) h) (λ_ _ q=>q.gp) λ_ _ z=>z.elim;unfold Wo;split
 .rename_i F h
  obtain⟨⟨e,ca⟩,f,d⟩:=bh.mp h;obtain⟨p,rfl⟩:=Fg f;obtain⟨q,d⟩:=h_.mp d;cases(sF.mp q:ca=Y);exact PJ C K Z n d
 split
 .rename_i fe h
  obtain⟨e,f,d⟩:=bh.mp h;obtain⟨p,rfl⟩:=wJ f;exact OO (l d)<|jq<|Ă d
 split
 .rename_i fe h
  obtain⟨e,f,d⟩:=bh.mp h;obtain⟨p,rfl⟩:=zu f;exact UG<|l d
 split
 .rename_i i fe h
  obtain⟨⟨x,e⟩,f,h⟩:=bh.mp h;obtain⟨v,d,h⟩:=bh.mp h;obtain⟨T,u,h⟩:=bh.mp h;obtain⟨⟨q1,q2⟩,h⟩:=h_.mp h;cases h;obtain⟨p,p',rfl⟩:=j9 f;obtain⟨l1,l2,l3,l4⟩:=eL C q1;exact UE CS.nd (by rw[C.N];exact gy u) l1 (l d) (jq<|Ă d)<|.inl<|CS.fn x
 split
 .rename_i i fe h
  obtain⟨e,f,h⟩:=bh.mp h;obtain⟨⟨y,a⟩,d,h⟩:=bh.mp h;obtain⟨v,u,h⟩:=bh.mp h;obtain⟨T,h4,h⟩:=bh.mp h;obtain⟨q1,h⟩:=h_.mp h;cases h;obtain⟨p,rfl⟩:=wJ f;obtain⟨h5,py,ap,cp,rfl,h6⟩:=zr d;obtain⟨l1,l2,l3,l4⟩:=eL C q1;exact UH (l u) (by rw[C.N];exact gy h4) l2 l3 l4 h5 h6
 split
 .rename_i F h
  exact Fi C K Z PK n h
 .cases st with
  |If c a b pos=>exact YQ (Q _) (m _)<|m _
  |For o it j t pos=>cases t with
   |cons _ _=>exact rQ
   |nil=>
    show PS X _<|tX (M.P.kt X) N E<|if isSet it then dB else match Ma L.N (gX L) o with|some (g,_)=>gT (kO<|(comp M ak n).I L o it) g<|r L j|none=>dB
    split
    .exact rQ
    .rename_i h
     split
     .rename_i g is V
      obtain⟨gt,q1,q2⟩:=E4 (X:=X) (B:=M.P.kt X) J C.calm CS.nd (λx i f d=>Zd CS x i f d) V;exact UI C.calm (W o it) q1 q2 (m j) G<|rN<|by simpa using h
     .exact rQ
  |While c j t pos=>cases t with
   |nil=>exact IV many (Q _) (m _) G
   |cons _ _=>exact rQ
  |_=>exact plain
theorem kc{E:XK}(n:Nat)(c:1<=k)(C:CxOk M N ak k L X)(e:A8 M N ak k L X.ph)(Z:v5 X E)(b:lx (b8 X.prog X.w) X.A X.env X.xe)(d:∀a,rb (b8 X.prog X.w) (X.A.mark<|U<|.ref a) X.A X.env X.xe):∀m f,gz X f<|tX (M.P.kt X) N E<|uJ M ak n m L f
 |0,_=>λ_ _ _ _ _ _ z=>by rcases z with⟨_,_,_,_,_,h,_⟩|⟨_,_,_,_,_,_,h,_⟩<;>cases h
 |m+1,[]=>UD
 |m+1,[st]=>iP<|Fj n c C e Z b d (kc n c C e Z b d m) st
 |m+1,st::s2::rest=>ON (Fj n c C e Z b d (kc n c C e Z b d m) st)<|kc n c C e Z b d m<|s2::rest
abbrev Jt:=List<|Str×Nat
structure Fe where
 cls:Option Str
 x:Str
 qual:Str
 st:gL
 N:Bi
 ps:Bi
 mu:Bi
 sl:Bool
 ds:FK
def noFn:Fn:=λ_ _=>.bad
def PL(b:Bool)(f:Fn):Fn:=if b then aH f else f
def UU(e:Fe):Bool:=e.mu.contains ("raise" : Str)
def uN(M:Gm)(ak:Nat->Fn)(e:Fe):FS:=match UU e with
 |false=>jo M ak 60 200 ⟨e.N,aA e.st,e.mu⟩<|bW e.st
 |true=>uJ M ak 60 200 ⟨e.N,aA e.st,e.mu⟩<|bW e.st
def uO(M:Gm)(ak:Nat->Fn)(e:Fe):Fn:=PL e.sl<|aI e.ps.length e.N.length<|uN M ak e
def gK(M:Gm)(Ft:List Fe):Nat->Nat->Fn
 |0,_=>noFn
 |n+1,i=>match Ft[i]? with
  |some e=>uO M (gK M Ft n) e
  |none=>noFn
section
def qu(K:a_)(x:Str):Option bp:=match mL K en x with
 |U<|U<|.ref a=>U a
 |_=>Y
def fF{x:Str}{a:bp}(h:qu K x=U a):mL K en x=U (U<|.ref a):=by
 unfold qu at h;split at h
 .rename_i e;cases h;exact e
 .cases h
def Ze(K:a_)(C:bp)(m:Str):Option bp:=match eQ K (.ref C) m with
 |U<|U<|.ref a=>U a
 |_=>Y
def Wq(K:a_)(C:bp)(ns:Bi):Bool:=BG K C n6&&BH K C&&BL K C&&decide (eQ K (.ref C) "__setattr__" = U (U<|.builtin "object.__setattr__")) &&
 decide (eQ K (.ref C) "__class__" = U (U<|.builtin "object.__class__"))&&decide (Ai K C (.type "object")=U O)&&ns.all (λf=>decide<|eQ K (.ref C) f=U Y)&&decide ns.Nodup&&decide (ns.length<=100)
def subB(K:a_)(cn:Bi)(C:bp)(l:B1):Bool:=(gk cn.length).all λd=>match cn[d]? with
 |none=>O
 |some n=>(match qu K n with
  |some D=>decide<|mJ K (.ref C) (.ref D)=U (decide<|d∈l)
  |none=>Zn)
def UW(K:a_)(P:Pg):Bool:=(gk P.cn.length).all λc=>match P.cn[c]? with
 |none=>O
 |some n=>(match qu K n,P.fn[c]?,P.sub[c]? with
  |some C,some ns,some l=>Wq K C ns&&subB K P.cn C l
  |_,_,_=>Zn)
def gtB(K:a_):Bool:=decide (xw K (.builtin "object.__class__") "__get__" = U (U<|.builtin "getset_descriptor.__get__"))&&decide (xx K (.builtin "object.__class__")=U O)
def G4(K:a_)(mg:Str->D2):Prop:=∀x o,mL K en x=U o->mg x=o
def PM{h:ed}(X:K.In h)(G:h.Ns en mg):G4 K mg:=λx o e=>by
 cases o with
 |none=>exact PySem.W.mg_none_of X G e
 |some v=>exact PySem.W.mg_of X G e
def qv{P:Pg}(h:UW K P=O){c:Nat}{n:Str}(a:P.cn[c]?=U n):∃C ns l,qu K n=U C/\P.fn[c]?=U ns/\P.sub[c]?=U l/\Wq K C ns=O/\subB K P.cn C l=O:=by
 unfold UW at h
 have:=bF.mp h c<|sH.mpr (dR.mp a).1
 rw[a]at this;dsimp only at this;split at this
 .rename_i C ns l e d b
  rw[bT]at this;exact⟨C,ns,l,e,d,b,this.1,this.2⟩
 .cases this
def nP(g:G4 K mg){n:Str}{C:bp}{ns:Bi}(c:qu K n=U C)(h:Wq K C ns=O):Q5 K mg n ns C:=by
 unfold Wq at h;simp only[bT,cx]at h;obtain⟨⟨⟨⟨⟨⟨⟨⟨p,o⟩,m⟩,l⟩,k⟩,j⟩,i⟩,e⟩,d⟩:=h;have a:=fF c;exact⟨a,g _ _ a,e,d,⟨p,o,m,l⟩,λf b=>show eQ K (.ref C) f=U Y from aR<|bF.mp i f b,k,j⟩
def UX{P:Pg}(g:G4 K mg)(h:UW K P=O)(a:gtB K=O):rl K mg P:=by
 refine⟨λc n ns i b=>?_,λc d n s C D l i b q p o=>?_,?_⟩
 .obtain⟨C,r,l,f,k,_,m,_⟩:=qv h i
  rw[b]at k;cases k;exact⟨C,nP g f m⟩
 .obtain⟨v,r,t,f,_,hl,_,j⟩:=qv h i
  rw[o]at hl;cases hl;have e:=(g _ _<|fF f).symm.trans q;cases e;unfold subB at j
  have:=bF.mp j d<|sH.mpr (dR.mp b).1
  rw[b]at this;dsimp only at this;split at this
  .rename_i u hd
   have e:=(g _ _<|fF hd).symm.trans p;cases e;exact aR this
  .cases this
 .unfold gtB at a
  rw[bT]at a;exact⟨aR a.1,aR a.2⟩
def Ju(K:a_)(e:Fe):Option bp:=match e.cls with
 |none=>qu K e.x
 |some c=>(qu K c).bind λC=>Ze K C e.x
def Mi(K:a_)(e:Fe):Option dy:=(Ju K e).bind λf=>match K.lookup f with
 |some ⟨_,_,.func fd,_⟩=>U fd
 |_=>Y
def Fo(e:Fe)(fd:dy):dy:=Aj e.x e.qual (jN e.st) (bW e.st) (aA e.st) fd.defaults fd.kwdefaults fd.doc fd.pyModule fd.annotations fd.code fd.closureTuple
def ă(e:Fe):Bool:=decide ((aA e.st).kind=.function)&&!(aA e.st).isCoroutine&&!(aA e.st).isGenerator&&decide e.N.Nodup&&decide (e.N.take e.ps.length=e.ps)&&e.ps.all (λx=>decide ((aA e.st).names.lookup x=U .local) ||decide ((aA e.st).names.lookup x=U .cell))&&(aA e.st).names.all (λy=>decide<|y.2≠.free)
def zw:T->ar->Bool
 |.int i,.int j _=>decide<|i=j
 |.str l,.str s _=>decide (s.cps.toList=l)&&decide (l.length<=1000000)
 |.bl b,.bool c=>b == c
 |.non,.none=>O
 |_,_=>Zn
def eA:T->V
 |.int i=>.int i
 |.str l=>SV l
 |.bl b=>.bl b
 |_=>.non
def zx{t:T}{u:ar}(h:zw t u=O):RelV (eA t) u/\∀(B:KT)al H,Rep B al H t<|eA t:=by
 unfold zw at h;split at h
 .have h:=aR h
  subst h;exact⟨⟨_,J⟩,λ_ _ _=>J⟩
 .rename_i l s tk
  rw[bT]at h;have a:=aR h.1;subst a;exact⟨⟨tk,J⟩,λ_ _ _=>⟨J,aR h.2⟩⟩
 .have h:=eq_of_beq h
  subst h;exact⟨J,λ_ _ _=>J⟩
 .exact⟨J,λ_ _ _=>J⟩
 .cases h
def jt:FK->B2->Bool
 |[],[]=>O
 |t::ts,u::us=>zw t u&&jt ts us
 |_,_=>Zn
theorem nQ:∀{ts:FK}{us:B2},jt ts us=O->Vals (ts.map eA) us/\∀(B:KT)al H,aB B al H ts<|ts.map eA
 |[],[],_=>⟨.nil,λ_ _ _=>J⟩
 |t::ts,u::us,h=>by
  rw[jt,bT]at h;obtain⟨a,b⟩:=zx h.1;obtain⟨c,d⟩:=nQ h.2;exact⟨.cons a c,λB al H=>⟨_,_,J,b B al H,d B al H⟩⟩
 |[],_::_,h=>by cases h
 |_::_,[],h=>by cases h
def Zf(K:a_)(ds:FK)(b:ar):Bool:=match ds with
 |[]=>(match b with
  |.none=>O
  |_=>Zn)
 |_::_=>(match b with
  |.ref a=>(match K.lookup a with
   |some ⟨_,_,.seq aG _,_⟩=>jt ds aG.toList
   |_=>Zn)
  |_=>Zn)
def Wr(K:a_)(e:Fe):Bool:=match Ju K e,Mi K e with
 |some f,some fd=>jA K (.ref f)&&Ah K (.ref f)&&BQ K fd.code e.qual&&ă e&&Zf K e.ds fd.defaults
 |_,_=>Zn
def Bn(e:Fe):Prop:=match e.ds with
 |[]=>∀(kV c f:ar)(an:Option bp)(g ct:ar)(b:B2),b.length=e.ps.length->bindArgs (Aj e.x e.qual (jN e.st) (bW e.st) (aA e.st) .none kV c f an g ct) ⟨b,[]⟩=pure (e.ps.zip b)
 |ds=>∀(kV c f:ar)(an:Option bp)(g ct:ar)(s:ag)(a:bp)(o:Obj)(d:B2)(n:Nat)(b:B2),s.heap.get? a=U o->o.data=.seq d.toArray n->d.length=ds.length->(b++d).length=e.ps.length ->
  xp s (Aj e.x e.qual (jN e.st) (bW e.st) (aA e.st) (.ref a) kV c f an g ct) ⟨b,[]⟩ (e.ps.zip<|b++d)
structure nR(K:a_)(e:Fe)(f:bp)(fd:dy):Prop where
 at_:Ju K e=U f
 fn:uv K e.x e.qual e.st f fd
 sc:fm e.N e.ps<|aA e.st
 isf:Ah K (.ref f)=O
 bs:e.ds=[]->∀us:B2,us.length=e.ps.length->bindArgs fd ⟨us,[]⟩=pure (e.ps.zip us)
 bd:∃(gD:B2)(dV:List V),Binds K fd e.ps gD/\Vals dV gD/\∀(B:KT)al H,aB B al H e.ds dV
def nR.bn{e:Fe}{f:bp}{fd:dy}(F:nR K e f fd)(h:e.ds=[]):Binds K fd e.ps []:=.all<|F.bs h
theorem qw:∀{ts:FK}{us:B2},jt ts us=O->us.length=ts.length
 |[],[],_=>J
 |t::ts,u::us,h=>by
  rw[jt,bT]at h;simp[qw h.2]
 |[],_::_,h=>by cases h
 |_::_,[],h=>by cases h
def UY{e:Fe}(h:Wr K e=O)(q:Mi K e=(Mi K e).map (Fo e))(b:Bn e):∃f fd,nR K e f fd:=by
 unfold Wr at h;split at h
 case h_2=>cases h
 rename_i f fd p i;simp only[bT]at h;obtain⟨⟨⟨⟨I,G⟩,E⟩,n⟩,c⟩:=h;rw[i]at q;injection q with q
 have l:∃j od k,K.lookup f=U ⟨j,od,.func fd,k⟩:=by
  unfold Mi at i;rw[p]at i;dsimp only[e9]at i;split at i
  .rename_i j od L k e
   cases i;exact⟨j,od,k,e⟩
  .cases i
 obtain⟨j,od,k,l⟩:=l;have F:uv K e.x e.qual e.st f fd:=⟨⟨j,od,fd.defaults,fd.kwdefaults,fd.doc,fd.pyModule,fd.annotations,fd.code,fd.closureTuple,k,q,l,E⟩,I⟩;have bs:e.ds=[]->∀g:B2,g.length=e.ps.length->bindArgs fd ⟨g,[]⟩=pure (e.ps.zip g):=λh g hl=>by
  unfold Bn at b;rw[h]at b c;unfold Zf at c;dsimp only at b c;split at c
  .rename_i hd
   rw[q];unfold Fo;rw[hd];exact b _ _ _ _ _ _ g hl
  .cases c
 have bd:∃(r:B2)(t:List V),Binds K fd e.ps r/\Vals t r/\∀(B:KT)al H,aB B al H e.ds t:=by
  cases o:e.ds with
  |nil=>exact⟨[],[],.all<|bs o,.nil,λ_ _ _=>J⟩
  |cons d ds=>
   unfold Bn at b;rw[o]at b c;unfold Zf at c;dsimp only at b c;split at c
   case h_2=>cases c
   rename_i a hd;split at c
   case h_2=>cases c
   rename_i z w aG A N m;obtain⟨v,u⟩:=nQ c;refine⟨aG.toList,_,λs g M hl=>?_,v,λB al H=>u B al H⟩;rw[q];unfold Fo;rw[hd];exact b _ _ _ _ _ _ s a _ aG.toList A g (M _ _ m) J (qw c) hl
 refine⟨f,fd,p,F,?_,G,bs,bd⟩;unfold ă at n;simp only[bT,cx]at n;obtain⟨⟨⟨⟨⟨⟨g1,g2⟩,g3⟩,g4⟩,g5⟩,g6⟩,g7⟩:=n;refine⟨g1,by simpa using g2,by simpa using g3,g4,g5,λx D=>?_,λy C=>aR<|bF.mp g7 y C⟩
 have:=bF.mp g6 x D
 rw[BX]at this;exact this.imp aR aR
end
section
variable{Ft:List Fe}{It:Jt}
def Zg(e:Fe):Bool:=e.N.all λx=>(decide ((aA e.st).names.lookup x=U .local) ||decide ((aA e.st).names.lookup x=U .cell))&&!j7 x
def Mj{e:Fe}(h:Zg e=O):∀(i:Nat)(x:Str),e.N[i]?=U x->lR (aA e.st) x/\aV x/\fW x:=λi x a=>by
 have:=bF.mp h x<|gB a
 rw[bT,BX]at this;refine⟨this.1.elim (λh=>.inl<|aR h) λh=>.inr<|.inl<|aR h,Jb<|by simpa using this.2⟩
def Ą(K:a_)(C f:bp):Bool:=BI K C&&decide (eQ K (.ref C) "__init__" = U (U<|.ref f))&&jA K (.ref C)
def Fp(K:a_)(M:Gm)(Ft:List Fe)(It:Jt)(c:Nat)(x:Str)(t:Bi->Fe->Bool):Bool:=match M.P.cn[c]?,M.P.fn[c]?,(It.lookup x).bind λi=>Ft[i]? with
 |some n,some ns,some e=>decide (n=x)&&(match qu K x,Ju K e with
  |some C,some f=>Ą K C f&&e.ds.isEmpty&&t ns e
  |_,_=>Zn)
 |_,_,_=>Zn
def ą(n:Nat)(ns:Bi)(e:Fe):Bool:=Zg e&&nG e.N 1 (bW e.st) ns&&decide (e.ps.length=ns.length+1)&&decide (ns.length=n)
def Ć(K:a_)(ns:Bi)(e:Fe):Bool:=Zg e&&decide (e.ps.length=2)&&decide (mL K en "list" = U Y)&&decide ((aA e.st).names.lookup ("list" : Str)=U .globalImplicit)&&(match bW e.st with
 |[Ut]=>(match rF Ut with
  |some (a,n,q)=>decide (ns=[n])&&decide (e.N[0]?=U a)&&decide (e.N[1]?=U q)
  |none=>Zn)
 |_=>Zn)
def Ws(K:a_)(M:Gm)(Ft:List Fe)(It:Jt)(x:Str):Ck->Bool
 |.fz c n=>Fp K M Ft It c x<|ą n
 |.z0 c=>(match M.P.cn[c]?,qu K x with
  |some n,some C=>decide (n=x)&&BI K C&&decide (eQ K (.ref C) "__init__" = U (U<|.builtin "object.__init__"))&&jA K (.ref C)
  |_,_=>Zn)
 |.cp c=>Fp K M Ft It c x<|Ć K
 |.nw c i=>decide (It.lookup x=U i)&&Fp K M Ft It c x λ_ _=>O
def Zh:FK->FK->Bool
 |[],[]=>O
 |[.int i],[.int j]=>decide<|i=j
 |_,_=>Zn
def zy{a b:FK}(h:Zh a b=O):a=b:=by
 unfold Zh at h;split at h
 .rfl
 .rw[aR h]
 .cases h
def UZ(K:a_)(Ft:List Fe)(p:Str×FK×Nat):Bool:=match Ft[p.2.2]? with
 |some e=>decide (e.cls=Y)&&decide (e.x=p.1)&&Zh p.2.1 e.ds
 |none=>Zn
def U0(K:a_)(M:Gm)(Ft:List Fe)(m:Str)(p:Nat×Nat):Bool:=match M.P.cn[p.1]?,M.P.fn[p.1]?,Ft[p.2]? with
 |some n,some ns,some e=>(match qu K n,Ju K e with
  |some C,some f=>decide (eQ K (.ref C) m=U (U<|.ref f))&&e.ds.isEmpty&&!ns.contains m
  |_,_=>Zn)
 |_,_,_=>Zn
def Zi(K:a_)(C:bp):Bool:=decide (eQ K (.ref C) "__getattribute__" = U (U<|.builtin "BaseException.__getattribute__"))&&decide (eQ K (.ref C) "__getattr__" = U Y)&&decide (eQ K (.ref C) "__class__" = U (U<|.builtin "object.__class__"))&&decide (Ai K C (.type "BaseException")=U O)&&decide (Ai K C (.type "object")=U O) &&
 decide (eQ K (.ref C) "__setattr__" = U (U<|.builtin "object.__setattr__"))&&BH K C&&(PySem.W.clsIn K C).any (λa=>yh a.mro)&&jA K (.ref C)
def ć(K:a_)(C:bp)(f:Str):Bool:=decide<|eQ K (.ref C) f=U Y
def Ĉ(K:a_)(C:bp)(y:Str):Bool:=match qu K y with
 |some D=>decide<|Ak K (.ref C) (.ref D)=U O
 |none=>Zn
def PN(s f p:Str)(st:gL):Bool:=match yQ st with
 |some (a,b,e)=>decide (a=s)&&decide (b=f)&&decide (asName e=U p)
 |none=>Zn
def un{α:Type}:List α->Option (α×List α)
 |[]=>Y
 |a::r=>U (a,r)
def vM{α:Type}{l:List α}{p}(h:un l=U p):l=p.1::p.2:=by
 cases l<;>cases h;rfl
def l2{α:Type}(l:List α):Option<|α×α:=(un l).bind λp=>(un p.2).bind λq=>if q.2.isEmpty=O then U (p.1,q.1)else Y
def PQ{α:Type}{l:List α}{p}(h:l2 l=U p):l=[p.1,p.2]:=by
 obtain⟨a,d,h⟩:=bh.mp h;obtain⟨b,c,h⟩:=bh.mp h;obtain⟨z,h⟩:=h_.mp h;cases h;rw[vM d,vM c,qL.mp z]
def ĉ(f:Str)(e:Fe):Bool:=(j3 (bW e.st) ([]:B1)).any λb=>(l2 e.ps).any λs=>decide (e.N=[s.1,s.2])&&PN s.1 f s.2 b&&!j7 s.1&&!j7 s.2&&e.ds.isEmpty
def U1(K:a_)(Ft:List Fe)(C:bp)(f:Str)(i:Nat):Bool:=match Ft[i]? with
 |some e=>(match Ju K e with
  |some a=>Du K C a&&ĉ f e
  |none=>Zn)
 |none=>Zn
def PR(K:a_)(Ft:List Fe)(q:Str×Option Str×Nat):Bool:=match qu K q.1 with
 |some C=>(match q.2.1 with
  |some f=>Zi K C&&ć K C f&&U1 K Ft C f q.2.2
  |none=>Kq K C Ny "ValueError.__new__" && decide (Ak K (.ref C) (.ref C)=U O))
 |none=>Zn
def A9(K:a_)(M:Gm):XN:=M.xc.map λq=>((qu K q.1).getD 0,q.2.1)
def Zj(K:a_)(C:bp)(y:Str):Option Bool:=if j7 y then Y else match mL K en y with
 |U<|U<|.ref D=>mJ K (.ref C)<|.ref D
 |some none=>if y=("ValueError" : Str)then mJ K (.ref C) (.type "ValueError")else Y
 |_=>Y
def PU(K:a_)(C:bp):Bi->Option Fm
 |[]=>U []
 |y::ys=>(Zj K C y).bind λb=>(PU K C ys).map (b::·)
def Zk(K:a_)(M:Gm)(c:Nat)(bs:Fm):Bool:=match M.xc[c]? with
 |some q=>decide (q.2.1=U ("row" : Str))&&(match qu K q.1 with
  |some C=>decide (PU K C M.ys=U bs)&&Ĉ K C M.xm&&decide (bs.length<=1000)&&QV (.bl O) (qS (bs.map V.bl) Y<|U 3)
  |none=>Zn)
 |none=>Zn
def Ċ(K:a_)(M:Gm):Bool:=(gk M.kb.length).all λc=>match M.kb[c]? with
 |some bs=>Zk K M c bs
 |none=>Zn
def Jv(Ft:List Fe)(i:Nat):Bool:=match Ft[i]? with
 |some e=>UU e
 |none=>Zn
def U3(K:a_)(M:Gm)(Ft:List Fe):Bool:=M.xc.all (PR K Ft)&&Ċ K M&&(qu K M.xm).isSome&&M.xs.all (λp=>UZ K Ft (p.1,[],p.2)&&Jv Ft p.2)&&M.xt.all λp=>U0 K M Ft p.1 p.2&&Jv Ft p.2.2
def PV(K:a_)(M:Gm)(Ft:List Fe)(It:Jt):Bool:=UW K M.P&&gtB K&&Ft.all (Wr K)&&M.fs.all (UZ K Ft)&&M.cl.all (λp=>Ws K M Ft It p.1 p.2)&&M.ms.all (λp=>p.2.all<|U0 K M Ft p.1)&&M.bl.all (λx=>decide<|mL K en x=U Y)&&U3 K M Ft
structure ModOk(K:a_)(M:Gm)(Ft:List Fe)(It:Jt):Prop where
 b:PV K M Ft It=O
 q:Ft.map (Mi K)=Ft.map λe=>(Mi K e).map<|Fo e
 bn:∀e∈Ft,Bn e
theorem Fq{α c:Type}{f g:α->c}:∀{l:List α},l.map f=l.map g->∀a∈l,f a=g a
 |[],_,a,h=>by simp at h
 |b::l,e,a,h=>by
  rw[eF,eF]at e;injection e with e1 e2
  rcases bu.mp h with rfl|h
  .exact e1
  .exact Fq e2 a h
def ModOk.split(n:ModOk K M Ft It):UW K M.P=O/\gtB K=O/\(∀e∈Ft,Wr K e=O)/\(∀p∈M.fs,UZ K Ft p=O)/\(∀p∈M.cl,Ws K M Ft It p.1 p.2=O)/\(∀p∈M.ms,∀q∈p.2,U0 K M Ft p.1 q=O)/\(∀x∈M.bl,mL K en x=U Y)/\U3 K M Ft=O:=by
 have h:=n.b;unfold PV at h;simp only[bT]at h;obtain⟨⟨⟨⟨⟨⟨⟨m,l⟩,k⟩,j⟩,i⟩,g⟩,f⟩,d⟩:=h;exact⟨m,l,bF.mp k,bF.mp j,bF.mp i,λp c=>bF.mp<|bF.mp g p c,λx a=>aR<|bF.mp f x a,d⟩
def ModOk.fe(a:ModOk K M Ft It){e:Fe}(h:e∈Ft):∃f fd,nR K e f fd:=UY (a.split.2.2.1 e h) (Fq a.q e h)<|a.bn e h
def Jw{B:KT}{P:cW}{w:c4}{base:ed}{k:Nat}{f:bp}{fd:dy}{ps:Bi}:bV P w K mg base ig k f fd ps<|oX B noFn:=
 ⟨by rintro a H Q E ⟨_,_,_,_,_,_,_,h,_⟩;exact(by cases h),by rintro _ _ _ _ _ _ _ _ _ _ _ _ _ ⟨_,_,_,_,_,_,_,h,_⟩;exact(by cases h)⟩
def wM(g:G4 K mg)(u:ModOk K M Ft It){c:Nat}{x:Str}{t:Bi->Fe->Bool}(h:Fp K M Ft It c x t=O):∃C ns e i f fd,M.P.cn[c]?=U x/\M.P.fn[c]?=U ns/\It.lookup x=U i/\Ft[i]?=U e/\nR K e f fd/\Mk K C f/\Q5 K mg x ns C/\t ns e=O/\e.ds=[]:=by
 unfold Fp at h;split at h
 case h_2=>cases h
 rename_i n ns e k j p;obtain⟨i,o,d⟩:=bh.mp p;rw[bT]at h;obtain⟨a,h⟩:=h;have a:=aR a;subst a;split at h
 case h_2=>cases h
 rename_i C f b m;rw[bT]at h;obtain⟨q,fd,F⟩:=u.fe<|gB d
 have:=F.at_.symm.trans m
 cases this;obtain⟨s,r,l,g1,g2,_,g3,_⟩:=qv u.split.1 k;rw[b]at g1;cases g1;rw[j]at g2;cases g2;unfold Ą at h;simp only[bT,cx]at h;exact⟨C,ns,e,i,_,fd,k,j,o,d,F,⟨h.1.1.1.1,h.1.1.1.2,F.isf,h.1.1.2⟩,nP g b g3,h.2,qL.mp h.1.2⟩
def A_{α:Type}{l:List<|Nat×α}{x:Nat}{a:α}(h:l.lookup x=U a):(x,a)∈l:=by
 induction l with
 |nil=>simp at h
 |cons p l c=>
  obtain⟨q,b⟩:=p;rw[i9]at h;split at h
  .rename_i e
   cases h;rw[eq_of_beq e];exact eu ..
  .exact eE _<|c h
variable{Pr:cW}{w:c4}{base:ed}
def Q5.Ba{P:Pg}{c:Nat}{x:Str}{ns:Bi}{C:bp}(F:Q5 K mg x ns C)(b:P.cn[c]?=U x)(a:P.fn[c]?=U ns):gH (gv P K Pr w) c C ns:=⟨x,b,a,F.nd,F.at_⟩
def Fu{st:gL}{a b c:Str}(h:PN a b c st=O):∃j i f g,st=.Assign [.Attribute (.Name a j) b i] (.Name c f) g:=by
 unfold PN at h;split at h
 .rename_i x y e d
  simp only[bT,cx]at h;obtain⟨⟨rfl,rfl⟩,k⟩:=h;obtain⟨f,rfl⟩:=bq k;obtain⟨_,_,_,d⟩:=rB d;exact⟨_,_,_,_,d⟩
 .cases h
def Fv{C:bp}{e:Fe}{f:bp}{fd:dy}{xf:Str}(F:nR K e f fd)(Z:lO K C)(n:cz K C xf)(h:ĉ xf e=O):bV Pr w K mg base ig 1 f fd e.ps (By C xf)/\XG Pr w K mg base f fd e.ps (By C xf)/\e.ps.length=2/\e.ds=[]:=by
 obtain⟨a,g,h⟩:=BO h;obtain⟨⟨s,p⟩,d,h⟩:=BO h;have g:=(df g).1;have d:=PQ d;dsimp only at d h;simp only[bT,cx,BW]at h;obtain⟨⟨⟨⟨T,S⟩,y⟩,v⟩,R⟩:=h;obtain⟨_,_,_,_,o⟩:=Fu S;have sc:=F.sc;rw[T,d]at sc;rw[d];have i:∀x∈[s,p],lR (aA e.st) x:=λx P=>(sc.par x P).elim .inl λz=>.inr<|.inl z;have go:∀{b:List V}{H:Hp}{Q:VK}{E:XK},By C xf b H Q E->b.length=2/\∃c,L2.start [s,p] b=c.map U/\By C xf c H (λ_ l=>Q .non l) λ_ _ _=>False:=λ{b H Q E} q=>by
  obtain⟨a,u,L,I,rfl,z⟩:=q;exact⟨J,[.ref a,u],J,a,u,L,I,J,z⟩
 refine⟨F.fn.ok (N:=[s,p]) sc (λb H Q E G=>(go G).1) λk A outer sh H b Q E hr h=>?_,λA outer sh H B us b Q hd e0 j r hl h=>?_,J,qL.mp R⟩
 .rw[g,o]
  obtain⟨_,c,q1,q2⟩:=go h;exact⟨_,Dq (X:=(ie ig Pr w K mg base [s,p] e.qual (aA e.st) f k A outer sh H E).ph) Z n J (i s<|by simp) (i p<|by simp) (Jb y)<|Jb v,c,q1,q2⟩
 .obtain⟨oc,od,dV,kV,doc,pm,an,k,ct,mZ,rfl,M,W⟩:=F.fn.ex
  obtain⟨_,c,q1,q2⟩:=go h;refine HM M W sc hd e0 j r hl (t:=λD m H=>∃b,m=b.map U/\By C xf b H (λ_ l=>D.nx m l) λ_ _ _=>False) ?_ ⟨c,q1,q2⟩;rw[g,o];exact Dq (X:={ie ig Pr w K mg base [s,p] e.qual (aA e.st) f k A outer sh H (λ_ _ _=>False)with calm:=Zn,xe:=λ_ _=>False}) Z n J (i s<|by simp) (i p<|by simp) (Jb y)<|Jb v
def U5(g:G4 K mg){C:bp}{y:Str}{b:Bool}(h:Zj K C y=U b):YR K mg C y b:=by
 unfold Zj at h;split at h
 .cases h
 rename_i hd;refine⟨(Jb<|by simpa using hd).1,?_⟩
 split at h
 .rename_i D a
  exact .inl ⟨D,g _ _ a,h⟩
 .rename_i a
  split at h
  .rename_i e
   subst e;exact .inr ⟨"ValueError",g _ _ a,PyProof.Rows.Boot.«ValueError»,by decide,h⟩
  .cases h
 .cases h
theorem Fw(g:G4 K mg){C:bp}:∀{ys:Bi}{bs:Fm},PU K C ys=U bs->EY K mg C ys bs
 |[],bs,h=>by cases h;trivial
 |y::ys,bs,h=>by
  obtain⟨b,c,h⟩:=bh.mp h;obtain⟨d,a,rfl⟩:=cL.mp h;exact⟨U5 g c,Fw g a⟩
def U6{C:bp}(gt:gtB K=O)(h:Zi K C=O):lO K C/\pK K C/\jA K (.ref C)=O:=by
 unfold Zi at h;simp only[bT,cx]at h;obtain⟨⟨⟨⟨⟨⟨⟨⟨a1,a2⟩,a3⟩,a6⟩,a7⟩,a8⟩,c⟩,b⟩,a⟩:=h;unfold gtB at gt;simp only[bT,cx]at gt;exact⟨⟨a1,a2,a8,c,b⟩,⟨a1,a2,a3,gt.1,gt.2,a6,a7⟩,a⟩
def Fx{c:Nat}{x:Str}{f:Option Str}{i:Nat}{C:bp}(h:M.xc[c]?=U (x,f,i))(a:qu K x=U C):(A9 K M)[c]?=U (C,f):=by
 unfold A9;rw[gA,h];show U ((qu K x).getD 0,f)=_;rw[a];rfl
def PX(g:G4 K mg)(E:ModOk K M Ft It):ý M Pr w K mg base<|A9 K M:=by
 obtain⟨_,gt,_,_,_,_,_,h⟩:=E.split;unfold U3 at h;simp only[bT,bF]at h;obtain⟨⟨⟨⟨o,n⟩,m⟩,A⟩,z⟩:=h;have one:∀{x f i},(x,U f,i)∈M.xc->∃C,qu K x=U C/\lO K C/\pK K C/\cz K C f/\Wk K Pr w mg base C f x:=λ{x f i} r=>by
  have q:=o _ r;unfold PR at q;split at q
  case h_2=>cases q
  rename_i C a;dsimp only at q a;rw[bT,bT]at q;obtain⟨⟨q1,q2⟩,b⟩:=q;obtain⟨es,j,kp⟩:=U6 gt q1;have na:cz K C f:=by unfold cz;unfold ć at q2;exact decide_eq_true_eq.mp q2
  unfold U1 at b;split at b
  case h_2=>cases b
  rename_i e t;split at b
  case h_2=>cases b
  rename_i v s;rw[bT]at b;obtain⟨B,fd,F⟩:=E.fe<|gB t;cases F.at_.symm.trans s;obtain⟨m1,m2,m3,m4⟩:=Fv (Pr:=Pr) (w:=w) (mg:=mg) (base:=base) F es na b.2;exact⟨C,a,es,j,na,⟨v,fd,e.ps,b.1,F.isf,m1,m2,m3,F.bn m4⟩,kp,g _ _<|fF a⟩
 refine⟨λc x f i h=>?_,λc x i h=>?_,?_⟩
 .obtain⟨C,a,_,_,_,q⟩:=one<|gB h
  exact⟨C,Fx h a,q⟩
 .have q:=o _<|gB h
  unfold PR at q;split at q
  case h_2=>cases q
  rename_i C a;dsimp only at q a;rw[bT]at q;exact⟨C,Fx h a,⟨q.1,g _ _<|fF a⟩,aR q.2⟩
 .cases d:qu K M.xm with
  |none=>rw[d]at m;cases m
  |some y=>
  refine⟨y,g _ _<|fF d,λc bs l=>?_⟩;unfold Ċ at n;have q:=bF.mp n c<|sH.mpr (dR.mp l).1;rw[l]at q
  replace q:Zk K M c bs=O:=q
  unfold Zk at q;split at q
  case h_2=>cases q
  rename_i w k;obtain⟨x,u,i⟩:=w;rw[bT]at q;have e:u=U ("row" : Str):=aR q.1;subst e;have q:=q.2;split at q
  case h_2=>cases q
  rename_i C a;dsimp only at a;simp only[bT,cx]at q;obtain⟨⟨⟨q1,q2⟩,b⟩,q4⟩:=q;obtain⟨D,p,es,j,na,_⟩:=one<|gB k;rw[a]at p;cases p;unfold Ĉ at q2;rw[d]at q2;exact⟨C,Fx k a,es,j,na,aR q2,Fw g q1,b,q4⟩
def uP{e:Fe}{f:bp}{fd:dy}{ak:Nat->Fn}{k:Nat}{N:XN}(F:nR K e f fd)(G:wF M N Pr w K mg base ak k)(d:1<=k)(c:UU e=O):bV Pr w K mg base (qe Pr w) (k+2) f fd e.ps<|sf (gv M.P K Pr w) N<|uO M ak e:=by
 have a:bV Pr w K mg base (qe Pr w) (k+2) f fd e.ps<|sf (gv M.P K Pr w) N<|aI e.ps.length e.N.length<|uN M ak e:=by
  unfold uN;rw[c];refine IW F.fn F.sc λg A outer s H E b Z=>?_;exact kc 60 d ⟨G,J,J,J,k+1,dS _,b⟩ ⟨⟨G,J,J,J,k+1,dS _,b⟩,λ_=>J,F.sc.nd,J,J,J⟩ Z PassesOwn.leaving (λ_=>PassesOwnAt.leaving) 200<|bW e.st
 unfold uO PL;split
 .exact EC a
 .exact a
def Jx{e:Fe}{f:bp}{fd:dy}{ak:Nat->Fn}{k:Nat}{N:XN}(F:nR K e f fd)(G:wF M N Pr w K mg base ak k)(d:1<=k):bV Pr w K mg base ig (k+2) f fd e.ps<|oX (gv M.P K Pr w)<|uO M ak e:=by
 cases b:UU e with
 |true=>exact OP<|uP F G d b
 |false=>
 have a:bV Pr w K mg base ig (k+2) f fd e.ps<|oX (gv M.P K Pr w)<|aI e.ps.length e.N.length<|uN M ak e:=by
  refine Ow F.fn F.sc λg A outer s H E c=>?_;unfold uN;rw[b];exact gJ 60 200 ⟨e.N,aA e.st,e.mu⟩ (ie ig Pr w K mg base e.N e.qual (aA e.st) f g A outer s H E).ph ⟨⟨G,J,J,J,k+1,dS _,c⟩,λ_=>J,F.sc.nd,J,J,J⟩<|bW e.st
 unfold uO PL;split
 .exact IB a
 .exact a
def zE{n:Nat}{i:Nat}{e:Fe}{f:bp}{fd:dy}{N:XN}(F:nR K e f fd)(he:Ft[i]?=U e)(h:∀m,n=m+1->wF M N Pr w K mg base (gK M Ft m) (2*m+1)):bV Pr w K mg base ig (2*n+1) f fd e.ps<|oX (gv M.P K Pr w)<|gK M Ft n i:=by
 cases n with
 |zero=>exact Jw
 |succ m=>
  have:=Jx F (h m J)<|xQ ..
  unfold gK;rw[he];exact this
def uQ{n:Nat}{i:Nat}{e:Fe}{f:bp}{fd:dy}{N:XN}(F:nR K e f fd)(he:Ft[i]?=U e)(a:UU e=O)(h:∀m,n=m+1->wF M N Pr w K mg base (gK M Ft m) (2*m+1)):bV Pr w K mg base (qe Pr w) (2*n+1) f fd e.ps<|sf (gv M.P K Pr w) N<|gK M Ft n i:=by
 cases n with
 |zero=>exact⟨λb H Q E z=>(by rcases z with⟨_,_,_,_,_,_,_,h,_⟩|⟨_,_,_,_,_,_,_,_,h,_⟩<;>cases h),λ_ _ _ _ _ _ _ _ _ _ _ _ _ z=>(by rcases z with⟨_,_,_,_,_,_,_,h,_⟩|⟨_,_,_,_,_,_,_,_,h,_⟩<;>cases h)⟩
 |succ m=>
  have:=uP F (h m J) (xQ ..) a
  unfold gK;rw[he];exact this
def PY(g:G4 K mg)(ql:ModOk K M Ft It)(X:∀x t,M.cs.lookup x=U t->yX K mg x t):∀n,wF M (A9 K M) Pr w K mg base (gK M Ft n)<|2*n+1:=by
 intro n
 induction n using Nat.strongRecOn with
 |ind n B=>
 have call:∀{i:Nat}{e:Fe}{f:bp}{fd:dy},nR K e f fd->Ft[i]?=U e->bV Pr w K mg base ig (2*n+1) f fd e.ps (oX (gv M.P K Pr w)<|gK M Ft n i):=λF d=>zE F d λm E=>B m (by lia)
 obtain⟨r,T,o3,S,p,R,Q,o⟩:=ql.split;have pg:=UX g r T;refine⟨pg,X,λx ds i h=>?_,λx c k h=>?_,λx c h=>?_,λx c h=>?_,λx c i h=>?_,λm l c i v u=>?_,λx h=>g x Y<|Q x h,PX g ql,λx i h=>?_,λm c i h=>?_⟩
 .have q:=S _<|cR h
  unfold UZ at q;dsimp only at q;split at q
  case h_2=>cases q
  rename_i e d;rw[bT,bT]at q;obtain⟨⟨q2,a⟩,q1⟩:=q;have q2:=aR q2;have a:=aR a;subst a;obtain⟨f,fd,F⟩:=ql.fe<|gB d;have j:=F.at_;unfold Ju at j;rw[q2]at j;obtain⟨gD,dV,b1,b2,b3⟩:=F.bd;exact⟨f,fd,e.ps,gD,dV,call F d,g _ _<|fF j,F.fn.kp,b1,b2,λal H=>zy q1▸b3 _ al H⟩
 .obtain⟨C,ns,e,i,f,fd,c1,c2,y,D,F,m,cl,q,q9⟩:=wM g ql<|p _<|cR h
  unfold ą at q;simp only[bT,cx]at q;obtain⟨⟨⟨q1,q2⟩,a⟩,q4⟩:=q;exact⟨C,f,fd,e.ps,ns,cl.Ba c1 c2,q4,cl.gl,m,II F.fn F.sc (Mj q1) q2 a cl.cl cl.na cl.nd cl.G0,F.bn q9⟩
 .have q:=p _<|cR h
  unfold Ws at q;dsimp only at q;split at q
  case h_2=>cases q
  rename_i s C v u;simp only[bT,cx]at q;obtain⟨⟨⟨q1,q2⟩,a⟩,q4⟩:=q;subst q1;obtain⟨G,ns,l,g1,g2,_,g3,_⟩:=qv r v;rw[u]at g1;cases g1;have cl:=nP g u g3;exact⟨C,ns,cl.Ba v g2,cl.gl,q2,a,q4⟩
 .obtain⟨C,ns,e,i,f,fd,c1,c2,y,D,F,m,cl,q,q9⟩:=wM g ql<|p _<|cR h
  unfold Ć at q;simp only[bT,cx]at q;obtain⟨⟨⟨⟨q1,q2⟩,a⟩,q4⟩,q5⟩:=q;split at q5
  case h_2=>cases q5
  rename_i Ut Z;split at q5
  case h_2=>cases q5
  rename_i s0 s q' W;simp only[bT,cx]at q5;obtain⟨⟨N,L⟩,I⟩:=q5;subst N;exact⟨C,f,fd,e.ps,s,cl.Ba c1 c2,cl.gl,m,El F.fn F.sc Z W L I (Mj q1) (g _ _ a) q4 q2 cl.cl<|cl.na _<|eu ..,F.bn q9⟩
 .have q:=p _<|cR h
  unfold Ws at q;dsimp only at q;rw[bT]at q;obtain⟨A,q⟩:=q;have A:=aR A;obtain⟨C,ns,e,i',f,fd,c1,c2,y,D,F,m,cl,_,q9⟩:=wM g ql q;rw[A]at y;cases y;exact⟨C,f,fd,e.ps,ns,cl.Ba c1 c2,cl.gl,m,call F D,F.bn q9⟩
 .have q:=R _ (cR v) (c,i)<|A_ u
  unfold U0 at q;dsimp only at q;split at q
  case h_2=>cases q
  rename_i s ns e d1 d2 d3;split at q
  case h_2=>cases q
  rename_i C f d4 d5;rw[bT,bT]at q;obtain⟨⟨q1,q9⟩,q2⟩:=q;obtain⟨G,DK,V,g1,g2,_,g3,_⟩:=qv r d1;rw[d4]at g1;cases g1;rw[d2]at g2;cases g2;have cl:=nP g d4 g3;obtain⟨f',fd,F⟩:=ql.fe<|gB d3
  have:=F.at_.symm.trans d5
  cases this;exact⟨C,_,fd,e.ps,ns,cl.Ba d1 d2,cl.cl,⟨aR q1,F.isf,F.fn.kp⟩,call F d3,F.bn<|qL.mp q9,λz=>by rw[B9.mpr z]at q2;cases q2⟩
 .unfold U3 at o
  simp only[bT,bF]at o;obtain⟨q,b⟩:=o.1.2 _<|cR h;unfold UZ at q;dsimp only at q;split at q
  case h_2=>cases q
  rename_i e d;rw[bT,bT]at q;obtain⟨⟨q2,a⟩,q1⟩:=q;have q2:=aR q2;have a:=aR a;subst a;obtain⟨f,fd,F⟩:=ql.fe<|gB d;have j:=F.at_;unfold Ju at j;rw[q2]at j;unfold Jv at b;dsimp only at b;rw[d]at b;exact⟨f,fd,e.ps,uQ F d b λm E=>B m<|by lia,g _ _<|fF j,F.fn.kp,F.bn (zy q1).symm⟩
 .unfold U3 at o
  simp only[bT,bF]at o;obtain⟨q,b⟩:=o.2 _<|cR h;unfold Jv at b;dsimp only at b;unfold U0 at q;dsimp only at q;split at q
  case h_2=>cases q
  rename_i s ns e d1 d2 d3;split at q
  case h_2=>cases q
  rename_i C f d4 d5;rw[bT,bT]at q;obtain⟨⟨q1,q9⟩,q2⟩:=q;obtain⟨G,DK,V,g1,g2,_,g3,_⟩:=qv r d1;rw[d4]at g1;cases g1;rw[d2]at g2;cases g2;have cl:=nP g d4 g3;obtain⟨f',fd,F⟩:=ql.fe<|gB d3
  have:=F.at_.symm.trans d5
  cases this;rw[d3]at b;exact⟨C,_,fd,e.ps,ns,cl.Ba d1 d2,cl.cl,⟨aR q1,F.isf,F.fn.kp⟩,uQ F d3 b λm E=>B m<|by lia,F.bn<|qL.mp q9,λz=>by rw[B9.mpr z]at q2;cases q2⟩
end
section
variable{Ft:List Fe}{It:Jt}
def Jy(K:a_)(p:Str×T):Bool:=match mL K en p.1 with
 |U<|U u=>(match p.2,u with
  |.tup ts,.ref a=>(match K.lookup a with
   |some ⟨.type c,_,.seq aG _,_⟩=>decide (c = "tuple")&&decide (aG.size<=cq)&&jt ts aG.toList
   |_=>Zn)
  |t,u=>zw t u)
 |_=>Zn
def PZ(g:G4 K mg){x:Str}{t:T}(h:Jy K (x,t)=O):yX K mg x t:=by
 unfold Jy at h;dsimp only at h;split at h
 case h_2=>cases h
 rename_i u f;have e:=g _ _ f;split at h
 .rename_i ts a
  split at h
  .rename_i c od aG n sl hl
   simp only[bT,cx]at h;obtain⟨⟨l,k⟩,j⟩:=h;subst l;obtain⟨d,b⟩:=nQ j;exact⟨_,.ref a,e,J,λB al H i=>⟨a,ts.map eA,J,.inr ⟨_,aG,n,i▸hl,J,J,k,d⟩,b B al H⟩⟩
  .cases h
 .obtain⟨d,b⟩:=zx h
  exact⟨u,eA t,e,d,λB al H _=>b B al H⟩
structure Fy(K:a_)(M:Gm)(Ft:List Fe)(It:Jt):Prop extends ModOk K M Ft It where
 cs:M.cs.all (Jy K)=O
variable{Pr:cW}{w:c4}{base:ed}
def Jz(g:G4 K mg)(a:Fy K M Ft It)(n:Nat):wF M (A9 K M) Pr w K mg base (gK M Ft n)<|2*n+1:=PY g a.toModOk (λx t h=>PZ g<|bF.mp a.cs _<|cR h) n
def JA{B:KT}{f:Fn}{k:Nat}(ns:Ee)(h:∃m',f [.scr ns] []=.ok (.bl O,m')){H:Hp}{a:bp}(d:Np H)(c:dM B.K H a<|ns.map V.int):oX B f [.ref a] H (λv _=>v=.bl O) λ_ _ _=>False:=by
 obtain⟨m',h⟩:=h;refine⟨⟨H,λ_=>Y,[]⟩,[.scr ns],[],_,m',⟨λ_ _ e=>e,λb p e=>(by cases e),J,λk ob e=>(by simp at e)⟩,⟨_,_,J,⟨a,J,c⟩,J⟩,h,λv g i _ _ r=>r⟩
end
def U7{l:PySem.W.OpenLaw}{m n:Nat}{q:cW}{loose:Bi}{XP:(Str->D2)->ed->Prop}{YP:c4->ed->Prop}{d:DefRec}{K:ma->a_}{M:Gm}{Ft:List Fe}{It:Jt}{i:Nat}{e:Fe}
  (hn:l.most=U m) (y:m<=cq) (C:d.params.defaults=[]) (X:bo (2*n+1) th) (hY:∀(w:c4)(h:ed),YP w h->(K w.params).In h)
  (he:Ft[i]?=U e) (A:e.ps=[("_law_script" : Str)]) (S:e.x=d.name) (Bx:e.cls=Y) (R:e.ds=[]) (ql:∀P,Fy (K P) M Ft It) (hT:∀ns:Ee,ns.length<=m->(∀i∈ns,i.natAbs.log2<1048577)->∃m',gK M Ft n i [.scr ns] []=.ok (.bl O,m')) :
  PySem.W.WalkO q loose XP YP l.row.toRowW d [] λf vs=>PySem.call f vs:=by
 intro w s₀ c mg mb G qr fa o pm cd doc dV kV ho hd fZ E B hg L vals as Hy Zl V W_ hlo
 obtain rfl:dV=.none:=Kr.none E C
 obtain rfl:kV=.none:=Kr.noKw E
 obtain⟨a,vs,ns,rfl,rfl,Zm,j,I⟩:=Att.AF hn Hy W_;have t:∀i∈ns,i.natAbs.log2<1048577:=λi hi=>by
  have h1:=PySem.W.layableW_item (PySem.W.layableW_arg Zl _<|kq.mpr J) (.int i)<|iw.mpr ⟨i,hi,J⟩;have p:=PyData.bits_of_layable<|PyProof.Rows.Da.lay0_int<|PySem.W.layable_int h1;unfold hV at p;split at p
  .rename_i z
   rw[show i=0 from aR z];decide
  .exact ee p (by decide)
 refine PySem.W.enter_call<|fA (?_:hQ (b8 l.prog w) th (.call (.ref fa) ⟨[.ref a],[]⟩) (λr v=>r=.ok (.ret<|.bool O)/\OldK c.heap v.heap/\v.os=c.os/\PyProof.Rows.AllBare v.gens) c) λr v Z=>?_
 .have Q:=hY w _ qr
  have g:=PM Q G.T.g;obtain⟨f,fd,F⟩:=(ql w.params).fe<|gB he;have D:=F.at_;unfold Ju at D;rw[Bx]at D;have ea:=(g _ _<|fF D).symm.trans<|S▸B;cases ea;refine Dd (k:=2*n+1) (fd:=fd) (x:=("_law_script" : Str)) (CX:=ig) (sp:=oX (gv M.P (K w.params) l.prog w)<|gK M Ft n i) Q G.T.g G.T.b G.T.builtins G.T.nolimit hg Zm j (eT I y) X (λbase KB GB=>?_) (λs u=>?_) (λH hO hS=>JA (k:=0) ns (hT ns I t) hO hS) λ_ _ _ z=>z
  .have:=zE (N:=A9 (K w.params) M) (Pr:=l.prog) (w:=w) (base:=base) (mg:=mg) F he (n:=n) λm y=>Jz g (ql w.params) m
   rw[A]at this;exact this
  .have:=F.bs R [u] (by rw[A];rfl)
   rw[A]at this;exact .of_eq this
 .obtain⟨rfl,p,h3,h4⟩:=Z
  exact⟨.inl ⟨.bool O,.bool O,[],J,λ_=>J,.bool O,Att.AG l _,λ_=>⟨List.Pairwise.nil,λ_ y=>(nomatch y)⟩⟩,p,h3,h4⟩
end D
namespace D
def JB{α b:Type}(a:α)(f:α->Res b):Res.bind (.ok a) f=f a:=J
def mw{α b:Type}{a:α}{f:α->Res b}{r:Res b}(h:f a=r):Res.bind (.ok a) f=r:=h
def U8{α:Type}(a:α):dG (U a)=.ok a:=J
section
variable{a b:FS}{s s':S}{r:Res<|Out×S}{t:T}{c:FT}{d n:Nat}{ts:FK}{m m':FV}{e:FE}
def seq1(h:a s=.ok (.nx,s'))(k:b s'=r):ah a b s=r:=by unfold ah;rw[h];exact k
def Fz(h:a s=.ok (.rt t,s')):ah a b s=.ok (.rt t,s'):=by unfold ah;rw[h];rfl
def Ml(h:c s=.ok (O,s'))(k:a s'=r):aX c a b s=r:=by unfold aX;rw[h];exact k
def zF(h:c s=.ok (Zn,s'))(k:b s'=r):aX c a b s=r:=by unfold aX;rw[h];exact k
def kg(h:e s=.ok (t,s')):aq e s=.ok (.rt t,s'):=by unfold aq;rw[h];rfl
def gY(h:ts.length=d)(k:b ⟨ts.map (λt=>U<|.val t)++dN (n-ts.length) Y,m⟩=.ok (.rt t,s'))(a:s'.m=m'):aI d n b ts m=.ok (t,m'):=by
 unfold aI;rw[b7 h,k,<- a];rfl
def U9(h:ts.length=d)(k:b ⟨ts.map (λt=>U<|.val t)++dN (n-ts.length) Y,m⟩=.ok (.nx,s'))(a:s'.m=m'):aI d n b ts m=.ok (.non,m'):=by
 unfold aI;rw[b7 h,k,<- a];rfl
def eW{g:Fn}(h:aN ts=O)(k:g ts []=.ok (t,m'))(a:noOwn t=O):aH g ts m=.ok (t,m):=by
 unfold aH;rw[b7 h,k];exact b7 a
def zG{g:Fn}{ds:FK}{fl:FL}(h:fl s=.ok (ts,s'))(k:g (ts++ds) s'.m=.ok (t,m')):aj g ds fl s=.ok (t,⟨s'.r,m'⟩):=by
 unfold aj;rw[h];show(match g (ts++ds) s'.m with|.ok q=>_|.bad=>_|.exc c fs s'=>_)=_;rw[k]
end
def U_{g:Nat->Option Fn}{o:FE}{fl:FL}{k:Nat}{ob:Ob}{f:Fn}{ts:FK}{t:T}{s s1 s2:S}{m':FV}(h:o s=.ok (.own k,s1))(a:s1.m[k]?=U ob)(b:g ob.c=U f)(e:fl s1=.ok (ts,s2))(d:f (.own k::ts) s2.m=.ok (t,m')) :
  bx g o fl s=.ok (t,⟨s2.r,m'⟩):=by
 unfold bx;rw[h];show Res.bind (dG<|(s1.m[k]?).bind λob=>g ob.c) _=_;rw[a];show Res.bind (dG<|g ob.c) _=_;rw[b];refine Eq.trans (JB f _) ?_;exact zG (ts:=.own k::ts) (s':=s2) (by rw[e];rfl) (by rw[bz];exact d)
def my{α:Type}{p:Prop}[Decidable p]{x:α}(h:p):gd p x=U x:=b7 h
def ev:(∀t s,cF t s=.ok (t,s))/\(∀g a s,dQ g a s=(a s).bind λp=>(dG<|g p.1).bind λt=>.ok (t,p.2))/\(∀g a b s,dD g a b s=(a s).bind λp=>(b p.2).bind λq=>(dG<|g p.1 q.1).bind λt=>.ok (t,q.2)) /\
  (∀s,bI s=.ok ([],s))/\(∀a r s,az a r s=(a s).bind λp=>(r p.2).bind λq=>.ok (p.1::q.1,q.2))/\(∀g a s,aZ g a s=(a s).bind λp=>(dG<|g p.1).bind λt=>.ok (t,p.2)) /\
  (∀a s,tB a s=(a s).bind λp=>(dG<|HR p.1).bind λb=>.ok (b,p.2))/\(∀a s,dm a s=(a s).bind λp=>(dG<|NQ p.1).bind λb=>.ok (b,p.2))/\(∀a s,dU a s=(a s).bind λp=>.ok (!p.1,p.2)) /\
  (∀s,nk s=.ok (Y,s))/\(∀a s,iS a s=(a s).bind λp=>(dG<|SW p.1).bind λi=>.ok (U i,p.2))/\(∀a lo d s,jy a lo d s=(a s).bind λp=>(lo p.2).bind λq=>(d q.2).bind λz=>(dG<|NO q.1 z.1 p.1).bind λt=>.ok (t,z.2)) /\
  (∀i a s,aD i a s=(a s).bind λp=>.ok (.nx,iR p.2 i<|.val p.1))/\(∀a s,bM a s=(a s).bind λp=>.ok (.nx,p.2))/\(∀s,aF s=.ok (.nx,s)) /\
  (∀r m i c,iR ⟨r,m⟩ i c=⟨r.set i<|U c,m⟩)/\(∀f o fl s,j1 f o fl s=(o s).bind λp=>(dG<|Im p.1).bind λl=>(fl p.2).bind λq=>(dG<|f l q.1).bind λt=>.ok (t,q.2)) /\
  (∀t,HR (.bl t)=U t)/\(∀t,NQ (.bl t)=U t)/\(∀i,SW (.int i)=U i)/\(∀l,Im (.str l)=U l):=
 ⟨λ_ _=>J,λ_ _ _=>J,λ_ _ _ _=>J,λ_=>J,λ_ _ _=>J,λ_ _ _=>J,λ_ _=>J,λ_ _=>J,λ_ _=>J,λ_=>J,λ_ _=>J,λ_ _ _ _=>J,λ_ _ _=>J,λ_ _=>J,λ_=>J,λ_ _ _ _=>J,λ_ _ _ _=>J,λ_=>J,λ_=>J,λ_=>J,λ_=>J⟩
def Va:(∀r m t,vF 0 ⟨U (.val t)::r,m⟩=.ok (t,⟨U (.val t)::r,m⟩))/\(∀a r m t,vF 1 ⟨a::U (.val t)::r,m⟩=.ok (t,⟨a::U (.val t)::r,m⟩))/\(∀a b r m t,vF 2 ⟨a::b::U (.val t)::r,m⟩=.ok (t,⟨a::b::U (.val t)::r,m⟩))/\(∀a b d r m t,vF 3 ⟨a::b::d::U (.val t)::r,m⟩=.ok (t,⟨a::b::d::U (.val t)::r,m⟩))/\(∀a b d e r m t,vF 4 ⟨a::b::d::e::U (.val t)::r,m⟩=.ok (t,⟨a::b::d::e::U (.val t)::r,m⟩))/\(∀a b d e f r m t,vF 5 ⟨a::b::d::e::f::U (.val t)::r,m⟩=.ok (t,⟨a::b::d::e::f::U (.val t)::r,m⟩))/\(∀a b d e f g r m t,vF 6 ⟨a::b::d::e::f::g::U (.val t)::r,m⟩=.ok (t,⟨a::b::d::e::f::g::U (.val t)::r,m⟩))/\(∀a b d e f g h r m t,vF 7 ⟨a::b::d::e::f::g::h::U (.val t)::r,m⟩=.ok (t,⟨a::b::d::e::f::g::h::U (.val t)::r,m⟩))/\(∀y r c,sL (α:=Option C) (y::r) 0 c=c::r)/\(∀a y r c,sL (α:=Option C) (a::y::r) 1 c=a::c::r)/\(∀a b y r c,sL (α:=Option C) (a::b::y::r) 2 c=a::b::c::r)/\(∀a b d y r c,sL (α:=Option C) (a::b::d::y::r) 3 c=a::b::d::c::r)/\(∀a b d e y r c,sL (α:=Option C) (a::b::d::e::y::r) 4 c=a::b::d::e::c::r)/\(∀a b d e f y r c,sL (α:=Option C) (a::b::d::e::f::y::r) 5 c=a::b::d::e::f::c::r)/\(∀a b d e f g y r c,sL (α:=Option C) (a::b::d::e::f::g::y::r) 6 c=a::b::d::e::f::g::c::r)/\(∀a b d e f g h y r c,sL (α:=Option C) (a::b::d::e::f::g::h::y::r) 7 c=a::b::d::e::f::g::h::c::r):=
 ⟨λ_ _ _=>J,λ_ _ _ _=>J,λ_ _ _ _ _=>J,λ_ _ _ _ _ _=>J,λ_ _ _ _ _ _ _=>J,λ_ _ _ _ _ _ _ _=>J,λ_ _ _ _ _ _ _ _ _=>J,λ_ _ _ _ _ _ _ _ _ _=>J,λ_ _ _=>J,λ_ _ _ _=>J,λ_ _ _ _ _=>J,λ_ _ _ _ _ _=>J,λ_ _ _ _ _ _ _=>J,λ_ _ _ _ _ _ _ _=>J,λ_ _ _ _ _ _ _ _ _=>J,λ_ _ _ _ _ _ _ _ _ _=>J⟩
end D
namespace D
open PySem L2 PyProof.Rows
def uR(l:B1):(⟨l.toArray⟩:Str).length=l.length:=by show l.toArray.size=_;simp
open PySem.StrLaws in
theorem uS(s sub:Str)(hi:Nat):∀(l:B1)(a fr:Nat),(forIn l ((#[a]:Array Nat),fr)<|occBody s sub hi 1).run.fst=#[a]
 |[],_,_=>J
 |b::l,a,fr=>by
  rw[xJ];unfold occBody;rw[b0<|by simp]
  exact uS s sub hi l a fr
open PySem.StrLaws Builtin.Str in
theorem occ_first(s sub:Str)(hi:Nat):∀(n lo fr:Nat),fr<=lo ->
  ((forIn (Cg lo n) ((#[]:Array Nat),fr)<|occBody s sub hi 1).run.fst=#[]/\∀i,lo<=i->i<lo+n->¬ (i+sub.length<=hi/\subAt s sub i=O)) \/
  ∃i,(forIn (Cg lo n) ((#[]:Array Nat),fr)<|occBody s sub hi 1).run.fst=#[i]/\lo<=i/\i<lo+n/\(i+sub.length<=hi/\subAt s sub i=O)/\∀j,lo<=j->j<i->¬ (j+sub.length<=hi/\subAt s sub j=O)
 |0,lo,fr,_=>.inl ⟨J,λi a b=>by lia⟩
 |n+1,lo,fr,h=>by
  rw[K4,xJ];by_cases hc:lo+sub.length<=hi/\subAt s sub lo=O
  .right
   refine⟨lo,?_,dS _,by lia,hc,λj a b=>by lia⟩
   unfold occBody;rw[b7 ⟨⟨⟨by simp,h⟩,hc.1⟩,hc.2⟩]
   exact uS s sub hi _ lo _
  .have e:∀k,(occBody s sub hi 1 lo ((#[]:Array Nat),fr) >>= k:Id<|Array Nat×Nat)=k (fu ((#[]:Array Nat),fr)):=λk=>by
    unfold occBody;rw[b0 λz=>hc ⟨z.1.2,z.2⟩];rfl
   rw[e];rcases occ_first s sub hi n (lo+1) fr (eT h<|fk ..)with⟨a,b⟩|⟨i,a,b,c,d,g⟩
   .refine .inl ⟨a,λi h1 h2=>?_⟩
    by_cases z:i=lo
    .subst z;exact hc
    .exact b i (by lia) (by lia)
   .refine .inr ⟨i,a,eT (fk ..) b,by lia,d,λj h1 h2=>?_⟩
    by_cases z:j=lo
    .subst z;exact hc
    .exact g j (by lia) h2
def rR(c:Nat)(r:B1)(i:Nat):(i+(⟨[c].toArray⟩:Str).length<=r.length/\Builtin.Str.subAt ⟨r.toArray⟩ ⟨[c].toArray⟩ i=O) ↔ r[i]?=U c:=by
 rw[kn,uR,F6];show(i + [c].length<=r.length/\(r.drop i).take [c].length=[c]) ↔ _;constructor
 .rintro⟨d,b⟩
  have:=eD (λq=>q[0]?) b
  simpa using this
 .intro h
  have a:=(dR.mp h).1;refine⟨a,?_⟩;rw[xN a]
  have:=(dR.mp h).2
  simp[this]
def zH(c:Nat)(D S R:B1)(h:c∉S):dn ⟨(D++(S++c::R)).toArray⟩ ⟨[c].toArray⟩ D.length (D++(S++c::R)).length 1=[D.length+S.length]:=by
 have ċ:(D++(S++c::R))[D.length+S.length]?=U c:=by
  rw[iu<|fk ..,iu<|by lia]
  simp
 have JC:∀j,D.length<=j->j<D.length+S.length->¬ (D++(S++c::R))[j]?=U c:=λj f k z=>by
  rw[iu f,jB<|by lia]at z
  exact h<|gB z
 rw[Gf];rcases occ_first ⟨(D++(S++c::R)).toArray⟩ ⟨[c].toArray⟩ (D++(S++c::R)).length ((D++(S++c::R)).length+1-D.length) D.length D.length (dS _)with⟨a,b⟩|⟨i,a,b,l,d,g⟩
 .exact dk ((rR c _ _).mpr ċ)<|b _ (fk ..)<|by simp;lia
 .rw[a]
  have e:=(rR c _ _).mp d
  have:i=D.length+S.length:=by
   rcases Nat.lt_trichotomy i (D.length+S.length)with z|z|z
   .exact dk e<|JC i b z
   .exact z
   .exact dk ((rR c _ _).mpr ċ)<|g _ (fk ..) z
  rw[this]
def FA(c:Nat)(D S R:B1)(h:c∉S):i7 (D++(S++c::R)) [.str [c],.int (D.length:Nat)]=U (.int ((D.length+S.length:Nat):Int)):=by
 show U (T.int<|n5 _ _ _)=_;unfold n5;have a:oa (⟨(D++(S++c::R)).toArray⟩:Str).length ((D.length:Nat):Int)=D.length:=by
  unfold oa;rw[b0<|by lia]
  lia
 rw[a,uR,zH c D S R h]
def Bb(c:Nat)(S R:B1)(h:c∉S):i7 (S++c::R) [.str [c]]=U (.int ((S.length:Nat):Int)):=by
 have:=zH c [] S R h
 rw[Ar]at this;show U (T.int<|o6 _ _)=_;unfold o6;rw[uR];have e:dn ⟨(S++c::R).toArray⟩ ⟨[c].toArray⟩ 0 (S++c::R).length 1=[0+S.length]:=this;rw[e,Av]
def mz(n d k:Nat):f9 n d (U (k:Int))=min k n:=by
 unfold f9;dsimp only;rw[b0<|by lia];rfl
def FH(n d:Nat):f9 n d Y=d:=J
def kh{α:Type}(w r:List α):cj (w++r) (U (w.length:Int)) Y=r:=by
 unfold cj;rw[mz,FH,dq,xT<|fk ..,K5];simp
def FI{α:Type}(w r:List α):cj (w++r) Y (U (w.length:Int))=w:=by
 unfold cj;rw[mz,FH,dq,xT<|fk ..];simp
def JD{α:Type}(a b c:List α):cj (a++(b++c)) (U (a.length:Int)) (U ((a.length+b.length:Nat):Int))=b:=by
 unfold cj;rw[mz,mz,dq,dq,xT<|by lia,xT<|fk ..,K5]
 have:a.length+b.length-a.length=b.length:=by lia
 rw[this,List.take_left]
def pre_app(w r:B1):pre w (w++r)=O:=by unfold pre;simp
def wN{c d:Nat}{w r:B1}(h:c≠d):pre (c::w) (d::r)=Zn:=by
 unfold pre;rw[eS,eS,K6]
 have:(d::Ci w.length r == c::w)=Zn:=by
  rw[beq_eq_false_iff_ne];intro z;injection z with z _
  exact h z.symm
 rw[this,KA]
def FJ(c:Nat)(w r:B1):pre (c::w) (c::r)=pre w r:=by
 unfold pre;rw[eS,eS,K6]
 have:(c::Ci w.length r == c::w)=(Ci w.length r == w):=by
  rw[xA];simp
 rw[this]
 congr 1
 apply decide_eq_decide.mpr
 lia
end D
namespace D
abbrev sv(t:T):Option C:=U<|.val t
abbrev cI(i:Int):FE:=cF<|.int i
abbrev cS(l:B1):FE:=cF<|.str l
abbrev oA:FE->FE->FE:=dD<|pI .Add
abbrev oM:FE->FE->FE:=dD<|pI .Mod
abbrev oD:FE->FE->FE:=dD<|pI .FloorDiv
abbrev oE:FE->FE->FE:=dD<|aU .Eq
abbrev oI:FE->FE->FE:=dD uf
abbrev k1(a:FE):FL:=az a bI
abbrev k2(a b:FE):FL:=az a<|k1 b
abbrev k3(a b c:FE):FL:=az a<|k2 b c
abbrev zA:FE:=vF 0
abbrev zB:FE:=vF 1
abbrev zC:FE:=vF 2
abbrev zD:FE:=vF 3
abbrev zO:FE:=cI 0
abbrev zI:FE:=cI 1
def W{α:Type}(x:Res α)(Q:α->Prop):Prop:=∃a,x=.ok a/\Q a
section
variable{α a:Type}{x:Res α}{f:α->Res a}{P:α->Prop}{R:a->Prop}
def W.mono{Q:α->Prop}(h:W x Q)(k:∀a,Q a->P a):W x P:=let⟨a,e,q⟩:=h;⟨a,e,k a q⟩
theorem W.bind(h:W x λa=>W (f a) R):W (x.bind f) R:=by
 obtain⟨a,rfl,b,e,q⟩:=h;exact⟨b,e,q⟩
def W.of{a:α}(e:x=.ok a)(h:P a):W x P:=⟨a,e,h⟩
end
section
variable{s s1 s':S}{a b:FE}{fl:FL}{g:T->T->FR}{j:FK->FR}{Q:T×S->Prop}{t u:T}{ts:FK}{i:Nat}{c:FT}{A B:FS}{d:Out×S->Prop}{QB:Bool×S->Prop}{n:FK×S->Prop}{G:T×FV->Prop}
def WB(b:FS)(s:S)(G:T×FV->Prop):Prop:=W (b s) λp=>∃t,p.1=.rt t/\G (t,p.2.m)
def Zo(h:W (a s) λp=>G (p.1,p.2.m)):WB (aq a) s G:=W.bind<|h.mono λp q=>⟨_,J,_,J,q⟩
def bRt(e:a s=.ok (t,s'))(h:G (t,s'.m)):WB (aq a) s G:=Zo ⟨_,e,h⟩
def P0(h:W (A s) λp=>p.1=.nx/\WB B p.2 G):WB (ah A B) s G:=W.bind<|h.mono λp a=>by
 obtain⟨e,k⟩:=a;obtain⟨o,s'⟩:=p;cases e;exact k
def Vb(h:WB A s G):WB (ah A B) s G:=W.bind<|W.mono h λp ⟨t,e,k⟩=>⟨p,by obtain⟨o,s'⟩:=p;cases e;rfl,t,e,k⟩
def Zp(h:W (a s) λp=>d (.nx,iR p.2 i<|.val p.1)):W (aD i a s) d:=W.bind<|h.mono λ_ q=>⟨_,J,q⟩
def Zq(h:W (a s) λp=>WB B (iR p.2 i<|.val p.1) G):WB (ah (aD i a) B) s G:=P0<|Zp<|h.mono λ_ q=>⟨J,q⟩
def bSt(e:a s=.ok (t,s'))(h:WB B (iR s' i<|.val t) G):WB (ah (aD i a) B) s G:=Zq ⟨_,e,h⟩
def Č(h:W (c s) λp=>(p.1=O->W (A p.2) d)/\(p.1=Zn->W (B p.2) d)):W (aX c A B s) d:=W.bind<|h.mono λp a=>by
 obtain⟨k1,k2⟩:=a;cases e:p.1 with
 |true=>exact k1 e
 |false=>exact k2 e
def Zr(e:c s=.ok (O,s'))(h:W (A s') d):W (aX c A B s) d:=Č ⟨_,e,⟨λ_=>h,λz=>by cases z⟩⟩
def Zs(e:c s=.ok (Zn,s'))(h:W (B s') d):W (aX c A B s) d:=Č ⟨_,e,⟨λz=>(by cases z),λ_=>h⟩⟩
def bHt(e:c s=.ok (O,s'))(h:WB A s' G):WB (ah (aX c A B) a') s G:=Vb<|Zr e h
def bSk(e:c s=.ok (Zn,s'))(h:WB B s' G):WB (ah (aX c A aF) B) s G:=P0<|Zs e ⟨_,J,J,h⟩
def Vc{a n:Nat}{m:FV}(h:ts.length=a)(k:WB B ⟨ts.map (λt=>U<|.val t)++dN (n-ts.length) Y,m⟩ G):W (aI a n B ts m) G:=by
 unfold aI;rw[b7 h];exact W.bind<|W.mono k λp ⟨t,e,k⟩=>⟨_,by rw[e],k⟩
def Mm{f:Fn}{m:FV}(h:aN ts=O)(k:W (f ts []) λp=>noOwn p.1=O/\G (p.1,m)):W (aH f ts m) G:=by
 obtain⟨p,e,b,a⟩:=k;refine⟨_,?_,a⟩;unfold aH;rw[b7 h,e];exact b7 b
end
end D
namespace K24
open PySem D L2
variable(n:Nat){m:List _root_.D.Ob}
abbrev FN:B1:=[97,98,99,100,101,102,103,104,105,106,107,108,109,110,111,112,113,114,115,116,117,118,119,120,121,122,65,66,67,68,69,70,71,72,73,74,75,76,77,78,79,80,81,82,83,84,85,86,87,88,89,90,48,49,50,51,52,53,54,55,56,57,32,33,34,35,36,38,39,40,41,42,43,44,45,46,47,58,59,60,61,62,63,64,91,92,93,94,95,96,123,124,125,126]
abbrev JE:B1:=[97,98,99,100,101,102,103,104,105,106,107,108,109,110,111,112,113,114,115,116,117,118,119,120,121,122]
abbrev Vd:B1:=[97,32,115,101,116,32,104,97,115,32,97,32,115,105,103,110,32,116,119,105,99,101]
abbrev Ve:B1:=[97,32,115,105,103,110,32,116,104,97,116,32,109,97,121,32,115,116,97,110,100,32,112,108,97,105,110,32,110,101,101,100,115,32,110,111,32,115,101,116]
abbrev fx(x:Str)(i:Nat):Str×FK×Nat:=(x,[],i)
def M:Gm:={
 P:={cn:=("Program" :: "Line" :: "Cond" :: "Always" :: "RowIs" :: "Last" :: "Like" :: "Soon" :: "FromTo" :: "Not" :: "End" :: "Deed" :: "Mark" :: "Drop" :: "Print" :: "Done" :: "Say" :: "Swap" :: "Join" :: "Pile" :: "Bring" :: "Go" :: "Add" :: "Tell" :: "Scan" :: []),an:=("lines" :: "cond" :: "deed" :: "number" :: "pattern" :: "many" :: "first" :: "second" :: "inner" :: "name" :: "words" :: "every" :: "most" :: "shelf" :: "rest" :: []),tab:=[[0],[1,2],[],[],[3],[],[4],[5,4],[6,7],[8],[],[],[9],[],[],[],[10],[4,10,11],[12],[13,12],[13],[9],[6,7],[],[14,3]],sub:=[[0],[1],[2],[2,3],[2,4],[2,5],[2,6],[2,7],[2,8],[2,9],[2,10],[11],[11,12],[11,13],[11,14],[11,15],[11,16],[11,17],[11,18],[11,19],[11,20],[11,21],[11,22],[11,23],[24]]},
 cs:=[("SIGNS",.str FN),("SMALL_LETTERS",.str JE),("FIGURES",.str [48,49,50,51,52,53,54,55,56,57]),("MOST_ITEMS",.int 8),("MOST_SIGNS",.int 12),("NEVER_PLAIN",.str [94,36,46,91,93,42,43,63,47]),("NEVER_IN_A_SET",.str [93,94,47]),("ONCE",.str [49]),("HOW_MANY",.str [42,43,63]),("COND_BEGINNINGS",.tup [.str [114,111,119,32],.str [108,97,115,116],.str [47],.str [115,111,111,110,32],.str [102,114,111,109,32],.str [110,111,116,32],.str [101,110,100]]),("MOST_ROW",.int 999),("MOST_FIGURES",.int 3),("MOST_SOON",.int 3),("LEAST_JOIN",.int 2),("MOST_SMALL",.int 9),("MOST_LETTERS",.int 8),("MOST_TEXT",.int 40),("MOST_LINES",.int 24)],
 fs:=(fx "made_of" 0::fx "beginning_of" 1::fx "may_stand_plain" 2::fx "pattern" 3::fx "items_of" 4::fx "place_behind_core" 5::fx "many_at" 6::fx "item_of" 7::fx "set_item" 8::fx "is_written_plain" 9::fx "written" 10::fx "written_core" 11::fx "may_be_empty" 12::fx "least_length" 13::fx "may_be_left_out" 14::fx "line_of" 15::fx "line_next" 16::fx "cond_next" 17::fx "plain_cond_next" 18::fx "row_or_pattern_next" 19::fx "deed_next" 20::fx "swap_next" 21::fx "pile_next" 22::fx "add_next" 23::fx "number_next" 24::fx "name_next" 25::fx "words_next" 26::fx "pattern_next" 27::fx "may_stand" 28::fx "may_swap" 29::fx "cut" 30::fx "read" 31::fx "lines_of" 32::fx "marks_of" 33::fx "refuse_go_without_mark" 34::fx "shown" 35::fx "line_text" 36::fx "cond_text" 37::fx "deed_text" 38::fx "pattern_text" 39::fx "quoted" 40::fx "_law_cell_at" 41::fx "_law_name" 42::fx "_law_whole" 43::fx "_law_bad_name" 44::fx "_law_bad_number" 45::fx "_law_bad_text" 46::fx "_law_bad_other" 47::fx "_law_bad" 48::fx "_law_good" 49::fx "_law_rows" 50::fx "_law_due" 51::fx "_law_refused" 52::fx "_law_sorts" 53::fx "law" 54::[]),
 cl:=(("Program",.cp 0)::("Line",.fz 1 2)::("Cond",.z0 2)::("Always",.z0 3)::("RowIs",.fz 4 1)::("Last",.z0 5)::("Like",.fz 6 1)::("Soon",.fz 7 2)::("FromTo",.fz 8 2)::("Not",.fz 9 1)::("End",.z0 10)::("Deed",.z0 11)::("Mark",.fz 12 1)::("Drop",.z0 13)::("Print",.z0 14)::("Done",.z0 15)::("Say",.fz 16 1)::("Swap",.fz 17 3)::("Join",.fz 18 1)::("Pile",.fz 19 2)::("Bring",.fz 20 1)::("Go",.fz 21 1)::("Add",.fz 22 2)::("Tell",.z0 23)::("Scan",.nw 24 70)::[]),
 ms:=[("refuse",[(24,71)]),("passes",[(24,72)]),("must_pass",[(24,73)]),("while_made_of",[(24,74)]),("between",[(24,75)])],
 bl:=["isinstance","len","all","any","str","int","list","range","enumerate","bool","set","min"],xc:=[("NoLine",U "row",76),("TwoMarks",U "row",77),("NoMark",U "row",78),("NoPattern",Y,0)],xs:=[("read",31),("lines_of",32),("marks_of",33),("refuse_go_without_mark",34),("line_of",15),("line_next",16),("cond_next",17),("plain_cond_next",18),("row_or_pattern_next",19),("deed_next",20),("swap_next",21),("pile_next",22),("add_next",23),("number_next",24),("name_next",25),("words_next",26),("pattern_next",27),("pattern",3),("items_of",4),("place_behind_core",5),("item_of",7),("set_item",8)],xt:=[("refuse",24,71),("must_pass",24,73),("between",24,75)],ys:=["NoLine","TwoMarks","NoMark","ValueError","NoPattern","NotThat","NotWoven","Finished","Endless"],kb:=[[O,Zn,Zn,O,Zn,Zn,Zn,Zn,Zn],[Zn,O,Zn,O,Zn,Zn,Zn,Zn,Zn],[Zn,Zn,O,O,Zn,Zn,Zn,Zn,Zn]],xm := "BladeError"}
def Ft:List Fe:=[
 ⟨Y,"made_of","made_of",top 39,["text","signs"],["text","signs"],[],O,[]⟩,
 ⟨Y,"beginning_of","beginning_of",top 40,["text","signs","many"],["text","signs"],[],O,[]⟩,
 ⟨Y,"may_stand_plain","may_stand_plain",top 48,["sign"],["sign"],[],O,[]⟩,
 ⟨Y,"pattern","pattern",top 49,["text","front","body","back","items"],["text"],["raise"],O,[]⟩,
 ⟨Y,"items_of","items_of",top 50,["body","items","place","behind","many"],["body"],["items","raise"],O,[]⟩,
 ⟨Y,"place_behind_core","place_behind_core",top 51,["body","place","bracket"],["body","place"],["raise"],O,[]⟩,
 ⟨Y,"many_at","many_at",top 52,["body","place"],["body","place"],[],O,[]⟩,
 ⟨Y,"item_of","item_of",top 53,["core","many"],["core","many"],["raise"],O,[]⟩,
 ⟨Y,"set_item","set_item",top 54,["inside","many","others","signs"],["inside","many"],["raise"],O,[]⟩,
 ⟨Y,"is_written_plain","is_written_plain",top 55,["signs","others"],["signs","others"],[],O,[]⟩,
 ⟨Y,"written","written",top 56,["one","parts","signs","others","many"],["one"],["parts"],O,[]⟩,
 ⟨Y,"written_core","written_core",top 57,["signs","others"],["signs","others"],[],O,[]⟩,
 ⟨Y,"may_be_empty","may_be_empty",top 58,["one"],["one"],[],O,[]⟩,
 ⟨Y,"least_length","least_length",top 59,["one"],["one"],[],O,[]⟩,
 ⟨Y,"may_be_left_out","may_be_left_out",top 60,["item"],["item"],[],O,[]⟩,
 ⟨Y,"line_of","line_of",top 71,["row","number","scan","line"],["row","number"],["raise"],O,[]⟩,
 ⟨Y,"line_next","line_next",top 72,["scan","cond"],["scan"],["raise"],Zn,[]⟩,
 ⟨Y,"cond_next","cond_next",top 73,["scan"],["scan"],["raise"],Zn,[]⟩,
 ⟨Y,"plain_cond_next","plain_cond_next",top 74,["scan","many","first"],["scan"],["raise"],Zn,[]⟩,
 ⟨Y,"row_or_pattern_next","row_or_pattern_next",top 75,["scan"],["scan"],["raise"],Zn,[]⟩,
 ⟨Y,"deed_next","deed_next",top 76,["scan"],["scan"],["raise"],Zn,[]⟩,
 ⟨Y,"swap_next","swap_next",top 77,["scan","every","one"],["scan","every"],["raise"],Zn,[]⟩,
 ⟨Y,"pile_next","pile_next",top 78,["scan","shelf"],["scan"],["raise"],Zn,[]⟩,
 ⟨Y,"add_next","add_next",top 79,["scan","first"],["scan"],["raise"],Zn,[]⟩,
 ⟨Y,"number_next","number_next",top 80,["scan","least","most","figures","number"],["scan","least","most"],["raise"],Zn,[]⟩,
 ⟨Y,"name_next","name_next",top 81,["scan","name"],["scan"],["raise"],Zn,[]⟩,
 ⟨Y,"words_next","words_next",top 82,["scan","words"],["scan"],["raise"],Zn,[]⟩,
 ⟨Y,"pattern_next","pattern_next",top 83,["scan","text"],["scan"],["raise"],Zn,[]⟩,
 ⟨Y,"may_stand","may_stand",top 84,["cond","deed"],["cond","deed"],[],O,[]⟩,
 ⟨Y,"may_swap","may_swap",top 85,["deed"],["deed"],[],O,[]⟩,
 ⟨Y,"cut","cut",top 87,["text","rows"],["text"],[],O,[]⟩,
 ⟨Y,"read","read",top 90,["text","lines","marks"],["text"],["raise"],O,[]⟩,
 ⟨Y,"lines_of","lines_of",top 91,["rows","lines","number","row"],["rows"],["lines","raise"],O,[]⟩,
 ⟨Y,"marks_of","marks_of",top 92,["lines","marks","number","line"],["lines"],["marks","raise"],O,[]⟩,
 ⟨Y,"refuse_go_without_mark","refuse_go_without_mark",top 93,["lines","marks","number","line"],["lines","marks"],["raise"],O,[]⟩,
 ⟨Y,"shown","shown",top 95,["program"],["program"],[],O,[]⟩,
 ⟨Y,"line_text","line_text",top 96,["line"],["line"],[],O,[]⟩,
 ⟨Y,"cond_text","cond_text",top 97,["cond"],["cond"],[],O,[]⟩,
 ⟨Y,"deed_text","deed_text",top 98,["deed"],["deed"],[],O,[]⟩,
 ⟨Y,"pattern_text","pattern_text",top 99,["one"],["one"],[],O,[]⟩,
 ⟨Y,"quoted","quoted",top 100,["words"],["words"],[],O,[]⟩,
 ⟨Y,"_law_cell_at","_law_cell_at",top 102,["_law_script","_law_k"],["_law_script","_law_k"],[],O,[]⟩,
 ⟨Y,"_law_name","_law_name",top 103,["_law_cell","_law_rest","_law_word","_law_k"],["_law_cell"],[],O,[]⟩,
 ⟨Y,"_law_whole","_law_whole",top 104,["_law_got"],["_law_got"],[],O,[]⟩,
 ⟨Y,"_law_bad_name","_law_bad_name",top 105,["_law_n","_law_word","_law_long","_law_some"],["_law_n"],[],O,[]⟩,
 ⟨Y,"_law_bad_number","_law_bad_number",top 106,["_law_n","_law_number","_law_some"],["_law_n"],[],O,[]⟩,
 ⟨Y,"_law_bad_text","_law_bad_text",top 107,["_law_n","_law_word","_law_some"],["_law_n"],[],O,[]⟩,
 ⟨Y,"_law_bad_other","_law_bad_other",top 108,["_law_n","_law_word","_law_some"],["_law_n"],[],O,[]⟩,
 ⟨Y,"_law_bad","_law_bad",top 109,["_law_n"],["_law_n"],[],O,[]⟩,
 ⟨Y,"_law_good","_law_good",top 110,["_law_n","_law_word","_law_short","_law_some"],["_law_n"],[],O,[]⟩,
 ⟨Y,"_law_rows","_law_rows",top 111,["_law_script","_law_bad_here","_law_rows_here","_law_cell"],["_law_script"],["_law_bad_here","_law_rows_here"],O,[]⟩,
 ⟨Y,"_law_due","_law_due",top 112,["_law_rows_here","_law_bad_here","_law_first","_law_marks","_law_seen","_law_k"],["_law_rows_here","_law_bad_here"],["_law_seen"],O,[]⟩,
 ⟨Y,"_law_refused","_law_refused",top 113,["_law_text","_law_sorts_here","_law_row","e"],["_law_text"],[],O,[]⟩,
 ⟨Y,"_law_sorts","_law_sorts",top 114,["_law_way"],["_law_way"],[],O,[]⟩,
 ⟨Y,"law","law",top 115,["_law_script","_law_text","_law_got","_law_rows_here","_law_bad_here","_law_sorts_here","_law_row"],["_law_script"],[],O,[]⟩,
 ⟨U "Program","__init__","Program.__init__",inClass (top 11) 0,["self","lines"],["self","lines"],[],Zn,[]⟩,
 ⟨U "Line","__init__","Line.__init__",inClass (top 12) 0,["self","cond","deed"],["self","cond","deed"],[],Zn,[]⟩,
 ⟨U "RowIs","__init__","RowIs.__init__",inClass (top 15) 0,["self","number"],["self","number"],[],Zn,[]⟩,
 ⟨U "Like","__init__","Like.__init__",inClass (top 17) 0,["self","pattern"],["self","pattern"],[],Zn,[]⟩,
 ⟨U "Soon","__init__","Soon.__init__",inClass (top 18) 0,["self","many","pattern"],["self","many","pattern"],[],Zn,[]⟩,
 ⟨U "FromTo","__init__","FromTo.__init__",inClass (top 19) 0,["self","first","second"],["self","first","second"],[],Zn,[]⟩,
 ⟨U "Not","__init__","Not.__init__",inClass (top 20) 0,["self","inner"],["self","inner"],[],Zn,[]⟩,
 ⟨U "Mark","__init__","Mark.__init__",inClass (top 23) 0,["self","name"],["self","name"],[],Zn,[]⟩,
 ⟨U "Say","__init__","Say.__init__",inClass (top 27) 0,["self","words"],["self","words"],[],Zn,[]⟩,
 ⟨U "Swap","__init__","Swap.__init__",inClass (top 28) 0,["self","pattern","words","every"],["self","pattern","words","every"],[],Zn,[]⟩,
 ⟨U "Join","__init__","Join.__init__",inClass (top 29) 0,["self","most"],["self","most"],[],Zn,[]⟩,
 ⟨U "Pile","__init__","Pile.__init__",inClass (top 30) 0,["self","shelf","most"],["self","shelf","most"],[],Zn,[]⟩,
 ⟨U "Bring","__init__","Bring.__init__",inClass (top 31) 0,["self","shelf"],["self","shelf"],[],Zn,[]⟩,
 ⟨U "Go","__init__","Go.__init__",inClass (top 32) 0,["self","name"],["self","name"],[],Zn,[]⟩,
 ⟨U "Add","__init__","Add.__init__",inClass (top 33) 0,["self","first","second"],["self","first","second"],[],Zn,[]⟩,
 ⟨U "Scan","__init__","Scan.__init__",inClass (top 70) 0,["self","row","number"],["self","row","number"],[],Zn,[]⟩,
 ⟨U "Scan","refuse","Scan.refuse",inClass (top 70) 1,["self"],["self"],["raise"],Zn,[]⟩,
 ⟨U "Scan","passes","Scan.passes",inClass (top 70) 2,["self","words"],["self","words"],[],Zn,[]⟩,
 ⟨U "Scan","must_pass","Scan.must_pass",inClass (top 70) 3,["self","words"],["self","words"],["raise"],Zn,[]⟩,
 ⟨U "Scan","while_made_of","Scan.while_made_of",inClass (top 70) 4,["self","signs","taken"],["self","signs"],[],Zn,[]⟩,
 ⟨U "Scan","between","Scan.between",inClass (top 70) 5,["self","sign","place","inside"],["self","sign"],["raise"],Zn,[]⟩,
 ⟨U "NoLine","__init__","NoLine.__init__",inClass (top 6) 0,["self","row"],["self","row"],[],Zn,[]⟩,
 ⟨U "TwoMarks","__init__","TwoMarks.__init__",inClass (top 7) 0,["self","row"],["self","row"],[],Zn,[]⟩,
 ⟨U "NoMark","__init__","NoMark.__init__",inClass (top 8) 0,["self","row"],["self","row"],[],Zn,[]⟩]
def It:Jt:=[("Program",55),("Line",56),("RowIs",57),("Like",58),("Soon",59),("FromTo",60),("Not",61),("Mark",62),("Say",63),("Swap",64),("Join",65),("Pile",66),("Bring",67),("Go",68),("Add",69),("Scan",70)]
abbrev cN:=gK M Ft
set_option maxHeartbeats 0
abbrev TF:=(Nat->Fn)->Fn
abbrev WT(i:Nat)(t:TF):Prop:=∀n,cN (n+1) i=t (cN n)
def t0:TF:=λak=>aH<|aI 2 2<|aq<|aZ Ir<|k1<|iH<|eB (vA zA) 2 [1] (setG 1) i6<|vB .In Zn 2 zB
def w0:WT 0 t0:=λ_=>J
def t1:TF:=λak=>aH<|aI 2 3<|ah (aD 2 zO)
<|ah (jg many (kF (dm<|dD (aU .Lt) zC<|aZ dw<|k1 zA)<|dm<|vB .In Zn 1<|oI zA zC)
 <|DJ yW 2 zI)
<|aq<|jy zA nk<|iS zC
def w1:WT 1 t1:=λ_=>J
def t2:TF:=λak=>aH<|aI 1 1<|aq<|tU (dD (aU .In) zA<|cS FN)<|dD (aU .NotIn) zA<|cS [94,36,46,91,93,42,43,63,47]
def w2:WT 2 t2:=λ_=>J
def t3:TF:=λak=>aH<|aI 1 5<|ah (aX (bQ<|dU<|tB<|dQ (TQ "str") zA)
  (wC 3<|cS [97,32,112,97,116,116,101,114,110,32,105,115,32,97,32,116,101,120,116])
  aF)
<|ah (aX (bQ<|dU<|tB<|aj (ak 0) []<|k2 zA<|cS FN)
  (wC 3<|cS [115,111,109,101,116,104,105,110,103,32,105,110,32,116,104,101,32,112,97,116,116,101,114,110,32,105,115,32,110,111,32,115,105,103,110])
  aF)
<|ah (eg<|aD 1<|j1 rk zA<|k1<|cS [94])
<|ah (eg<|aD 2<|AU (tB zB) (jy zA (iS zI) nk) zA)
<|ah (eg<|aD 3<|j1 Ys zC<|k1<|cS [36])
<|ah (aD 4<|aj (ak 4) []<|k1<|bC<|AU (tB zD) (jy zC nk<|iS<|dQ q_ zI) zC)
<|ah (aX (bQ<|dm<|dD (aU .Gt) (aZ dw<|k1<|vF 4)<|cI 8)
  (wC 3<|cS [116,104,101,32,112,97,116,116,101,114,110,32,104,97,115,32,116,111,111,32,109,97,110,121,32,105,116,101,109,115])
  aF)
<|eg<|aq<|aZ gu<|k3 zB (vF 4) zD
def w3:WT 3 t3:=λ_=>J
abbrev Vf(ak:Nat->Fn):FS:=ah (aD 3<|aj (ak 5) []<|k2 (bC zA)<|bC zC)
<|ah (eg<|aD 4<|aj (ak 6) []<|k2 zA zD)
<|ah (gS 1<|aj (ak 7) []<|k2 (bC<|jy zA (iS zC)<|iS zD)<|bC<|vF 4)
<|eg<|aD 2<|AU (dm<|oE (vF 4)<|cS [49]) zD<|oA zD zI
def t4:TF:=λak=>aH<|aI 1 5<|ah (eg<|pG 1<|rj bI)
<|ah (eg<|aD 2 zO)
<|ah (jg many (bQ<|dm<|dD (aU .Lt) zC<|aZ dw<|k1 zA)
 <|Vf ak)
<|eg<|aq zB
def w4:WT 4 t4:=λ_=>J
def t5:TF:=λak=>aH<|aI 2 3<|ah (aX (bQ<|dm<|dD (aU .NotEq) (oI zA zB)<|cS [91])
  (eg<|aq<|oA zB zI)
  aF)
<|ah (eg<|aD 2<|j1 i7 zA<|k2 (cS [93]) zB)
<|ah (aX (bQ<|dm<|oE zC<|dQ q_ zI)
  (wC 3<|cS [97,32,115,101,116,32,105,115,110,39,116,32,99,108,111,115,101,100])
  aF)
<|eg<|aq<|oA zC zI
def w5:WT 5 t5:=λ_=>J
def t6:TF:=λak=>aH<|aI 2 2<|ah (aX (kF (dm<|dD (aU .Lt) zB<|aZ dw<|k1 zA)<|dm<|dD (aU .In) (oI zA zB)<|cS [42,43,63])
  (aq<|oI zA zB)
  aF)
<|aq<|cS [49]
def w6:WT 6 t6:=λ_=>J
def t7:TF:=λak=>aH<|aI 2 2<|ah (aX (bQ<|dm<|oE zA<|cS [46])
  (eg<|aq<|aZ gu<|k3 (cS []) (cF<|.bl O) zB)
  aF)
<|ah (aX (bQ<|tB<|j1 rk zA<|k1<|cS [91])
  (aq<|aj (ak 8) []<|k2 (bC<|jy zA (iS zI)<|iS<|dQ q_ zI)<|bC zB)
  aF)
<|ah (aX (bQ<|dU<|tB<|aj (ak 2) []<|k1 zA)
  (wC 3<|dQ Wj zA)
  aF)
<|eg<|aq<|aZ gu<|k3 zA (cF<|.bl Zn) zB
def w7:WT 7 t7:=λ_=>J
def t8:TF:=λak=>aH<|aI 2 4<|ah (eg<|aD 2<|j1 rk zA<|k1<|cS [94])
<|ah (eg<|aD 3<|AU (tB zC) (jy zA (iS zI) nk) zA)
<|ah (aX (bQ<|yn (dm<|oE zD<|cS [])<|dm<|dD (aU .Gt) (aZ dw<|k1 zD)<|cI 12)
  (wC 3<|cS [97,32,115,101,116,32,104,97,115,32,111,110,101,32,116,111,32,116,119,101,108,118,101,32,115,105,103,110,115])
  aF)
<|ah (aX (bQ<|tB<|aZ wg<|k1<|iH<|eB (vA zD) 2 [] (setG 1) i6<|dD (aU .In) zB<|cS [93,94,47])
  (wC 3<|cS [97,32,115,101,116,32,104,97,115,32,97,32,115,105,103,110,32,116,104,97,116,32,110,111,110,101,32,109,97,121,32,104,97,118,101])
  aF)
<|ah (aX (bQ<|dm<|dD (aU .NotEq) (dQ nI zD)<|aZ dw<|k1 zD)
  (wC 3<|cS Vd)
  aF)
<|ah (aX (bQ<|tB<|aj (ak 9) []<|k2 zD zC)
  (wC 3<|cS Ve)
  aF)
<|eg<|aq<|aZ gu<|k3 zD zC zB
def w8:WT 8 t8:=λ_=>J
def t9:TF:=λak=>aH<|aI 2 2<|aq<|tU (AS zB)<|tU (oE (aZ dw<|k1 zA) zI)<|aj (ak 2) []<|k1 zA
def w9:WT 9 t9:=λ_=>J
abbrev Vg(ak:Nat->Fn):FS:=ah (gS 1<|aj (ak 11) []<|k2 zC zD)
<|gS 1<|AU (dm<|oE (vF 4)<|cS [49]) (cS [])<|vF 4
def t10:TF:=λak=>aH<|aI 1 5<|ah (pG 1<|rj<|k1<|AU (tB<|oI zA zO) (cS [94])<|cS [])
<|ah (gT (Iz<|oI zA zI) (cQ [2,3,4])
 <|Vg ak)
<|ah (gS 1<|AU (tB<|oI zA<|cI 2) (cS [36])<|cS [])
<|aq<|j1 joinM (cS [])<|k1 zB
def Xh:WT 10 t10:=λ_=>J
def t11:TF:=λak=>aH<|aI 2 2<|ah (aX (dm<|oE zA<|cS [])
  (aq<|cS [46])
  aF)
<|ah (aX (tB zB)
  (aq bO)
  aF)
<|ah (aX (tB<|aj (ak 9) []<|k2 zA zB)
  (aq zA)
  aF)
<|aq bO
def w11:WT 11 t11:=λ_=>J
def t12:TF:=λak=>aH<|aI 1 1<|aq<|oE (aj (ak 13) []<|k1 zA) zO
def w12:WT 12 t12:=λ_=>J
def t13:TF:=λak=>aH<|aI 1 1<|aq<|aZ dw<|k1<|iH<|eB (vA<|oI zA zI) 2 [] (setG 1) (dU<|tB<|aj (ak 14) []<|k1 zB) zB
def w13:WT 13 t13:=λ_=>J
def t14:TF:=λak=>aH<|aI 1 1<|aq<|dD (aU .In) (oI zA<|cI 2)<|aZ gu<|k2 (cS [42])<|cS [63]
def w14:WT 14 t14:=λ_=>J
def t15:TF:=λak=>aH<|aI 2 4<|ah (eg<|aD 2<|v_ 24 (ak 70)<|k2 zA zB)
<|ah (aD 3<|aj (ak 16) []<|k1<|bC zC)
<|ah (aX (bQ<|yn (dm<|dD (aU .NotEq) (aO M.P.tab 14 zC)<|cS [])<|dU<|tB<|aj (ak 28) []<|k2 (aO M.P.tab 1 zD)<|aO M.P.tab 2 zD)
  (bM<|kP 24 (ak 71) zC bI)
  aF)
<|eg<|aq zD
def w15:WT 15 t15:=λ_=>J
def t16:TF:=λak=>aI 1 2<|ah (aX (bQ<|tB<|bx (aY [(24,72)] ak) zA<|k1<|cS [109,97,114,107,32])
  (aq<|c9 1 2<|k2 (bC<|c9 3 0 bI)<|c9 12 1<|k1<|aj (ak 25) []<|k1<|bC zA)
  aF)
<|ah (aX (bQ<|dU<|tB<|aZ wg<|k1<|iH<|eB (vA<|cF<|.tup [(.str [114,111,119,32]),(.str [108,97,115,116]),(.str [47]),(.str [115,111,111,110,32]),(.str [102,114,111,109,32]),(.str [110,111,116,32]),(.str [101,110,100])]) 2 [0] (setG 1) i6<|j1 rk (aO M.P.tab 14 zC)<|k1 zB)
  (aq<|c9 1 2<|k2 (bC<|c9 3 0 bI)<|aj (ak 20) []<|k1<|bC zA)
  aF)
<|ah (aD 1<|aj (ak 17) []<|k1<|bC zA)
<|ah (bM<|kP 24 (ak 73) zA<|k1<|bC<|cS [58,32])
<|aq<|c9 1 2<|k2 (bC zB)<|aj (ak 20) []<|k1<|bC zA
def w16:WT 16 t16:=λ_=>J
def t17:TF:=λak=>aI 1 1<|ah (aX (bQ<|tB<|bx (aY [(24,72)] ak) zA<|k1<|cS [101,110,100])
  (eg<|aq<|c9 10 0 bI)
  aF)
<|ah (aX (bQ<|tB<|bx (aY [(24,72)] ak) zA<|k1<|cS [110,111,116,32])
  (aq<|c9 9 1<|k1<|aj (ak 18) []<|k1<|bC zA)
  aF)
<|aq<|aj (ak 18) []<|k1<|bC zA
def w17:WT 17 t17:=λ_=>J
def t18:TF:=λak=>aI 1 3<|ah (aX (bQ<|tB<|bx (aY [(24,72)] ak) zA<|k1<|cS [108,97,115,116])
  (eg<|aq<|c9 5 0 bI)
  aF)
<|ah (aX (bQ<|tB<|bx (aY [(24,72)] ak) zA<|k1<|cS [115,111,111,110,32])
  (ah (aD 1<|aj (ak 24) []<|k3 (bC zA) (bC zI)<|bC<|cI 3)
<|ah (bM<|kP 24 (ak 73) zA<|k1<|bC<|cS [32])
<|aq<|c9 7 2<|k2 (bC zB)<|aj (ak 27) []<|k1<|bC zA)
  aF)
<|ah (aX (bQ<|tB<|bx (aY [(24,72)] ak) zA<|k1<|cS [102,114,111,109,32])
  (ah (aD 2<|aj (ak 19) []<|k1<|bC zA)
<|ah (bM<|kP 24 (ak 73) zA<|k1<|bC<|cS [32,116,111,32])
<|aq<|c9 8 2<|k2 (bC zC)<|aj (ak 19) []<|k1<|bC zA)
  aF)
<|aq<|aj (ak 19) []<|k1<|bC zA
def w18:WT 18 t18:=λ_=>J
def t19:TF:=λak=>aI 1 1<|ah (aX (bQ<|tB<|bx (aY [(24,72)] ak) zA<|k1<|cS [114,111,119,32])
  (aq<|c9 4 1<|k1<|aj (ak 24) []<|k3 (bC zA) (bC zI)<|bC<|cI 999)
  aF)
<|aq<|c9 6 1<|k1<|aj (ak 27) []<|k1<|bC zA
def w19:WT 19 t19:=λ_=>J
def t20:TF:=λak=>aI 1 1<|ah (aX (bQ<|tB<|bx (aY [(24,72)] ak) zA<|k1<|cS [100,114,111,112])
  (eg<|aq<|c9 13 0 bI)
  aF)
<|ah (aX (bQ<|tB<|bx (aY [(24,72)] ak) zA<|k1<|cS [112,114,105,110,116])
  (eg<|aq<|c9 14 0 bI)
  aF)
<|ah (aX (bQ<|tB<|bx (aY [(24,72)] ak) zA<|k1<|cS [100,111,110,101])
  (eg<|aq<|c9 15 0 bI)
  aF)
<|ah (aX (bQ<|tB<|bx (aY [(24,72)] ak) zA<|k1<|cS [116,101,108,108])
  (eg<|aq<|c9 23 0 bI)
  aF)
<|ah (aX (bQ<|tB<|bx (aY [(24,72)] ak) zA<|k1<|cS [115,97,121,32])
  (aq<|c9 16 1<|k1<|aj (ak 26) []<|k1<|bC zA)
  aF)
<|ah (aX (bQ<|tB<|bx (aY [(24,72)] ak) zA<|k1<|cS [115,119,97,112,32,101,118,101,114,121,32])
  (aq<|aj (ak 21) []<|k2 (bC zA)<|bC<|cF<|.bl O)
  aF)
<|ah (aX (bQ<|tB<|bx (aY [(24,72)] ak) zA<|k1<|cS [115,119,97,112,32])
  (aq<|aj (ak 21) []<|k2 (bC zA)<|bC<|cF<|.bl Zn)
  aF)
<|ah (aX (bQ<|tB<|bx (aY [(24,72)] ak) zA<|k1<|cS [106,111,105,110,32])
  (aq<|c9 18 1<|k1<|aj (ak 24) []<|k3 (bC zA) (bC<|cI 2)<|bC<|cI 9)
  aF)
<|ah (aX (bQ<|tB<|bx (aY [(24,72)] ak) zA<|k1<|cS [112,105,108,101,32])
  (aq<|aj (ak 22) []<|k1<|bC zA)
  aF)
<|ah (aX (bQ<|tB<|bx (aY [(24,72)] ak) zA<|k1<|cS [98,114,105,110,103,32])
  (aq<|c9 20 1<|k1<|aj (ak 25) []<|k1<|bC zA)
  aF)
<|ah (aX (bQ<|tB<|bx (aY [(24,72)] ak) zA<|k1<|cS [103,111,32])
  (aq<|c9 21 1<|k1<|aj (ak 25) []<|k1<|bC zA)
  aF)
<|ah (bM<|kP 24 (ak 73) zA<|k1<|bC<|cS [97,100,100,32])
<|aq<|aj (ak 23) []<|k1<|bC zA
def w20:WT 20 t20:=λ_=>J
def t21:TF:=λak=>aI 2 3<|ah (aD 2<|aj (ak 27) []<|k1<|bC zA)
<|ah (bM<|kP 24 (ak 73) zA<|k1<|bC<|cS [32])
<|aq<|c9 17 3<|k3 (bC zC) (aj (ak 26) []<|k1<|bC zA)<|bC zB
def w21:WT 21 t21:=λ_=>J
def t22:TF:=λak=>aI 1 2<|ah (aD 1<|aj (ak 25) []<|k1<|bC zA)
<|ah (aX (bQ<|dU<|tB<|bx (aY [(24,72)] ak) zA<|k1<|cS [32])
  (eg<|aq<|c9 19 2<|k2 zB<|cF .non)
  aF)
<|aq<|c9 19 2<|k2 (bC zB)<|aj (ak 24) []<|k3 (bC zA) (bC zI)<|bC<|cI 9
def w22:WT 22 t22:=λ_=>J
def t23:TF:=λak=>aI 1 2<|ah (aD 1<|aj (ak 24) []<|k3 (bC zA) (bC zI)<|bC<|cI 9)
<|ah (bM<|kP 24 (ak 73) zA<|k1<|bC<|cS [32])
<|aq<|c9 22 2<|k2 (bC zB)<|aj (ak 24) []<|k3 (bC zA) (bC zI)<|bC<|cI 9
def w23:WT 23 t23:=λ_=>J
def t24:TF:=λak=>aI 3 5<|ah (eg<|aD 3<|bx (aY [(24,74)] ak) zA<|k1<|cS [48,49,50,51,52,53,54,55,56,57])
<|ah (aX (bQ<|yn (dm<|oE zD<|cS [])<|yn (tB<|j1 rk zD<|k1<|cS [48])<|dm<|dD (aU .Gt) (aZ dw<|k1 zD)<|cI 3)
  (bM<|kP 24 (ak 71) zA bI)
  aF)
<|ah (eg<|aD 4<|aZ AX<|k1 zD)
<|ah (aX (bQ<|yn (dm<|dD (aU .Lt) (vF 4) zB)<|dm<|dD (aU .Gt) (vF 4) zC)
  (bM<|kP 24 (ak 71) zA bI)
  aF)
<|eg<|aq<|vF 4
def w24:WT 24 t24:=λ_=>J
def t25:TF:=λak=>aI 1 2<|ah (eg<|aD 1<|bx (aY [(24,74)] ak) zA<|k1<|cS JE)
<|ah (aX (bQ<|yn (dm<|oE zB<|cS [])<|dm<|dD (aU .Gt) (aZ dw<|k1 zB)<|cI 8)
  (bM<|kP 24 (ak 71) zA bI)
  aF)
<|eg<|aq zB
def w25:WT 25 t25:=λ_=>J
def t26:TF:=λak=>aI 1 2<|ah (aD 1<|kP 24 (ak 75) zA<|k1<|bC<|cS [34])
<|ah (aX (bQ<|yn (dm<|dD (aU .Gt) (aZ dw<|k1 zB)<|cI 40)<|dU<|tB<|aj (ak 0) []<|k2 zB<|cS FN)
  (bM<|kP 24 (ak 71) zA bI)
  aF)
<|eg<|aq zB
def w26:WT 26 t26:=λ_=>J
def t27:TF:=λak=>aI 1 2<|ah (aD 1<|kP 24 (ak 75) zA<|k1<|bC<|cS [47])
<|A6 3 0 (aj (ak 3) []<|kO<|k1 zB)<|aO M.P.tab 3 zA
def w27:WT 27 t27:=λ_=>J
def t28:TF:=λak=>aH<|aI 2 2<|ah (aX (tB<|dQ (il M.P.sub [10]) zA)
  (aq<|dQ (il M.P.sub [16,20,23]) zB)
  aF)
<|ah (aX (tB<|dQ (il M.P.sub [17]) zB)
  (aq<|aj (ak 29) []<|k1 zB)
  aF)
<|aq<|AS<|dQ (il M.P.sub [23]) zB
def Zt:WT 28 t28:=λ_=>J
def t29:TF:=λak=>aH<|aI 1 1<|ah (aX (tB<|aj (ak 12) []<|k1<|aO M.P.tab 4 zA)
  (aq<|cF<|.bl Zn)
  aF)
<|aq<|SS (AS<|aO M.P.tab 11 zA)<|dD (aU .LtE) (aZ dw<|k1<|aO M.P.tab 10 zA)<|aj (ak 13) []<|k1<|aO M.P.tab 4 zA
def w29:WT 29 t29:=λ_=>J
def t30:TF:=λak=>aH<|aI 1 2<|ah (aD 1<|j1 splitM zA<|k1<|cS [10])
<|ah (aX (dm<|oE (oI zB<|dQ q_ zI)<|cS [])
  (aq<|aZ gu<|k2 (jy zB nk<|iS<|dQ q_ zI)<|cF<|.bl O)
  aF)
<|aq<|aZ gu<|k2 zB<|cF<|.bl Zn
def w30:WT 30 t30:=λ_=>J
def t31:TF:=λak=>aH<|aI 1 3<|ah (aD 1<|aj (ak 32) []<|k1<|bC<|oI (aj (ak 30) []<|k1 zA) zO)
<|ah (aD 2<|aj (ak 33) []<|k1<|bC zB)
<|ah (bM<|aj (ak 34) []<|k2 (bC zB)<|bC zC)
<|eg<|aq<|dQ (NR 0) zB
def w31:WT 31 t31:=λ_=>J
abbrev JF(ak:Nat->Fn):FS:=ah (aX (bQ<|dm<|dD (aU .Gt) zC<|cI 24)
  (EA 0<|k1 zC)
  aF)
<|gS 1<|aj (ak 15) []<|k2 (bC zD)<|bC zC
def t32:TF:=λak=>aH<|aI 1 4<|ah (eg<|pG 1<|rj bI)
<|ah (gT (kO<|nq 1 zA) (cQ [2,3])
 <|JF ak)
<|eg<|aq zB
def w32:WT 32 t32:=λ_=>J
abbrev Bc:FS:=aX (bQ<|tB<|dQ (il M.P.sub [12])<|aO M.P.tab 2 zD)
  (ah (aX (bQ<|dm<|vB .In Zn 1<|aO M.P.tab 9<|aO M.P.tab 2 zD)
  (EA 1<|k1 zC)
  aF)
<|eg<|yZ 1 (aO M.P.tab 9<|aO M.P.tab 2 zD)<|cF<|.bl O)
  aF
def t33:TF:=λak=>aH<|aI 1 4<|ah (eg<|Em 1)
<|ah (gT (kO<|nq 1 zA) (cQ [2,3])
  Bc)
<|eg<|aq zB
def w33:WT 33 t33:=λ_=>J
abbrev Vh:FS:=aX (bQ<|kF (tB<|dQ (il M.P.sub [21])<|aO M.P.tab 2 zD)<|dm<|vB .NotIn O 1<|aO M.P.tab 9<|aO M.P.tab 2 zD)
  (EA 2<|k1 zC)
  aF
def t34:TF:=λak=>aH<|aI 2 4<|gT (kO<|nq 1 zA) (cQ [2,3])
  Vh
def w34:WT 34 t34:=λ_=>J
def t35:TF:=λak=>aH<|aI 1 1<|aq<|j1 joinM (cS [])<|k1<|iH<|eB (vA<|aO M.P.tab 0 zA) 2 [] (setG 1) i6<|oA (aj (ak 36) []<|k1 zB)<|cS [10]
def w35:WT 35 t35:=λ_=>J
def t36:TF:=λak=>aH<|aI 1 1<|ah (aX (tB<|dQ (il M.P.sub [3])<|aO M.P.tab 1 zA)
  (aq<|aj (ak 38) []<|k1<|aO M.P.tab 2 zA)
  aF)
<|aq<|oA (oA (aj (ak 37) []<|k1<|aO M.P.tab 1 zA)<|cS [58,32])<|aj (ak 38) []<|k1<|aO M.P.tab 2 zA
def č:WT 36 t36:=λ_=>J
def t37:TF:=λak=>aH<|aI 1 1<|ah (aX (tB<|dQ (il M.P.sub [4]) zA)
  (aq<|oA (cS [114,111,119,32])<|aZ strN<|k1<|aO M.P.tab 3 zA)
  aF)
<|ah (aX (tB<|dQ (il M.P.sub [5]) zA)
  (aq<|cS [108,97,115,116])
  aF)
<|ah (aX (tB<|dQ (il M.P.sub [6]) zA)
  (aq<|aj (ak 39) []<|k1<|aO M.P.tab 4 zA)
  aF)
<|ah (aX (tB<|dQ (il M.P.sub [7]) zA)
  (aq<|oA (oA (oA (cS [115,111,111,110,32])<|aZ strN<|k1<|aO M.P.tab 5 zA)<|cS [32])<|aj (ak 39) []<|k1<|aO M.P.tab 4 zA)
  aF)
<|ah (aX (tB<|dQ (il M.P.sub [8]) zA)
  (aq<|oA (oA (oA (cS [102,114,111,109,32])<|aj (ak 37) []<|k1<|aO M.P.tab 6 zA)<|cS [32,116,111,32])<|aj (ak 37) []<|k1<|aO M.P.tab 7 zA)
  aF)
<|ah (aX (tB<|dQ (il M.P.sub [9]) zA)
  (aq<|oA (cS [110,111,116,32])<|aj (ak 37) []<|k1<|aO M.P.tab 8 zA)
  aF)
<|aq<|cS [101,110,100]
def Wt:WT 37 t37:=λ_=>J
def t38:TF:=λak=>aH<|aI 1 1<|ah (aX (tB<|dQ (il M.P.sub [12]) zA)
  (aq<|oA (cS [109,97,114,107,32])<|aO M.P.tab 9 zA)
  aF)
<|ah (aX (tB<|dQ (il M.P.sub [13]) zA)
  (aq<|cS [100,114,111,112])
  aF)
<|ah (aX (tB<|dQ (il M.P.sub [14]) zA)
  (aq<|cS [112,114,105,110,116])
  aF)
<|ah (aX (tB<|dQ (il M.P.sub [15]) zA)
  (aq<|cS [100,111,110,101])
  aF)
<|ah (aX (tB<|dQ (il M.P.sub [16]) zA)
  (aq<|oA (cS [115,97,121,32])<|aj (ak 40) []<|k1<|aO M.P.tab 10 zA)
  aF)
<|ah (aX (tB<|dQ (il M.P.sub [17]) zA)
  (aq<|oA (oA (oA (AU (tB<|aO M.P.tab 11 zA) (cS [115,119,97,112,32,101,118,101,114,121,32])<|cS [115,119,97,112,32])<|aj (ak 39) []<|k1<|aO M.P.tab 4 zA)<|cS [32])<|aj (ak 40) []<|k1<|aO M.P.tab 10 zA)
  aF)
<|ah (aX (tB<|dQ (il M.P.sub [18]) zA)
  (aq<|oA (cS [106,111,105,110,32])<|aZ strN<|k1<|aO M.P.tab 12 zA)
  aF)
<|ah (aX (tB<|dQ (il M.P.sub [19]) zA)
  (aq<|oA (oA (cS [112,105,108,101,32])<|aO M.P.tab 13 zA)<|AU (dm<|dD (aU .Is) (aO M.P.tab 12 zA)<|cF .non) (cS [])<|oA (cS [32])<|aZ strN<|k1<|aO M.P.tab 12 zA)
  aF)
<|ah (aX (tB<|dQ (il M.P.sub [20]) zA)
  (aq<|oA (cS [98,114,105,110,103,32])<|aO M.P.tab 13 zA)
  aF)
<|ah (aX (tB<|dQ (il M.P.sub [21]) zA)
  (aq<|oA (cS [103,111,32])<|aO M.P.tab 9 zA)
  aF)
<|ah (aX (tB<|dQ (il M.P.sub [22]) zA)
  (aq<|oA (oA (oA (cS [97,100,100,32])<|aZ strN<|k1<|aO M.P.tab 6 zA)<|cS [32])<|aZ strN<|k1<|aO M.P.tab 7 zA)
  aF)
<|aq<|cS [116,101,108,108]
def P1:WT 38 t38:=λ_=>J
def t39:TF:=λak=>aH<|aI 1 1<|aq<|oA (oA (cS [47])<|aj (ak 10) []<|k1 zA)<|cS [47]
def w39:WT 39 t39:=λ_=>J
def t40:TF:=λak=>aH<|aI 1 1<|aq<|oA (oA (cS [34]) zA)<|cS [34]
def Wu:WT 40 t40:=λ_=>J
def t41:TF:=λak=>aH<|aI 2 2<|ah (aX (dm<|dD (aU .Lt) zB<|aZ dw<|k1 zA)
  (aq<|oI zA zB)
  aF)
<|aq zO
def Ď:WT 41 t41:=λ_=>J
abbrev Vi:FS:=ah (aD 2<|oA zC<|oI (cS JE)<|oM zB<|cI 26)
<|aD 1<|oD zB<|cI 26
def t42:TF:=λak=>aH<|aI 1 4<|ah (aD 1<|oM (oD zA<|cI 8)<|dD (pI .Pow) (cI 26)<|cI 8)
<|ah (aD 2<|cS [])
<|ah (gT (GZ tW<|k1<|oA zI<|oM zA<|cI 8) (setG 3)
  Vi)
<|aq zC
def w42:WT 42 t42:=λ_=>J
def t43:TF:=λak=>aH<|aI 1 1<|aq<|tU (dQ (TQ "int") zA)<|AS<|dQ (TQ "bool") zA
def w43:WT 43 t43:=λ_=>J
def t44:TF:=λak=>aH<|aI 1 4<|ah (aD 1<|aj (ak 42) []<|k1 zA)
<|ah (aD 2<|oA zB<|cS [97,98,99,100,101,102,103,104])
<|ah (aD 3<|aZ bJ<|az (cS [109,97,114,107])<|az (cS [109,97,114,107,32])<|az (oA (cS [109,97,114,107,32]) zC)<|k3 (oA (cS [109,97,114,107,32])<|dQ Q_ zB) (oA (oA (oA (cS [109,97,114,107,32]) zB)<|cS [32]) zB)<|oA (cS [109,97,114,107,32,32]) zB)
<|ah (aD 3<|oA zD<|aZ bJ<|az (oA (oA (cS [103,111,32]) zB)<|cS [49])<|az (oA (cS [103,111,32]) zC)<|az (cS [103,111])<|k3 (oA (oA (cS [98,114,105,110,103,32]) zB)<|cS [95]) (cS [98,114,105,110,103])<|oA (cS [98,114,105,110,103,32]) zC)
<|ah (aD 3<|oA zD<|aZ bJ<|az (oA (cS [108,97,115,116,58,32,109,97,114,107,32]) zB)<|az (oA (cS [112,105,108,101,32]) zC)<|k3 (cS [112,105,108,101]) (oA zB<|cS [113,58,32,100,114,111,112])<|oA (oA (oA (cS [112,105,108,101,32]) zB)<|cS [32]) zB)
<|aq<|oI zD<|oM (oD zA<|cI 8)<|cI 17
def w44:WT 44 t44:=λ_=>J
def t45:TF:=λak=>aH<|aI 1 3<|ah (aD 1<|aZ strN<|k1<|oA zI<|oM zA<|cI 99)
<|ah (aD 2<|aZ bJ<|k3 (cS [114,111,119,32,48,58,32,100,114,111,112]) (oA (oA (cS [114,111,119,32,48]) zB)<|cS [58,32,100,114,111,112])<|oA (oA (cS [114,111,119,32])<|aZ strN<|k1<|oA (cI 1000)<|oM zA<|cI 9000)<|cS [58,32,100,114,111,112])
<|ah (aD 2<|oA zC<|aZ bJ<|k3 (oA (oA (cS [114,111,119,32]) zB)<|cS [32,58,32,100,114,111,112]) (oA (oA (cS [114,111,119,32]) zB)<|cS [58,100,114,111,112])<|oA (oA (cS [114,111,119,32]) zB)<|cS [58,32,32,100,114,111,112])
<|ah (aD 2<|oA zC<|aZ bJ<|k3 (oA (oA (cS [114,111,119,32,32]) zB)<|cS [58,32,100,114,111,112]) (oA (oA (cS [114,111,119,32]) zB)<|cS [32,100,114,111,112])<|oA (oA (cS [114,111,119,32,45]) zB)<|cS [58,32,100,114,111,112])
<|ah (aD 2<|oA zC<|aZ bJ<|k2 (oA (oA (oA (oA (cS [114,111,119,32]) zB)<|cS [58,32,114,111,119,32]) zB)<|cS [58,32,100,114,111,112])<|cS [115,111,111,110,32,48,32,47,97,47,58,32,100,114,111,112])
<|ah (aD 2<|oA zC<|aZ bJ<|az (oA (oA (cS [115,111,111,110,32])<|aZ strN<|k1<|oA (cI 4)<|oM zA<|cI 9)<|cS [32,47,97,47,58,32,100,114,111,112])<|k3 (cS [115,111,111,110,32,49,32,114,111,119,32,50,58,32,100,114,111,112]) (oA (cS [114,111,119,32]) zB)<|cS [114,111,119,32,58,32,100,114,111,112])
<|ah (aD 2<|oA zC<|aZ bJ<|k2 (oA (cS [106,111,105,110,32])<|oI (aZ bJ<|az (cS [48])<|az (cS [49])<|az (cS [49,48])<|k3 (cS [48,50]) (cS [])<|cS [120])<|oM zA<|cI 6)<|oA (cS [112,105,108,101,32,97,32])<|oI (aZ bJ<|az (cS [48])<|az (cS [49,48])<|k3 (cS [48,49]) (cS [120])<|cS [])<|oM zA<|cI 5)
<|ah (aD 2<|oA zC<|aZ bJ<|k1<|oA (cS [97,100,100,32])<|oI (aZ bJ<|az (cS [48,32,49])<|az (cS [49,32,48])<|az (cS [49,48,32,49])<|az (cS [49,32,49,48])<|az (cS [49])<|k3 (cS [49,32,50,32,51]) (cS [49,32,32,50])<|cS [97,32,49])<|oM zA<|cI 8)
<|aq<|oI zC<|oM (oD zA<|cI 8)<|cI 18
def w45:WT 45 t45:=λ_=>J
def t46:TF:=λak=>aH<|aI 1 3<|ah (aD 1<|aj (ak 42) []<|k1 zA)
<|ah (aD 2<|aZ bJ<|az (oA (cS [115,97,121,32]) zB)<|k3 (oA (oA (cS [115,97,121,32,34]) zB)<|cS [34,32]) (oA (oA (oA (oA (cS [115,97,121,32,34]) zB)<|cS [34]) zB)<|cS [34])<|cS [115,97,121,32,34])
<|ah (aD 2<|oA zC<|aZ bJ<|k3 (oA (oA (oA (cS [115,97,121,32,34])<|dD (pI .Mult) (cS [97,98,99,100,101,102,103,104,105,106])<|cI 4) zB)<|cS [34]) (oA (oA (cS [115,119,97,112,32,47]) zB)<|cS [47])<|oA (cS [115,119,97,112,32,47,97,47,32]) zB)
<|ah (aD 2<|oA zC<|aZ bJ<|k3 (oA (oA (cS [115,119,97,112,32,47]) zB)<|cS [47,32,32,34,98,34]) (cS [115,119,97,112,32,97,108,108,32,47,97,47,32,34,98,34])<|oA (oA (cS [115,119,97,112,32,47])<|oI zB zO)<|cS [42,47,32,34,98,34])
<|ah (aD 2<|oA zC<|aZ bJ<|k3 (cS [115,119,97,112,32,47,97,63,98,42,47,32,34,34]) (cS [115,119,97,112,32,47,47,32,34,97,34])<|oA (oA (oA (oA (cS [115,119,97,112,32,101,118,101,114,121,32,47]) zB)<|cS [47,32,34]) zB)<|cS [98,34])
<|ah (aD 2<|oA zC<|aZ bJ<|k3 (cS [115,119,97,112,32,101,118,101,114,121,32,47,97,98,42,47,32,34,98,98,34]) (cS [115,119,97,112,32,47,94,36,47,32,34,98,34])<|cS [115,97,121])
<|aq<|oI zC<|oM (oD zA<|cI 8)<|cI 16
def w46:WT 46 t46:=λ_=>J
def t47:TF:=λak=>aH<|aI 1 3<|ah (aD 1<|aj (ak 42) []<|k1 zA)
<|ah (aD 2<|aZ bJ<|az (cS [])<|az (cS [32,100,114,111,112])<|az (cS [100,114,111,112,32])<|az (cS [68,114,111,112])<|az (cS [100,114,111,112,115])<|az (cS [112,114,105,110,116,32,112,114,105,110,116])<|az (cS [108,97,115,116])<|az (cS [101,110,100])<|k3 (cS [47,97,47]) (cS [108,97,115,116,108,121,58,32,100,114,111,112])<|cS [116,101,108,108])
<|ah (aD 2<|oA zC<|aZ bJ<|az (cS [108,97,115,116,58,32,116,101,108,108])<|az (cS [110,111,116,32,101,110,100,58,32,115,97,121,32,34,120,34])<|k3 (cS [110,111,116,32,110,111,116,32,108,97,115,116,58,32,100,114,111,112]) (cS [100,114,111,112,58,32,100,114,111,112])<|cS [102,114,111,109,32,47,97,47,58,32,100,114,111,112])
<|ah (aD 2<|oA zC<|aZ bJ<|az (cS [102,114,111,109,32,108,97,115,116,32,116,111,32,114,111,119,32,50,58,32,100,114,111,112])<|k3 (cS [102,114,111,109,32,47,97,47,32,116,111,32,110,111,116,32,47,98,47,58,32,100,114,111,112]) (cS [102,114,111,109,32,47,97,47,32,116,111,32,47,98,47,32,100,114,111,112])<|cS [110,111,116,58,32,100,114,111,112])
<|ah (aD 2<|oA zC<|aZ bJ<|k1<|oA (cS [101,110,100,58,32])<|oI (aZ bJ<|az (cS [100,114,111,112])<|az (cS [112,114,105,110,116])<|az (cS [100,111,110,101])<|az (cS [106,111,105,110,32,50])<|az (cS [112,105,108,101,32,97])<|k3 (cS [103,111,32,97]) (cS [97,100,100,32,49,32,50])<|cS [109,97,114,107,32,97])<|oM zA<|cI 8)
<|ah (aD 2<|oA zC<|aZ bJ<|az (oA (oA (cS [47]) zB)<|cS [58,32,100,114,111,112])<|k3 (oA (oA (cS [47,91])<|oI zB zO)<|cS [93,47,58,32,100,114,111,112]) (oA (oA (cS [47]) zB)<|cS [42,42,47,58,32,100,114,111,112])<|cS [47,97,47,98,47,58,32,100,114,111,112])
<|ah (aD 2<|oA zC<|aZ bJ<|az (oA (oA (cS [47,42]) zB)<|cS [47,58,32,100,114,111,112])<|az (cS [47,97,94,47,58,32,100,114,111,112])<|k3 (cS [47,36,97,47,58,32,100,114,111,112]) (cS [47,91,93,47,58,32,100,114,111,112])<|cS [47,91,97,98,99,97,93,47,58,32,100,114,111,112])
<|ah (aD 2<|oA zC<|aZ bJ<|az (cS [47,91,97,98,99,100,101,102,103,104,105,106,107,108,109,93,47,58,32,100,114,111,112])<|k3 (cS [47,97,98,99,100,101,102,103,104,105,47,58,32,100,114,111,112]) (cS [47,91,94,47,58,32,100,114,111,112])<|cS [47,93,47,58,32,100,114,111,112])
<|ah (aD 2<|oA zC<|aZ bJ<|k2 (oA (oA (cS [47])<|oI zB zO)<|cS [93,47,58,32,100,114,111,112])<|cS [47,91,97,45,47,58,32,100,114,111,112])
<|aq<|oI zC<|oM (oD zA<|cI 8)<|cI 36
def w47:WT 47 t47:=λ_=>J
def t48:TF:=λak=>aH<|aI 1 1<|ah (aX (dm<|oE (oM zA<|cI 4) zO)
  (aq<|aj (ak 44) []<|k1<|oD zA<|cI 4)
  aF)
<|ah (aX (dm<|oE (oM zA<|cI 4) zI)
  (aq<|aj (ak 45) []<|k1<|oD zA<|cI 4)
  aF)
<|ah (aX (dm<|oE (oM zA<|cI 4)<|cI 2)
  (aq<|aj (ak 46) []<|k1<|oD zA<|cI 4)
  aF)
<|aq<|aj (ak 47) []<|k1<|oD zA<|cI 4
def w48:WT 48 t48:=λ_=>J
def t49:TF:=λak=>aH<|aI 1 4<|ah (aD 1<|aj (ak 42) []<|k1<|oD zA<|cI 8)
<|ah (aD 2<|oI (cS [97,98,99,100,101])<|oM (oD zA<|cI 8)<|cI 5)
<|ah (aD 3<|aZ bJ<|az (cS [100,114,111,112])<|k3 (oA (oA (cS [114,111,119,32])<|aZ strN<|k1<|oA zI<|oM (oD zA<|cI 8)<|cI 999)<|cS [58,32,100,111,110,101]) (oA (oA (cS [115,97,121,32,34]) zB)<|cS [34])<|oA (cS [110,111,116,32,108,97,115,116,58,32,112,105,108,101,32]) zB)
<|ah (aD 3<|oA zD<|aZ bJ<|az (oA (cS [109,97,114,107,32]) zC)<|k3 (oA (cS [103,111,32]) zC) (oA (oA (cS [47]) zB)<|cS [47,58,32,97,100,100,32,49,32,50])<|oA (cS [109,97,114,107,32]) zB)
<|aq<|oI zD<|oM zA<|cI 8
def w49:WT 49 t49:=λ_=>J
abbrev P4(ak:Nat->Fn):FS:=aX (kF (dm<|oE (oM zD<|cI 11) zO)<|dm<|dD (aU .Gt) (oM (aj (ak 41) []<|k2 zA zO)<|cI 3) zO)
  (ah (gS 1<|yo 2)
<|gS 2<|aj (ak 48) []<|k1<|oD zD<|cI 11)
 <|gS 2<|aj (ak 49) []<|k1<|oD zD<|cI 11
def t50:TF:=λak=>aH<|aI 1 4<|ah (pG 1<|rj bI)
<|ah (pG 2<|rj bI)
<|ah (gT (vA<|jy zA (iS<|cI 2)<|iS<|oA (cI 2)<|oI (aZ bJ<|k3 (cI 24) (cI 24)<|cI 40)<|oM (aj (ak 41) []<|k2 zA zI)<|cI 3) (setG 3)
 <|P4 ak)
<|aq<|aZ gu<|k2 zC zB
def w50:WT 50 t50:=λ_=>J
abbrev nS(ak:Nat->Fn):FS:=aX (tB<|j1 rk (oI zA<|vF 5)<|k1<|cS [109,97,114,107,32])
  (ah (aX (dm<|vB .In Zn 4<|jy (oI zA<|vF 5) (iS<|cI 5) nk)
  (aq<|aZ gu<|k2 (aj (ak 53) []<|k1 zI)<|oA (vF 5) zI)
  aF)
<|gS 4<|jy (oI zA<|vF 5) (iS<|cI 5) nk)
  aF
abbrev Be(ak:Nat->Fn):FS:=aX (kF (tB<|j1 rk (oI zA<|vF 5)<|k1<|cS [103,111,32])<|dm<|vB .NotIn O 3<|jy (oI zA<|vF 5) (iS<|cI 3) nk)
  (aq<|aZ gu<|k2 (aj (ak 53) []<|k1<|cI 2)<|oA (vF 5) zI)
  aF
def t51:TF:=λak=>aH<|aI 2 6<|ah (aD 2<|aZ Eu<|k1<|oA zB<|aZ bJ<|k1<|cI 24)
<|ah (aX (dm<|dD (aU .Lt) zC<|aZ dw<|k1 zA)
  (aq<|aZ gu<|k2 (aj (ak 53) []<|k1 zO)<|oA zC zI)
  aF)
<|ah (aD 3<|iH<|eB (vA zA) 2 [] (setG 1) (tB<|j1 rk zB<|k1<|cS [109,97,114,107,32])<|jy zB (iS<|cI 5) nk)
<|ah (pG 4<|rj bI)
<|ah (gT (GZ tW<|k1<|aZ dw<|k1 zA) (setG 5)
 <|nS ak)
<|ah (gT (GZ tW<|k1<|aZ dw<|k1 zA) (setG 5)
 <|Be ak)
<|aq<|aZ gu<|k2 (aZ bJ bI) zO
def w51:WT 51 t51:=λ_=>J
def t52:TF:=λak=>aH<|aI 1 4<|ah (aD 1<|aZ bJ bI)
<|ah (aD 2 zO)
<|ah (uE (aj (ak 31) []<|kO<|k1 zA)<|OW 3 1 2 M.kb)
<|aq<|aZ gu<|k2 zB zC
def w52:WT 52 t52:=λ_=>J
def t53:TF:=λak=>aH<|aI 1 1<|aq<|aZ bJ<|az (oE zA zO)<|az (oE zA zI)<|az (oE zA<|cI 2)<|az (cF<|.bl O)<|az (cF<|.bl Zn)<|az (cF<|.bl Zn)<|k3 (cF<|.bl Zn) (cF<|.bl Zn)<|cF<|.bl Zn
def Zu:WT 53 t53:=λ_=>J
def t54:TF:=λak=>aH<|aI 1 7<|ah (tY (cQ [3,4])<|aj (ak 50) []<|k1 zA)
<|ah (aD 1<|j1 joinM (cS [])<|k1<|iH<|eB (vA zD) 2 [] (setG 1) i6<|oA zB<|cS [10])
<|ah (tY (cQ [5,6])<|aj (ak 51) []<|k2 zD<|vF 4)
<|ah (aD 2<|aj (ak 52) []<|k1 zB)
<|ah (aX (yn (dU<|tB<|aj (ak 43) []<|k1<|oI zC zI)<|dm<|dD (aU .NotEq) zC<|aZ gu<|k2 (vF 5)<|vF 6)
  (aq<|cF<|.bl Zn)
  aF)
<|aq<|SS (dD (aU .NotEq) (vF 5)<|aZ bJ bI)<|oE (aj (ak 35) []<|k1<|aj (ak 31) []<|k1 zB) zB
def Zv:WT 54 t54:=λ_=>J
def t70:TF:=λak=>aI 3 3<|ah (jT M.P.tab 14 zA zB)
<|jT M.P.tab 3 zA zC
def w70:WT 70 t70:=λ_=>J
def t71:TF:=λak=>aI 1 1<|EA 0<|k1<|aO M.P.tab 3 zA
def w71:WT 71 t71:=λ_=>J
def t72:TF:=λak=>aI 2 2<|ah (aX (dU<|tB<|j1 rk (aO M.P.tab 14 zA)<|k1 zB)
  (aq<|cF<|.bl Zn)
  aF)
<|ah (jT M.P.tab 14 zA<|jy (aO M.P.tab 14 zA) (iS<|aZ dw<|k1 zB) nk)
<|aq<|cF<|.bl O
def ď:WT 72 t72:=λ_=>J
def t73:TF:=λak=>aI 2 2<|aX (bQ<|dU<|tB<|bx (aY [(24,72)] ak) zA<|k1 zB)
  (bM<|kP 24 (ak 71) zA bI)
  aF
def w73:WT 73 t73:=λ_=>J
def t74:TF:=λak=>aI 2 3<|ah (aD 2<|aj (ak 1) []<|k2 (aO M.P.tab 14 zA) zB)
<|ah (jT M.P.tab 14 zA<|jy (aO M.P.tab 14 zA) (iS<|aZ dw<|k1 zC) nk)
<|aq zC
def w74:WT 74 t74:=λ_=>J
def t75:TF:=λak=>aI 2 4<|ah (bM<|kP 24 (ak 73) zA<|k1<|bC zB)
<|ah (eg<|aD 2<|j1 i7 (aO M.P.tab 14 zA)<|k1 zB)
<|ah (aX (bQ<|dm<|oE zC<|dQ q_ zI)
  (bM<|kP 24 (ak 71) zA bI)
  aF)
<|ah (eg<|aD 3<|jy (aO M.P.tab 14 zA) nk<|iS zC)
<|ah (eg<|jT M.P.tab 14 zA<|jy (aO M.P.tab 14 zA) (iS<|oA zC zI) nk)
<|eg<|aq zD
def w75:WT 75 t75:=λ_=>J
end K24
namespace K24
open D
variable(n:Nat){m:List _root_.D.Ob}
section
variable{a:FE}{fl:FL}{s s' s1 s2:S}{t:T}{ts:FK}
def rT{α:Type}{l:List α}{j:Nat}(h:j<l.length):atT l (j:Int)=l[j]?:=by
 unfold atT;rw[b7<|by lia,b7<|by lia];rfl
def cT(h:a s=.ok (t,s1))(b:fl s1=.ok (ts,s2)):az a fl s=.ok (t::ts,s2):=by
 unfold az;rw[h];show Res.bind (fl s1) _=_;rw[b];rfl
def eo{i:Nat}(h:a s=.ok (t,s')):aD i a s=.ok (.nx,iR s' i<|.val t):=by unfold aD;rw[h];rfl
end
def wO(a b:B1):aU .Eq (.str a) (.str b)=U (.bl<|decide<|a=b):=J
def uT(a b:Int):aU .Gt (.int a) (.int b)=U (.bl<|decide<|b<a):=J
def nT(a b:Int):aU .Lt (.int a) (.int b)=U (.bl<|decide<|a<b):=J
theorem gZ{g:FG}{e:FE}{b:Fs}{m:FV}{f:T->T}:∀{ts:FK},(∀t∈ts,∃b1 b2,g t b=U b1/\e ⟨b1,m⟩=.ok (f t,⟨b2,m⟩))->b_ g i6 e b ts m=.ok (ts.map f,m)
 |[],_=>J
 |t::ts,h=>by
  obtain⟨b1,b2,d,c⟩:=h t<|eu ..;unfold b_;rw[d];show Res.bind (e ⟨b1,m⟩) _=_;rw[c];show Res.bind (b_ g i6 e b ts m) _=_;rw[gZ λt a=>h t<|eE _ a];rfl
def zJ{a:FL}{n:Nat}{js:B1}{g:FG}{c:FT}{e:FE}{s s1:S}{ts us:FK}{m':FV}(h:a s=.ok (ts,s1))(z:ts.length<=1000000)(q:b_ g c e (jf n js<|kG js s1.r) ts s1.m=.ok (us,m')):eB a n js g c e s=.ok (us,⟨kG js s1.r,m'⟩):=by
 unfold eB;rw[h];show(if ts.length<=1000000 then _ else _)=_
 rw[b7 z,q];rfl
def zK{fl:FL}{s s':S}{ts:FK}(h:fl s=.ok (ts,s')):iH fl s=.ok (.lst ts,s'):=by unfold iH;rw[h];rfl
def eX{g:FK->FR}{fl:FL}{s s':S}{ts:FK}{t:T}(h:fl s=.ok (ts,s'))(q:g ts=U t):aZ g fl s=.ok (t,s'):=by unfold aZ;rw[h];show Res.bind (dG<|g ts) _=_;rw[q];rfl
def bB{g:T->T->FR}{a b:FE}{s s1 s2:S}{t u v:T}(h:a s=.ok (t,s1))(c:b s1=.ok (u,s2))(k:g t u=U v):dD g a b s=.ok (v,s2):=by
 unfold dD;rw[h];refine mw ?_;dsimp only;rw[c];refine mw ?_;dsimp only;rw[k];rfl
def dZ{g:FG}{b:FS}{t:T}{ts:FK}{s s1:S}{r:Fs}{q:Res<|Out×S}(h:g t s.r=U r)(a:b ⟨r,s.m⟩=.ok (.nx,s1))(k:aM g b ts s1=q):aM g b (t::ts) s=q:=by
 unfold aM;rw[h];refine mw ?_;rw[a];exact k
def uU{a:FL}{g:FG}{b:FS}{s s1:S}{ts:FK}{q:Res<|Out×S}(h:a s=.ok (ts,s1))(k:aM g b ts s1=q):gT a g b s=q:=by unfold gT;rw[h];exact k
def rV{i:Nat}{a:FE}{s s1:S}{Đ ts:FK}{t:T}(h0:s.r[i]?=U (U<|.ol Đ))(h:a s=.ok (t,s1))(b:s1.r[i]?=U (U<|.ol ts))(z:ts.length<1000000):gS i a s=.ok (.nx,iR s1 i<|.ol<|ts++[t]):=by
 unfold gS;rw[h0];refine Eq.trans (JB Đ _) ?_;rw[h];refine mw ?_;dsimp only;rw[b];refine Eq.trans (JB ts _) ?_;rw[my z];rfl
def W.eq{α:Type}{x:Res α}{v:α}(h:W x λa=>a=v):x=.ok v:=by
 obtain⟨a,e,rfl⟩:=h;exact e
def Vj{c:FT}{s s':S}(h:c s=.ok (Zn,s')):dU c s=.ok (O,s'):=by unfold dU;rw[h];rfl
def Vk{c:FT}{s s':S}(h:c s=.ok (O,s')):dU c s=.ok (Zn,s'):=by unfold dU;rw[h];rfl
def Zw{c:Nat}{g:Fn}{fl:FL}{s s':S}{ts:FK}{m':FV}(h:fl s=.ok (ts,s'))(k:g (.own s'.m.length::ts) (s'.m++[⟨c,[]⟩])=.ok (.non,m')):v_ c g fl s=.ok (.own s'.m.length,⟨s'.r,m'⟩):=by
 unfold v_;rw[h];refine mw ?_;dsimp only;rw[k]
section
variable{s:S}{a:FE}{t:T}{i:Nat}{A B E:FS}{c:FT}{G:T×FV->Prop}{d:Out×S->Prop}
def bS(e:a s=.ok (t,s))(h:WB B (iR s i<|.val t) G):WB (ah (aD i a) B) s G:=bSt e h
def bN(e:c s=.ok (Zn,s))(h:WB B s G):WB (ah (aX c A aF) B) s G:=bSk e h
def bY(e:c s=.ok (O,s))(h:WB A s G):WB (ah (aX c A B) E) s G:=bHt e h
def bR(e:a s=.ok (t,s))(h:G (t,s.m)):WB (aq a) s G:=bRt e h
def sEq{a n:Nat}{b:FS}{ts:FK}(h:aN ts=O)(hl:ts.length=a)(d:noOwn t=O)(k:WB b ⟨ts.map (λt=>sv t)++dN (n-ts.length) Y,[]⟩ λp=>p.1=t):aH (aI a n b) ts m=.ok (t,m):=W.eq<|Mm h<|(Vc hl k).mono λp c=>⟨by rw[c];exact d,by rw[c]⟩
def cE{g:Fn}{fl:FL}{ts:FK}(h:fl s=.ok (ts,s))(k:g ts s.m=.ok (t,s.m)):aj g [] fl s=.ok (t,s):=zG h (by rw[bz];exact k)
def đ{g:FG}{e:FE}{b b1 b2:Fs}{u:T}{ts us:FK}(h:g t b=U b1)(a:e ⟨b1,m⟩=.ok (u,⟨b2,m⟩))(k:b_ g i6 e b ts m=.ok (us,m)):b_ g i6 e b (t::ts) m=.ok (u::us,m):=by
 rw[b_,h];refine mw ?_;refine mw ?_;show Res.bind (e ⟨b1,m⟩) _=_;rw[a];refine mw ?_;dsimp only;rw[k];rfl
def oY{b:Bool}(h:a s=.ok (.bl b,s)):D.tB a s=.ok (b,s):=by unfold D.tB;rw[h];rfl
def gP{b:Bool}(h:a s=.ok (.bl b,s)):D.dm a s=.ok (b,s):=by unfold D.dm;rw[h];rfl
def Bf{g:T->FR}{u:T}(h:a s=.ok (t,s))(k:g t=U u):dQ g a s=.ok (u,s):=by
 unfold dQ;rw[h];refine mw ?_;dsimp only;rw[k];rfl
def lA{d:FT}{x y:Bool}(h:c s=.ok (x,s))(a:d s=.ok (y,s)):kF c d s=.ok (x&&y,s):=by
 unfold kF;rw[h];cases x with
 |true=>exact a
 |false=>rfl
def uV{d:FT}{x y:Bool}(h:c s=.ok (x,s))(a:d s=.ok (y,s)):yn c d s=.ok (x ||y,s):=by
 unfold yn;rw[h];cases x with
 |true=>rfl
 |false=>exact a
def Vl{g:FK->FC}{fl:FL}{s s1:S}{ts us:FK}(h:fl s=.ok (ts,s1))(k:g ts=U us):GZ g fl s=.ok (us,s1):=by
 unfold GZ;rw[h];refine mw ?_;dsimp only;rw[k];rfl
def BD{lo b:FO}{u:T}{x y:Dx}(d:a s=.ok (t,s))(hl:lo s=.ok (x,s))(c:b s=.ok (y,s))(h:NO x y t=U u):jy a lo b s=.ok (u,s):=by
 unfold jy;rw[d];refine mw ?_;dsimp only;rw[hl];refine mw ?_;dsimp only;rw[c];refine mw ?_;dsimp only;rw[h];rfl
def itE{ts:FK}(h:a s=.ok (t,s))(k:Wf t=U ts):vA a s=.ok (ts,s):=by
 unfold vA;rw[h];refine mw ?_;dsimp only;rw[k];rfl
def Wv{a:FL}{n:Nat}{js:B1}{g:FG}{e:FE}{ts us:FK}(h:a s=.ok (ts,s))(z:ts.length<=1000000)(b:kG js s.r=s.r)(q:b_ g c e (jf n js s.r) ts s.m=.ok (us,s.m)):iH (eB a n js g c e) s=.ok (.lst us,s):=by
 have:=zK<|zJ (n:=n) (js:=js) (g:=g) (c:=c) (e:=e) (us:=us) (m':=s.m) h z<|by rw[b];exact q
 rw[b]at this;exact this
def pE(h:a s=.ok (t,s)){b:FE}{u v:T}{g:T->T->FR}(c:b s=.ok (u,s))(k:g t u=U v):dD g a b s=.ok (v,s):=bB h c k
def uW{f:B1->FK->FR}{o:FE}{fl:FL}{s s1 s2:S}{l:B1}{ts:FK}{t:T}(h:o s=.ok (.str l,s1))(b:fl s1=.ok (ts,s2))(a:f l ts=U t):j1 f o fl s=.ok (t,s2):=by
 unfold j1;rw[h];refine mw ?_;refine mw ?_;dsimp only;rw[b];refine mw ?_;dsimp only;rw[a];rfl
end
def JG{c d:FT}{s s1:S}(h:c s=.ok (Zn,s1)):kF c d s=.ok (Zn,s1):=by
 unfold kF;rw[h];rfl
def P5{c:FT}{B:FS}{k:Nat}{s s1:S}{b:Out×S->Prop}(d:c s=.ok (O,s1))(h:W (B s1) λq=>q.1=.nx/\W (bg c B k q.2) b):W (bg c B (k+1) s) b:=by
 obtain⟨⟨o,s2⟩,e,rfl,h⟩:=h;obtain⟨a,f,h⟩:=h;refine⟨a,?_,h⟩;show Res.bind (c s) _=_;rw[d];show Res.bind (B s1) _=_;rw[e];exact f
def Vm{c:FT}{B:FS}{k:Nat}{s s1:S}{a:Out×S->Prop}(b:c s=.ok (Zn,s1))(h:a (.nx,s1)):W (bg c B (k+1) s) a:=by
 refine⟨_,?_,h⟩;show Res.bind (c s) _=_;rw[b];rfl
abbrev Tx:=B1
def strip:Tx->Tx->Option Tx
 |[],r=>U r
 |_::_,[]=>Y
 |c::w,d::r=>if c=d then strip w r else Y
def sp(S:Tx):Tx->Tx×Tx
 |[]=>([],[])
 |c::r=>if c∈S then(c::(sp S r).1,(sp S r).2)else([],c::r)
def cutAt(c:Nat):Tx->Option (Tx×Tx)
 |[]=>Y
 |d::r=>if d=c then U ([],r)else(cutAt c r).map λp=>(d::p.1,p.2)
def dH:Tx:=[48,49,50,51,52,53,54,55,56,57]
def aE:Tx:=JE
def c_:Tx:=FN
def Zx:Tx:=[94,36,46,91,93,42,43,63,47]
def zL(c:Nat):Bool:=decide (c∈c_)&&!decide (c∈Zx)
def cU(S l:Tx):Bool:=l.all λc=>decide<|c∈S
def vl(d:Tx):Int:=d.foldl (λ(a:Int) (c:Nat)=>10*a+((c:Int)-48)) 0
def fY(lo a:Int)(r:Tx):Option<|Int×Tx:=let p:=sp dH r;if(decide (p.1=[]) ||(pre [48] p.1 ||decide ((3:Int)<(p.1.length:Nat))))=O then Y else if(decide (vl p.1<lo) ||decide (a<vl p.1))=O then Y else U (vl p.1,p.2)
def nameP(r:Tx):Option<|Tx×Tx:=let p:=sp aE r;if(decide (p.1=[]) ||decide ((8:Int)<(p.1.length:Nat)))=O then Y else U p
def wQ(c:Nat)(r:Tx):Option<|Tx×Tx:=(strip [c] r).bind<|cutAt c
def eM(r:Tx):Option<|Tx×Tx:=(wQ 34 r).bind λp=>if(decide ((40:Int)<(p.1.length:Nat)) || !cU c_ p.1)=O then Y else U p
structure Itm where
 sg:Tx
 ot:Bool
 mn:Nat
structure sj where
 f:Bool
 aG:List Itm
 b:Bool
 G0:aG.length<=8
def Itm.val(i:Itm):T:=.tup [.str i.sg,.bl i.ot,.str [i.mn]]
def sj.val(p:sj):T:=.tup [.bl p.f,.lst<|p.aG.map Itm.val,.bl p.b]
def aT:Tx->Nat×Tx
 |[]=>(49,[])
 |c::r=>if c∈[42,43,63]then(c,r)else(49,c::r)
def Bg(ins:Tx)(mn:Nat):Option Itm:=
 let ot:=pre [94] ins
 let sg:=if ot then ins.drop 1 else ins
 if(decide (sg=[]) ||decide ((12:Int)<(sg.length:Nat)))=O then Y else if(sg.any λc=>decide<|c∈[93,94,47])=O then Y else if ¬ sg.Nodup then Y else if(!ot&&(decide (sg.length=1)&&sg.all zL))=O then Y else U ⟨sg,ot,mn⟩
def wR(c:Nat)(r:Tx):Option<|Itm×Tx:=if c=91 then(cutAt 93 r).bind λp=>(Bg p.1 (aT p.2).1).map λi=>(i,(aT p.2).2)
 else if c=46 then U (⟨[],O,(aT r).1⟩,(aT r).2)else if zL c=O then U (⟨[c],Zn,(aT r).1⟩,(aT r).2)else Y
def dg:Nat->Tx->Option (List Itm)
 |_,[]=>U []
 |0,_::_=>Y
 |n+1,c::r=>(wR c r).bind λp=>(dg n p.2).map λl=>p.1::l
def iM(w:Tx):Tx:=if pre [94] w then w.drop 1 else w
def nU(w:Tx):Option sj:=if(!cU c_ w)=O then Y else
 let bd:=iM w
 let b:=v9 [36] bd
 (dg bd.length<|if b then bd.dropLast else bd).bind λaG=>if h:aG.length<=8 then U ⟨pre [94] w,aG,b,h⟩else Y
def nV(r:Tx):Option<|sj×Tx:=(wQ 47 r).bind λp=>(nU p.1).map λx=>(x,p.2)
inductive RP where
 |row (v:Int)|like (p:sj)
def RP.val:RP->T
 |.row v=>.obj 4 [.int v]
 |.like p=>.obj 6 [p.val]
inductive PC where
 |last|soon (v:Int) (p:sj)|ft (x y:RP)|rp (x:RP)
def PC.val:PC->T
 |.last=>.obj 5 []
 |.soon v p=>.obj 7 [.int v,p.val]
 |.ft x y=>.obj 8 [x.val,y.val]
 |.rp x=>x.val
inductive CD where
 |fin|no (x:PC)|pc (x:PC)
def CD.val:CD->T
 |.fin=>.obj 10 []
 |.no x=>.obj 9 [x.val]
 |.pc x=>x.val
def Vn(r:Tx):Option<|RP×Tx:=(strip [114,111,119,32] r).elim ((nV r).map λp=>(.like p.1,p.2)) λr=>(fY 1 999 r).map λp=>(.row p.1,p.2)
def FP(r:Tx):Option<|PC×Tx:=(fY 1 3 r).bind λp=>(strip [32] p.2).bind λr=>(nV r).map λq=>(.soon p.1 q.1,q.2)
def Vo(r:Tx):Option<|PC×Tx:=(Vn r).bind λp=>(strip [32,116,111,32] p.2).bind λr=>(Vn r).map λq=>(.ft p.1 q.1,q.2)
def Ww(r:Tx):Option<|PC×Tx:=(strip [108,97,115,116] r).elim ((strip [115,111,111,110,32] r).elim ((strip [102,114,111,109,32] r).elim ((Vn r).map λp=>(.rp p.1,p.2)) Vo) FP) λr=>U (.last,r)
def Zy(r:Tx):Option<|CD×Tx:=(strip [101,110,100] r).elim ((strip [110,111,116,32] r).elim ((Ww r).map λp=>(.pc p.1,p.2)) λr=>(Ww r).map λp=>(.no p.1,p.2)) λr=>U (.fin,r)
inductive DD where
 |drop|print|done|tell|say (l:Tx)|swap (e:Bool) (p:sj) (l:Tx)|join (v:Int)|pile (a:Tx) (v:Dx)|bring (a:Tx)|go (a:Tx)|add (v w:Int)
def DD.val:DD->T
 |.drop=>.obj 13 []
 |.print=>.obj 14 []
 |.done=>.obj 15 []
 |.tell=>.obj 23 []
 |.say l=>.obj 16 [.str l]
 |.swap e p l=>.obj 17 [p.val,.str l,.bl e]
 |.join v=>.obj 18 [.int v]
 |.pile a none=>.obj 19 [.str a,.non]
 |.pile a<|U v=>.obj 19 [.str a,.int v]
 |.bring a=>.obj 20 [.str a]
 |.go a=>.obj 21 [.str a]
 |.add v w=>.obj 22 [.int v,.int w]
def nW(e:Bool)(r:Tx):Option<|DD×Tx:=(nV r).bind λp=>(strip [32] p.2).bind λr=>(eM r).map λq=>(.swap e p.1 q.1,q.2)
def nX(r:Tx):Option<|DD×Tx:=(nameP r).bind λp=>(strip [32] p.2).elim (U (.pile p.1 Y,p.2)) λr=>(fY 1 9 r).map λq=>(.pile p.1<|U q.1,q.2)
def Vp(r:Tx):Option<|DD×Tx:=(fY 1 9 r).bind λp=>(strip [32] p.2).bind λr=>(fY 1 9 r).map λq=>(.add p.1 q.1,q.2)
def Mn(r:Tx):Option<|DD×Tx:=
 (strip [106,111,105,110,32] r).elim ((strip [112,105,108,101,32] r).elim ((strip [98,114,105,110,103,32] r).elim ((strip [103,111,32] r).elim ((strip [97,100,100,32] r).bind Vp)
  λr=>(nameP r).map λp=>(.go p.1,p.2)) λr=>(nameP r).map λp=>(.bring p.1,p.2)) nX) λr=>(fY 2 9 r).map λp=>(.join p.1,p.2)
def Mp(r:Tx):Option<|DD×Tx:=
 (strip [100,114,111,112] r).elim ((strip [112,114,105,110,116] r).elim ((strip [100,111,110,101] r).elim ((strip [116,101,108,108] r).elim
  ((strip [115,97,121,32] r).elim ((strip [115,119,97,112,32,101,118,101,114,121,32] r).elim ((strip [115,119,97,112,32] r).elim (Mn r)<|nW Zn)<|nW O) λr=>(eM r).map λp=>(.say p.1,p.2))
  λr=>U (.tell,r)) λr=>U (.done,r)) λr=>U (.print,r)) λr=>U (.drop,r)
inductive LN where
 |mark (a:Tx)|bare (x:DD)|full (c:CD) (x:DD)
def LN.cond:LN->T
 |.full c _=>c.val
 |_=>.obj 3 []
def LN.ju:LN->T
 |.mark a=>.obj 12 [.str a]
 |.bare x=>x.val
 |.full _ x=>x.val
def LN.val(x:LN):T:=.obj 1 [x.cond,x.ju]
def FQ:List Tx:=[[114,111,119,32],[108,97,115,116],[47],[115,111,111,110,32],[102,114,111,109,32],[110,111,116,32],[101,110,100]]
def JH(r:Tx):Bool:=FQ.any λw=>(strip w r).isSome
def Mq(r:Tx):Option<|LN×Tx:=(Zy r).bind λp=>(strip [58,32] p.2).bind λr=>(Mp r).map λq=>(.full p.1 q.1,q.2)
def sy(r:Tx):Option<|LN×Tx:=(strip [109,97,114,107,32] r).elim (if(!JH r)=O then(Mp r).map λp=>(.bare p.1,p.2)else Mq r) λr=>(nameP r).map λp=>(.mark p.1,p.2)
def Rb(i:Itm):Bool:=eqT (.str [42]) (.str [i.mn]) ||(eqT (.str [63]) (.str [i.mn]) ||Zn)
def least(p:sj):Nat:=(p.aG.filter λi=>!Rb i).length
def DD.FU:DD->Bool
 |.tell=>Zn
 |.swap e p l=>!decide (least p=0)&&(!e ||decide (l.length<=least p))
 |_=>O
def DD.atEnd:DD->Bool
 |.tell=>O
 |.say _=>O
 |.bring _=>O
 |_=>Zn
def LN.ms:LN->Bool
 |.mark _=>O
 |.bare x=>x.FU
 |.full .fin x=>x.atEnd
 |.full _ x=>x.FU
def parse(r:Tx):Option LN:=(sy r).bind λp=>if(!decide (p.2=[]) || !p.1.ms)=O then Y else U p.1
def SC(rest:Tx)(k:Int):FV:=[⟨24,[.val<|.str rest,.val<|.int k]⟩]
abbrev St(r:Fs)(rest:Tx)(k:Int):S:=⟨sv (.own 0)::r,SC rest k⟩
def Bd(r:Tx):Prop:=r.length<=100000
def Xc(k:Int){α:Type}(x:Res α):Prop:=∃s,x=.exc 0 [.int k] s
section
variable{α a:Type}(k:Int)(v:α->T)(o:Option<|α×Tx)
def RF(x:Res<|T×FV):Prop:=match o with
 |some p=>x=.ok (v p.1,SC p.2 k)/\Bd p.2
 |none=>Xc k x
def RE(q:Fs)(x:Res<|T×S):Prop:=match o with
 |some p=>x=.ok (v p.1,St q p.2 k)/\Bd p.2
 |none=>Xc k x
def RB(x:Res<|Out×S):Prop:=match o with
 |some p=>(∃q,x=.ok (.rt<|v p.1,⟨q,SC p.2 k⟩))/\Bd p.2
 |none=>Xc k x
end
section
variable{α d:Type}{k:Int}{v:α->T}{w:d->T}{o:Option<|α×Tx}{q:Fs}{r S1:Tx}{s s':S}{e a b:FE}{A B:FS}{c:FT}{fl:FL}{ts:FK}{f:Fn}{t u:T}{i nn j:Nat}{F:d->α}{ob:Option<|d×Tx}{y:Bool}
def uX{x:Res α}{a:α}(h:x=.ok a):uB x=.ok a:=by rw[h];rfl
def Wx{b:Bool}{e:FE}{s s1:S}(h:e s=.ok (.bl b,s1)):D.tB e s=.ok (b,s1):=by unfold D.tB;rw[h];rfl
def wU{c:FT}{s s':S}{y:Bool}(h:c s=.ok (y,s')):dU c s=.ok (!y,s'):=by unfold dU;rw[h];rfl
def c6{x:Res α}{g:α->Res d}(h:Xc k x):Xc k<|x.bind g:=by
 obtain⟨s,rfl⟩:=h;exact⟨s,J⟩
theorem RB.map{x:Res<|Out×S}(h:RB k (λa=>v<|F a) ob x):RB k v (ob.map λp=>(F p.1,p.2)) x:=by
 cases ob<;>exact h
def gf(h:ts.length=j)(a:RB k v o<|B ⟨ts.map (λt=>sv t)++dN (nn-ts.length) Y,SC r k⟩):RF k v o<|aI j nn B ts<|SC r k:=by
 unfold aI;rw[b7 h];cases o with
 |none=>exact c6 a
 |some p=>
  obtain⟨⟨q,e⟩,z⟩:=a;rw[e];exact⟨J,z⟩
def dI(h:RE k v o q<|e s):RB k v o<|aq e s:=by
 cases o with
 |none=>exact c6 h
 |some p=>
  obtain⟨a,z⟩:=h;refine⟨⟨sv (.own 0)::q,?_⟩,z⟩;unfold aq;rw[a];rfl
def bc(h:fl s=.ok (ts,St q r k))(b:RF k v o<|f ts<|SC r k):RE k v o q<|aj f [] fl s:=by
 unfold aj;rw[h];show RE k v o q<|match f (ts++[]) (SC r k)with|.ok q=>_|.bad=>_|.exc c fs s'=>_
 rw[bz];cases o with
 |none=>
  obtain⟨d,a⟩:=b;rw[a];exact⟨_,J⟩
 |some p=>
  obtain⟨a,z⟩:=b;rw[a];exact⟨J,z⟩
def Bj(h:fl (St q r k)=.ok (ts,St q r k))(a:RF k v o<|f (.own 0::ts)<|SC r k):RE k v o q<|kP 24 f zA fl<|St q r k:=bc (s:=St q r k) (fl:=az (cF<|.own 0) fl) (ts:=.own 0::ts) (by
 show Res.bind (fl<|St q r k) _=_;rw[h];rfl) a
def lB{g:α×Tx->Option (d×Tx)}(h:RE k v o q<|e s)(a:∀p,o=U p->Bd p.2->RB k w (g p) (B<|iR (St q p.2 k) i<|.val<|v p.1)):RB k w (o.bind g)<|ah (aD i e) B s:=by
 cases o with
 |none=>exact c6<|c6 h
 |some p=>
  have b:=a p J h.2;unfold ah aD;rw[h.1];exact b
def wV(h:A s=.ok (.nx,s'))(a:RB k v o<|B s'):RB k v o<|ah (eg A) B s:=by
 unfold ah eg;rw[h];exact a
def Vq(h:A s=.ok (.nx,s'))(a:RB k v o<|B s'):RB k v o<|ah A B s:=by
 unfold ah;rw[h];exact a
def i8(h:e s=.ok (v t',St q r k))(z:Bd r):RB k v (U (t',r))<|eg (aq e) s:=by
 unfold eg aq;rw[h];exact⟨⟨_,J⟩,z⟩
def iN{j:Nat}(h:RE k v o q<|e s):RE k (λx=>.obj j [v x]) o q<|c9 j 1 (k1 e) s:=by
 cases o with
 |none=>exact c6<|c6 h
 |some p=>
  refine⟨?_,h.2⟩;show Res.bind (Res.bind (e s) _) _=_;rw[h.1];rfl
def jv{j:Nat}(b:a s=.ok (u,s))(h:RE k v o q<|e s):RE k (λx=>.obj j [u,v x]) o q<|c9 j 2 (k2 (bC a) e) s:=by
 show RE k _ o q<|Res.bind (Res.bind (uB<|a s) _) _;rw[b];show RE k _ o q<|Res.bind (Res.bind (Res.bind (e s) _) _) _;cases o with
 |none=>exact c6<|c6<|c6 h
 |some p=>
  refine⟨?_,h.2⟩;rw[h.1];rfl
def P6{j:Nat}{u2:T}(f:a s=.ok (u,s))(h:RE k v o q<|e s)(d:∀c,b (St q c k)=.ok (u2,St q c k)):RE k (λx=>.obj j [u,v x,u2]) o q<|c9 j 3 (k3 (bC a) e<|bC b) s:=by
 show RE k _ o q<|Res.bind (Res.bind (uB<|a s) _) _;rw[f];show RE k _ o q<|Res.bind (Res.bind (Res.bind (e s) _) _) _;cases o with
 |none=>exact c6<|c6<|c6 h
 |some p=>
  refine⟨?_,h.2⟩;rw[h.1];show Res.bind (Res.bind (Res.bind (Res.bind (uB<|b<|St q p.2 k) _) _) _) _=_;rw[d];rfl
def nY:Xc k<|cN (n+1) 71 [.own 0]<|SC r k:=by
 rw[w71];exact⟨_,J⟩
def qy(a:c (St q r k)=.ok (y,St q r k))(d:y=Zn->RB k v o (B<|St q r k)):RB k v (if y=O then Y else o)<|ah (aX (bQ c) (bM<|kP 24 (cN (nn+1) 71) zA bI) aF) B<|St q r k:=by
 cases y with
 |false=>
  unfold ah aX bQ;rw[a];exact d J
 |true=>
  unfold ah aX bQ;rw[a];have b:Xc k<|bM (kP 24 (cN (nn+1) 71) zA bI)<|St q r k:=c6<|Bj (v:=λ_:Unit=>.non) (o:=Y) (q:=q) (ts:=[]) (fl:=bI) J<|nY nn;exact c6 b
theorem dh:∀{w r a:Tx},strip w r=U a->r=w++a
 |[],r,a,h=>by cases h;rfl
 |c::w,[],a,h=>by cases h
 |c::w,d::r,a,h=>by
  unfold strip at h;split at h
  .rename_i e
   rw[e,dh h];rfl
  .cases h
theorem fS:∀{w r:Tx},strip w r=Y->pre w r=Zn
 |[],r,h=>by cases h
 |c::w,[],_=>J
 |c::w,d::r,h=>by
  unfold strip at h;split at h
  .rename_i e
   rw[e,FJ];exact fS h
  .rename_i e;exact wN e
theorem kQ:∀(w r:Tx),strip w (w++r)=U r
 |[],_=>J
 |c::w,r=>by
  show(if c=c then _ else _)=_
  rw[b7 J];exact kQ w r
def iO{w r a:Tx}(h:strip w r=U a)(z:Bd r):Bd a:=by
 rw[dh h]at z;unfold Bd at z ⊢;rw[dq]at z
 lia
def Wy:aO M.P.tab 14 zA (St q r k)=.ok (.str r,St q r k):=J
def P7{l:Tx}(h:e (St q r k)=.ok (.str l,St q r k)):jT M.P.tab 14 zA e (St q r k)=.ok (.nx,St q l k):=by
 unfold jT;rw[h];rfl
def sm{ak:Nat->Fn}{a:Tx}(c:fl (St q r k)=.ok (ts,St q r k))(b:ak i (.own 0::ts) (SC r k)=.ok (t,SC a k)):bx (aY [(24,i)] ak) zA fl (St q r k)=.ok (t,St q a k):=U_ (ob:=⟨24,[.val<|.str r,.val<|.int k]⟩) (s1:=St q r k) J J J c b
def kR(h:strip S1 r=Y):cN (n+1) 72 [.own 0,.str S1] (SC r k)=.ok (.bl Zn,SC r k):=by
 rw[ď];refine gY J (Fz<|Ml (s':=St [sv<|.str S1] r k) ?_ J) J;show dU _ (St [sv<|.str S1] r k)=_;simp only[ev,Va,Wy,JB,U8,rk,fS h,KI]
def jw{a:Tx}(h:strip S1 r=U a):cN (n+1) 72 [.own 0,.str S1] (SC r k)=.ok (.bl O,SC a k):=by
 rw[dh h,ď];refine gY J (seq1 (s':=St [sv<|.str S1] (S1++a) k) (zF (s':=St [sv<|.str S1] (S1++a) k) ?_ J)<|seq1 (P7 (l:=a) ?_) J) J
 .show dU _ (St [sv<|.str S1] (S1++a) k)=_
  simp only[ev,Va,Wy,JB,U8,rk,pre_app,KG]
 .simp only[ev,Va,Wy,JB,U8,dw,NN,NO,kh]
def zM(z:Bd r):RF k (λ_=>.non) ((strip S1 r).map λr=>((),r))<|cN (n+2) 73 [.own 0,.str S1]<|SC r k:=by
 rw[w73];cases h:strip S1 r with
 |some a=>
  refine⟨U9 J (zF (s':=St [sv<|.str S1] a k) ?_ J) J,iO h z⟩;refine uX<|Vk<|Wx ?_;exact sm (ts:=[.str S1]) J<|jw n h
 |none=>
  show Xc k<|aI 2 2 _ _ _;refine gf (v:=λ_:Unit=>.non) (o:=Y) J ?_;show Xc k<|aX (bQ _) _ _<|St [sv<|.str S1] r k;have b:bQ (dU<|D.tB<|bx (aY [(24,72)]<|cN<|n+1) zA<|k1 zB) (St [sv<|.str S1] r k)=.ok (O,St [sv<|.str S1] r k):=uX<|Vj<|oY<|sm (ts:=[.str S1]) J<|kR n h;unfold aX;rw[b];show Xc k<|bM (kP 24 (cN (n+1) 71) zA bI)<|St [sv<|.str S1] r k;exact c6<|Bj (v:=λ_:Unit=>.non) (o:=Y) (ts:=[]) (fl:=bI) J<|nY n
def kT{g:Tx->Option (α×Tx)}(z:Bd r)(b:∀a,strip S1 r=U a->Bd a->RB k v (g a) (B<|St q a k)):RB k v ((strip S1 r).bind g)<|ah (bM<|kP 24 (cN (nn+2) 73) zA<|k1<|bC<|cS S1) B<|St q r k:=by
 have h:=Bj (q:=q) (ts:=[.str S1]) (fl:=k1<|bC<|cS S1) J<|zM (k:=k) (S1:=S1) nn z;cases e:strip S1 r with
 |none=>
  rw[e]at h;exact c6<|c6 h
 |some a=>
  rw[e]at h;unfold ah bM;rw[h.1];exact b a e h.2
def cX{g:Tx->Option (α×Tx)}(z:Bd r)(f:∀a,strip S1 r=U a->Bd a->RB k v (g a) (A<|St q a k))(d:RB k v o<|B<|St q r k):RB k v ((strip S1 r).elim o g)<|ah (aX (bQ<|D.tB<|bx (aY [(24,72)]<|cN<|nn+1) zA<|k1<|cS S1) A aF) B<|St q r k:=by
 unfold ah aX bQ D.tB;cases e:strip S1 r with
 |none=>
  rw[sm (ts:=[.str S1]) J<|kR nn e];exact d
 |some a=>
  rw[sm (ts:=[.str S1]) J<|jw nn e];have h:=f a e<|iO e z;show RB k v (g a)<|Res.bind (A<|St q a k) _;cases b:g a with
  |none=>
   rw[b]at h;exact c6 h
  |some p=>
   rw[b]at h;obtain⟨⟨q2,i⟩,c⟩:=h;rw[i];exact⟨⟨q2,J⟩,c⟩
end
end K24
namespace K24
open D PySem L2 PyProof.Rows
variable(n:Nat){m:List _root_.D.Ob}
theorem zN(S:Tx):∀r:Tx,r=(sp S r).1++(sp S r).2/\(∀c∈(sp S r).1,c∈S)/\∀c,(sp S r).2.head?=U c->c∉S
 |[]=>⟨J,(λ_ h=>nomatch h),(λ_ h=>nomatch h)⟩
 |c::r=>by
  unfold sp;split
  .rename_i h
   obtain⟨e,b,a⟩:=zN S r;refine⟨eD (c::·) e,λd hd=>?_,a⟩
   rcases bu.mp hd with z|z
   .rw[z];exact h
   .exact b d z
  .rename_i h
   refine⟨J,(λ_ h=>nomatch h),λd hd=>?_⟩;cases hd;exact h
def JI(c:Nat)(l:B1):aU .In (.str [c]) (.str l)=U (.bl<|decide<|c∈l):=J
def uY{P R:B1}{c:Nat}:uf (.str<|P++c::R) (.int P.length)=U (.str [c]):=by
 show(atT (P++c::R) (P.length:Int)).map _=_;rw[rT<|by simp]
 simp
section
variable{a b signs r:Tx}{m:FV}{k:Int}
theorem FW(g:∀c,b.head?=U c->c∉signs):∀(a P:B1)(f:Nat),(∀c∈a,c∈signs)->a.length<f->W (bg (kF (D.dm<|dD (aU .Lt) zC<|aZ dw<|k1 zA)<|D.dm<|vB .In Zn 1<|oI zA zC) (DJ yW 2 zI) f ⟨[sv<|.str<|P++(a++b),sv<|.str signs,sv<|.int P.length],m⟩) λq=>q=(.nx,⟨[sv<|.str<|P++(a++b),sv<|.str signs,sv<|.int (P++a).length],m⟩)
 |_,_,0,_,h=>dk h<|Lb _
 |[],P,f+1,_,_=>by
  rw[Ar,bz];cases b with
  |nil=>exact Vm (JG<|gP<|bB J J<|by rw[nT,a9<|by simp]) J
  |cons d r=>exact Vm ((lA (x:=O) (y:=Zn) (gP<|bB J J<|by rw[nT,bt<|by simp;lia])<|gP<|bB (a:=oI zA zC) (b:=vF 1) (bB J J uY) J<|by rw[JI,a9<|g d J])) J
 |c::a,P,f+1,i,h=>by
  have e:=FW g a (P++[c]) f (λd hd=>i d<|eE _ hd)<|Nat.lt_of_succ_lt_succ h;rw[bD,bD,dq (bs:=[c])]at e;exact P5 (lA (x:=O) (y:=O) (gP<|bB J J<|by rw[nT,bt<|by simp;lia])<|gP<|bB (a:=oI zA zC) (b:=vF 1) (bB J J uY) J<|by rw[JI,bt<|i c<|eu ..])<|W.of J ⟨J,e⟩
def P8(f:∀c∈a,c∈signs)(e:∀c,b.head?=U c->c∉signs)(hl:a.length<200000):cN (n+1) 1 [.str<|a++b,.str signs] m=.ok (.str a,m):=by
 rw[w1];refine sEq J J J<|bS (t:=.int 0) J<|P0<|(FW e a [] many f<|by show a.length<1000000;exact ee hl<|by decide).mono λq d=>⟨by rw[d],?_⟩
 rw[d];refine bR (t:=.str a) ?_ J;simp only[ev,Va,JB,U8,NO,Ar,FI]
def zP(z:Bd r):cN (n+2) 74 [.own 0,.str signs] (SC r k)=.ok (.str (sp signs r).1,SC (sp signs r).2 k):=by
 obtain⟨c,e,d⟩:=zN signs r
 generalize (sp signs r).1=a at c e ⊢
 generalize (sp signs r).2=b at c d ⊢
 subst c;have hl:a.length<200000:=by unfold Bd at z;rw[dq]at z;lia
 rw[w74];refine gY (s':=St [sv<|.str signs,sv<|.str a] b k) J (seq1 (s':=St [sv<|.str signs,sv<|.str a] (a++b) k) ?_<|seq1 (P7 (l:=b) ?_) J) J
 .exact eo (s':=St [sv<|.str signs,Y] (a++b) k)<|zG (ts:=[.str<|a++b,.str signs]) (s':=St [sv<|.str signs,Y] (a++b) k) J<|P8 n e d hl
 .simp only[ev,Va,Wy,JB,U8,dw,NN,NO,kh]
def Mr(S:Tx)(z:Bd r):Bd (sp S r).2/\Bd (sp S r).1:=by
 have h:=eD sI (zN S r).1;rw[dq]at h;unfold Bd at z ⊢;constructor<;>lia
end
def FY(d:Tx):Bool:=match AX [.str d]with
 |U<|.int i=>decide<|i=vl d
 |_=>Zn
def JJ{d:Tx}(h:FY d=O):AX [.str d]=U (.int<|vl d):=by
 unfold FY at h;split at h
 .rename_i i e;rw[e,aR h]
 .cases h
def JK:dH.all (λa=>FY [a])=O:=by decide +kernel
def JL:dH.all (λa=>dH.all λb=>FY [a,b])=O:=by decide +kernel
def JM:dH.all (λa=>dH.all λb=>dH.all λc=>FY [a,b,c])=O:=by decide +kernel
def P9{d:Tx}(hd:∀c∈d,c∈dH)(h0:d≠[])(hl:d.length<=3):AX [.str d]=U (.int<|vl d):=by
 apply JJ
 match d,h0,hl with
 |[a],_,_=>exact bF.mp JK a<|hd a<|by simp
 |[a,b],_,_=>exact bF.mp (bF.mp JL a<|hd a<|by simp) b<|hd b<|by simp
 |[a,b,c],_,_=>exact bF.mp (bF.mp (bF.mp JM a<|hd a<|by simp) b<|hd b<|by simp) c<|hd c<|by simp
section
variable{r:Tx}{k:Int}
def kU{lo a:Int}(z:Bd r):RF k .int (fY lo a r)<|cN (n+3) 24 [.own 0,.int lo,.int a]<|SC r k:=by
 rw[w24];obtain⟨e,g⟩:=Mr dH z;have f:=(zN dH r).2.1;refine gf J<|wV (s':=St [sv<|.int lo,sv<|.int a,sv<|.str (sp dH r).1,Y] (sp dH r).2 k) (eo<|sm (ts:=[.str dH]) J<|zP n z) ?_;unfold fY;dsimp only
 generalize (sp dH r).1=d at f g ⊢
 generalize (sp dH r).2=b at e ⊢
 refine qy ?_ λc=>wV (s':=St [sv<|.int lo,sv<|.int a,sv<|.str d,sv<|.int<|vl d] b k) ?_<|qy ?_ λ_=>i8 (t':=vl d) (q:=[sv<|.int lo,sv<|.int a,sv<|.str d,sv<|.int<|vl d]) J e
 .exact uV (gP<|pE J J<|wO ..)<|uV (oY<|uW (l:=d) (ts:=[.str [48]]) J J J)<|gP<|pE (t:=.int (d.length:Nat)) J J<|uT ..
 .rw[xF,xF]at c
  exact eo (s':=St [sv<|.int lo,sv<|.int a,sv<|.str d,Y] b k)<|eX (s':=St [sv<|.int lo,sv<|.int a,sv<|.str d,Y] b k) (ts:=[.str d]) J<|P9 f (og c.1)<|by have:=og c.2.2;lia
 .exact uV (gP<|pE (t:=.int<|vl d) (u:=.int lo) J J<|nT ..)<|gP<|pE (t:=.int<|vl d) (u:=.int a) J J<|uT ..
def mC(z:Bd r):RF k .str (nameP r)<|cN (n+3) 25 [.own 0]<|SC r k:=by
 rw[w25];obtain⟨a,b⟩:=Mr aE z;refine gf J<|wV (s':=St [sv<|.str (sp aE r).1] (sp aE r).2 k) (eo<|sm (ts:=[.str aE]) J<|zP n z) ?_;unfold nameP;dsimp only
 generalize sp aE r=p at a b ⊢
 refine qy ?_ λ_=>i8 (t':=p.1) (q:=[sv<|.str p.1]) J a;exact uV (gP<|pE J J<|wO ..)<|gP<|pE (t:=.int (p.1.length:Nat)) J J<|uT ..
end
theorem gM{c:Nat}:∀{r:Tx}{p:Tx×Tx},cutAt c r=U p->r=p.1++c::p.2/\c∉p.1
 |[],p,h=>by cases h
 |d::r,p,h=>by
  unfold cutAt at h;split at h
  .rename_i e;cases h;rw[e];exact⟨J,λz=>nomatch z⟩
  .rename_i e
   obtain⟨q,f,rfl⟩:=cL.mp h;obtain⟨b,a⟩:=gM f;refine⟨eD (d::·) b,λz=>?_⟩
   rcases bu.mp z with z|z
   .exact e z.symm
   .exact a z
theorem nZ{c:Nat}:∀{r:Tx},cutAt c r=Y->c∉r
 |[],_,z=>nomatch z
 |d::r,h,z=>by
  unfold cutAt at h;split at h
  .cases h
  .rename_i e
   rcases bu.mp z with z|z
   .exact e z.symm
   .exact nZ (Option.map_eq_none_iff.mp h) z
theorem zQ{c:Nat}:∀{a b:Tx},c∉a->cutAt c (a++c::b)=U (a,b)
 |[],b,_=>by show(if c=c then _ else _)=_;rw[b7 J]
 |d::a,b,h=>by
  show(if d=c then _ else _)=_
  rw[b0 λz=>h<|by rw[z];exact eu ..]
  exact eD _<|zQ (b:=b) λz=>h<|eE _ z
theorem FZ{c:Nat}:∀{a:Tx},c∉a->cutAt c a=Y
 |[],_=>J
 |d::a,h=>by
  show(if d=c then _ else _)=_
  rw[b0 λz=>h<|by rw[z];exact eu ..,FZ λz=>h<|eE _ z]
  rfl
def occ_none(c:Nat)(D R:Tx)(h:c∉R):dn ⟨(D++R).toArray⟩ ⟨[c].toArray⟩ D.length (D++R).length 1=[]:=by
 rw[Gf];rcases occ_first ⟨(D++R).toArray⟩ ⟨[c].toArray⟩ (D++R).length ((D++R).length+1-D.length) D.length D.length (dS _)with⟨a,b⟩|⟨i,a,b,f,d,g⟩
 .rw[a]
 .have e:=(rR c _ _).mp d
  rw[iu b]at e;exact dk (gB e) h
def F0(c:Nat)(R:Tx)(h:c∉R):i7 R [.str [c]]=U (.int<|-1):=by
 have:=occ_none c [] R h
 rw[Ar]at this;show U (T.int<|o6 _ _)=_;unfold o6;rw[uR];have e:dn ⟨R.toArray⟩ ⟨[c].toArray⟩ 0 R.length 1=[]:=this;rw[e]
def JN(c:Nat)(D R:Tx)(h:c∉R):i7 (D++R) [.str [c],.int (D.length:Nat)]=U (.int<|-1):=by
 show U (T.int<|n5 _ _ _)=_;unfold n5;have a:oa (⟨(D++R).toArray⟩:oP).length ((D.length:Nat):Int)=D.length:=by
  unfold oa;rw[b0<|by lia]
  lia
 rw[a,uR,occ_none c D R h]
def F3(a b:Int):aU .Eq (.int a) (.int b)=U (.bl<|decide<|a=b):=J
def F4:q_ (.int 1)=U (.int<|-1):=J
section
variable{r:Tx}{k:Int}
def F7{c:Nat}(z:Bd r):RF k .str (wQ c r)<|cN (n+3) 75 [.own 0,.str [c]]<|SC r k:=by
 rw[w75];refine gf J ?_;have h:=Bj (q:=[sv<|.str [c],Y,Y]) (fl:=k1<|bC zB) (ts:=[.str [c]]) J<|zM (k:=k) (S1:=[c]) n z;unfold wQ;cases e:strip [c] r with
 |none=>
  rw[e]at h;exact c6<|c6 h
 |some a=>
  rw[e]at h;have hd:bM (kP 24 (cN (n+2) 73) zA<|k1<|bC zB) (St [sv<|.str [c],Y,Y] r k)=.ok (.nx,St [sv<|.str [c],Y,Y] a k):=by unfold bM;rw[h.1];rfl
  refine Vq hd ?_;show RB k .str (cutAt c a) _;cases d:cutAt c a with
  |none=>
   refine wV (s':=St [sv<|.str [c],sv<|.int<|-1,Y] a k) (eo (s':=St [sv<|.str [c],Y,Y] a k)<|uW (s1:=St [sv<|.str [c],Y,Y] a k) (l:=a) (ts:=[.str [c]]) J J<|F0 c a<|nZ d) ?_;exact qy (v:=T.str) (o:=Y) (y:=O) (gP<|pE (t:=.int<|-1) (u:=.int<|-1) J (Bf (t:=.int 1) J F4) J) λz=>by cases z
  |some p=>
   obtain⟨g,f⟩:=gM d;obtain⟨l,b⟩:=p;subst g;refine wV (s':=St [sv<|.str [c],sv<|.int l.length,Y] (l++c::b) k) (eo (s':=St [sv<|.str [c],Y,Y] (l++c::b) k)<|uW (s1:=St [sv<|.str [c],Y,Y] (l++c::b) k) (l:=l++c::b) (ts:=[.str [c]]) J J<|Bb c l b f) ?_;refine qy (y:=Zn) (o:=U (l,b)) (gP<|pE (t:=.int (l.length:Nat)) (u:=.int<|-1) J (Bf (t:=.int 1) J F4)<|by rw[F3,a9<|by lia]) λ_=>?_
   refine wV (s':=St [sv<|.str [c],sv<|.int l.length,sv<|.str l] (l++c::b) k) (eo<|BD (x:=Y) (y:=U (l.length:Int)) J J J<|by show U (T.str _)=_;rw[FI]) ?_
   have i:cj (l++c::b) (U<|(l.length:Int)+1) Y=b:=by
    have:=kh (l++[c]) b
    rw[bD,dq]at this;exact this
   refine wV (s':=St [sv<|.str [c],sv<|.int l.length,sv<|.str l] b k) (P7<|BD (x:=U<|(l.length:Int)+1) (y:=Y) J J J<|by show U (T.str _)=_;rw[i])<|i8 (t':=l) (q:=[sv<|.str [c],sv<|.int l.length,sv<|.str l]) J ?_
   have:=h.2
   unfold Bd at this ⊢;rw[dq,eS]at this;show b.length<=_
   lia
end
def P_(S:Tx):T->T
 |.str [c]=>.bl<|decide<|c∈S
 |_=>.non
theorem iU{α:Type}(f:α->Bool):∀l:List α,boolsOf (l.map λw=>T.bl<|f w)=U (l.map f)
 |[]=>J
 |w::l=>by
  show(boolsOf<|l.map λw=>T.bl<|f w).map _=_;rw[iU f l];rfl
abbrev Vr(l:Tx):FK:=l.map λc=>T.str [c]
def uZ(S l:Tx):(Vr l).map (P_ S)=l.map λc=>T.bl<|decide<|c∈S:=by rw[pe];rfl
def n_{l signs:Tx}(hl:Bd l):cN (n+1) 0 [.str l,.str signs] m=.ok (.bl<|cU signs l,m):=by
 rw[w0];refine eW (m':=[]) J (gY (s':=⟨[sv<|.str l,sv<|.str signs],[]⟩) J (kg<|eX (ts:=[.lst<|(Vr l).map<|P_ signs]) (cT (zK<|zJ (ts:=Vr l) (s1:=⟨[sv<|.str l,sv<|.str signs],[]⟩) J (by rw[ck];exact eT hl<|by decide)<|gZ λt a=>?_) J) ?_) J) J
 .obtain⟨c,b,rfl⟩:=iw.mp a
  exact⟨[Y,sv<|.str [c],sv<|.str signs],[Y,sv<|.str [c],sv<|.str signs],J,J⟩
 .rw[uZ]
  simp only[Ir,NP,iU,BV,B5];rfl
def u7{r:Tx}{k:Int}(z:Bd r):RF k .str (eM r)<|cN (n+4) 26 [.own 0]<|SC r k:=by
 rw[w26];refine gf J<|lB (v:=T.str) (o:=wQ 34 r) (q:=[Y]) (Bj (ts:=[.str [34]]) J<|F7 n z) λp a c=>?_;have b:Bd p.1:=by
  unfold wQ at a;obtain⟨h,g,f⟩:=bh.mp a;have e:=eD sI (gM f).1;have d:=iO g z;rw[dq]at e;unfold Bd at d ⊢
  lia
 refine qy (q:=[sv<|.str p.1]) ?_ λ_=>i8 (t':=p.1) (q:=[sv<|.str p.1]) J c;exact uV (gP<|pE (t:=.int (p.1.length:Nat)) J J<|uT ..)<|wU<|oY<|cE (ts:=[.str p.1,.str c_]) J<|n_ (n+2) b
def X3{α:Type}(x:Res α):Prop:=∃s,x=.exc 3 [] s
section
variable{α:Type}(v:α->T)(o:Option α)
def QF(m:FV)(x:Res<|T×FV):Prop:=match o with
 |some a=>x=.ok (v a,m)
 |none=>∃s:S,s.m=m/\x=.exc 3 [] s
def QB(x:Res<|Out×S):Prop:=match o with
 |some a=>∃q,x=.ok (.rt<|v a,⟨q,[]⟩)
 |none=>X3 x
end
section
variable{α j:Type}{v:α->T}{w:j->T}{o:Option α}{s s':S}{A B:FS}{c:FT}{e:FE}{fl:FL}{ts:FK}{f:Fn}{y:Bool}{u n i:Nat}{m:FV}{t:T}{q:Fs}
def g9{x:Res α}{g:α->Res j}(h:X3 x):X3<|x.bind g:=by
 obtain⟨s,rfl⟩:=h;exact⟨s,J⟩
def qz(h:aN ts=O)(hl:ts.length=u)(d:∀a,o=U a->noOwn (v a)=O)(c:QB v o<|B ⟨ts.map (λt=>sv t)++dN (n-ts.length) Y,[]⟩):QF v o m<|aH (aI u n B) ts m:=by
 unfold aH;rw[b7 h];unfold aI;rw[b7 hl];cases o with
 |none=>
  obtain⟨e,b⟩:=c;rw[b];exact⟨_,J,J⟩
 |some a=>
  obtain⟨q,b⟩:=c;rw[b];show(if noOwn (v a)=O then _ else _)=_
  rw[b7<|d a J]
def G5(b:c s=.ok (y,s))(he:e s=.ok (t,s'))(d:y=Zn->QB v o (B s)):QB v (if y=O then Y else o)<|ah (aX (bQ c) (wC 3 e) aF) B s:=by
 unfold ah aX bQ;rw[b];cases y with
 |false=>exact d J
 |true=>
  have a:X3<|wC 3 e s:=by
   unfold wC;rw[he];exact⟨_,J⟩
  exact g9 a
def JO(h:A s=.ok (.nx,s'))(a:QB v o<|B s'):QB v o<|ah (eg A) B s:=by
 unfold ah eg;rw[h];exact a
def Bk{a:α}(h:e s=.ok (v a,⟨q,[]⟩)):QB v (U a)<|eg (aq e) s:=by
 unfold eg aq;rw[h];exact⟨_,J⟩
def Vs(a:c s=.ok (Zn,s))(b:QB v o<|B s):QB v o<|ah (aX (bQ c) A aF) B s:=by
 unfold ah aX bQ;rw[a];exact b
def Qa(d:c s=.ok (O,s))(b:QB v o<|A s):QB v o<|ah (aX (bQ c) A aF) B s:=by
 unfold ah aX bQ;rw[d];show QB v o<|Res.bind (A s) _;cases o with
 |none=>exact g9 b
 |some a=>
  obtain⟨q,e⟩:=b;rw[e];exact⟨q,J⟩
def QE(s:S)(x:Res<|T×S):Prop:=match o with
 |some a=>x=.ok (v a,s)
 |none=>x=.exc 3 [] s
def u_(h:fl s=.ok (ts,s))(d:QF v o s.m<|f ts s.m):QE (v:=v) (o:=o) s<|aj f [] fl s:=by
 unfold aj;rw[h];show QE s<|match f (ts++[]) s.m with|.ok q=>_|.bad=>_|.exc c fs s'=>_
 rw[bz];cases o with
 |none=>
  obtain⟨e,g,b⟩:=d;rw[b];show Res.exc 3 [] (⟨s.r,e.m⟩:S)=_;rw[g]
 |some a=>
  have b:f ts s.m=.ok (v a,s.m):=d;rw[b];rfl
def Zz{g:α->Option j}(h:QE (v:=v) (o:=o) s<|e s)(b:∀a,o=U a->QB w (g a) (B<|iR s i<|.val<|v a)):QB w (o.bind g)<|ah (aD i e) B s:=by
 cases o with
 |none=>exact g9<|g9 ⟨_,h⟩
 |some a=>
  have c:=b a J;have d:e s=.ok (v a,s):=h;unfold ah aD;rw[d];exact c
def ZA{q:Fs}(h:QE (v:=v) (o:=o) ⟨q,[]⟩<|e ⟨q,[]⟩):QB v o<|aq e ⟨q,[]⟩:=by
 cases o with
 |none=>exact g9 ⟨_,h⟩
 |some a=>
  have b:e ⟨q,[]⟩=.ok (v a,⟨q,[]⟩):=h;refine⟨q,?_⟩;unfold aq;rw[b];rfl
end
def Vt(c:Nat)(l:B1):aU .NotIn (.str [c]) (.str l)=U (.bl<|!decide (c∈l)):=J
def F8{a b:FE}{s s1:S}{x y:Bool}(h:a s=.ok (.bl x,s1))(c:x=O->b s1=.ok (.bl y,s1)):tU a b s=.ok (.bl<|x&&y,s1):=by
 unfold tU;rw[h];refine Eq.trans (JB _ _) ?_;cases x with
 |true=>exact c J
 |false=>rfl
def F9{c:Nat}:cN (n+1) 2 [.str [c]] m=.ok (.bl<|zL c,m):=by
 rw[w2];refine eW (m':=[]) J (gY (s':=⟨[sv<|.str [c]],[]⟩) J (kg<|F8 (x:=decide<|c∈c_) (y:=!decide (c∈Zx)) ?_ λ_=>?_) J) J
 .exact bB J J<|JI c c_
 .exact bB J J<|Vt c Zx
def rW(a b:T):gu [a,b]=U (.tup [a,b]):=my (by show 2<=1000;decide)
def JP(a b c:T):gu [a,b,c]=U (.tup [a,b,c]):=my (by show 3<=1000;decide)
abbrev s2(a b:T):S:=⟨[sv a,sv b],[]⟩
def F_{sg:Tx}{ot:Bool}:cN (n+2) 9 [.str sg,.bl ot] m=.ok (.bl<|!ot&&(decide (sg.length=1)&&sg.all zL),m):=by
 rw[w9];refine eW (m':=[]) J (gY (s':=s2 (.str sg)<|.bl ot) J (kg<|F8 (x:=!ot) (y:=decide (sg.length=1)&&sg.all zL) J λ_=>F8 (x:=decide<|sg.length=1) (y:=sg.all zL) ?_ λh=>?_) J) J
 .refine bB (t:=.int (sg.length:Nat)) J J<|(F3 _ _).trans ?_
  congr 2
  apply decide_eq_decide.mpr
  lia
 .obtain⟨c,rfl⟩:=List.length_eq_one_iff.mp<|aR h
  refine(cE (ts:=[.str [c]]) J<|F9 n).trans ?_;simp
theorem oh:∀(l a:B1),(Pf.eV a l).length<=a.length+l.length
 |[],a=>dS _
 |c::l,a=>by
  rw[Pf.eV];split
  .have:=oh l a;rw[eS];lia
  .have:=oh l<|c::a;rw[eS]at this ⊢;lia
theorem zR:∀(l a:B1),(Pf.eV a l).length=a.length+l.length ↔ ((∀c∈l,c∉a)/\l.Nodup)
 |[],a=>⟨λ_=>⟨(λ_ h=>nomatch h),List.nodup_nil⟩,λ_=>J⟩
 |c::l,a=>by
  rw[Pf.eV];split
  .rename_i h
   constructor
   .intro e
    have:=oh l a
    rw[eS]at e
    lia
   .intro e;exact dk h<|e.1 c<|eu ..
  .rename_i h
   have b:=zR l<|c::a;rw[eS]at b;rw[eS];constructor
   .intro e
    obtain⟨g,i⟩:=b.mp (by lia)
    refine⟨λd hd=>?_,lF.mpr ⟨λz=>g c z<|eu ..,i⟩⟩;rcases bu.mp hd with z|z
    .rw[z];exact h
    .exact λy=>g d z<|eE _ y
   .intro e
    have f:=lF.mp e.2
    have:=b.mpr ⟨λd hd y=>?_,f.2⟩
    .lia
    .rcases bu.mp y with z|z
     .rw[z]at hd;exact f.1 hd
     .exact e.1 d (eE _ hd) z
def ZC(a b:Int):aU .NotEq (.int a) (.int b)=U (.bl<|!decide (a=b)):=J
def Ms{c:Nat}(h:c∈c_):c<128:=by
 have:c_.all (λc=>decide<|c<128)=O:=by decide
 exact aR<|bF.mp this c h
def Vu{c:FT}{a b:FE}{s:S}{y:Bool}{q:Res<|T×S}(h:c s=.ok (y,s))(d:y=O->a s=q)(e:y=Zn->b s=q):AU c a b s=q:=by
 unfold AU;rw[h];cases y with
 |true=>exact d J
 |false=>exact e J
def vc(l:Tx):cj l (U 1) Y=l.drop 1:=by
 unfold cj f9;dsimp only;rw[b0<|by decide]
 cases l with
 |nil=>rfl
 |cons a l=>simp
abbrev s8(ins:Tx)(mn:Nat)(ot:Bool)(sg:Tx):S:=⟨[sv<|.str ins,sv<|.str [mn],sv<|.bl ot,sv<|.str sg],[]⟩
def Qc{ins:Tx}{mn:Nat}(f:∀c∈ins,c∈c_)(hl:Bd ins):QF Itm.val (Bg ins mn) m<|cN (n+3) 8 [.str ins,.str [mn]] m:=by
 rw[w8];refine qz J J (λ_ _=>J) ?_;unfold Bg;dsimp only;have Ē:∀c∈(if pre [94] ins=O then ins.drop 1 else ins),c∈c_:=by
  split
  .exact λc b=>f c<|Cf b
  .exact f
 have g:Bd<|if pre [94] ins=O then ins.drop 1 else ins:=by
  split
  .unfold Bd at hl ⊢;rw[An];lia
  .exact hl
 refine JO (s':=⟨[sv<|.str ins,sv<|.str [mn],sv<|.bl<|pre [94] ins,Y],[]⟩) (eo (s':=⟨[sv<|.str ins,sv<|.str [mn],Y,Y],[]⟩)<|uW (l:=ins) (ts:=[.str [94]]) J J J)<|JO (s':=s8 ins mn (pre [94] ins)<|if pre [94] ins=O then ins.drop 1 else ins) (eo (s':=⟨[sv<|.str ins,sv<|.str [mn],sv<|.bl<|pre [94] ins,Y],[]⟩)<|Vu (y:=pre [94] ins) J (λh=>?_) λh=>?_) ?_
 .rw[b7 h]
  exact BD (x:=U 1) (y:=Y) J J J (by show U (T.str _)=_;rw[vc])
 .rw[h];rfl
 generalize (if pre [94] ins=O then ins.drop 1 else ins)=sg at Ē g ⊢
 generalize pre [94] ins=ot
 refine G5 (uV (gP<|pE J J<|wO ..)<|gP<|pE (t:=.int (sg.length:Nat)) J J<|uT ..) J λh0=>G5 (y:=sg.any λc=>decide<|c∈[93,94,47]) (s:=s8 ins mn ot sg) (oY ?_) J λ_=>?_
 .refine eX (ts:=[.lst<|(Vr sg).map<|P_ [93,94,47]]) (cT (zK<|zJ (ts:=Vr sg) (s1:=s8 ins mn ot sg) J (by rw[ck];exact eT g<|by decide)<|gZ λt i=>?_) J) ?_
  .obtain⟨c,b,rfl⟩:=iw.mp i
   exact⟨[Y,sv<|.str [c]],[Y,sv<|.str [c]],J,J⟩
  .rw[uZ]
   simp only[wg,HS,iU,BV,B6];rfl
 .have k:nI (.str sg)=U (.int ((Pf.eV [] sg).length:Nat)):=by
   show gd _ _=_;exact my ⟨bF.mpr λc b=>bt<|Ms<|Ē c b,by have:=og (xF.mp h0).2;show sg.length<=4000;lia⟩
  have j:decide (¬ sg.Nodup)=!decide (((Pf.eV [] sg).length:Int)=(sg.length:Nat)):=by
   have:=zR sg []
   rw[B7,Av]at this;by_cases h:sg.Nodup
   .rw[a9<|by simpa using h,bt (by have:=this.mpr ⟨(λ_ _ z=>nomatch z),h⟩;lia)];rfl
   .rw[bt h,a9 λz=>h (this.mp<|by lia).2];rfl
  have d:=G5 (s:=s8 ins mn ot sg) (v:=Itm.val) (o:=if(!ot&&(decide (sg.length=1)&&sg.all zL))=O then Y else U ⟨sg,ot,mn⟩) (y:=!decide (((Pf.eV [] sg).length:Int)=(sg.length:Nat))) (c:=D.dm<|dD (aU .NotEq) (dQ nI zD)<|aZ dw<|k1 zD) (e:=cS Vd) (gP<|pE (t:=.int ((Pf.eV [] sg).length:Nat)) (u:=.int (sg.length:Nat)) (Bf (t:=.str sg) J k) J<|ZC ..) J λ_=>G5 (c:=D.tB<|aj (cN (n+2) 9) []<|k2 zD zC) (s:=s8 ins mn ot sg) (e:=cS Ve) (oY<|cE (ts:=[.str sg,.bl ot]) J<|F_ n) J λ_=>Bk (a:=(⟨sg,ot,mn⟩:Itm)) (e:=aZ gu<|k3 zD zC zB)<|eX (ts:=[.str sg,.bl ot,.str [mn]]) J<|JP ..
  rw[<- j]at d;simp only[cx]at d;exact d
abbrev s7(c:Tx)(mn:Nat):S:=⟨[sv<|.str c,sv<|.str [mn]],[]⟩
def Wz(c mn:Nat):Option Itm:=if c=46 then U ⟨[],O,mn⟩else if zL c=O then U ⟨[c],Zn,mn⟩else Y
def Ga{c mn:Nat}(f:c∈c_)(g:c≠91):QF Itm.val (Wz c mn) m<|cN (n+4) 7 [.str [c],.str [mn]] m:=by
 rw[w7];refine qz J J (λ_ _=>J) ?_;show QB _ _<|ah _ _<|s7 [c] mn;unfold Wz;split
 .rename_i e
  subst e;exact Qa J<|Bk (a:=(⟨[],O,mn⟩:Itm))<|eX (ts:=[.str [],.bl O,.str [mn]]) J<|JP ..
 .rename_i e
  refine Vs (gP<|pE J J<|(wO ..).trans<|by rw[a9 λz=>e<|by injection z])<|Vs (oY<|uW (l:=[c]) (ts:=[.str [91]]) J J<|by show U (T.bl _)=_;rw[wN<|ew g]) ?_
  have b:=G5 (s:=s7 [c] mn) (v:=Itm.val) (o:=U ⟨[c],Zn,mn⟩) (y:=!zL c) (c:=dU<|D.tB<|aj (cN (n+3) 2) []<|k1 zA) (e:=dQ Wj zA) (t:=.str []) (wU<|oY<|cE (ts:=[.str [c]]) J<|F9<|n+2) (Bf (t:=.str [c]) J<|my ⟨by show 1<=1000;decide,by have:=Ms f;simp;lia⟩) λ_=>Bk (a:=(⟨[c],Zn,mn⟩:Itm)) (e:=aZ gu<|k3 zA (cF<|.bl Zn) zB)<|eX (ts:=[.str [c],.bl Zn,.str [mn]]) J<|JP ..
  cases d:zL c with
  |true=>rw[d]at b;exact b
  |false=>rw[d]at b;exact b
def Qd(a b:Nat)(l:B1):cj (a::(l++[b])) (U 1) (U<|-1)=l:=by
 have d:f9 (a::(l++[b])).length 0 (U 1)=1:=by
  unfold f9;dsimp only;rw[b0<|by decide]
  simp
 have c:f9 (a::(l++[b])).length (a::(l++[b])).length (U<|-1)=l.length+1:=by
  unfold f9;dsimp only;rw[b7<|by decide]
  simp;lia
 unfold cj;rw[d,c];simp
def Gb{ins:Tx}{mn:Nat}(a:∀c∈ins,c∈c_)(hl:Bd ins):QF Itm.val (Bg ins mn) m<|cN (n+4) 7 [.str<|91::(ins++[93]),.str [mn]] m:=by
 rw[w7];refine qz J J (λ_ _=>J) ?_;show QB _ _<|ah _ _<|s7 (91::(ins++[93])) mn;refine Vs (gP<|pE J J<|(wO ..).trans<|by rw[a9 (λz=>by injection z with z _;cases z)])<|Qa (oY<|uW (l:=91::(ins++[93])) (ts:=[.str [91]]) J J<|by show U (T.bl _)=_;rw[show pre [91] (91::(ins++[93]))=O from pre_app [91] _])<|ZA<|u_ (ts:=[.str ins,.str [mn]]) ?_<|Qc n a hl
 refine cT (t:=.str ins) (s1:=s7 (91::(ins++[93])) mn) (uX<|BD (x:=U 1) (y:=U<|-1) J J J ?_) J;show U (T.str _)=_;rw[Qd]
abbrev s5(b:Tx)(p:Nat):S:=⟨[sv<|.str b,sv<|.int (p:Nat),Y],[]⟩
def Vv(a b:B1):aU .NotEq (.str a) (.str b)=U (.bl<|!decide (a=b)):=J
def JQ(d c:Nat)(R:Tx):Option Nat:=if c=91 then(cutAt 93 R).map λp=>d+(p.1.length+2)else U (d+1)
def Ge{D R:Tx}{c:Nat}:QF (λp:Nat=>.int (p:Nat)) (JQ D.length c R) m<|cN (n+1) 5 [.str<|D++c::R,.int (D.length:Nat)] m:=by
 rw[w5];refine qz J J (λ_ _=>J) ?_;show QB _ _<|ah _ _<|s5 (D++c::R) D.length;have d:_root_.D.dm (dD (aU .NotEq) (oI zA zB)<|cS [91]) (s5 (D++c::R) D.length)=.ok (!decide ([c]=[91]),s5 (D++c::R) D.length):=gP<|pE (pE J J uY) J<|Vv ..;unfold JQ;split
 .rename_i e
  subst e;refine Vs (by rw[d];rfl) ?_
  have g:cutAt 93 R=Y->i7 (D++91::R) [.str [93],.int (D.length:Nat)]=U (.int<|-1):=λh=>JN 93 D (91::R) (by
   intro z;rcases bu.mp z with z|z
   .cases z
   .exact nZ h z)
  cases f:cutAt 93 R with
  |none=>
   refine JO (s':=⟨[sv<|.str<|D++91::R,sv<|.int (D.length:Nat),sv<|.int<|-1],[]⟩) (eo (s':=s5 (D++91::R) D.length)<|uW (s1:=s5 (D++91::R) D.length) (l:=D++91::R) (ts:=[.str [93],.int (D.length:Nat)]) J J<|g f) ?_;exact G5 (o:=Y) (y:=O) (gP<|pE (t:=.int<|-1) (u:=.int<|-1) J (Bf (t:=.int 1) J F4) J) J λz=>by cases z
  |some p=>
   obtain⟨j,i⟩:=gM f;obtain⟨ins,R2⟩:=p;subst j;have b:=FA 93 D (91::ins) R2 (by intro z;rcases bu.mp z with z|z;(cases z);exact i z)
   have b:i7 (D++91::(ins++93::R2)) [.str [93],.int (D.length:Nat)]=U (.int ((D.length+(ins.length+1):Nat):Int)):=b;refine JO (s':=⟨[sv<|.str<|D++91::(ins++93::R2),sv<|.int (D.length:Nat),sv<|.int ((D.length+(ins.length+1):Nat):Int)],[]⟩) (eo (s':=s5 (D++91::(ins++93::R2)) D.length)<|uW (s1:=s5 (D++91::(ins++93::R2)) D.length) (l:=D++91::(ins++93::R2)) (ts:=[.str [93],.int (D.length:Nat)]) J J b) ?_;exact G5 (o:=U<|D.length+(ins.length+2)) (y:=Zn) (gP<|pE (t:=.int ((D.length+(ins.length+1):Nat):Int)) (u:=.int<|-1) J (Bf (t:=.int 1) J F4)<|by rw[F3,a9<|by lia]) J λ_=>Bk (v:=λp:Nat=>T.int (p:Nat)) (a:=D.length+(ins.length+2))<|pE (t:=.int ((D.length+(ins.length+1):Nat):Int)) (u:=.int 1) J J J
 .rename_i e
  refine Qa (by rw[d,a9 λz=>e<|by injection z];rfl)<|Bk (v:=λp:Nat=>T.int (p:Nat)) (a:=D.length+1)<|pE (t:=.int (D.length:Nat)) (u:=.int 1) J J J
def zS{c:Nat}{R:Tx}(h:c∈[42,43,63]):aT (c::R)=(c,R):=b7 h
def mD{c:Nat}{R:Tx}(h:c∉[42,43,63]):aT (c::R)=(49,c::R):=b0 h
def JR{D R:Tx}:cN (n+1) 6 [.str<|D++R,.int (D.length:Nat)] m=.ok (.str [(aT R).1],m):=by
 rw[w6];refine sEq J J J ?_;show WB (ah _ _) (s2 (.str<|D++R)<|.int (D.length:Nat)) _;cases R with
 |nil=>exact bN (JG<|gP<|pE (t:=.int (D.length:Nat)) (u:=.int ((D++[]).length:Nat)) J J<|(nT ..).trans<|by rw[a9<|by simp])<|bR J J
 |cons c R=>
  have a:kF (_root_.D.dm<|dD (aU .Lt) zB<|aZ dw<|k1 zA) (_root_.D.dm<|dD (aU .In) (oI zA zB)<|cS [42,43,63]) (s2 (.str<|D++c::R)<|.int (D.length:Nat))=.ok (O&&decide (c∈[42,43,63]),s2 (.str<|D++c::R)<|.int (D.length:Nat)):=lA (gP<|pE (t:=.int (D.length:Nat)) (u:=.int ((D++c::R).length:Nat)) J J<|(nT ..).trans<|by rw[bt<|by simp;lia])<|gP<|pE (pE J J uY) J<|JI ..
  by_cases h:c∈[42,43,63]
  .rw[zS h]
   exact bY (by rw[a,bt h];rfl)<|bR (pE J J uY) J
  .rw[mD h]
   exact bN (by rw[a,a9 h];rfl)<|bR J J
section
variable{s s1:S}{c:FT}{B:FS}{k:Nat}
def wX(a:c s=.ok (O,s))(h:X3<|B s):X3<|bg (bQ c) B (k+1) s:=by
 show X3<|Res.bind (uB<|c s) _;rw[a];show X3<|Res.bind (B s) _;exact g9 h
def wNx(a:c s=.ok (O,s))(h:B s=.ok (.nx,s1)):bg (bQ c) B (k+1) s=bg (bQ c) B k s1:=by
 show Res.bind (uB<|c s) _=_;rw[a];show Res.bind (B s) _=_;rw[h];rfl
def wEn(a:c s=.ok (Zn,s)):bg (bQ c) B (k+1) s=.ok (.nx,s):=by
 show Res.bind (uB<|c s) _=_;rw[a];rfl
end
def mt(m:Nat):Tx:=if m=49 then[]else[m]
def JS(R:Tx):R=mt (aT R).1++(aT R).2:=by
 cases R with
 |nil=>rfl
 |cons c R=>
  by_cases h:c∈[42,43,63]
  .have:c≠49:=λz=>by rw[z]at h;revert h;decide
   rw[zS h];show _=mt c++R;unfold mt;rw[b0 this];rfl
  .rw[mD h];rfl
abbrev vals(l:List Itm):FK:=l.map Itm.val
abbrev s9(b:Tx)(aG:List Itm)(p:Nat)(u v:Option C):S:=⟨[sv<|.str b,U<|.ol<|vals aG,sv<|.int (p:Nat),u,v],[]⟩
def Vw(o:Option<|List Itm)(b:Tx)(done:List Itm)(x:Res<|Out×S):Prop:=match o with
 |some aG=>∃p u v,x=.ok (.nx,s9 b (done++aG) p u v)
 |none=>X3 x
def X3.seq1{A B:FS}{s:S}(h:X3<|A s):X3<|ah A B s:=g9 h
def X3.Vx{A B:FS}{s s':S}(h:A s=.ok (.nx,s'))(k:X3<|B s'):X3<|ah A B s:=by
 unfold ah;rw[h];exact k
def JT{D K R:Tx}{b:Option Itm}{done:List Itm}{u v:Option C}(hd:done.length<1000000)(l:cN (n+4) 5 [.str<|D++(K++R),.int (D.length:Nat)] []=.ok (.int ((D.length+K.length:Nat):Int),[]))(k:QF Itm.val b []<|cN (n+4) 7 [.str K,.str [(aT R).1]] []):match b with
  |some i=>∃g f,Vf (cN<|n+4) (s9 (D++(K++R)) done D.length u v)=.ok (.nx,s9 (D++(K++R)) (done++[i]) (D++(K++mt (aT R).1)).length g f)
  |none=>X3<|Vf (cN<|n+4)<|s9 (D++(K++R)) done D.length u v:=by
 have d:aD 3 (aj (cN (n+4) 5) []<|k2 (bC zA)<|bC zC) (s9 (D++(K++R)) done D.length u v)=.ok (.nx,s9 (D++(K++R)) done D.length (sv<|.int ((D.length+K.length:Nat):Int)) v):=eo (s':=s9 (D++(K++R)) done D.length u v)<|cE (ts:=[.str<|D++(K++R),.int (D.length:Nat)]) J l;have c:eg (aD 4<|aj (cN (n+4) 6) []<|k2 zA zD) (s9 (D++(K++R)) done D.length (sv<|.int ((D.length+K.length:Nat):Int)) v)=.ok (.nx,s9 (D++(K++R)) done D.length (sv<|.int ((D.length+K.length:Nat):Int))<|sv<|.str [(aT R).1]):=by
  have:=JR (n+3) (D:=D++K) (R:=R) (m:=[])
  rw[bD,dq]at this;exact uX<|eo (s':=s9 (D++(K++R)) done D.length (sv<|.int ((D.length+K.length:Nat):Int)) v)<|cE (ts:=[.str<|D++(K++R),.int ((D.length+K.length:Nat):Int)]) J this
 have j:k2 (bC<|jy zA (iS zC)<|iS zD) (bC<|vF 4) (s9 (D++(K++R)) done D.length (sv<|.int ((D.length+K.length:Nat):Int))<|sv<|.str [(aT R).1])=.ok ([.str K,.str [(aT R).1]],s9 (D++(K++R)) done D.length (sv<|.int ((D.length+K.length:Nat):Int))<|sv<|.str [(aT R).1]):=cT (t:=.str K) (s1:=s9 (D++(K++R)) done D.length (sv<|.int ((D.length+K.length:Nat):Int))<|sv<|.str [(aT R).1]) (uX<|BD (x:=U (D.length:Nat)) (y:=U ((D.length+K.length:Nat):Int)) J J J<|by show U (T.str _)=_;rw[JD]) J
 have a:=u_ (s:=s9 (D++(K++R)) done D.length (sv<|.int ((D.length+K.length:Nat):Int))<|sv<|.str [(aT R).1]) j k;cases b with
 |none=>
  refine X3.Vx d<|X3.Vx c<|X3.seq1 ?_;unfold gS;show X3<|Res.bind (aj (cN (n+4) 7) [] _ _) _;exact g9 ⟨_,a⟩
 |some i=>
  have a:aj (cN (n+4) 7) [] _ _=Res.ok (i.val,_):=a;refine⟨sv<|.int ((D.length+K.length:Nat):Int),sv<|.str [(aT R).1],seq1 d<|seq1 c<|seq1 (rV (ts:=vals done) J a J<|by rw[ck];exact hd)<|uX<|eo (t:=.int ((D++(K++mt (aT R).1)).length:Nat)) (s':=⟨[sv<|.str<|D++(K++R),U<|.ol<|vals done++[i.val],sv<|.int (D.length:Nat),sv<|.int ((D.length+K.length:Nat):Int),sv<|.str [(aT R).1]],[]⟩) ?_ |>.trans ?_⟩
  .refine Vu (y:=decide<|[(aT R).1]=[49]) (gP<|pE J J<|wO ..) (λh=>?_) λh=>?_
   .have e:(aT R).1=49:=by injection aR h
    have:(D++(K++mt (aT R).1)).length=D.length+K.length:=by rw[e];simp[mt]
    rw[this];rfl
   .have e:(aT R).1≠49:=λz=>og h (by rw[z])
    show Res.ok (T.int<|((D.length+K.length:Nat):Int)+1,_)=_;unfold mt;rw[b0 e,dq,dq];rfl
  .show Res.ok (Out.nx,(⟨[_,U<|.ol<|vals done++[i.val],_,_,_],[]⟩:S))=_
   rw[show vals done++[i.val]=vals (done++[i]) by simp]
theorem vd(n:Nat):∀(f g:Nat)(R D:Tx)(done:List Itm)(u v:Option C),(∀c∈R,c∈c_)->R.length<=f->R.length<g->Bd R->done.length+R.length<1000000 ->
  Vw (dg f R) (D++R) done (bg (bQ<|_root_.D.dm<|dD (aU .Lt) zC<|aZ dw<|k1 zA) (Vf<|cN<|n+4) g<|s9 (D++R) done D.length u v)
 |_,0,R,_,_,_,_,_,_,h,_,_=>dk h<|Lb _
 |f,g+1,[],D,done,u,v,_,_,_,_,_=>by
  cases f<;>exact⟨D.length,u,v,by
   rw[bz];exact(wEn<|gP<|pE (t:=.int (D.length:Nat)) (u:=.int (D.length:Nat)) J J<|(nT ..).trans<|by rw[a9<|by simp]).trans<|by rw[bz]⟩
 |0,_+1,c::R,_,_,_,_,_,h,_,_,_=>dk h (by simp)
 |f+1,g+1,c::R,D,done,u,v,z,M,L,k,hd=>by
  have A:_root_.D.dm (dD (aU .Lt) zC<|aZ dw<|k1 zA) (s9 (D++c::R) done D.length u v)=.ok (O,s9 (D++c::R) done D.length u v):=gP<|pE (t:=.int (D.length:Nat)) (u:=.int ((D++c::R).length:Nat)) J J<|(nT ..).trans<|by rw[bt<|by simp;lia]
  rw[eS]at M L hd;have w:∀d∈R,d∈c_:=λd hd=>z d<|eE _ hd;have ē:Bd R:=by unfold Bd at k ⊢;rw[eS]at k;lia
  have step:∀(K R2:Tx)(s:Option Itm),c::R=K++R2->1<=K.length->cN (n+4) 5 [.str<|D++(K++R2),.int (D.length:Nat)] []=.ok (.int ((D.length+K.length:Nat):Int),[])->QF Itm.val s [] (cN (n+4) 7 [.str K,.str [(aT R2).1]] []) ->
    Vw (s.bind λi=>(dg f (aT R2).2).map λl=>i::l) (D++c::R) done (bg (bQ<|_root_.D.dm<|dD (aU .Lt) zC<|aZ dw<|k1 zA) (Vf<|cN<|n+4) (g+1)<|s9 (D++c::R) done D.length u v):=λK R2 s b W r F=>by
   have k:=JT n (done:=done) (u:=u) (v:=v) (by lia) r F
   rw[<- b]at k;cases s with
   |none=>exact wX A k
   |some i=>
    obtain⟨I,H,e⟩:=k;rw[wNx A e];have j:=JS R2;have P:D++c::R=(D++(K++mt (aT R2).1))++(aT R2).2:=by
     rw[b,bD,bD,<- j]
    have hl:(aT R2).2.length<R.length+1:=by
     have l1:=eD sI b;have l2:=eD sI j;rw[dq]at l1 l2;rw[eS]at l1
     lia
    have Q:∀d∈(aT R2).2,d∈c_:=λd hd=>z d (by rw[b,j];exact lE _<|lE _ hd)
    have q:=vd n f g (aT R2).2 (D++(K++mt (aT R2).1)) (done++[i]) I H Q (by lia) (by lia) (by unfold Bd at ē ⊢;lia) (by rw[dq,jC];lia)
    rw[<- P]at q;show Vw ((dg f (aT R2).2).map λl=>i::l) _ _ _;cases G:dg f (aT R2).2 with
    |none=>rw[G]at q;exact q
    |some l=>
     rw[G]at q;obtain⟨p,x,y,N⟩:=q;refine⟨p,x,y,?_⟩;rw[N,bD];rfl
  show Vw ((wR c R).bind λp=>(dg f p.2).map λl=>p.1::l) _ _ _;unfold wR;split
  .rename_i e
   subst e;have a:=Ge (n+3) (D:=D) (R:=R) (c:=91) (m:=[]);unfold JQ at a;rw[b7 J]at a;cases j:cutAt 93 R with
   |none=>
    rw[j]at a;refine wX A<|X3.seq1<|g9 ?_;exact⟨_,u_ (v:=λp:Nat=>T.int (p:Nat)) (o:=Y) (ts:=[.str<|D++91::R,.int (D.length:Nat)]) J a⟩
   |some p=>
    obtain⟨r,F⟩:=gM j;obtain⟨ins,R2⟩:=p;rw[j]at a;have V:∀d∈ins,d∈c_:=λd hd=>w d (by rw[r];exact G7 _ hd)
    have S:Bd ins:=by
     have:=eD sI r
     rw[dq]at this;unfold Bd at ē ⊢;show ins.length<=_;lia
    have b:(91::R:Tx)=(91::(ins++[93]))++R2:=by rw[r];simp
    have:=step (91::(ins++[93])) R2 (Bg ins (aT R2).1) b (by simp) (by
     rw[<- b];refine a.trans ?_;rw[show(91::(ins++[93]):Tx).length=ins.length+2 by simp])<|Gb n V S
    show Vw (((Bg ins (aT R2).1).map λi=>(i,(aT R2).2)).bind λp=>(dg f p.2).map λl=>p.1::l) _ _ _;rw[Option.bind_map];exact this
  .rename_i e
   have a:=Ge (n+3) (D:=D) (R:=R) (c:=c) (m:=[]);unfold JQ at a;rw[b0 e]at a
   have:=step [c] R (Wz c (aT R).1) J (by simp) a<|Ga n (z c<|eu ..) e
   unfold Wz at this;split
   .rename_i E;rw[b7 E]at this;exact this
   .rename_i E
    rw[b0 E]at this;split
    .rename_i B;rw[b7 B]at this;exact this
    .rename_i B;rw[b0 B]at this;exact this
def oj(l:List Itm):aN (vals l)=O:=by
 induction l with
 |nil=>rfl
 |cons a l b=>show((O&&(O&&(O&&O)))&&aN (vals l))=O;rw[b];rfl
def dz(p:sj):noOwn p.val=O:=by
 show(O&&(aN (vals p.aG)&&(O&&O)))=O;rw[oj];rfl
def Gg{R:Tx}{f:Nat}(d:∀c∈R,c∈c_)(g:R.length<=f)(b:Bd R):QF (λl=>.lst<|vals l) (dg f R) m<|cN (n+5) 4 [.str R] m:=by
 rw[w4];refine qz J J (λa _=>oj a)<|JO (s':=⟨[sv<|.str R,U<|.ol [],Y,Y,Y],[]⟩) J<|JO (s':=s9 R [] 0 Y Y) J ?_;have h:=vd n f many R [] [] Y Y d g (by unfold Bd at b;show R.length<1000000;lia) b (by unfold Bd at b;show 0+R.length<_;lia)
 cases e:dg f R with
 |none=>
  rw[e]at h;exact X3.seq1 h
 |some aG=>
  rw[e]at h;obtain⟨p,u,v,i⟩:=h;exact⟨[sv<|.str R,sv<|.lst<|vals aG,sv<|.int (p:Nat),u,v],seq1 i<|uX<|kg (t:=.lst<|vals aG) J⟩
def Gh(l:Tx)(c:Nat):v9 [36] (l++[c])=decide (c=36):=by
 unfold v9
 have:(l++[c]).drop ((l++[c]).length-1)=[c]:=by simp
 show(decide (1<=(l++[c]).length)&&((l++[c]).drop ((l++[c]).length-1) == [36]))=_;rw[this,bt<|by simp]
 simp only[xC];by_cases h:c=36
 .rw[h];rfl
 .rw[a9 h]
  exact beq_eq_false_iff_ne.mpr λz=>h (by injection z)
def Qe(l:Tx):cj l Y (U<|-1)=l.dropLast:=by
 unfold cj f9;dsimp only;rw[b7<|by decide,List.dropLast_eq_take]
 congr 1
 lia
def Qf{w:Tx}(i:Bd w):QF sj.val (nU w) m<|cN (n+6) 3 [.str w] m:=by
 rw[w3];refine qz J J (λa _=>dz a) ?_;refine Vs J<|G5 (s:=⟨[sv<|.str w,Y,Y,Y,Y],[]⟩) (wU<|oY<|cE (ts:=[.str w,.str c_]) J<|n_ (n+4) i) J λe=>?_;have e:∀c∈w,c∈c_:=λc d=>aR<|bF.mp (by simpa using e:cU c_ w=O) c d
 dsimp only;have g:∀c∈iM w,c∈c_:=by
  unfold iM;split
  .exact λc d=>e c<|Cf d
  .exact e
 have f:Bd<|iM w:=by
  unfold iM Bd at *;split
  .rw[An];lia
  .exact i
 refine JO (s':=⟨[sv<|.str w,sv<|.bl<|pre [94] w,Y,Y,Y],[]⟩) (eo (s':=⟨[sv<|.str w,Y,Y,Y,Y],[]⟩)<|uW (l:=w) (ts:=[.str [94]]) J J J)<|JO (s':=⟨[sv<|.str w,sv<|.bl<|pre [94] w,sv<|.str<|iM w,Y,Y],[]⟩) (eo (s':=⟨[sv<|.str w,sv<|.bl<|pre [94] w,Y,Y,Y],[]⟩)<|Vu (y:=pre [94] w) J (λh=>?_) λh=>?_) ?_
 .unfold iM
  rw[b7 h];exact BD (x:=U 1) (y:=Y) J J J (by show U (T.str _)=_;rw[vc])
 .unfold iM
  rw[h];rfl
 generalize iM w=bd at g f ⊢
 refine JO (s':=⟨[sv<|.str w,sv<|.bl<|pre [94] w,sv<|.str bd,sv<|.bl<|v9 [36] bd,Y],[]⟩) (eo (s':=⟨[sv<|.str w,sv<|.bl<|pre [94] w,sv<|.str bd,Y,Y],[]⟩)<|uW (l:=bd) (ts:=[.str [36]]) J J J) ?_;refine Zz (v:=λl=>T.lst<|vals l) (u_ (s:=⟨[sv<|.str w,sv<|.bl<|pre [94] w,sv<|.str bd,sv<|.bl<|v9 [36] bd,Y],[]⟩) (ts:=[.str<|if v9 [36] bd=O then bd.dropLast else bd]) (cT (uX<|Vu (y:=v9 [36] bd) J (λh=>?_) λh=>?_) J)<|Gg n (λc d=>?_) ?_ ?_) λaG _=>?_
 .rw[b7 h]
  exact BD (x:=Y) (y:=U<|-1) J J J (by show U (T.str _)=_;rw[Qe])
 .rw[h];rfl
 .split at d
  .exact g c<|List.dropLast_subset _ d
  .exact g c d
 .split
  .rw[K7];lia
  .exact dS _
 .unfold Bd at f ⊢
  split
  .rw[K7];lia
  .exact f
 .have hl:D.dm (dD (aU .Gt) (aZ dw<|k1<|vF 4)<|cI 8) ⟨[sv<|.str w,sv<|.bl<|pre [94] w,sv<|.str bd,sv<|.bl<|v9 [36] bd,sv<|.lst<|vals aG],[]⟩=.ok (decide<|(8:Int)<(aG.length:Nat),⟨[sv<|.str w,sv<|.bl<|pre [94] w,sv<|.str bd,sv<|.bl<|v9 [36] bd,sv<|.lst<|vals aG],[]⟩):=gP<|pE (t:=.int ((vals aG).length:Nat)) (u:=.int 8) J J<|(uT ..).trans<|by rw[ck]
  by_cases h:aG.length<=8
  .rw[dif_pos h]
   exact G5 (y:=Zn) (hl.trans<|eD (λb=>Res.ok (b,_))<|a9<|by lia) J λ_=>Bk (a:=(⟨pre [94] w,aG,v9 [36] bd,h⟩:sj))<|eX (ts:=[.bl<|pre [94] w,.lst<|vals aG,.bl<|v9 [36] bd]) J<|JP ..
  .rw[dif_neg h]
   exact G5 (y:=O) (o:=Y) (hl.trans<|eD (λb=>Res.ok (b,_))<|bt<|by lia) J λz=>by cases z
def rY{r:Tx}{k:Int}(z:Bd r):RF k sj.val (nV r)<|cN (n+7) 27 [.own 0]<|SC r k:=by
 rw[w27];refine gf J<|lB (v:=T.str) (o:=wQ 47 r) (q:=[Y]) (Bj (ts:=[.str [47]]) J<|F7 (n+3) z) λp b d=>?_;have c:Bd p.1:=by
  unfold wQ at b;obtain⟨l,j,i⟩:=bh.mp b;have g:=eD sI (gM i).1;have f:=iO j z;rw[dq]at g;unfold Bd at f ⊢
  lia
 have h:=u_ (s:=St [sv<|.str p.1] p.2 k) (fl:=kO<|k1 zB) (ts:=[.str p.1]) J<|Qf n (m:=SC p.2 k) c;show RB k sj.val ((nU p.1).map λx=>(x,p.2))<|A6 3 0 (aj (cN (n+6) 3) []<|kO<|k1 zB) (aO M.P.tab 3 zA)<|St [sv<|.str p.1] p.2 k;unfold A6;cases e:nU p.1 with
 |none=>
  rw[e]at h;have a:aj _ [] _ _=Res.exc 3 [] _:=h;rw[a];exact⟨_,J⟩
 |some x=>
  rw[e]at h;have a:aj _ [] _ _=Res.ok (x.val,_):=h;rw[a];exact⟨⟨_,J⟩,d⟩
end K24
namespace K24
open D
variable(n:Nat){m:List _root_.D.Ob}
section
variable{r:Tx}{k:Int}
def Gi(z:Bd r):RF k RP.val (Vn r)<|cN (n+8) 19 [.own 0]<|SC r k:=by
 rw[w19];refine gf J<|cX (nn:=n+6) (q:=[]) z (λb _ a=>?_) ?_
 .exact RB.map (F:=RP.row)<|dI (q:=[])<|iN (v:=T.int)<|bc (ts:=[.own 0,.int 1,.int 999]) J<|kU (n+4) a
 .exact RB.map (F:=RP.like)<|dI (q:=[])<|iN (v:=sj.val)<|bc (ts:=[.own 0]) J<|rY n z
def Mt(z:Bd r):RF k PC.val (Ww r)<|cN (n+9) 18 [.own 0]<|SC r k:=by
 rw[w18];refine gf J<|cX (nn:=n+7) (q:=[Y,Y]) z (λd _ a=>i8 (t':=PC.last) (q:=[Y,Y]) J a)<|cX (nn:=n+7) z (λd _ a=>?_)<|cX (nn:=n+7) z (λd _ a=>?_) ?_
 .exact lB (v:=T.int) (q:=[Y,Y]) (bc (ts:=[.own 0,.int 1,.int 3]) J<|kU (n+5) a) λp _ c=>kT (nn:=n+6) (q:=[sv<|.int p.1,Y]) c λe _ b=>RB.map (F:=PC.soon p.1)<|dI (q:=[sv<|.int p.1,Y])<|jv (v:=sj.val) (u:=.int p.1) J<|bc (ts:=[.own 0]) J<|rY (n+1) b
 .exact lB (v:=RP.val) (q:=[Y,Y]) (bc (ts:=[.own 0]) J<|Gi n a) λp _ c=>kT (nn:=n+6) (q:=[Y,sv p.1.val]) c λe _ b=>RB.map (F:=PC.ft p.1)<|dI (q:=[Y,sv p.1.val])<|jv (v:=RP.val) (u:=p.1.val) J<|bc (ts:=[.own 0]) J<|Gi n b
 .exact RB.map (F:=PC.rp)<|dI (q:=[Y,Y])<|bc (ts:=[.own 0]) J<|Gi n z
def Vy(z:Bd r):RF k CD.val (Zy r)<|cN (n+10) 17 [.own 0]<|SC r k:=by
 rw[w17];refine gf J<|cX (nn:=n+8) (q:=[]) z (λb _ a=>i8 (t':=CD.fin) (q:=[]) J a)<|cX (nn:=n+8) z (λb _ a=>?_) ?_
 .exact RB.map (F:=CD.no)<|dI (q:=[])<|iN (v:=PC.val)<|bc (ts:=[.own 0]) J<|Mt n a
 .exact RB.map (F:=CD.pc)<|dI (q:=[])<|bc (ts:=[.own 0]) J<|Mt n z
def zT{e:Bool}(z:Bd r):RF k DD.val (nW e r)<|cN (n+8) 21 [.own 0,.bl e]<|SC r k:=by
 rw[w21];exact gf J<|lB (v:=sj.val) (q:=[sv<|.bl e,Y]) (bc (ts:=[.own 0]) J<|rY n z) λp _ b=>kT (nn:=n+5) (q:=[sv<|.bl e,sv p.1.val]) b λc _ a=>RB.map (F:=DD.swap e p.1)<|dI (q:=[sv<|.bl e,sv p.1.val])<|P6 (v:=T.str) (u:=p.1.val) (u2:=.bl e) J (bc (ts:=[.own 0]) J<|u7 (n+3) a) λ_=>J
def JU(z:Bd r):RF k DD.val (nX r)<|cN (n+8) 22 [.own 0]<|SC r k:=by
 rw[w22];refine gf J<|lB (v:=T.str) (q:=[Y]) (bc (ts:=[.own 0]) J<|mC (n+4) z) λp _ c=>?_;have f:=λ(h:strip [32] p.2=Y)=>sm (q:=[sv<|.str p.1]) (k:=k) (fl:=k1<|cS [32]) (ts:=[.str [32]]) J<|kR (n+6) h;show RB k DD.val ((strip [32] p.2).elim (U (.pile p.1 Y,p.2)) λr=>(fY 1 9 r).map λq=>(.pile p.1<|U q.1,q.2))<|ah (aX (bQ<|dU<|D.tB<|bx (aY [(24,72)]<|cN<|n+7) zA<|k1<|cS [32]) (eg<|aq<|c9 19 2<|k2 zB<|cF .non) aF) (aq<|c9 19 2<|k2 (bC zB)<|aj (cN (n+7) 24) []<|k3 (bC zA) (bC zI)<|bC<|cI 9)<|St [sv<|.str p.1] p.2 k;cases e:strip [32] p.2 with
 |none=>
  have b:bQ (dU<|D.tB<|bx (aY [(24,72)]<|cN<|n+7) zA<|k1<|cS [32]) (St [sv<|.str p.1] p.2 k)=.ok (O,St [sv<|.str p.1] p.2 k):=uX<|Vj<|Wx<|f e;unfold ah aX;rw[b];exact⟨⟨_,J⟩,c⟩
 |some d=>
  have b:bQ (dU<|D.tB<|bx (aY [(24,72)]<|cN<|n+7) zA<|k1<|cS [32]) (St [sv<|.str p.1] p.2 k)=.ok (Zn,St [sv<|.str p.1] d k):=uX<|Vk<|Wx<|sm (ts:=[.str [32]]) J<|jw (n+6) e;refine Vq (s':=St [sv<|.str p.1] d k) (zF b J) ?_;exact RB.map (v:=DD.val) (F:=λa=>DD.pile p.1<|U a)<|dI (q:=[sv<|.str p.1])<|jv (v:=T.int) (u:=.str p.1) J<|bc (ts:=[.own 0,.int 1,.int 9]) J<|kU (n+4)<|iO e c
def Qg(z:Bd r):RF k DD.val (Vp r)<|cN (n+8) 23 [.own 0]<|SC r k:=by
 rw[w23];exact gf J<|lB (v:=T.int) (q:=[Y]) (bc (ts:=[.own 0,.int 1,.int 9]) J<|kU (n+4) z) λp _ b=>kT (nn:=n+5) (q:=[sv<|.int p.1]) b λc _ a=>RB.map (F:=DD.add p.1)<|dI (q:=[sv<|.int p.1])<|jv (v:=T.int) (u:=.int p.1) J<|bc (ts:=[.own 0,.int 1,.int 9]) J<|kU (n+4) a
def Mu(z:Bd r):RF k DD.val (Mp r)<|cN (n+9) 20 [.own 0]<|SC r k:=by
 rw[w20];refine gf J ?_;refine cX (nn:=n+7) (q:=[]) z (λb _ a=>i8 (t':=DD.drop) (q:=[]) J a) ?_;refine cX (nn:=n+7) z (λb _ a=>i8 (t':=DD.print) (q:=[]) J a) ?_;refine cX (nn:=n+7) z (λb _ a=>i8 (t':=DD.done) (q:=[]) J a) ?_;refine cX (nn:=n+7) z (λb _ a=>i8 (t':=DD.tell) (q:=[]) J a) ?_;refine cX (nn:=n+7) z (λb _ a=>RB.map (F:=DD.say)<|dI (q:=[])<|iN (v:=T.str)<|bc (ts:=[.own 0]) J<|u7 (n+4) a) ?_;refine cX (nn:=n+7) z (λb _ a=>dI (q:=[])<|bc (ts:=[.own 0,.bl O]) J<|zT n a) ?_;refine cX (nn:=n+7) z (λb _ a=>dI (q:=[])<|bc (ts:=[.own 0,.bl Zn]) J<|zT n a) ?_;refine cX (nn:=n+7) z (λb _ a=>RB.map (F:=DD.join)<|dI (q:=[])<|iN (v:=T.int)<|bc (ts:=[.own 0,.int 2,.int 9]) J<|kU (n+5) a) ?_;refine cX (nn:=n+7) z (λb _ a=>dI (q:=[])<|bc (ts:=[.own 0]) J<|JU n a) ?_;refine cX (nn:=n+7) z (λb _ a=>RB.map (F:=DD.bring)<|dI (q:=[])<|iN (v:=T.str)<|bc (ts:=[.own 0]) J<|mC (n+5) a) ?_;refine cX (nn:=n+7) z (λb _ a=>RB.map (F:=DD.go)<|dI (q:=[])<|iN (v:=T.str)<|bc (ts:=[.own 0]) J<|mC (n+5) a) ?_;exact kT (nn:=n+6) z λb _ a=>dI (q:=[])<|bc (ts:=[.own 0]) J<|Qg n a
end
section
variable{r:Tx}{k:Int}
def ZG{α:Type}{v:α->T}{oA a:Option<|α×Tx}{q:Fs}{A B:FS}{c:FT}{y:Bool}(d:c (St q r k)=.ok (y,St q r k))(b:RB k v oA<|A<|St q r k)(f:RB k v a<|B<|St q r k):RB k v (if y=O then oA else a)<|ah (aX (bQ c) A aF) B<|St q r k:=by
 unfold ah aX bQ;rw[d];cases y with
 |false=>exact f
 |true=>
  rw[b7 J];show RB k v oA<|Res.bind (A<|St q r k) _;cases oA with
  |none=>exact c6 b
  |some p=>
   obtain⟨⟨q2,e⟩,z⟩:=b;rw[e];exact⟨⟨q2,J⟩,z⟩
def iV(w r:Tx):pre w r=(strip w r).isSome:=by
 cases h:strip w r with
 |none=>exact fS h
 |some a=>rw[dh h,pre_app];rfl
def Ĕ(rest:Tx):T->T
 |.str w=>.bl<|pre w rest
 |_=>.non
def any_eq:D.tB (aZ wg<|k1<|iH<|eB (vA<|cF<|.tup [(.str [114,111,119,32]),(.str [108,97,115,116]),(.str [47]),(.str [115,111,111,110,32]),(.str [102,114,111,109,32]),(.str [110,111,116,32]),(.str [101,110,100])]) 2 [0] (setG 1) i6<|j1 rk (aO M.P.tab 14 zC)<|k1 zB) (St [Y] r k)=.ok (JH r,St [Y] r k):=by
 refine Wx<|eX (ts:=[.lst<|(FQ.map T.str).map<|Ĕ r]) (cT (zK<|zJ (ts:=FQ.map T.str) (s1:=St [Y] r k) J (by decide)<|gZ λt a=>?_) J) ?_
 .obtain⟨w,_,rfl⟩:=iw.mp a
  exact⟨[Y,sv<|.str w,sv<|.own 0],[Y,sv<|.str w,sv<|.own 0],J,J⟩
 .have:(FQ.map T.str).map (Ĕ r)=FQ.map λw=>T.bl<|pre w r:=by rw[pe];rfl
  rw[this];simp only[wg,HS,iU,BV,B6]
  have:(id∘λw=>pre w r)=λw=>(strip w r).isSome:=yj λw=>iV w r
  rw[this];rfl
def Vz(z:Bd r):RF k LN.val (sy r)<|cN (n+11) 16 [.own 0]<|SC r k:=by
 rw[w16];refine gf J<|cX (nn:=n+9) (q:=[Y]) z (λf _ d=>?_)<|ZG (y:=!JH r) (wU any_eq) ?_ ?_
 .exact RB.map (F:=LN.mark)<|dI (q:=[Y])<|jv (v:=λa=>T.obj 12 [.str a]) (u:=.obj 3 []) J<|iN (v:=T.str)<|bc (ts:=[.own 0]) J<|mC (n+7) d
 .exact RB.map (F:=LN.bare)<|dI (q:=[Y])<|jv (v:=DD.val) (u:=.obj 3 []) J<|bc (ts:=[.own 0]) J<|Mu (n+1) z
 .exact lB (v:=CD.val) (q:=[Y]) (bc (ts:=[.own 0]) J<|Vy n z) λp _ c=>kT (nn:=n+8) (q:=[sv p.1.val]) c λe _ b=>RB.map (F:=LN.full p.1)<|dI (q:=[sv p.1.val])<|jv (v:=DD.val) (u:=p.1.val) J<|bc (ts:=[.own 0]) J<|Mu (n+1) b
end
def JV{i:Itm}:cN (n+1) 14 [i.val] m=.ok (.bl<|Rb i,m):=by
 rw[w14];exact sEq J J J<|bR (t:=.bl<|Rb i) (pE (t:=.str [i.mn]) (u:=.tup [.str [42],.str [63]]) J J J) J
theorem om{α:Type}{g:FG}{c:FT}{e:FE}{b:Fs}{m:FV}(v:α->T)(p:α->Bool):∀{l:List α},(∀x∈l,∃b1 b2 b3,g (v x) b=U b1/\c ⟨b1,m⟩=.ok (p x,⟨b2,m⟩)/\e ⟨b2,m⟩=.ok (v x,⟨b3,m⟩))->b_ g c e b (l.map v) m=.ok ((l.filter p).map v,m)
 |[],_=>J
 |x::l,h=>by
  obtain⟨b1,b2,b3,k,j,i⟩:=h x<|eu ..;rw[eF,b_,k];refine mw ?_;rw[j];refine mw ?_;dsimp only;have a:=om v p (l:=l) λy f=>h y<|eE _ f;cases d:p x with
  |true=>
   rw[b7 J,i];refine mw ?_;dsimp only;rw[a,List.filter_cons_of_pos d];rfl
  |false=>rw[b0 ia,a,List.filter_cons_of_neg<|by rw[d];exact ia]
def BE{t:T}(h:noOwn t=O):aN [t]=O:=by
 show(noOwn t&&O)=O;rw[h];rfl
section
variable{p:sj}{m:FV}
def ve:cN (n+2) 13 [p.val] m=.ok (.int (least p:Nat),m):=by
 rw[w13];refine sEq (BE<|dz p) J J<|bR (t:=.int (least p:Nat)) (eX (ts:=[.lst<|(p.aG.filter λi=>!Rb i).map Itm.val]) (cT (s1:=⟨[sv p.val],[]⟩) (Wv (ts:=vals p.aG) J (by have:=p.G0;rw[ck];lia) J<|om Itm.val (λi=>!Rb i) λi a=>?_) J) ?_) J
 .exact⟨[Y,sv i.val],[Y,sv i.val],[Y,sv i.val],J,wU<|oY<|cE (ts:=[i.val]) J<|JV n,J⟩
 .show U (T.int (((p.aG.filter λi=>!Rb i).map Itm.val).length:Nat))=_
  rw[ck];rfl
def empty_eq:cN (n+3) 12 [p.val] m=.ok (.bl<|decide<|least p=0,m):=by
 rw[w12];refine sEq (BE<|dz p) J J<|bR (t:=.bl<|decide<|least p=0) (pE (cE (ts:=[p.val]) J<|ve n) J<|(F3 ..).trans ?_) J
 congr 2
 apply decide_eq_decide.mpr
 lia
def ZH(a b:Int):aU .LtE (.int a) (.int b)=U (.bl<|decide<|a<=b):=J
def JW{e:Bool}{l:Tx}:cN (n+4) 29 [(DD.swap e p l).val] m=.ok (.bl (DD.swap e p l).FU,m):=by
 rw[w29];refine sEq (by show((noOwn p.val&&(O&&(O&&O)))&&O)=O;rw[dz];rfl) J J ?_
 show WB (ah _ _) ⟨[sv (DD.swap e p l).val],[]⟩ _;have a:D.tB (aj (cN (n+3) 12) []<|k1<|aO M.P.tab 4 zA) ⟨[sv (DD.swap e p l).val],[]⟩=.ok (decide<|least p=0,⟨[sv (DD.swap e p l).val],[]⟩):=oY<|cE (ts:=[p.val]) J<|empty_eq n;by_cases h:least p=0
 .refine bY (by rw[a,bt h])<|bR (t:=.bl Zn) J ?_
  show _=T.bl (!decide (least p=0)&&_);rw[bt h];rfl
 .refine bN (by rw[a,a9 h])<|bR (t:=.bl<|!e ||decide (l.length<=least p)) ?_ ?_
  .cases e with
   |false=>rfl
   |true=>
    refine(pE (t:=.int (l.length:Nat)) (u:=.int (least p:Nat)) J (cE (ts:=[p.val]) J<|ve<|n+1)<|(ZH ..).trans ?_:dD (aU .LtE) (aZ dw<|k1<|aO M.P.tab 10 zA) (aj (cN (n+3) 13) []<|k1<|aO M.P.tab 4 zA) ⟨[sv (DD.swap O p l).val],[]⟩=_);show _=U (T.bl<|Zn ||_);rw[BZ]
    congr 2
    apply decide_eq_decide.mpr
    lia
  .show _=T.bl (!decide (least p=0)&&_)
   rw[a9 h];rfl
end
def zU(x:RP):noOwn x.val=O:=by
 cases x with
 |row v=>rfl
 |like p=>show(noOwn p.val&&O)=O;rw[dz];rfl
def Mv(x:PC):noOwn x.val=O:=by
 cases x with
 |last=>rfl
 |soon v p=>show(O&&(noOwn p.val&&O))=O;rw[dz];rfl
 |ft x y=>show(noOwn x.val&&(noOwn y.val&&O))=O;rw[zU,zU];rfl
 |rp x=>exact zU x
def Gj(x:CD):noOwn x.val=O:=by
 cases x with
 |fin=>rfl
 |no x=>show(noOwn x.val&&O)=O;rw[Mv];rfl
 |pc x=>exact Mv x
def zV(x:DD):noOwn x.val=O:=by
 cases x with
 |swap e p l=>show(noOwn p.val&&(O&&(O&&O)))=O;rw[dz];rfl
 |pile a v=>cases v<;>rfl
 |_=>rfl
def VA(x:LN):noOwn x.cond=O:=by
 cases x with
 |full c d=>exact Gj c
 |_=>rfl
def VB(x:LN):noOwn x.ju=O:=by
 cases x with
 |mark a=>rfl
 |bare d=>exact zV d
 |full c d=>exact zV d
def zW(x:LN):noOwn x.val=O:=by
 show(noOwn x.cond&&(noOwn x.ju&&O))=O;rw[VA,VB];rfl
def Rf{t u:T}(h:noOwn t=O)(a:noOwn u=O):aN [t,u]=O:=by
 show(noOwn t&&(noOwn u&&O))=O;rw[h,a];rfl
def Gk(x:PC):il M.P.sub [10] x.val=U (.bl Zn):=by
 cases x with
 |rp x=>cases x<;>rfl
 |_=>rfl
def Gn{b:T}{x:DD}(c:noOwn b=O)(h:il M.P.sub [10] b=U (.bl Zn)):cN (n+5) 28 [b,x.val] m=.ok (.bl x.FU,m):=by
 rw[Zt];refine sEq (Rf c<|zV x) J J<|bN (oY<|Bf (t:=b) J h) ?_;cases x with
 |swap e p l=>exact bY (s:=s2 b (DD.swap e p l).val) J<|bR (t:=.bl (DD.swap e p l).FU) (cE (ts:=[(DD.swap e p l).val]) J<|JW n) J
 |pile a v=>cases v<;>exact bN J<|bR J J
 |_=>exact bN J<|bR J J
def Qh{x:DD}:cN (n+5) 28 [CD.fin.val,x.val] m=.ok (.bl x.atEnd,m):=by
 rw[Zt];refine sEq (Rf J<|zV x) J J<|bY (s:=s2 CD.fin.val x.val) J ?_;cases x with
 |pile a v=>cases v<;>exact bR J J
 |_=>exact bR J J
def VC{x:LN}:cN (n+5) 28 [x.cond,x.ju] m=.ok (.bl x.ms,m):=by
 cases x with
 |mark a=>
  rw[Zt];exact sEq J J J<|bN J<|bN J<|bR J J
 |bare d=>exact Gn n J J
 |full c d=>
  cases c with
  |fin=>exact Qh n
  |no y=>exact Gn n (Gj<|.no y) J
  |pc y=>exact Gn n (Gj<|.pc y)<|Gk y
def JX{row:Tx}{k:Int}:cN (n+1) 70 [.own 0,.str row,.int k] [⟨24,[]⟩]=.ok (.non,SC row k):=by
 rw[w70];rfl
def LF(k:Int)(o:Option LN)(m:FV)(x:Res<|T×FV):Prop:=match o with
 |some l=>x=.ok (l.val,m)
 |none=>∃s:S,s.m=m/\x=.exc 0 [.int k] s
def Mw{k:Int}{f:Fn}{fl:FL}{ts:FK}{s:S}(h:fl s=.ok (ts,s))(z:Xc k<|f ts s.m):Xc k<|aj f [] fl s:=by
 obtain⟨a,e⟩:=z;unfold aj;rw[h];show Xc k<|match f (ts++[]) s.m with|.ok q=>_|.bad=>_|.exc c fs b=>_
 rw[bz,e];exact⟨_,J⟩
def Mx{k:Int}{A B:FS}{s:S}(h:Xc k<|A s):Xc k<|ah A B s:=c6 h
def Gp{k:Int}{A B:FS}{s s':S}(h:A s=.ok (.nx,s'))(z:Xc k<|B s'):Xc k<|ah A B s:=by
 unfold ah;rw[h];exact z
def ZI{k:Int}{A B:FS}{c:FT}{s s':S}(h:c s=.ok (O,s'))(z:Xc k<|A s'):Xc k<|aX c A B s:=by
 unfold aX;rw[h];exact z
def VD{k:Int}{b n:Nat}{B:FS}{ts:FK}{o:Option LN}(h:aN ts=O)(hl:ts.length=b)(c:match o with
  |some l=>∃s,B ⟨ts.map (λt=>sv t)++dN (n-ts.length) Y,[]⟩=.ok (.rt l.val,s)
  |none=>Xc k<|B ⟨ts.map (λt=>sv t)++dN (n-ts.length) Y,[]⟩):LF k o m<|aH (aI b n B) ts m:=by
 unfold aH;rw[b7 h];unfold aI;rw[b7 hl];cases o with
 |none=>
  obtain⟨d,a⟩:=c;rw[a];exact⟨_,J,J⟩
 |some l=>
  obtain⟨d,a⟩:=c;rw[a];show(if noOwn l.val=O then _ else _)=_
  rw[b7<|zW l]
def JY{row:Tx}{k:Int}(z:Bd row):LF k (parse row) m<|cN (n+12) 15 [.str row,.int k] m:=by
 rw[w15];refine VD J J ?_;have d:eg (aD 2<|v_ 24 (cN (n+11) 70)<|k2 zA zB) ⟨[sv<|.str row,sv<|.int k,Y,Y],[]⟩=.ok (.nx,⟨[sv<|.str row,sv<|.int k,sv<|.own 0,Y],SC row k⟩):=uX<|eo (s':=⟨[sv<|.str row,sv<|.int k,Y,Y],SC row k⟩)<|Zw (ts:=[.str row,.int k]) (s':=⟨[sv<|.str row,sv<|.int k,Y,Y],[]⟩) J<|JX<|n+10;have h:=Vz (k:=k) n z;unfold parse;cases e:sy row with
 |none=>
  rw[e]at h;obtain⟨j,i⟩:=h;have c:Xc k<|aD 3 (aj (cN (n+11) 16) []<|k1<|bC zC) ⟨[sv<|.str row,sv<|.int k,sv<|.own 0,Y],SC row k⟩:=by
   exact c6<|Mw (ts:=[.own 0]) J ⟨_,i⟩
  exact Gp d<|Mx c
 |some p=>
  rw[e]at h;obtain⟨x,a⟩:=p;have c:aD 3 (aj (cN (n+11) 16) []<|k1<|bC zC) ⟨[sv<|.str row,sv<|.int k,sv<|.own 0,Y],SC row k⟩=.ok (.nx,⟨[sv<|.str row,sv<|.int k,sv<|.own 0,sv x.val],SC a k⟩):=eo (s':=⟨[sv<|.str row,sv<|.int k,sv<|.own 0,Y],SC a k⟩)<|zG (ts:=[.own 0]) (s':=⟨[sv<|.str row,sv<|.int k,sv<|.own 0,Y],SC row k⟩) J h.1;have b:bQ (yn (D.dm<|dD (aU .NotEq) (aO M.P.tab 14 zC)<|cS [])<|dU<|D.tB<|aj (cN (n+11) 28) []<|k2 (aO M.P.tab 1 zD)<|aO M.P.tab 2 zD) ⟨[sv<|.str row,sv<|.int k,sv<|.own 0,sv x.val],SC a k⟩=.ok (!decide (a=[]) || !x.ms,⟨[sv<|.str row,sv<|.int k,sv<|.own 0,sv x.val],SC a k⟩):=uX<|uV (gP<|pE (t:=.str a) J J<|Vv ..)<|wU<|oY<|cE (ts:=[x.cond,x.ju]) J<|VC<|n+6;show match(if(!decide (a=[]) || !x.ms)=O then Y else U x)with
   |some l=>∃s,ah _ _ _=.ok (.rt l.val,s)
   |none=>Xc k<|ah _ _ _
  cases f:(!decide (a=[]) || !x.ms)with
  |false=>
   rw[f]at b;exact⟨_,seq1 d<|seq1 c<|seq1 (zF b J)<|uX<|kg J⟩
  |true=>
   rw[f]at b;have g:Xc k<|bM (kP 24 (cN (n+11) 71) zC bI) ⟨[sv<|.str row,sv<|.int k,sv<|.own 0,sv x.val],SC a k⟩:=by
    refine c6 ?_;show Xc k<|aj (cN (n+11) 71) [] (k1<|cF<|.own 0) ⟨[sv<|.str row,sv<|.int k,sv<|.own 0,sv x.val],SC a k⟩;exact Mw (ts:=[.own 0]) J<|nY<|n+10
   exact Gp d<|Gp c<|Mx<|ZI b g
def Xq(c:Nat)(j:Int){α:Type}(x:Res α):Prop:=∃s,x=.exc c [.int j] s
section
variable{α a:Type}{c i:Nat}{j:Int}{A B:FS}{s s':S}{f:Fn}{fl:FL}{ts:FK}{ct:FT}{g:FG}{t:T}{r:Fs}{e:FE}
def e_{x:Res α}{g:α->Res a}(h:Xq c j x):Xq c j<|x.bind g:=by
 obtain⟨s,rfl⟩:=h;exact⟨s,J⟩
def kW(h:A s=.ok (.nx,s'))(z:Xq c j<|B s'):Xq c j<|ah A B s:=by
 unfold ah;rw[h];exact z
def oq(h:fl s=.ok (ts,s))(z:Xq c j<|f ts s.m):Xq c j<|aj f [] fl s:=by
 obtain⟨a,e⟩:=z;unfold aj;rw[h];show Xq c j<|match f (ts++[]) s.m with|.ok q=>_|.bad=>_|.exc c fs s'=>_
 rw[bz,e];exact⟨_,J⟩
def Qi(h:ct s=.ok (O,s))(he:fl s=.ok ([.int j],s')):Xq c j<|aX (bQ ct) (EA c fl) B s:=by
 unfold aX bQ;rw[h];show Xq c j<|Res.bind (uB<|fl s) _;rw[he];exact⟨_,J⟩
def VE(h:ct s=.ok (O,s'))(z:Xq c j<|A s'):Xq c j<|aX ct A B s:=by
 unfold aX;rw[h];exact z
def VF{us:FK}(h0:s.r[i]?=U (U<|.ol us))(z:Xq c j<|e s):Xq c j<|gS i e s:=by
 unfold gS;rw[h0];show Xq c j<|Res.bind (e s) _;exact e_ z
def okN(h:ct s=.ok (Zn,s)):aX (bQ ct) A aF s=.ok (.nx,s):=zF (uX h) J
def zX{ts:FK}(h:g t s.r=U r)(z:Xq c j<|B ⟨r,s.m⟩):Xq c j<|aM g B (t::ts) s:=by
 unfold aM;rw[h];show Xq c j<|Res.bind (B ⟨r,s.m⟩) _;exact e_ z
def kX{a n:Nat}(h:aN ts=O)(hl:ts.length=a)(z:Xq c j<|B ⟨ts.map (λt=>sv t)++dN (n-ts.length) Y,[]⟩):Xq c j<|aH (aI a n B) ts m:=by
 obtain⟨b,e⟩:=z;unfold aH;rw[b7 h];unfold aI;rw[b7 hl,e];exact⟨_,J⟩
end
def d9:Nat->List Tx->Except Nat (List LN)
 |_,[]=>.ok []
 |j,r::rs=>if 24<j then .error j else match parse r with
  |none=>.error j
  |some l=>match d9 (j+1) rs with
   |.ok a=>.ok<|l::a
   |.error i=>.error i
abbrev ai(xs:List Tx):FK:=xs.map T.str
abbrev aK(xs:List LN):FK:=xs.map LN.val
def LsO(R:Option C)(o:Except Nat<|List LN)(done:List LN)(x:Res<|Out×S):Prop:=match o with
 |.ok a=>∃u v,x=.ok (.nx,⟨[R,U<|.ol<|aK<|done++a,u,v],[]⟩)
 |.error j=>Xq 0 (j:Nat) x
theorem vf(n:Nat){R:Option C}:∀(rs:List Tx)(j:Nat)(done:List LN)(u v:Option C),(∀r∈rs,Bd r)->done.length<j->LsO R (d9 j rs) done (aM (cQ [2,3]) (JF<|cN<|n+12) (fj (j:Nat)<|ai rs) ⟨[R,U<|.ol<|aK done,u,v],[]⟩)
 |[],j,done,u,v,_,_=>⟨u,v,by rw[bz];rfl⟩
 |r::rs,j,done,u,v,h,hd=>by
  have a:D.dm (dD (aU .Gt) zC<|cI 24) ⟨[R,U<|.ol<|aK done,sv<|.int (j:Nat),sv<|.str r],[]⟩=.ok (decide<|24<j,⟨[R,U<|.ol<|aK done,sv<|.int (j:Nat),sv<|.str r],[]⟩):=gP<|pE (t:=.int (j:Nat)) (u:=.int 24) J J<|(uT ..).trans<|by congr 2;apply decide_eq_decide.mpr;lia
  have c:cQ [2,3] (.tup [.int (j:Nat),.str r]) [R,U<|.ol<|aK done,u,v]=U [R,U<|.ol<|aK done,sv<|.int (j:Nat),sv<|.str r]:=J;unfold d9;split
  .rename_i f
   rw[bt f]at a;exact zX c<|e_<|Qi (j:=(j:Nat)) a J
  .rename_i f
   rw[a9 f]at a;have hl:=JY (k:=(j:Nat)) n (m:=[])<|h r<|eu ..;cases e:parse r with
   |none=>
    rw[e]at hl;obtain⟨y,_,d⟩:=hl;exact zX c<|kW (okN a)<|VF (us:=aK done) J<|oq (ts:=[.str r,.int (j:Nat)]) J ⟨_,d⟩
   |some l=>
    rw[e]at hl;have d:cN (n+12) 15 [.str r,.int (j:Nat)] []=.ok (l.val,[]):=hl;have b:=vf n (R:=R) rs (j+1) (done++[l]) (sv<|.int (j:Nat)) (sv<|.str r) (λx q=>h x<|eE _ q) (by rw[dq,jC];lia)
    have w:aM (cQ [2,3]) (JF<|cN<|n+12) (fj (j:Nat)<|ai<|r::rs) ⟨[R,U<|.ol<|aK done,u,v],[]⟩=aM (cQ [2,3]) (JF<|cN<|n+12) (fj ((j+1:Nat):Int)<|ai rs) ⟨[R,U<|.ol<|aK<|done++[l],sv<|.int (j:Nat),sv<|.str r],[]⟩:=by
     refine dZ c (seq1 (okN a)<|rV (ts:=aK done) J (cE (ts:=[.str r,.int (j:Nat)]) J d) J<|by rw[ck];lia) ?_
     rw[show aK (done++[l])=aK done++[l.val] by simp];rfl
    rw[w];dsimp only;cases g:d9 (j+1) rs with
    |error i=>rw[g]at b;exact b
    |ok z=>
     rw[g]at b;obtain⟨p,o,s⟩:=b;exact⟨p,o,by rw[s,bD];rfl⟩
theorem dj:∀(a:List LN),aN (aK a)=O
 |[]=>J
 |x::a=>by
  show(noOwn x.val&&aN (aK a))=O;rw[zW,dj a];rfl
theorem dP:∀(l:List Tx),aN (ai l)=O
 |[]=>J
 |x::a=>by
  show(O&&aN (ai a))=O;rw[dP a];rfl
def EF(c:Nat){α:Type}(v:α->T)(o:Except Nat α)(m:FV)(x:Res<|T×FV):Prop:=match o with
 |.ok a=>x=.ok (v a,m)
 |.error j=>Xq c (j:Nat) x
def Gq{rs:List Tx}(h:∀r∈rs,Bd r):EF 0 (λls=>.lst<|aK ls) (d9 1 rs) m<|cN (n+13) 32 [.lst<|ai rs] m:=by
 rw[w32];have a:=vf n (R:=sv<|.lst<|ai rs) rs 1 [] Y Y h (by decide)
 cases e:d9 1 rs with
 |error j=>
  rw[e]at a;exact kX (BE<|dP rs) J<|kW (s':=⟨[sv<|.lst<|ai rs,U<|.ol [],Y,Y],[]⟩) J<|e_ a
 |ok ls=>
  rw[e]at a;obtain⟨u,v,b⟩:=a;exact eW (m':=[]) (BE<|dP rs) (gY (s':=⟨[sv<|.lst<|ai rs,sv<|.lst<|aK ls,u,v],[]⟩) J (seq1 (s':=⟨[sv<|.lst<|ai rs,U<|.ol [],Y,Y],[]⟩) J<|seq1 b J) J)<|dj ls
def LN.name:LN->Option Tx
 |.mark a=>U a
 |_=>Y
def DD.kY:DD->Option Tx
 |.go a=>U a
 |_=>Y
def LN.kY:LN->Option Tx
 |.mark _=>Y
 |.bare x=>x.kY
 |.full _ x=>x.kY
def Qk(x:LN):il M.P.sub [12] x.ju=U (.bl x.name.isSome):=by
 have h:∀d:DD,il M.P.sub [12] d.val=U (.bl Zn):=λd=>by
  cases d with
  |pile a v=>cases v<;>rfl
  |_=>rfl
 cases x with
 |mark a=>rfl
 |bare d=>exact h d
 |full c d=>exact h d
def ZJ(x:LN):il M.P.sub [21] x.ju=U (.bl x.kY.isSome):=by
 have h:∀d:DD,il M.P.sub [21] d.val=U (.bl d.kY.isSome):=λd=>by
  cases d with
  |pile a v=>cases v<;>rfl
  |_=>rfl
 cases x with
 |mark a=>rfl
 |bare d=>exact h d
 |full c d=>exact h d
abbrev lC(l:List Tx):List Ky:=l.map Ky.s
abbrev mE(l:List Tx):FK:=l.map λ_=>T.bl O
def ou{a:Tx}{l:List Tx}:(Ky.s a∈lC l) ↔ a∈l:=by
 constructor
 .intro h
  obtain⟨b,d,c⟩:=iw.mp h;cases c;exact d
 .exact λh=>iw.mpr ⟨a,h,J⟩
def cO:Nat->List LN->List Tx->Except Nat (List Tx)
 |_,[],d=>.ok d
 |j,l::ls,d=>match l.name with
  |none=>cO (j+1) ls d
  |some a=>if a∈d then .error j else cO (j+1) ls (d++[a])
abbrev sM(R:Option C)(done:List Tx)(u v:Option C):S:=⟨[R,U<|.od (lC done)<|mE done,u,v],[]⟩
def MkO(R:Option C)(o:Except Nat<|List Tx)(x:Res<|Out×S):Prop:=match o with
 |.ok d=>∃u v,x=.ok (.nx,sM R d u v)
 |.error j=>Xq 1 (j:Nat) x
def Bl{x:LN}{a:Tx}(h:x.name=U a):x=.mark a:=by
 cases x with
 |mark b=>cases h;rfl
 |bare d=>cases h
 |full c d=>cases h
theorem ow{R:Option C}:∀(xs:List LN)(j:Nat)(done:List Tx)(u v:Option C),done.length+xs.length<=100->MkO R (cO j xs done) (aM (cQ [2,3]) Bc (fj (j:Nat)<|aK xs)<|sM R done u v)
 |[],j,done,u,v,_=>⟨u,v,J⟩
 |x::xs,j,done,u,v,hl=>by
  rw[eS]at hl;have g:cQ [2,3] (.tup [.int (j:Nat),x.val]) [R,U<|.od (lC done)<|mE done,u,v]=U [R,U<|.od (lC done)<|mE done,sv<|.int (j:Nat),sv x.val]:=J;have b:bQ (D.tB<|dQ (il M.P.sub [12])<|aO M.P.tab 2 zD) (sM R done (sv<|.int (j:Nat))<|sv x.val)=.ok (x.name.isSome,sM R done (sv<|.int (j:Nat))<|sv x.val):=uX<|oY<|Bf (t:=x.ju) J<|Qk x;unfold cO;cases f:x.name with
  |none=>
   rw[f]at b;have d:=ow (R:=R) xs (j+1) done (sv<|.int (j:Nat)) (sv x.val) (by lia)
   have e:aM (cQ [2,3]) Bc (fj (j:Nat)<|aK<|x::xs) (sM R done u v)=aM (cQ [2,3]) Bc (fj ((j+1:Nat):Int)<|aK xs) (sM R done (sv<|.int (j:Nat))<|sv x.val):=dZ g (zF b J) J;rw[e];exact d
  |some a=>
   rw[f]at b;have ex:=Bl f;subst ex;have c:D.dm (vB .In Zn 1<|aO M.P.tab 9<|aO M.P.tab 2 zD) (sM R done (sv<|.int (j:Nat))<|sv (LN.mark a).val)=.ok (decide<|Ky.s a∈lC done,sM R done (sv<|.int (j:Nat))<|sv (LN.mark a).val):=J;dsimp only;split
   .rename_i hd
    rw[bt<|ou.mpr hd]at c;exact zX g<|VE b<|e_<|Qi (j:=(j:Nat)) c J
   .rename_i hd
    rw[a9 λz=>hd<|ou.mp z]at c;have d:=ow (R:=R) xs (j+1) (done++[a]) (sv<|.int (j:Nat)) (sv (LN.mark a).val) (by rw[dq,jC];lia)
    have i:j4 (lC done) (mE done) (.s a) (.bl O)=(lC<|done++[a],mE<|done++[a]):=by
     unfold j4;rw[b0 λz=>hd<|ou.mp z];simp[lC,mE]
    have h:eg (yZ 1 (aO M.P.tab 9<|aO M.P.tab 2 zD)<|cF<|.bl O) (sM R done (sv<|.int (j:Nat))<|sv (LN.mark a).val)=.ok (.nx,sM R (done++[a]) (sv<|.int (j:Nat))<|sv (LN.mark a).val):=by
     refine uX ?_;show Res.bind (dG<|gd ((lC done).length<1000000) ()) _=_;rw[my<|by rw[ck];lia]
     show Res.ok (Out.nx,iR _ 1<|.od (j4 (lC done) (mE done) (.s a)<|.bl O).1 (j4 (lC done) (mE done) (.s a)<|.bl O).2)=_;rw[i];rfl
    have e:aM (cQ [2,3]) Bc (fj (j:Nat)<|aK<|LN.mark a::xs) (sM R done u v)=aM (cQ [2,3]) Bc (fj ((j+1:Nat):Int)<|aK xs) (sM R (done++[a]) (sv<|.int (j:Nat))<|sv (LN.mark a).val):=dZ g (Ml b<|seq1 (okN c) h) J;rw[e];exact d
theorem kZ:∀l:List Tx,aN (mE l)=O
 |[]=>J
 |a::l=>by show(O&&aN (mE l))=O;rw[kZ l];rfl
def Gs{xs:List LN}(hl:xs.length<=100):EF 1 (λd=>.gF (lC d)<|mE d) (cO 1 xs []) m<|cN (n+1) 33 [.lst<|aK xs] m:=by
 rw[w33];have a:=ow (R:=sv<|.lst<|aK xs) xs 1 [] Y Y (by show 0+_<=_;lia)
 cases e:cO 1 xs []with
 |error j=>
  rw[e]at a;exact kX (BE<|dj xs) J<|kW (s':=⟨[sv<|.lst<|aK xs,U<|.od [] [],Y,Y],[]⟩) J<|e_ a
 |ok d=>
  rw[e]at a;obtain⟨u,v,b⟩:=a;exact eW (m':=[]) (BE<|dj xs) (gY (s':=⟨[sv<|.lst<|aK xs,sv<|.gF (lC d)<|mE d,u,v],[]⟩) J (seq1 (s':=⟨[sv<|.lst<|aK xs,U<|.od [] [],Y,Y],[]⟩) J<|seq1 b J) J)<|kZ d
def fT(ms:List Tx):Nat->List LN->Except Nat Unit
 |_,[]=>.ok ()
 |j,l::ls=>match l.kY with
  |none=>fT ms (j+1) ls
  |some a=>if a∈ms then fT ms (j+1) ls else .error j
def Bm{x:LN}{a:Tx}(h:x.kY=U a):x.ju=.obj 21 [.str a]:=by
 cases x with
 |mark b=>cases h
 |bare d=>cases d<;>first|(cases h;done)|(cases h;rfl)
 |full c d=>cases d<;>first|(cases h;done)|(cases h;rfl)
abbrev sG(R:Option C)(ms:List Tx)(u v:Option C):S:=⟨[R,sv<|.gF (lC ms)<|mE ms,u,v],[]⟩
def GoO(R:Option C)(ms:List Tx)(o:Except Nat Unit)(x:Res<|Out×S):Prop:=match o with
 |.ok _=>∃u v,x=.ok (.nx,sG R ms u v)
 |.error j=>Xq 2 (j:Nat) x
theorem zY{R:Option C}{ms:List Tx}:∀(xs:List LN)(j:Nat)(u v:Option C),GoO R ms (fT ms j xs)<|aM (cQ [2,3]) Vh (fj (j:Nat)<|aK xs)<|sG R ms u v
 |[],j,u,v=>⟨u,v,J⟩
 |x::xs,j,u,v=>by
  have g:cQ [2,3] (.tup [.int (j:Nat),x.val]) [R,sv<|.gF (lC ms)<|mE ms,u,v]=U [R,sv<|.gF (lC ms)<|mE ms,sv<|.int (j:Nat),sv x.val]:=J;have b:D.tB (dQ (il M.P.sub [21])<|aO M.P.tab 2 zD) (sG R ms (sv<|.int (j:Nat))<|sv x.val)=.ok (x.kY.isSome,sG R ms (sv<|.int (j:Nat))<|sv x.val):=oY<|Bf (t:=x.ju) J<|ZJ x;have f:=zY (R:=R) (ms:=ms) xs (j+1) (sv<|.int (j:Nat))<|sv x.val;have i:∀{c:FT},c (sG R ms (sv<|.int (j:Nat))<|sv x.val)=.ok (Zn,sG R ms (sv<|.int (j:Nat))<|sv x.val)->aM (cQ [2,3]) (aX (bQ c) (EA 2<|k1 zC) aF) (fj (j:Nat)<|aK<|x::xs) (sG R ms u v)=aM (cQ [2,3]) (aX (bQ c) (EA 2<|k1 zC) aF) (fj ((j+1:Nat):Int)<|aK xs) (sG R ms (sv<|.int (j:Nat))<|sv x.val):=λh=>dZ g (okN h) J;unfold fT;cases e:x.kY with
  |none=>
   rw[e]at b;rw[i<|JG b];exact f
  |some a=>
   rw[e]at b;have hd:=Bm e;have d:D.dm (vB .NotIn O 1<|aO M.P.tab 9<|aO M.P.tab 2 zD) (sG R ms (sv<|.int (j:Nat))<|sv x.val)=.ok (!decide (Ky.s a∈lC ms),sG R ms (sv<|.int (j:Nat))<|sv x.val):=by
    have k:x.val=.obj 1 [x.cond,.obj 21 [.str a]]:=by rw[<- hd];rfl
    rw[k];rfl
   dsimp only;split
   .rename_i h
    rw[bt<|ou.mpr h]at d;rw[i<|lA b d];exact f
   .rename_i h
    rw[a9 λz=>h<|ou.mp z]at d;exact zX g<|Qi (j:=(j:Nat)) (lA b d) J
def JZ{xs:List LN}{ms:List Tx}:EF 2 (λ_=>.non) (fT ms 1 xs) m<|cN (n+1) 34 [.lst<|aK xs,.gF (lC ms)<|mE ms] m:=by
 rw[w34];have a:=zY (R:=sv<|.lst<|aK xs) (ms:=ms) xs 1 Y Y;have b:aN [T.lst<|aK xs,.gF (lC ms)<|mE ms]=O:=Rf (dj xs)<|kZ ms;cases e:fT ms 1 xs with
 |error j=>
  rw[e]at a;exact kX b J a
 |ok d=>
  rw[e]at a;obtain⟨u,v,c⟩:=a;exact eW (m':=[]) b (U9 (s':=sG (sv<|.lst<|aK xs) ms u v) J c J) J
theorem oz{c:Nat}:∀{p q:B1},c∉p->bH c (p++c::q)=p::bH c q
 |[],q,_=>by show bH c (c::q)=_;rw[bH,b7 J]
 |d::p,q,h=>by
  have hd:d≠c:=λe=>h (by rw[e];exact eu ..)
  show bH c (d::(p++c::q))=_;rw[bH,b0 hd,oz λz=>h<|eE _ z]
def flat(ls:List Tx):Tx:=(ls.map λl=>l++[10]).flatten
theorem oF:∀{ls:List Tx},(∀l∈ls,10∉l)->bH 10 (flat ls)=ls++[[]]
 |[],_=>J
 |a::r,h=>by
  have:flat (a::r)=a++10::flat r:=by show(a++[10])++flat r=_;simp
  rw[this,oz<|h a<|eu ..,oF λl hl=>h l<|eE _ hl];rfl
def J0{α:Type}(xs:List α)(x:α):atT (xs++[x]) (-1)=U x:=by
 unfold atT;rw[b0<|by decide,b7<|by rw[dq,jC];lia]
 have:(-1+((xs++[x]).length:Int)).toNat=xs.length:=by rw[dq,jC];lia
 rw[this];simp
def Gu{α:Type}(xs:List α)(x:α):cj (xs++[x]) Y (U<|-1)=xs:=by
 unfold cj f9;dsimp only;rw[b7<|by decide]
 have:(-1+((xs++[x]).length:Int)).toNat=xs.length:=by rw[dq,jC];lia
 rw[this];simp
def Ql{ls:List Tx}(h:∀l∈ls,10∉l)(a:(flat ls).length<=100000):cN (n+1) 30 [.str<|flat ls] m=.ok (.tup [.lst<|ai ls,.bl O],m):=by
 rw[w30];have d:splitM (flat ls) [.str [10]]=U (.lst<|ai<|ls++[[]]):=by
  show gd _ _=_;rw[my a,oF h]
 have c:atT (ai<|ls++[[]]) (-1)=U (.str []):=by
  rw[ai,sJ];exact J0 _ _
 have b:cj (ai<|ls++[[]]) Y (U<|-1)=ai ls:=by
  rw[ai,sJ];exact Gu _ _
 refine sEq J J (Rf (dP ls) J)<|bS (t:=.lst<|ai<|ls++[[]]) (uW (l:=flat ls) (ts:=[.str [10]]) J J d)<|bY (s:=s2 (.str<|flat ls)<|.lst<|ai<|ls++[[]]) (gP<|pE (t:=.str []) (u:=.str []) (pE (t:=.lst<|ai<|ls++[[]]) (u:=.int<|-1) J (Bf (t:=.int 1) J F4) c) J J)<|bR (t:=.tup [.lst<|ai ls,.bl O]) (eX (ts:=[.lst<|ai ls,.bl O]) (cT (BD (x:=Y) (y:=U<|-1) (t:=.lst<|ai<|ls++[[]]) J J J<|by show U (T.lst _)=_;rw[b]) J)<|rW ..) J
def gh(rs:List Tx):Except (Nat×Nat)<|List LN:=match d9 1 rs with
 |.error j=>.error (0,j)
 |.ok a=>match cO 1 a []with
  |.error j=>.error (1,j)
  |.ok d=>match fT d 1 a with
   |.error j=>.error (2,j)
   |.ok _=>.ok a
def ĕ(o:Except (Nat×Nat)<|List LN)(m:FV)(x:Res<|T×FV):Prop:=match o with
 |.ok a=>x=.ok (.obj 0 [.lst<|aK a],m)
 |.error p=>Xq p.1 (p.2:Nat) x
theorem qA:∀{rs:List Tx}{j:Nat}{ls:List LN},d9 j rs=.ok ls->ls.length=rs.length/\(rs≠[]->j+rs.length<=25)
 |[],j,ls,h=>by cases h;exact⟨J,λz=>dk J z⟩
 |r::rs,j,ls,h=>by
  unfold d9 at h;split at h
  .cases h
  .rename_i d
   split at h
   .cases h
   .split at h
    .rename_i l _ a e
     cases h;obtain⟨c,b⟩:=qA e;refine⟨by rw[eS,eS,c],λ_=>?_⟩
     rw[eS];by_cases z:rs=[]
     .rw[z,B7];lia
     .have:=b z;lia
    .cases h
def J1{rs:List Tx}(h:∀l∈rs,10∉l)(t:∀l∈rs,Bd l)(r:(flat rs).length<=100000):ĕ (gh rs) m<|cN (n+14) 31 [.str<|flat rs] m:=by
 rw[w31];have e:=Gq n (m:=[]) t;have i:k1 (bC<|oI (aj (cN (n+13) 30) []<|k1 zA) zO) ⟨[sv<|.str<|flat rs,Y,Y],[]⟩=.ok ([.lst<|ai rs],⟨[sv<|.str<|flat rs,Y,Y],[]⟩):=cT (uX<|pE (cE (ts:=[.str<|flat rs]) J<|Ql (n+12) h r) J J) J;unfold gh;cases g:d9 1 rs with
 |error j=>
  rw[g]at e;exact kX J J<|e_<|e_<|oq i e
 |ok a=>
  rw[g]at e;have hl:a.length<=100:=by
   obtain⟨q1,q2⟩:=qA g;by_cases z:rs=[]
   .rw[q1,z];decide
   .have:=q2 z;lia
  have f:aD 1 (aj (cN (n+13) 32) []<|k1<|bC<|oI (aj (cN (n+13) 30) []<|k1 zA) zO) ⟨[sv<|.str<|flat rs,Y,Y],[]⟩=.ok (.nx,⟨[sv<|.str<|flat rs,sv<|.lst<|aK a,Y],[]⟩):=eo (s':=⟨[sv<|.str<|flat rs,Y,Y],[]⟩)<|cE i e;have c:=Gs (n+12) (xs:=a) (m:=[]) hl;dsimp only;cases o:cO 1 a []with
  |error j=>
   rw[o]at c;exact kX J J<|kW f<|e_<|e_<|oq (ts:=[.lst<|aK a]) J c
  |ok d=>
   rw[o]at c;have s2:aD 2 (aj (cN (n+13) 33) []<|k1<|bC zB) ⟨[sv<|.str<|flat rs,sv<|.lst<|aK a,Y],[]⟩=.ok (.nx,⟨[sv<|.str<|flat rs,sv<|.lst<|aK a,sv<|.gF (lC d)<|mE d],[]⟩):=eo (s':=⟨[sv<|.str<|flat rs,sv<|.lst<|aK a,Y],[]⟩)<|cE (ts:=[.lst<|aK a]) J c;have b:=JZ (n+12) (xs:=a) (ms:=d) (m:=[]);dsimp only;cases k:fT d 1 a with
   |error j=>
    rw[k]at b;exact kX J J<|kW f<|kW s2<|e_<|e_<|oq (ts:=[.lst<|aK a,.gF (lC d)<|mE d]) J b
   |ok q=>
    rw[k]at b;have p:bM (aj (cN (n+13) 34) []<|k2 (bC zB)<|bC zC) ⟨[sv<|.str<|flat rs,sv<|.lst<|aK a,sv<|.gF (lC d)<|mE d],[]⟩=.ok (.nx,⟨[sv<|.str<|flat rs,sv<|.lst<|aK a,sv<|.gF (lC d)<|mE d],[]⟩):=by
     have:=cE (s:=⟨[sv<|.str<|flat rs,sv<|.lst<|aK a,sv<|.gF (lC d)<|mE d],[]⟩) (fl:=k2 (bC zB)<|bC zC) (ts:=[.lst<|aK a,.gF (lC d)<|mE d]) J b
     unfold bM;rw[this];rfl
    refine eW (m':=[]) J (gY (s':=⟨[sv<|.str<|flat rs,sv<|.lst<|aK a,sv<|.gF (lC d)<|mE d],[]⟩) J (seq1 f<|seq1 s2<|seq1 p J) J) ?_;show(aN (aK a)&&O)=O;rw[dj];rfl
structure oZ(d:Tx):Prop where
 hd:∀c∈d,c∈aE
 h0:d≠[]
 hl:d.length<=8
def oG{S a b:Tx}(h:∀c∈a,c∈S):sp S (a++b)=(a++(sp S b).1,(sp S b).2):=by
 induction a with
 |nil=>rfl
 |cons c a f=>
  have e:sp S (c::(a++b))=(c::(sp S<|a++b).1,(sp S<|a++b).2):=b7<|h c<|eu ..;show sp S (c::(a++b))=_;rw[e,f λd hd=>h d<|eE _ hd];rfl
def ki{S:Tx}{b:Tx}(h:∀c,b.head?=U c->c∉S):sp S b=([],b):=by
 cases b with
 |nil=>rfl
 |cons c b=>exact b0<|h c J
section
variable{w a b:Tx}
def kj(W:oZ w)(h:∀c,b.head?=U c->c∉aE):nameP (w++b)=U (w,b):=by
 unfold nameP;rw[oG W.hd,ki h];dsimp only;rw[bz,b0];rw[a9 W.h0,a9<|by have:=W.hl;lia]
 decide
def oH(W:oZ w):nameP w=U (w,[]):=by
 have:=kj W (b:=[]) (λ_ h=>nomatch h)
 rw[bz]at this;exact this
def iW(h:∀c∈a,c∈aE)(hl:8<a.length):nameP a=Y:=by
 unfold nameP
 have:=oG (b:=[]) h
 rw[bz]at this;rw[this];dsimp only;rw[b7];have e:decide ((8:Int)<((a++(sp aE []).1).length:Nat))=O:=bt (by show(8:Int)<((a++[]).length:Nat);rw[bz];lia)
 rw[e];simp
def zZ(h:∀c,b.head?=U c->c∉aE):nameP b=Y:=by
 unfold nameP;rw[ki h];rfl
def fin(p:LN×Tx):Option LN:=if(!decide (p.2=[]) || !p.1.ms)=O then Y else U p.1
def aC(r:Tx):parse r=(sy r).bind fin:=J
def Qm{l:LN}{r:Tx}(h:l.ms=Zn):fin (l,r)=Y:=by
 unfold fin;rw[b7];rw[h];simp
def Bo{c:Nat}{S r:Tx}(h:c∉S):∀d,(c::r:Tx).head?=U d->d∉S:=λd e=>by cases e;exact h
end
def oJ(x:Tx):sy ([109,97,114,107,32]++x)=(nameP x).map λp=>(.mark p.1,p.2):=J
def Qn(x:Tx):sy ([103,111,32]++x)=((nameP x).map λp=>(DD.go p.1,p.2)).map λp=>(.bare p.1,p.2):=J
def z6(x:Tx):sy ([98,114,105,110,103,32]++x)=((nameP x).map λp=>(DD.bring p.1,p.2)).map λp=>(.bare p.1,p.2):=J
def Gv(x:Tx):sy ([112,105,108,101,32]++x)=(nX x).map λp=>(.bare p.1,p.2):=J
def vg(x:Tx):sy ([115,97,121,32]++x)=((eM x).map λp=>(DD.say p.1,p.2)).map λp=>(.bare p.1,p.2):=J
def Gw(x:Tx):sy ([115,119,97,112,32,47]++x)=(nW Zn<|47::x).map λp=>(.bare p.1,p.2):=J
def z7(x:Tx):sy ([114,111,119,32]++x)=((((fY 1 999 x).map λp=>(RP.row p.1,p.2)).map λp=>(PC.rp p.1,p.2)).map λp=>(CD.pc p.1,p.2)).bind λp=>(strip [58,32] p.2).bind λr=>(Mp r).map λq=>(.full p.1 q.1,q.2):=J
def z8(x:Tx):sy (47::x)=((((nV<|47::x).map λp=>(RP.like p.1,p.2)).map λp=>(PC.rp p.1,p.2)).map λp=>(CD.pc p.1,p.2)).bind λp=>(strip [58,32] p.2).bind λr=>(Mp r).map λq=>(.full p.1 q.1,q.2):=J
def Gy{a w x:Tx}(f:∀c∈a,c∈aE)(b:∀c∈w,c∈aE):strip (a++[32]) (w++58::x)=Y:=by
 induction a generalizing w with
 |nil=>
  cases w with
  |nil=>rfl
  |cons d w=>
   have:d≠32:=λz=>by have:=b d<|eu ..;rw[z]at this;revert this;decide
   exact b0<|ew this
 |cons c a g=>
  cases w with
  |nil=>
   have:c≠58:=λz=>by have:=f c<|eu ..;rw[z]at this;revert this;decide
   exact b0 this
  |cons d w=>
   show(if c=d then strip (a++[32]) (w++58::x)else Y)=Y
   split
   .exact g (λe h=>f e<|eE _ h) λe h=>b e<|eE _ h
   .rfl
def vh{a w x r:Tx}(b:∀c∈a,c∈aE)(h:strip a (w++58::x)=U r):∃u,r=u++58::x/\w=a++u:=by
 induction a generalizing w with
 |nil=>cases h;exact⟨w,J,J⟩
 |cons c a f=>
  cases w with
  |nil=>
   have:c≠58:=λz=>by have:=b c<|eu ..;rw[z]at this;revert this;decide
   have h:(if c=58 then strip a x else Y)=U r:=h
   rw[b0 this]at h;cases h
  |cons d w=>
   have h:(if c=d then strip a (w++58::x)else Y)=U r:=h
   split at h
   .rename_i e
    obtain⟨u,i,g⟩:=f (λe h=>b e<|eE _ h) h;exact⟨u,i,by rw[g,e];rfl⟩
   .cases h
def VH{a:Tx}(h:cU aE a=O):∀c∈a,c∈aE:=λc b=>aR<|bF.mp h c b
def VI{w:Tx}(m:∀c∈w,c∈aE):parse ((w++[113])++58::[32,100,114,111,112])=Y:=by
 have Ė:∀c∈w++[113],c∈aE:=λc t=>by
  rcases lD.mp t with z|z
  .exact m c z
  .rw[kq.mp z];decide
 have bl:∀a,cU aE a=O->strip (a++[32]) ((w++[113])++58::[32,100,114,111,112])=Y:=λa h=>Gy (VH h) Ė;have j:∀a,cU aE a=O->pre (a++[32]) ((w++[113])++58::[32,100,114,111,112])=Zn:=λa h=>fS<|bl a h;have lv:∀a r,cU aE a=O->strip a ((w++[113])++58::[32,100,114,111,112])=U r->∃c g,r=c::g:=λa r h e=>by
  obtain⟨u,b,_⟩:=vh (VH h) e;cases u with
  |nil=>exact⟨_,_,b⟩
  |cons c u=>exact⟨_,_,b⟩
 have l:∀a r,cU aE a=O->a.getLast?≠U 113->strip a ((w++[113])++58::[32,100,114,111,112])=U r->strip [58,32] r=Y:=λa r h s e=>by
  obtain⟨u,b,f⟩:=vh (VH h) e;cases u with
  |nil=>
   rw[bz]at f;exact dk (by rw[<- f];simp) s
  |cons c u=>
   have:c∈aE:=Ė c (by rw[f];simp)
   have:58≠c:=λz=>by rw[<- z]at this;revert this;decide
   rw[b];exact b0 this
 have i:∀{r:Tx}{x:DD},(∃c g,r=c::g)->fin (.bare x,r)=Y:=λh=>by obtain⟨c,g,rfl⟩:=h;rfl
 generalize hR:(w++[113])++58::[32,100,114,111,112]=R at bl j lv l
 have hd:(strip [47] R)=Y:=by
  rw[<- hR];cases w with
  |nil=>rfl
  |cons d w=>
   have:47≠d:=λz=>by have:=m d<|eu ..;rw[<- z]at this;revert this;decide
   exact b0 this
 have Î:pre [47] R=Zn:=fS hd;have b1:=bl [109,97,114,107] J;have b2:=bl [115,97,121] J;have b3:=bl [115,119,97,112] J;have b4:=bl [106,111,105,110] J;have b5:=bl [112,105,108,101] J;have b6:=bl [98,114,105,110,103] J;have q:=bl [103,111] J;have p:=bl [97,100,100] J;have o:=bl [114,111,119] J;have c1:=bl [115,111,111,110] J;have c2:=bl [102,114,111,109] J;have n:=bl [110,111,116] J;have k:strip [115,119,97,112,32,101,118,101,114,121,32] R=Y:=by
  cases h:strip [115,119,97,112,32,101,118,101,114,121,32] R with
  |none=>rfl
  |some r=>
   have:=dh h
   rw[this]at b3;cases b3
 simp only[K1,Ar]at b1 b2 b3 b4 b5 b6 q p o c1 c2 n;have v:(sy R).bind fin=Y:=by
  unfold sy;rw[b1];show e9 (if(!JH R)=O then _ else _) fin=Y
  split
  .unfold Mp Mn
   rw[b2,k,b3,b4,b5,b6,q,p];simp only[Al,Kw];cases b:strip [100,114,111,112] R with
   |some r=>exact i<|lv _ _ J b
   |none=>
   simp only[Al];cases f:strip [112,114,105,110,116] R with
   |some r=>exact i<|lv _ _ J f
   |none=>
   simp only[Al];cases A:strip [100,111,110,101] R with
   |some r=>exact i<|lv _ _ J A
   |none=>
   simp only[Al];cases y:strip [116,101,108,108] R with
   |some r=>exact i<|lv _ _ J y
   |none=>rfl
  .unfold Mq Zy Ww Vn nV wQ
   rw[o,c1,c2,n,hd];simp only[Al,Kw,Option.map_none];cases b:strip [101,110,100] R with
   |some r=>
    show e9 (e9 (strip [58,32] r) _) fin=Y;rw[l _ _ J (by decide) b];rfl
   |none=>
   simp only[Al];cases f:strip [108,97,115,116] R with
   |some r=>
    show e9 (e9 (strip [58,32] r) _) fin=Y;rw[l _ _ J (by decide) f];rfl
   |none=>rfl
 exact v
def wW:eG (n:Int)=(Nat.toDigits 10 n).map D1:=by
 show(Nat.repr n).toList.map D1=_;rw[Nat.toList_repr]
def rZ:∀c∈eG (n:Int),c∈dH:=λc e=>by
 rw[wW]at e;obtain⟨d,f,rfl⟩:=iw.mp e;have h:=Nat.isDigit_of_mem_toDigits (by decide) (by decide) f
 unfold Char.isDigit at h;simp only[bT,cx,ge_iff_le,UInt32.le_iff_toNat_le]at h;have a:48<=d.toNat:=h.1;have b:d.toNat<=57:=h.2
 generalize d.toNat=m at a b
 have:m=48\/m=49\/m=50\/m=51\/m=52\/m=53\/m=54\/m=55\/m=56\/m=57:=by lia
 unfold dH;simpa using this
def oK(n k:Nat)(a:0<k)(h:n<10^k):(eG (n:Int)).length<=k:=by
 rw[wW,ck];exact(Ld (by decide) a).mpr h
def J2(h:1000<=n):3<(eG (n:Int)).length:=by
 rw[wW,ck]
 have:=(Ld (b:=10) (n:=n) (k:=3) (by decide)<|by decide)
 lia
def ZL(v:Nat):Bool:=let d:=eG v;!decide (d=[])&&(!pre [48] d&&decide (vl d=v))
def z9:((gk 999).all λk=>ZL<|k+1)=O:=by decide +kernel
def r6{v:Nat}(h:v<10^5):strN [.int (v:Int)]=U (.str<|eG v):=by
 refine my ⟨?_,?_⟩
 .show Nat.log2 v<1920
  by_cases z:v=0
  .rw[z];decide
  .exact(Nat.log2_lt z).mpr<|ee h<|by decide
 .exact eT (oK v 5 (by decide) h) (by decide)
def wY{v:Nat}{b:Tx}{lo d:Int}(j:1<=v)(i:v<=999)(e:lo<=v)(f:(v:Int)<=d)(g:∀c,b.head?=U c->c∉dH):fY lo d (eG v++b)=U ((v:Int),b):=by
 have a:=bF.mp z9 (v-1)<|sH.mpr<|by lia
 rw[show v-1+1=v by lia]at a
 unfold ZL at a;simp only[bT,BW,decide_eq_false_iff_not,cx]at a;obtain⟨c1,c2,h⟩:=a;have hl:=oK v 3 (by decide) (by lia)
 unfold fY;rw[oG<|rZ v,ki g];dsimp only;rw[bz,c2,h,a9 c1,a9<|by lia,a9<|by lia,a9<|by lia]
 rfl
def Gz{a b:Tx}{lo d:Int}(h:∀c∈a,c∈dH)(hl:3<a.length):fY lo d (a++b)=Y:=by
 unfold fY;rw[oG h];dsimp only;have e:decide ((3:Int)<((a++(sp dH b).1).length:Nat))=O:=bt (by rw[dq];lia)
 rw[e,b7<|by simp]
def wZ{b:Tx}{lo a:Int}(h:∀c,b.head?=U c->c∉dH):fY lo a b=Y:=by
 unfold fY;rw[ki h];rfl
def mF{c:Nat}{a b:Tx}(h:c∉a):wQ c (c::(a++c::b))=U (a,b):=by
 unfold wQ;rw[show strip [c] (c::(a++c::b))=U (a++c::b)from kQ [c] _];exact zQ h
def GA{c:Nat}{a:Tx}(h:c∉a):wQ c (c::a)=Y:=by
 unfold wQ;rw[show strip [c] (c::a)=U a from kQ [c] _];exact FZ h
def Qp{c:Nat}{b:Tx}(h:∀d,b.head?=U d->d∉[c]):wQ c b=Y:=by
 unfold wQ;cases b with
 |nil=>rfl
 |cons d b=>
  have:d∉[c]:=h d J
  show e9 (if c=d then _ else Y) _=Y
  rw[b0 λz=>this<|by rw[z];exact kq.mpr J];rfl
def qB(S a b:Tx):cU S (a++b)=(cU S a&&cU S b):=by unfold cU;rw[List.all_append]
def gO{S a:Tx}(h:∀c∈a,c∈S):cU S a=O:=bF.mpr λc b=>bt<|h c b
def z_{c:Nat}(h:c∈aE):c∈c_:=by
 have:aE.all (λc=>decide<|c∈c_)=O:=by decide
 exact aR<|bF.mp this c h
def gi{c:Nat}(h:c∈aE):zL c=O/\c≠91/\c≠46/\c≠94/\c≠36/\c∉[42,43,63]/\c≠47/\c≠34/\c≠58/\c∉dH/\c≠32:=by
 have:aE.all (λc=>decide<|zL c=O/\c≠91/\c≠46/\c≠94/\c≠36/\c∉[42,43,63]/\c≠47/\c≠34/\c≠58/\c∉dH/\c≠32)=O:=by decide
 exact aR<|bF.mp this c h
def iX{a b:Tx}(h:∀c∈a,c∈aE)(hl:a.length<=40):eM (34::(a++34::b))=U (a,b):=by
 unfold eM;rw[mF λz=>(gi<|h 34 z).2.2.2.2.2.2.2.1 J];show(if _ then Y else U (a,b))=_
 rw[a9<|by lia,gO λc d=>z_<|h c d]
 rfl
def w_{a b:Tx}(h:34∉a)(hl:40<a.length):eM (34::(a++34::b))=Y:=by
 unfold eM;rw[mF h];show(if _ then Y else U (a,b))=_
 rw[bt<|by lia]
 rfl
abbrev vj(c:Nat):Itm:=⟨[c],Zn,49⟩
def GC{c:Nat}{r:Tx}(h:c∈aE):wR c r=U (⟨[c],Zn,(aT r).1⟩,(aT r).2):=by
 obtain⟨d,b,a,_⟩:=gi h;unfold wR;rw[b0 b,b0 a,b7 d]
theorem oN:∀{w:Tx}{f:Nat},(∀c∈w,c∈aE)->w.length<=f->dg f w=U (w.map vj)
 |[],f,_,_=>by cases f<;>rfl
 |c::w,0,_,h=>dk h (by simp)
 |c::w,f+1,h,hl=>by
  have a:aT w=(49,w):=by
   cases w with
   |nil=>rfl
   |cons d w=>exact mD (gi<|h d<|by simp).2.2.2.2.2.1
  show(wR c w).bind _=_;rw[GC<|h c<|eu ..,a];show(dg f w).map _=_;rw[oN (λd hd=>h d<|eE _ hd)<|by rw[eS]at hl;lia]
  rfl
theorem vm:∀{w:Tx}{f:Nat},(∀c∈w,c∈aE)->w≠[]->dg f (w++[42,42])=Y
 |[],_,_,h=>dk J h
 |c::w,0,_,_=>J
 |c::w,f+1,h,_=>by
  show(wR c<|w++[42,42]).bind _=_;rw[GC<|h c<|eu ..];cases w with
  |nil=>cases f<;>rfl
  |cons d w=>
   rw[show aT (d::w++[42,42])=(49,d::w++[42,42])from mD (gi<|h d<|by simp).2.2.2.2.2.1]
   show(dg f<|d::w++[42,42]).map _=_;rw[vm (λe a=>h e<|eE _ a)<|by simp]
   rfl
def qC{w:Tx}(h:∀c,w.head?=U c->c≠94):pre [94] w=Zn/\iM w=w:=by
 have:pre [94] w=Zn:=by
  cases w with
  |nil=>rfl
  |cons c w=>exact wN<|ew<|h c J
 refine⟨this,?_⟩;unfold iM;rw[this];rfl
def GD{w:Tx}(h:∀c,w.getLast?=U c->c≠36):v9 [36] w=Zn:=by
 rcases List.eq_nil_or_concat w with rfl|⟨l,c,rfl⟩
 .rfl
 .rw[List.concat_eq_append]at h ⊢
  rw[Gh];exact a9<|h c<|by simp
def fU{w:Tx}(W:oZ w):sj:=⟨Zn,w.map vj,Zn,by rw[ck];exact W.hl⟩
def Aa{w x:Tx}(W:oZ w):∀c,(w++x).head?=U c->c∈aE:=λc h=>by
 cases w with
 |nil=>exact dk J W.h0
 |cons d w=>cases h;exact W.hd _<|eu ..
def GF{w:Tx}(W:oZ w):nU w=U (fU W):=by
 have a:=qC (w:=w) λc h=>(gi<|Aa (x:=[]) W c<|by rw[bz];exact h).2.2.2.1
 have b:=GD (w:=w) λc h=>(gi<|W.hd c<|K8 h).2.2.2.2.1;unfold nU;dsimp only;rw[a.1,a.2,b,gO λc d=>z_<|W.hd c d];show e9 (dg w.length w) _=_;rw[oN W.hd<|dS _];exact dif_pos (by rw[ck];exact W.hl)
def GG{w:Tx}(d:∀c,w.head?=U c->c≠94)(b:∀c,w.getLast?=U c->c≠36)(h:∀f,dg f w=Y):nU w=Y:=by
 have a:=qC d;unfold nU;dsimp only;rw[a.2,GD b];split
 .rfl
 .show e9 (dg w.length w) _=_
  rw[h];rfl
def qD{w b:Tx}(W:oZ w):nV (47::(w++47::b))=U (fU W,b):=by
 unfold nV;rw[mF λz=>(gi<|W.hd 47 z).2.2.2.2.2.2.1 J];show(nU w).map _=_;rw[GF W];rfl
def Ab{a b:Tx}(h:47∉a)(c:nU a=Y):nV (47::(a++47::b))=Y:=by
 unfold nV;rw[mF h];show(nU a).map _=_;rw[c];rfl
def xg{w:Tx}(W:oZ w):least (fU W)=w.length:=by
 unfold least fU;dsimp only;rw[List.filter_eq_self.mpr λi a=>by obtain⟨c,_,rfl⟩:=iw.mp a;rfl,ck]
structure TT(s:S)(m:Nat)(e:FE)(r:Tx):Prop where
 e:e s=.ok (.str r,s)
 i:cU c_ r=O
 l:r.length<=m
section
variable{s:S}{m k:Nat}{a b e:FE}{x y r:Tx}{fl:FL}{rs:List Tx}{P:Tx->Prop}
def ta(h:TT s m a x)(g:TT s k b y)(q:m+k<=500:=by decide):TT s (m+k) (oA a b)<|x++y:=
 ⟨bB h.e g.e<|my<|by have:=h.l;have:=g.l;lia,by rw[qB,h.i,g.i];rfl,by rw[dq];have:=h.l;have:=g.l;lia⟩
def tc{l:Tx}(h:cU c_ l=O:=by rfl):TT s l.length (cS l) l:=⟨J,h,dS _⟩
abbrev Kn(P:Tx->Prop)(r:Tx):Prop:=P r/\cU c_ r=O/\r.length<=500
structure Qs(P:Tx->Prop)(n:Nat)(rs:List Tx):Prop where
 h:∀r∈rs,Kn P r
 l:rs.length=n
structure TL(P:Tx->Prop)(s:S)(n:Nat)(fl:FL)(rs:List Tx):Prop where
 e:fl s=.ok (ai rs,s)
 q:Qs P n rs
def kB:TL P s 0 bI []:=⟨J,⟨(λ_ h=>nomatch h),J⟩⟩
def tl{n:Nat}(h:TT s m e r)(c:P r)(a:TL P s n fl rs)(d:m<=500:=by decide):TL P s (n+1) (az e fl)<|r::rs:=⟨cT h.e a.e,⟨λq b=>by
 rcases bu.mp b with z|z
 .rw[z];exact⟨c,h.i,eT h.l d⟩
 .exact a.q.h q z,by rw[eS,a.q.l]⟩⟩
def Ho{n:Nat}(h:TL P s n fl rs)(hl:n<=100:=by decide):aZ bJ fl s=.ok (.lst<|ai rs,s):=eX h.e<|my<|by rw[ck,h.q.l];lia
def ZM{qs:List Tx}{n j:Nat}(c:a s=.ok (.lst<|ai qs,s))(b:Qs P j qs)(h:TL P s n fl rs)(hl:n<=100:=by decide)(d:j<=100:=by decide):oA a (aZ bJ fl) s=.ok (.lst<|ai<|qs++rs,s):=by
 refine bB c (Ho h hl) ?_;show gd _ _=_;rw[my<|by rw[ck,ck,h.q.l,b.l];lia,show ai (qs++rs)=ai qs++ai rs from sJ ..]
def fd{i j:Int}(h:a s=.ok (.int i,s))(b:0<j/\j<1073741824):oD a (cI j) s=.ok (.int<|i/j,s):=bB h J<|my b
def md{i j:Int}(h:a s=.ok (.int i,s))(b:0<j):oM a (cI j) s=.ok (.int<|i % j,s):=bB h J<|my b
def ad{i j:Int}(h:b s=.ok (.int j,s)):oA (cI i) b s=.ok (.int<|i+j,s):=bB J h J
def r8{α:Type}{l:List α}{i:Int}{n:Nat}(hl:l.length=n)(h0:0<n):∃x∈l,atT l (i % (n:Int))=U x:=by
 have c:0<=i % (n:Int):=Cr _ (by lia)
 have b:i % (n:Int)<(n:Int):=xU _ (by lia)
 unfold atT;rw[b7 c,b7<|by rw[hl];exact b]
 have a:(i % (n:Int)).toNat<l.length:=by lia
 exact⟨l[(i % (n:Int)).toNat],List.getElem_mem a,fH a⟩
def Mz{i:Int}{n:Nat}(d:a s=.ok (.lst<|ai rs,s))(c:b s=.ok (.int<|i % (n:Int),s))(hl:rs.length=n)(h0:0<n):∃r∈rs,oI a b s=.ok (.str r,s):=by
 obtain⟨t,g,f⟩:=r8 (l:=ai rs) (i:=i) (by rw[ck];exact hl) h0
 obtain⟨r,e,rfl⟩:=iw.mp g;exact⟨r,e,bB d c f⟩
end
def VJ{i:Int}(h:0<=i)(d:i<26):∃c∈aE,uf (.str aE) (.int i)=U (.str [c]):=by
 obtain⟨c,b,a⟩:=r8 (l:=aE) (i:=i) (n:=26) J (by decide)
 have a:atT aE (i % 26)=U c:=a;rw[Int.emod_eq_of_lt h d]at a;exact⟨c,b,by show(atT aE i).map _=_;rw[a];rfl⟩
theorem Ac:∀(ts:FK)(c:T)(a:Int)(w:Tx)(x:Option C),(∀c∈w,c∈aE)->w.length+ts.length<=100->∃i b g,aM (setG 3) Vi ts ⟨[sv c,sv<|.int a,sv<|.str w,x],[]⟩=.ok (.nx,⟨[sv c,sv<|.int i,sv<|.str b,g],[]⟩)/\(∀c∈b,c∈aE)/\b.length=w.length+ts.length
 |[],c,a,w,x,h,_=>⟨a,w,x,J,h,J⟩
 |t::ts,c,a,w,x,h,hl=>by
  rw[eS]at hl;obtain⟨d,k,j⟩:=VJ (Cr a (by decide:(26:Int)≠0))<|xU a<|by decide
  obtain⟨i,b,g,e,q1,q2⟩:=Ac ts c (a/26) (w++[d]) (sv t) (λz f=>by
   rcases lD.mp f with f|f
   .exact h z f
   .rw[kq.mp f];exact k) (by rw[dq,jC];lia)
  refine⟨i,b,g,dZ (r:=[sv c,sv<|.int a,sv<|.str w,sv t]) J (seq1 (s':=⟨[sv c,sv<|.int a,sv<|.str<|w++[d],sv t],[]⟩) (eo (s':=⟨[sv c,sv<|.int a,sv<|.str w,sv t],[]⟩)<|bB (t:=.str w) (u:=.str [d]) J (bB (t:=.str aE) (u:=.int<|a % 26) J (md J<|by decide) j)<|my<|by rw[jC];lia)<|eo (s':=⟨[sv c,sv<|.int a,sv<|.str<|w++[d],sv t],[]⟩)<|fd J<|by decide) e,q1,?_⟩
  rw[q2,dq,jC,eS];lia
def mG(c:Int):∃w,oZ w/\∀m,cN (n+1) 42 [.int c] m=.ok (.str w,m):=by
 have j:0<=c % 8:=Cr _ (by decide)
 have g:c % 8<8:=xU _ (by decide)
 obtain⟨f,w,b,e,q1,q2⟩:=Ac (sQ 0 (1+c % 8).toNat) (.int c) (c/8 % 208827064576) [] Y (λ_ h=>nomatch h) (by unfold sQ;rw[ck,B4];simp;lia)
 have a:w.length=(1+c % 8).toNat:=by rw[q2];unfold sQ;rw[ck,B4];simp
 refine⟨w,⟨q1,λz=>by rw[z]at a;simp at a;lia,by lia⟩,λm=>?_⟩
 rw[w42];have d:dD (pI .Pow) (cI 26) (cI 8) ⟨[sv<|.int c,Y,Y,Y],[]⟩=.ok (.int 208827064576,⟨[sv<|.int c,Y,Y,Y],[]⟩):=bB J J J;exact eW (m':=[]) J (gY (s':=⟨[sv<|.int c,sv<|.int f,sv<|.str w,b],[]⟩) J (seq1 (s':=⟨[sv<|.int c,sv<|.int<|c/8 % 208827064576,Y,Y],[]⟩) (eo (s':=⟨[sv<|.int c,Y,Y,Y],[]⟩)<|bB (fd (i:=c) J<|by decide) d<|show gd ((0:Int)<208827064576) _=_ from my<|by decide)<|seq1 (s':=⟨[sv<|.int c,sv<|.int<|c/8 % 208827064576,sv<|.str [],Y],[]⟩) J<|seq1 (uU (Vl (cT (ad<|md (i:=c) J<|by decide) J)<|my<|by lia) e) J) J) J
def oO{w:Tx}(W:oZ w):cU c_ w=O:=gO λc a=>z_<|W.hd c a
abbrev Pn(r:Tx):Prop:=parse r=Y
section
variable{s:S}{m k i:Nat}{a b e:FE}{x y r:Tx}{fl:FL}{rs qs:List Tx}{P:Tx->Prop}{B:FS}{G:T×FV->Prop}
def tk{n:Nat}{l:Tx}(c:TL Pn s n fl rs)(b:cU c_ l=O:=by rfl)(hl:l.length<=500:=by decide)(a:(parse l).isNone=O:=by decide +kernel):TL Pn s (n+1) (az (cS l) fl)<|l::rs:=tl (tc b) (sF.mp a) c hl
def bL{n:Nat}(h:TL P s n fl rs)(w:Qs P n rs->WB B (iR s i<|.val<|.lst<|ai rs) G)(hl:n<=100:=by decide):WB (ah (aD i<|aZ bJ fl) B) s G:=bS (Ho h hl)<|w h.q
def bA{n j:Nat}(d:a s=.ok (.lst<|ai qs,s))(b:Qs P j qs)(h:TL P s n fl rs)(w:Qs P (j+n) (qs++rs)->WB B (iR s i<|.val<|.lst<|ai<|qs++rs) G)(hl:n<=100:=by decide)(e:j<=100:=by decide):WB (ah (aD i<|oA a<|aZ bJ fl) B) s G:=bS (ZM d b h hl e)<|w ⟨λr c=>(lD.mp c).elim (b.h r)<|h.q.h r,by rw[dq,b.l,h.q.l]⟩
def Dr(P:Tx->Prop)(p:T×FV):Prop:=∃r,Kn P r/\p.1=.str r
def bP{j:Int}{n:Nat}(c:Qs P n rs)(e:a s=.ok (.lst<|ai rs,s))(d:b s=.ok (.int<|j % (n:Int),s))(h0:0<n:=by decide):WB (aq<|oI a b) s<|Dr P:=by
 obtain⟨r,g,f⟩:=Mz e d c.l h0;exact bR f ⟨r,c.h r g,J⟩
def MA(P:Tx->Prop)(x:Res<|T×FV):Prop:=∃r,Kn P r/\x=.ok (.str r,[])
def qE{c n:Nat}{B:FS}{ts:FK}(h:aN ts=O)(hl:ts.length=c)(k:WB B ⟨ts.map (λt=>sv t)++dN (n-ts.length) Y,[]⟩<|Dr P):MA P<|aH (aI c n B) ts []:=by
 obtain⟨p,e,⟨r,b,a⟩,f⟩:=Mm (G:=λp=>Dr P p/\p.2=[]) (m:=[]) h<|(Vc hl k).mono λp d=>by
  obtain⟨r,b,a⟩:=d;exact⟨by rw[a];rfl,⟨r,b,a⟩,J⟩
 exact⟨r,b,by rw[e,<- a,<- f]⟩
end
def Qq{S:Tx}:∀c,([]:Tx).head?=U c->c∉S:=λ_ h=>nomatch h
def VL{w:Tx}(W:oZ w):∀c,(w.map (· - 32)).head?=U c->c∉aE:=λc h=>by
 have:aE.all (λc=>decide<|c-32∉aE)=O:=by decide
 cases w with
 |nil=>cases h
 |cons d w=>cases h;exact aR<|bF.mp this d<|W.hd d<|eu ..
def VM{w:Tx}(W:oZ w):cU c_ (w.map (· - 32))=O:=gO λc a=>by
 have:aE.all (λc=>decide<|c-32∈c_)=O:=by decide
 obtain⟨d,b,rfl⟩:=iw.mp a;exact aR<|bF.mp this d<|W.hd d b
def up_eq{w:Tx}(W:oZ w):Q_ (.str w)=U (.str<|w.map (· - 32)):=my<|bF.mpr λc a=>by
 have:aE.all (λc=>decide<|97<=c/\c<=122)=O:=by decide
 exact bF.mp this c<|W.hd c a
abbrev Bp:Tx:=[97,98,99,100,101,102,103,104]
def Ad{w:Tx}(W:oZ w):∀c∈w++Bp,c∈aE:=λc b=>by
 rcases lD.mp b with z|z
 .exact W.hd c z
 .exact VH (a:=Bp) J c z
def r9{w:Tx}(W:oZ w):8<(w++Bp).length:=by
 have:=K9.mpr W.h0
 rw[dq];show 8<_+8
 lia
def VN{w x:Tx}(W:oZ w):∀c,(w++x).head?=U c->c∉dH:=λc h=>(gi<|Aa W c h).2.2.2.2.2.2.2.2.2.1
def qF{w x:Tx}{c:Nat}(W:oZ w)(h:c∉aE):nameP (w++([c]++x))=U (w,c::x):=kj W<|Bo h
def J3(c:Int):MA Pn<|cN (n+2) 44 [.int c] []:=by
 obtain⟨w,W,f⟩:=mG n c;have d:=oO W;rw[w44];have a:∀x y,TT ⟨[sv<|.int c,sv<|.str w,x,y],[]⟩ 8 zB w:=λx y=>⟨J,d,W.hl⟩;have b:∀y,TT ⟨[sv<|.int c,sv<|.str w,sv<|.str<|w++Bp,y],[]⟩ 16 zC<|w++Bp:=λy=>⟨J,by rw[qB,d];rfl,by rw[dq];have:=W.hl;show _+8<=_;lia⟩
 have g:∀x y,TT ⟨[sv<|.int c,sv<|.str w,x,y],[]⟩ 8 (dQ Q_ zB)<|w.map (· - 32):=λx y=>⟨Bf J<|up_eq W,VM W,by rw[ck];exact W.hl⟩
 refine qE J J<|bS (s:=⟨[sv<|.int c,Y,Y,Y],[]⟩) (cE (ts:=[.int c]) J<|f _)<|bS (s:=⟨[sv<|.int c,sv<|.str w,Y,Y],[]⟩) (ta (a _ _) tc).e<|bL (s:=⟨[sv<|.int c,sv<|.str w,sv<|.str<|w++Bp,Y],[]⟩) (P:=Pn) (tk<|tk<|tl (ta tc<|b _) ?_<|tl (ta tc<|g _ _) ?_<|tl (ta (ta (ta tc<|a _ _) tc)<|a _ _) ?_<|tl (ta tc<|a _ _) ?_ kB) λb1=>?_
 .show Pn _
  rw[Pn,aC,oJ,iW (Ad W)<|r9 W];rfl
 .rw[Pn,aC,oJ,zZ<|VL W];rfl
 .rw[Pn,bD,bD,aC,oJ,qF W<|by decide];rfl
 .show parse ([109,97,114,107,32]++32::w)=Y
  rw[aC,oJ,zZ<|Bo<|by decide];rfl
 refine bA (P:=Pn) (qs:=_) J b1 (tl (ta (ta tc<|a _ _) tc) ?_<|tl (ta tc<|b _) ?_<|tk<|tl (ta (ta tc<|a _ _) tc) ?_<|tk<|tl (ta tc<|b _) ?_ kB) λb2=>?_
 .rw[Pn,bD,aC,Qn,kj W<|Bo<|by decide];rfl
 .rw[Pn,aC,Qn,iW (Ad W)<|r9 W];rfl
 .rw[Pn,bD,aC,z6,kj W<|Bo<|by decide];rfl
 .rw[Pn,aC,z6,iW (Ad W)<|r9 W];rfl
 refine bA (P:=Pn) (qs:=_) J b2 (tl (ta tc<|a _ _) ?_<|tl (ta tc<|b _) ?_<|tk<|tl (ta (a _ _) tc) ?_<|tl (ta (ta (ta tc<|a _ _) tc)<|a _ _) ?_ kB) λb3=>?_
 .rfl
 .rw[Pn,aC,Gv]
  unfold nX;rw[iW (Ad W)<|r9 W];rfl
 .have:=VI W.hd
  rw[bD]at this;exact this
 .rw[Pn,bD,bD,aC,Gv]
  unfold nX;rw[qF W<|by decide]
  show e9 (o9 _<|o9 _<|fY 1 9 w) fin=Y;rw[wZ<|by have:=VN (x:=[]) W;rw[bz]at this;exact this];rfl
 exact bP (n:=17) b3 J<|md (fd J<|by decide)<|by decide
def GH{x:Tx}{lo a:Int}:fY lo a (48::x)=Y:=by
 have e:sp dH (48::x)=(48::(sp dH x).1,(sp dH x).2):=b7 (by decide)
 unfold fY;rw[e];dsimp only;rw[show pre [48] (48::(sp dH x).1)=O from pre_app [48] _,b7<|by simp]
def J4{v:Nat}{b:Tx}{lo d:Int}(h:d<v)(i:1<=v)(g:v<=999)(e:∀c,b.head?=U c->c∉dH):fY lo d (eG v++b)=Y:=by
 have a:=bF.mp z9 (v-1)<|sH.mpr<|by lia
 rw[show v-1+1=v by lia]at a
 unfold ZL at a;simp only[bT,BW,decide_eq_false_iff_not,cx]at a;obtain⟨c1,c2,f⟩:=a;unfold fY;rw[oG<|rZ v,ki e];dsimp only;rw[bz,f,bt h];split
 .rfl
 .rw[b7<|by simp]
section
variable{s:S}{a:FE}
def tn{v:Nat}(h:a s=.ok (.int (v:Nat),s))(b:v<10^5:=by lia):TT s 5 (aZ strN<|k1 a)<|eG v:=⟨eX (ts:=[.int v]) (cT h J)<|r6 b,gO λc d=>by
 have:dH.all (λc=>decide<|c∈c_)=O:=by decide
 exact aR<|bF.mp this c<|rZ v c d,oK v 5 (by decide) b⟩
def tx{L:List Tx}{n:Nat}{fl:FL}{c:Int}{s:S}(hl:fl s=.ok (ai L,s))(f:vF 0 s=.ok (.int c,s))(a:L.length=n)(h0:0<n)(d:L.all (λx=>cU c_ x&&decide (x.length<=10))=O)(h:n<=100):∃x∈L,TT s 10 (oI (aZ bJ fl)<|oM zA<|cI (n:Int)) x:=by
 have e:bJ (ai L)=U (.lst<|ai L):=my (by rw[ck,a];lia)
 obtain⟨x,b,g⟩:=Mz (i:=c) (eX hl e) (md f<|by lia) a h0
 have:=bF.mp d x b
 rw[bT]at this;exact⟨x,b,g,this.1,aR this.2⟩
end
def r_{p:Tx}{L:List Tx}(h:L.all (λx=>(parse<|p++x).isNone)=O){x:Tx}(a:x∈L):Pn<|p++x:=sF.mp<|bF.mp h x a
def km(c:Int){n:Nat}(h:0<n):∃v:Nat,c % (n:Int)=(v:Nat)/\v<n:=⟨(c % (n:Int)).toNat,by have:=Cr c (by lia:(n:Int)≠0);lia,by have:=xU c (by lia:0<(n:Int));have:=Cr c (by lia:(n:Int)≠0);lia⟩
section
variable{v:Nat}(j:1<=v)(t:v<=999)
include j t
def mH{b:Tx}(d:∀c,b.head?=U c->c∉dH)(a:strip [58,32] b=Y):Pn<|[114,111,119,32]++(eG v++b):=by
 rw[Pn,aC,z7,wY j t (by lia) (by lia) d]
 show e9 (e9 (strip [58,32] b) _) fin=Y;rw[a];rfl
def vn{b x:Tx}(d:∀c,b.head?=U c->c∉dH)(a:strip [58,32] b=U x)(hd:Mp x=Y):Pn<|[114,111,119,32]++(eG v++b):=by
 rw[Pn,aC,z7,wY j t (by lia) (by lia) d]
 show e9 (e9 (strip [58,32] b) _) fin=Y;rw[a];show e9 (o9 _<|Mp x) fin=Y;rw[hd];rfl
end
def sd{x:Tx}(h:fY 1 999 x=Y):Pn<|[114,111,119,32]++x:=by
 rw[Pn,aC,z7,h];rfl
def Bq(c:Int):MA Pn<|cN (n+1) 45 [.int c] []:=by
 rw[w45];obtain⟨u,p,A⟩:=km c (n:=99) (by decide)
 obtain⟨k,h,m⟩:=km c (n:=9000) (by decide)
 obtain⟨g,j,o⟩:=km c (n:=9) (by decide)
 have a1:∀x y:Option C,oA zI (oM zA<|cI 99) ⟨[sv<|.int c,x,y],[]⟩=.ok (.int ((1+u:Nat):Int),⟨[sv<|.int c,x,y],[]⟩):=λx y=>(ad<|md J<|by decide).trans (by rw[show c % 99=(u:Nat)from p];rfl)
 have r:∀x y:Option C,oA (cI 1000) (oM zA<|cI 9000) ⟨[sv<|.int c,x,y],[]⟩=.ok (.int ((1000+k:Nat):Int),⟨[sv<|.int c,x,y],[]⟩):=λx y=>(ad<|md J<|by decide).trans (by rw[show c % 9000=(k:Nat)from h];rfl)
 have a4:∀x y:Option C,oA (cI 4) (oM zA<|cI 9) ⟨[sv<|.int c,x,y],[]⟩=.ok (.int ((4+g:Nat):Int),⟨[sv<|.int c,x,y],[]⟩):=λx y=>(ad<|md J<|by decide).trans (by rw[show c % 9=(g:Nat)from j];rfl)
 have f:1<=1+u:=by lia
 have d:1+u<=999:=by lia
 have a:∀y,TT ⟨[sv<|.int c,sv<|.str<|eG (1+u:Nat),y],[]⟩ 5 zB<|eG (1+u:Nat):=λy=>by
  have:=tn<|a1 Y Y
  exact⟨J,this.i,this.l⟩
 generalize hv:1+u=v at a1 f d a
 refine qE J J<|bS (s:=⟨[sv<|.int c,Y,Y],[]⟩) (tn<|a1 _ _).e<|bL (s:=⟨[sv<|.int c,sv<|.str<|eG v,Y],[]⟩) (P:=Pn) (tk<|tl (ta (ta tc<|a _) tc) ?_<|tl (ta (ta tc<|tn<|r _ _) tc) ?_ kB) λb1=>?_
 .rw[Pn,bD]
  exact sd (x:=48::(eG v++_)) GH
 .rw[Pn,bD]
  exact sd<|Gz (rZ _)<|J2 _<|by lia
 refine bA (P:=Pn) (qs:=_) J b1 (tl (ta (ta tc<|a _) tc) ?_<|tl (ta (ta tc<|a _) tc) ?_<|tl (ta (ta tc<|a _) tc) ?_ kB) λb2=>?_
 .rw[Pn,bD];exact mH f d (Bo<|by decide) J
 .rw[Pn,bD];exact mH f d (Bo<|by decide) J
 .rw[Pn,bD];exact vn f d (Bo<|by decide) J J
 refine bA (P:=Pn) (qs:=_) J b2 (tl (ta (ta tc<|a _) tc) ?_<|tl (ta (ta tc<|a _) tc) ?_<|tl (ta (ta tc<|a _) tc) ?_ kB) λb3=>?_
 .rw[Pn,bD];exact sd (x:=32::(eG v++_))<|wZ<|Bo<|by decide
 .rw[Pn,bD];exact mH f d (Bo<|by decide) J
 .rw[Pn,bD];exact sd (x:=45::(eG v++_))<|wZ<|Bo<|by decide
 refine bA (P:=Pn) (qs:=_) J b3 (tl (ta (ta (ta (ta tc<|a _) tc)<|a _) tc) ?_<|tk kB) λb4=>?_
 .rw[Pn,bD,bD,bD];exact vn f d (b:=58::_) (Bo<|by decide) J J
 refine bA (P:=Pn) (qs:=_) J b4 (tl (ta (ta tc<|tn<|a4 _ _) tc) ?_<|tk<|tl (ta tc<|a _) ?_<|tk kB) λb5=>?_
 .rw[Pn,bD,aC]
  show e9 (e9 (o9 _<|FP<|eG (4+g:Nat)++_) _) fin=Y;unfold FP;rw[J4 (by lia) (by lia) (by lia)<|Bo<|by decide];rfl
 .have:=mH (b:=[]) f d Qq J
  rw[bz]at this;exact this
 obtain⟨w,m6,t6⟩:=tx (s:=⟨[sv<|.int c,sv<|.str<|eG v,_],[]⟩) (L:=[[48],[49],[49,48],[48,50],[],[120]]) (n:=6) (fl:=az (cS [48])<|az (cS [49])<|az (cS [49,48])<|k3 (cS [48,50]) (cS [])<|cS [120]) J J J (by decide) J (by decide)
 obtain⟨z,m5,t5⟩:=tx (s:=⟨[sv<|.int c,sv<|.str<|eG v,_],[]⟩) (L:=[[48],[49,48],[48,49],[120],[]]) (n:=5) (fl:=az (cS [48])<|az (cS [49,48])<|k3 (cS [48,49]) (cS [120])<|cS []) J J J (by decide) J (by decide)
 refine bA (P:=Pn) (qs:=_) J b5 (tl (ta tc t6) (r_ (by decide +kernel) m6)<|tl (ta tc t5) (r_ (by decide +kernel) m5) kB) λb6=>?_
 obtain⟨t,m8,t8⟩:=tx (s:=⟨[sv<|.int c,sv<|.str<|eG v,_],[]⟩) (L:=[[48,32,49],[49,32,48],[49,48,32,49],[49,32,49,48],[49],[49,32,50,32,51],[49,32,32,50],[97,32,49]]) (n:=8) (fl:=az (cS [48,32,49])<|az (cS [49,32,48])<|az (cS [49,48,32,49])<|az (cS [49,32,49,48])<|az (cS [49])<|k3 (cS [49,32,50,32,51]) (cS [49,32,32,50])<|cS [97,32,49]) J J J (by decide) J (by decide)
 refine bA (P:=Pn) (qs:=_) J b6 (tl (ta tc t8) (r_ (by decide +kernel) m8) kB) λq=>?_
 exact bP (n:=18) q J<|md (fd J<|by decide)<|by decide
def ZN{c:Nat}{r:Tx}{x:Nat}(h:c≠x):∀d,(c::r:Tx).head?=U d->d≠x:=λd e=>by cases e;exact h
def Qt{l:LN}{r:Tx}(h:r≠[]):fin (l,r)=Y:=by
 cases r with
 |nil=>exact dk J h
 |cons c r=>rfl
section
variable{w:Tx}(W:oZ w)
include W
def MB:eM w=Y:=by
 unfold eM;rw[Qp λd h=>by
  have:=(gi<|Aa (x:=[]) W d<|by rw[bz];exact h).2.2.2.2.2.2.2.1
  simpa using this]
 rfl
def VO:w.length<=40:=eT W.hl (by decide)
def xh{e:Bool}{b:Tx}:nW e (47::(w++47::b))=(strip [32] b).bind λr=>(eM r).map λq=>(.swap e (fU W) q.1,q.2):=by
 unfold nW;rw[qD W];rfl
end
def MC{w:Tx}(W:oZ w):∃c∈aE,∀x y z:Option C,∀t,TT ⟨[t,sv<|.str w,x],[]⟩ 1 (oI zB zO) [c]:=by
 cases w with
 |nil=>exact dk J W.h0
 |cons c w=>
  have a:=W.hd c<|eu ..;exact⟨c,a,λx y z t=>⟨bB (t:=.str<|c::w) (u:=.int 0) J J<|by show(atT (c::w) ((0:Nat):Int)).map _=_;rw[rT<|by simp];rfl,gO λd hd=>by rw[kq.mp hd];exact z_ a,dS _⟩⟩
def xj{a b:Tx}(h:aE.all (λc=>(parse<|(a++[c])++b).isNone)=O){c:Nat}(d:c∈aE):Pn<|(a++[c])++b:=sF.mp<|bF.mp h c d
def J5(c:Int):MA Pn<|cN (n+2) 46 [.int c] []:=by
 obtain⟨w,W,e⟩:=mG n c;have b:=oO W;have Wu:=VO W;obtain⟨c0,h,g⟩:=MC W;rw[w46];have a:∀x,TT ⟨[sv<|.int c,sv<|.str w,x],[]⟩ 8 zB w:=λx=>⟨J,b,W.hl⟩;have f:∀x,TT ⟨[sv<|.int c,sv<|.str w,x],[]⟩ 40 (dD (pI .Mult) (cS [97,98,99,100,101,102,103,104,105,106])<|cI 4) (dN 4 [97,98,99,100,101,102,103,104,105,106]).flatten:=λx=>⟨bB J J J,J,by decide⟩
 refine qE J J<|bS (s:=⟨[sv<|.int c,Y,Y],[]⟩) (cE (ts:=[.int c]) J<|e _)<|bL (s:=⟨[sv<|.int c,sv<|.str w,Y],[]⟩) (P:=Pn) (tl (ta tc<|a _) ?_<|tl (ta (ta tc<|a _) tc) ?_<|tl (ta (ta (ta (ta tc<|a _) tc)<|a _) tc) ?_<|tk kB) λb1=>?_
 .rw[Pn,aC,vg,MB W];rfl
 .rw[Pn,bD]
  show parse ([115,97,121,32]++34::(w++34::[32]))=Y;rw[aC,vg,iX W.hd Wu];rfl
 .rw[Pn,bD,bD,bD]
  show parse ([115,97,121,32]++34::(w++34::(w++[34])))=Y;rw[aC,vg,iX W.hd Wu];exact Qt (by simp)
 refine bA (P:=Pn) (qs:=_) J b1 (tl (ta (ta (ta tc<|f _)<|a _) tc) ?_<|tl (ta (ta tc<|a _) tc) ?_<|tl (ta tc<|a _) ?_ kB) λb2=>?_
 .rw[Pn,bD,bD]
  show parse ([115,97,121,32]++34::((dN 4 [97,98,99,100,101,102,103,104,105,106]).flatten++(w++34::[])))=Y;rw[<- bD,aC,vg,w_ ?_ ?_];rfl
  .intro z
   rcases lD.mp z with z|z
   .revert z;decide
   .exact(gi<|W.hd 34 z).2.2.2.2.2.2.2.1 J
  .have:=K9.mpr W.h0
   rw[dq];show 40<40+_
   lia
 .rw[Pn,bD,aC,Gw,show(47::(w++[47]):Tx)=47::(w++47::[])from J,xh W];rfl
 .show e9 (o9 _<|o9 _<|eM w) fin=Y
  rw[MB W];rfl
 refine bA (P:=Pn) (qs:=_) J b2 (tl (ta (ta tc<|a _) tc) ?_<|tk<|tl (ta (ta tc<|g _ Y Y _) tc) (xj (by decide +kernel) h) kB) λb3=>?_
 .rw[Pn,bD,aC,Gw,xh W];rfl
 refine bA (P:=Pn) (qs:=_) J b3 (tk<|tk<|tl (ta (ta (ta (ta tc<|a _) tc)<|a _) tc) ?_ kB) λb4=>?_
 .rw[Pn,bD,bD,bD,aC]
  show e9 (o9 _<|nW O<|47::(w++47::(32::34::(w++([98]++34::[]))))) fin=Y;rw[xh W];show e9 (o9 _<|o9 _<|eM<|34::(w++([98]++34::[]))) fin=Y;rw[<- bD,iX (λd hd=>by
   rcases lD.mp hd with z|z
   .exact W.hd d z
   .rw[kq.mp z];decide)<|by rw[dq,jC];have:=W.hl;lia]
  refine Qm ?_;show(!decide (least (fU W)=0)&&(!O ||decide ((w++[98]).length<=least (fU W))))=Zn;rw[xg W];simp
 refine bA (P:=Pn) (qs:=_) J b4 (tk<|tk<|tk kB) λb5=>?_;exact bP (n:=16) b5 J<|md (fd J<|by decide)<|by decide
def GI(c:Int):MA Pn<|cN (n+2) 47 [.int c] []:=by
 obtain⟨w,W,j⟩:=mG n c;have i:=oO W;obtain⟨c0,g,e⟩:=MC W;rw[w47];have a:∀x,TT ⟨[sv<|.int c,sv<|.str w,x],[]⟩ 8 zB w:=λx=>⟨J,i,W.hl⟩;have b:47∉w:=λz=>(gi<|W.hd 47 z).2.2.2.2.2.2.1 J;refine qE J J<|bS (s:=⟨[sv<|.int c,Y,Y],[]⟩) (cE (ts:=[.int c]) J<|j _)<|bL (s:=⟨[sv<|.int c,sv<|.str w,Y],[]⟩) (P:=Pn) (tk<|tk<|tk<|tk<|tk<|tk<|tk<|tk<|tk<|tk<|tk kB) λb1=>?_;refine bA (P:=Pn) (qs:=_) J b1 (tk<|tk<|tk<|tk<|tk kB) λb2=>?_;refine bA (P:=Pn) (qs:=_) J b2 (tk<|tk<|tk<|tk kB) λb3=>?_;obtain⟨m,m8,t8⟩:=tx (s:=⟨[sv<|.int c,sv<|.str w,_],[]⟩) (L:=[[100,114,111,112],[112,114,105,110,116],[100,111,110,101],[106,111,105,110,32,50],[112,105,108,101,32,97],[103,111,32,97],[97,100,100,32,49,32,50],[109,97,114,107,32,97]]) (n:=8) (fl:=az (cS [100,114,111,112])<|az (cS [112,114,105,110,116])<|az (cS [100,111,110,101])<|az (cS [106,111,105,110,32,50])<|az (cS [112,105,108,101,32,97])<|k3 (cS [103,111,32,97]) (cS [97,100,100,32,49,32,50])<|cS [109,97,114,107,32,97]) J J J (by decide) J (by decide)
 refine bA (P:=Pn) (qs:=_) J b3 (tl (ta tc t8) (r_ (by decide +kernel) m8) kB) λb4=>?_
 refine bA (P:=Pn) (qs:=_) J b4 (tl (ta (ta tc<|a _) tc) ?_<|tl (ta (ta tc<|e _ Y Y _) tc) (xj (by decide +kernel) g)<|tl (ta (ta tc<|a _) tc) ?_<|tk kB) λb5=>?_
 .rw[Pn,bD,aC]
  show e9 (sy<|47::(w++[58,32,100,114,111,112])) fin=Y;rw[z8];unfold nV;rw[GA λz=>?_];rfl;rcases lD.mp z with z|z
  .exact b z
  .revert z;decide
 .rw[Pn,bD,aC]
  show e9 (sy<|47::(w++([42,42]++47::[58,32,100,114,111,112]))) fin=Y;rw[<- bD,z8,Ab (λz=>?_)<|GG (λd h=>(gi<|Aa W d h).2.2.2.1) (λd h=>?_) λf=>vm W.hd W.h0];rfl
  .rcases lD.mp z with z|z
   .exact b z
   .revert z;decide
  .rw[List.getLast?_append]at h
   have:U 42=U d:=h
   cases this;decide
 refine bA (P:=Pn) (qs:=_) J b5 (tl (ta (ta tc<|a _) tc) ?_<|tk<|tk<|tk<|tk kB) λb6=>?_
 .rw[Pn,bD,aC]
  show e9 (sy<|47::((42::w)++47::[58,32,100,114,111,112])) fin=Y;rw[z8,Ab (λz=>?_)<|GG (ZN<|by decide) (λd h=>?_) λf=>by cases f<;>rfl];rfl
  .rcases bu.mp z with z|z
   .cases z
   .exact b z
  .have:=K8 h
   rcases bu.mp this with z|z
   .rw[z];decide
   .exact(gi<|W.hd d z).2.2.2.2.1
 refine bA (P:=Pn) (qs:=_) J b6 (tk<|tk<|tk<|tk kB) λl=>?_;refine bA (P:=Pn) (qs:=_) J l (tl (ta (ta tc<|e _ Y Y _) tc) (xj (by decide +kernel) g)<|tk kB) λk=>?_
 exact bP (n:=36) k J<|md (fd J<|by decide)<|by decide
def ė{s:S}{i j:Int}{a:FE}(h:a s=.ok (.int i,s)):D.dm (oE a<|cI j) s=.ok (decide<|i=j,s):=gP<|bB h (u:=.int j) J<|F3 _ _
def Qu(c:Int):MA Pn<|cN (n+3) 48 [.int c] []:=by
 rw[w48];have hd:∀{s:S},vF 0 s=.ok (.int c,s)->oD zA (cI 4) s=.ok (.int<|c/4,s):=λh=>fd h (by decide)
 have a:∀{f:Nat},MA Pn (cN (n+2) f [.int<|c/4] [])->WB (aq<|aj (cN (n+2) f) []<|k1<|oD zA<|cI 4) ⟨[sv<|.int c],[]⟩ (Dr Pn):=λh=>by
  obtain⟨r,e,d⟩:=h;exact bR (cE (ts:=[.int<|c/4]) (cT (hd J) J) d) ⟨r,e,J⟩
 refine qE J J ?_;show WB _ ⟨[sv<|.int c],[]⟩ _;have b:∀j,D.dm (oE (oM zA<|cI 4)<|cI j) ⟨[sv<|.int c],[]⟩=.ok (decide<|c % 4=j,⟨[sv<|.int c],[]⟩):=λj=>ė<|md J<|by decide
 by_cases h0:c % 4=0
 .exact bY ((b 0).trans<|by rw[bt h0])<|a<|J3 n _
 refine bN ((b 0).trans<|by rw[a9 h0]) ?_
 by_cases e:c % 4=1
 .exact bY ((b 1).trans<|by rw[bt e])<|a<|Bq (n+1) _
 refine bN ((b 1).trans<|by rw[a9 e]) ?_
 by_cases d:c % 4=2
 .exact bY ((b 2).trans<|by rw[bt d])<|a<|J5 n _
 exact bN ((b 2).trans<|by rw[a9 d])<|a<|GI n _
abbrev S1(t:T):S:=⟨[sv t],[]⟩
def gj{a b:Tx}(h:a.length+b.length<=1000000):pI .Add (.str a) (.str b)=U (.str<|a++b):=my h
section
variable{m:FV}
def Br{l:Tx}(h:l.length<=100):cN (n+1) 40 [.str l] m=.ok (.str<|[34]++l++[34],m):=by
 rw[Wu];exact sEq J J J<|bR (bB (bB J J<|gj<|by show 1+_<=_;lia) J<|gj<|by rw[dq];show 1+_+1<=_;lia) J
def Qv:cN (n+1) 38 [DD.drop.val] m=.ok (.str [100,114,111,112],m):=by
 rw[P1];exact sEq J J J<|bN J<|bY J<|bR J J
def Qw:cN (n+1) 38 [DD.done.val] m=.ok (.str [100,111,110,101],m):=by
 rw[P1];exact sEq J J J<|bN J<|bN J<|bN J<|bY J<|bR J J
def VP{l:Tx}(h:l.length<=100):cN (n+2) 38 [(DD.say l).val] m=.ok (.str<|[115,97,121,32]++([34]++l++[34]),m):=by
 rw[P1];exact sEq J J J<|bN J<|bN J<|bN J<|bN J<|bY J<|bR (bB J (cE (ts:=[.str l]) J<|Br n h)<|gj<|by rw[dq,dq];show 4+(1+_+1)<=_;lia) J
def Qx{a:Tx}(h:a.length<=100):cN (n+1) 38 [(DD.pile a Y).val] m=.ok (.str<|[112,105,108,101,32]++a++[],m):=by
 rw[P1];exact sEq J J J<|bN J<|bN J<|bN J<|bN J<|bN J<|bN J<|bN J<|bY J<|bR (bB (bB J J<|gj<|by show 5+_<=_;lia) (Vu (y:=O) J (λ_=>J) λz=>by cases z)<|gj<|by rw[dq];show 5+_+0<=_;lia) J
def ZP{a:Tx}(h:a.length<=100):cN (n+1) 38 [(DD.go a).val] m=.ok (.str<|[103,111,32]++a,m):=by
 rw[P1];exact sEq J J J<|bN J<|bN J<|bN J<|bN J<|bN J<|bN J<|bN J<|bN J<|bN J<|bY J<|bR (bB J J<|gj<|by show 3+_<=_;lia) J
def Qy{a:Tx}(h:a.length<=100):cN (n+1) 38 [(LN.mark a).ju] m=.ok (.str<|[109,97,114,107,32]++a,m):=by
 rw[P1];exact sEq J J J<|bY J<|bR (bB J J<|gj<|by show 5+_<=_;lia) J
def VQ:cN (n+1) 38 [(DD.add 1 2).val] m=.ok (.str [97,100,100,32,49,32,50],m):=by
 have b:strN [.int 1]=U (.str [49]):=by
  have:=r6 (v:=1) (by decide)
  rw[show eG ((1:Nat):Int)=[49] by decide +kernel]at this
  exact this
 have a:strN [.int 2]=U (.str [50]):=by
  have:=r6 (v:=2) (by decide)
  rw[show eG ((2:Nat):Int)=[50] by decide +kernel]at this
  exact this
 rw[P1];exact sEq J J J<|bN J<|bN J<|bN J<|bN J<|bN J<|bN J<|bN J<|bN J<|bN J<|bN J<|bY J<|bR (bB (t:=.str [97,100,100,32,49,32]) (bB (t:=.str [97,100,100,32,49]) (bB J (eX (ts:=[.int 1]) J b) J) J J) (eX (ts:=[.int 2]) J a) J) J
def Qz:cN (n+1) 37 [PC.last.val] m=.ok (.str [108,97,115,116],m):=by
 rw[Wt];exact sEq J J J<|bN J<|bY J<|bR J J
def VR:cN (n+2) 37 [(CD.no .last).val] m=.ok (.str [110,111,116,32,108,97,115,116],m):=by
 rw[Wt];exact sEq J J J<|bN J<|bN J<|bN J<|bN J<|bN J<|bY J<|bR (bB J (cE (ts:=[PC.last.val]) J<|Qz n) J) J
def VS{v:Nat}(h:v<10^5):cN (n+1) 37 [(RP.row v).val] m=.ok (.str<|[114,111,119,32]++eG v,m):=by
 rw[Wt]
 have:=oK v 5 (by decide) h
 exact sEq J J J<|bY J<|bR (bB J (eX (ts:=[.int v]) J<|r6 h)<|gj<|by show 4+_<=_;lia) J
def J7{c:Nat}(h:c∈aE):cN (n+3) 11 [.str [c],.bl Zn] m=.ok (.str [c],m):=by
 rw[w11];refine sEq J J J<|bN (s:=s2 (.str [c])<|.bl Zn) J<|bN J<|bY (oY<|cE (ts:=[.str [c],.bl Zn]) J<|(F_ n).trans ?_)<|bR J J;rw[show[c].all zL=zL c by simp,(gi h).1];rfl
def parts(w:Tx):List Tx:=w.flatMap λc=>[[c],[]]
theorem MD(n:Nat){t:T}:∀(w:Tx)(done:List Tx)(a b c:Option C),(∀c∈w,c∈aE)->done.length+2*w.length<=1000->∃i g f,aM (cQ [2,3,4]) (Vg<|cN<|n+3) (w.map λc=>(vj c).val) ⟨[sv t,U<|.ol<|ai done,a,b,c],[]⟩=.ok (.nx,⟨[sv t,U<|.ol<|ai<|done++parts w,i,g,f],[]⟩)
 |[],done,a,b,c,_,_=>⟨a,b,c,by rw[show done++parts []=done from bz _];rfl⟩
 |d::w,done,a,b,c,h,hl=>by
  rw[eS]at hl;obtain⟨i,g,f,e⟩:=MD n (t:=t) w (done++[[d]]++[[]]) (sv<|.str [d]) (sv<|.bl Zn) (sv<|.str [49]) (λx j=>h x<|eE _ j) (by rw[dq,dq];show _+1+1+_<=_;lia)
  refine⟨i,g,f,?_⟩;rw[show done++parts (d::w)=done++[[d]]++[[]]++parts w by simp[parts]]
  refine dZ (r:=[sv t,U<|.ol<|ai done,sv<|.str [d],sv<|.bl Zn,sv<|.str [49]]) J (seq1 (rV (ts:=ai done) J (cE (ts:=[.str [d],.bl Zn]) J<|J7 n<|h d<|eu ..) J<|by rw[ck];lia)<|rV (ts:=ai done++[.str [d]]) J (t:=.str []) J J<|by rw[dq,ck];show _+1<_;lia) ?_
  rw[show ai (done++[[d]]++[[]])=ai done++[.str [d]]++[.str []] by simp]at e
  exact e
theorem oQ:∀w:Tx,(parts w).flatten=w
 |[]=>J
 |c::w=>by
  show([[c],[]]++parts w).flatten=_;rw[Cj,oQ w];rfl
def Bs(w:Tx):(parts w).length=2*w.length:=by
 induction w with
 |nil=>rfl
 |cons c w a=>
  show([[c],[]]++parts w).length=_;rw[dq,a];show 2+_=2*(w.length+1)
  lia
theorem qG:∀l:List Tx,strsOf (ai l)=U l
 |[]=>J
 |a::l=>by
  show(strsOf<|ai l).map _=_;rw[qG l];rfl
theorem oR:∀l:List Tx,fP [] l=l.flatten
 |[]=>J
 |[a]=>by simp[fP]
 |a::b::r=>by
  show a++[]++fP [] (b::r)=_;rw[oR<|b::r,bz];rfl
def join_eq{l:List Tx}(h:l.flatten.length<=1000000):joinM [] [.lst<|ai l]=U (.str l.flatten):=by
 show(strsOf<|ai l).bind _=_;rw[qG];show gd _ _=_;rw[my<|by rw[KR]at h;simpa using h,oR]
def xl{w:Tx}(W:oZ w):cN (n+4) 10 [(fU W).val] m=.ok (.str w,m):=by
 have hl:=W.hl;obtain⟨a,b,c,e⟩:=MD n (t:=(fU W).val) w [[]] Y Y Y W.hd (by show 1+_<=_;lia)
 have g:joinM [] [.lst<|ai<|[[]]++parts w++[[]]]=U (.str w):=by
  have d:([[]]++parts w++[[]]).flatten=w:=by rw[Cj,Cj,oQ];simp
  have:=join_eq (l:=[[]]++parts w++[[]]) (by rw[d];lia)
  rw[d]at this;exact this
 rw[Xh];have f:vals (fU W).aG=w.map λc=>(vj c).val:=by
  show(w.map vj).map Itm.val=_;rw[pe];rfl
 refine eW (m':=[]) (BE<|dz _) (gY (s':=⟨[sv (fU W).val,sv<|.lst<|ai<|[[]]++parts w++[[]],a,b,c],[]⟩) J (seq1 (s':=⟨[sv (fU W).val,U<|.ol<|ai [[]],Y,Y,Y],[]⟩) J<|seq1 (s':=⟨[sv (fU W).val,U<|.ol<|ai<|[[]]++parts w,a,b,c],[]⟩) (uU (ts:=vals (fU W).aG) (s1:=⟨[sv (fU W).val,U<|.ol<|ai [[]],Y,Y,Y],[]⟩) J<|by rw[f];exact e)<|seq1 (s':=⟨[sv (fU W).val,U<|.ol<|ai<|[[]]++parts w++[[]],a,b,c],[]⟩) ?_<|kg<|uW (l:=[]) (ts:=[.lst<|ai<|[[]]++parts w++[[]]]) J J g) J) J
 rw[show ai ([[]]++parts w++[[]])=ai ([[]]++parts w)++[.str []] by simp]
 exact rV (ts:=ai<|[[]]++parts w) J (t:=.str []) (s1:=⟨[sv (fU W).val,U<|.ol<|ai<|[[]]++parts w,a,b,c],[]⟩) J J (by rw[ck,dq,Bs];show 1+_<_;lia)
def QA{w:Tx}(W:oZ w):cN (n+6) 37 [(RP.like<|fU W).val] m=.ok (.str<|[47]++w++[47],m):=by
 have hl:=W.hl;have a:∀m,cN (n+5) 39 [(fU W).val] m=.ok (.str<|[47]++w++[47],m):=λm=>by
  rw[w39];exact sEq (BE<|dz _) J J<|bR (bB (bB J (cE (ts:=[(fU W).val]) J<|xl n W)<|gj<|by show 1+_<=_;lia) J<|gj<|by rw[dq];show 1+_+1<=_;lia) J
 rw[Wt];exact sEq (BE<|zU _) J J<|bN J<|bN J<|bY J<|bR (cE (ts:=[(fU W).val]) J<|a _) J
def se{x:LN}{r:Tx}(a:x.cond=.obj 3 [])(h:∀m,cN (n+7) 38 [x.ju] m=.ok (.str r,m)):cN (n+8) 36 [x.val] m=.ok (.str r,m):=by
 rw[č];exact sEq (BE<|zW x) J J<|bY (s:=S1 x.val) (oY<|Bf (t:=x.cond) J<|by rw[a];rfl)<|bR (cE (ts:=[x.ju]) J<|h _) J
def xn{x:LN}{a b:Tx}(c:il M.P.sub [3] x.cond=U (.bl Zn))(e:∀m,cN (n+7) 37 [x.cond] m=.ok (.str a,m))(d:∀m,cN (n+7) 38 [x.ju] m=.ok (.str b,m))(g:a.length<=100)(f:b.length<=100):cN (n+8) 36 [x.val] m=.ok (.str<|a++[58,32]++b,m):=by
 rw[č];exact sEq (BE<|zW x) J J<|bN (s:=S1 x.val) (oY<|Bf (t:=x.cond) J c)<|bR (bB (bB (cE (ts:=[x.cond]) J<|e _) J<|gj<|by show _+2<=_;lia) (cE (ts:=[x.ju]) J<|d _)<|gj<|by rw[dq];show _+2+_<=_;lia) J
end
structure Gd(r:Tx)(l:LN):Prop where
 p:parse r=U l
 nm:l.name=strip [109,97,114,107,32] r
 gs:l.kY=strip [103,111,32] r
 sh:∀n m,cN (n+8) 36 [l.val] m=.ok (.str r,m)
abbrev Pg(r:Tx):Prop:=∃l,Gd r l
section
variable{w:Tx}(W:oZ w)
include W
def GJ:Gd ([109,97,114,107,32]++w)<|.mark w:=⟨by rw[aC,oJ,oH W];rfl,J,J,λn m=>se n J λm=>Qy _<|eT W.hl<|by decide⟩
def ZQ:Gd ([103,111,32]++w)<|.bare<|.go w:=⟨by rw[aC,Qn,oH W];rfl,J,J,λn m=>se n J λm=>ZP _<|eT W.hl<|by decide⟩
def VT:Gd (([115,97,121,32,34]++w)++[34])<|.bare<|.say w:=⟨by
  rw[bD];show parse ([115,97,121,32]++34::(w++34::[]))=_;rw[aC,vg,iX W.hd<|VO W];rfl,J,J,λn m=>se n J λm=>(VP _<|eT W.hl<|by decide).trans<|by simp⟩
def QC:Gd ([110,111,116,32,108,97,115,116,58,32,112,105,108,101,32]++w)<|.full (.no .last)<|.pile w Y:=⟨by
  rw[aC];show e9 (o9 _<|nX w) fin=_;unfold nX;rw[oH W];rfl,J,J,λn m=>(xn n J (λm=>VR _) (λm=>Qx _<|eT W.hl<|by decide) (by decide)<|by rw[bz,dq];have:=W.hl;show 5+_<=_;lia).trans<|by simp⟩
def QD:Gd (([47]++w)++[47,58,32,97,100,100,32,49,32,50])<|.full (.pc<|.rp<|.like<|fU W)<|.add 1 2:=⟨by
  rw[bD,aC];show e9 (sy<|47::(w++47::[58,32,97,100,100,32,49,32,50])) fin=_;rw[z8,qD W];rfl,by
  cases w with
  |nil=>exact dk J W.h0
  |cons c w=>rfl,by
  cases w with
  |nil=>exact dk J W.h0
  |cons c w=>rfl,λn m=>(xn n (x:=.full (.pc<|.rp<|.like<|fU W)<|.add 1 2) (a:=[47]++w++[47]) J (λm=>QA (n+1) W) (λm=>VQ _) (by rw[dq,dq];have:=W.hl;show 1+_+1<=_;lia)<|by decide).trans<|by simp⟩
end
def QG:Gd [100,114,111,112]<|.bare .drop:=⟨J,J,J,λn m=>se n J λm=>Qv _⟩
def g_row{v:Nat}(b:1<=v)(a:v<=999):Gd (([114,111,119,32]++eG v)++[58,32,100,111,110,101])<|.full (.pc<|.rp<|.row v) .done:=⟨by
  rw[bD,aC,z7,wY b a (by lia) (by lia)<|Bo<|by decide];rfl,J,J,λn m=>(xn n J (λm=>VS _<|by lia) (λm=>Qw _) (by rw[dq];have:=oK v 3 (by decide) (by lia);show 4+_<=_;lia)<|by decide).trans<|by simp⟩
def Bt{c:Nat}(h:c∈[97,98,99,100,101]):oZ [c]:=⟨λd hd=>by
 rw[kq.mp hd];exact VH (a:=[97,98,99,100,101]) J c h,by simp,by simp⟩
def J8(c:Int):MA Pg<|cN (n+2) 49 [.int c] []:=by
 obtain⟨w,W,j⟩:=mG n<|c/8;have g:=oO W;rw[w49];obtain⟨u,k,p⟩:=km (c/8) (n:=999) (by decide)
 obtain⟨d,hd,m⟩:=r8 (l:=[97,98,99,100,101]) (i:=c/8) (n:=5) J (by decide)
 have e:=Bt hd;have a:∀x y,TT ⟨[sv<|.int c,sv<|.str w,x,y],[]⟩ 8 zB w:=λx y=>⟨J,g,W.hl⟩;have f:∀y,TT ⟨[sv<|.int c,sv<|.str w,sv<|.str [d],y],[]⟩ 1 zC [d]:=λy=>⟨J,oO e,dS _⟩;have b:∀{s:S},vF 0 s=.ok (.int c,s)->oD zA (cI 8) s=.ok (.int<|c/8,s):=λh=>fd h (by decide)
 have o:∀x y z:Option C,oA zI (oM (oD zA<|cI 8)<|cI 999) ⟨[sv<|.int c,x,y,z],[]⟩=.ok (.int ((1+u:Nat):Int),⟨[sv<|.int c,x,y,z],[]⟩):=λx y z=>(ad<|md (b J)<|by decide).trans (by rw[show c/8 % 999=(u:Nat)from k];rfl)
 refine qE J J<|bS (s:=⟨[sv<|.int c,Y,Y,Y],[]⟩) (cE (ts:=[.int<|c/8]) (cT (b J) J)<|j _)<|bS (s:=⟨[sv<|.int c,sv<|.str w,Y,Y],[]⟩) (t:=.str [d]) (bB (t:=.str [97,98,99,100,101]) J (md (b J)<|by decide)<|by show(atT [97,98,99,100,101]<|c/8 % ((5:Nat):Int)).map _=_;rw[m];rfl) ?_
 refine bL (s:=⟨[sv<|.int c,sv<|.str w,sv<|.str [d],Y],[]⟩) (P:=Pg) (tl tc ⟨_,QG⟩<|tl (ta (ta tc<|tn<|o _ _ _) tc) ⟨_,g_row (by lia)<|by lia⟩<|tl (ta (ta tc<|a _ _) tc) ⟨_,VT W⟩<|tl (ta tc<|a _ _) ⟨_,QC W⟩ kB) λb1=>?_
 refine bA (P:=Pg) (qs:=_) J b1 (tl (ta tc<|f _) ⟨_,GJ e⟩<|tl (ta tc<|f _) ⟨_,ZQ e⟩<|tl (ta (ta tc<|a _ _) tc) ⟨_,QD W⟩<|tl (ta tc<|a _ _) ⟨_,GJ W⟩ kB) λb2=>?_;exact bP (n:=8) b2 J<|md J<|by decide
abbrev Rw:=Tx×Option LN
structure Kx(x:Rw):Prop where
 i:cU c_ x.1=O
 l:x.1.length<=500
 p:parse x.1=x.2
 g:∀l,x.2=U l->Gd x.1 l
def ix:Nat->List Rw->B1
 |_,[]=>[]
 |j,x::xs=>if x.2.isNone then j::ix (j+1) xs else ix (j+1) xs
theorem xo:∀(xs:List Rw)(j:Nat)(x:Rw),ix j (xs++[x])=ix j xs++if x.2.isNone then[j+xs.length]else[]
 |[],j,x=>by
  show(if x.2.isNone then[j]else[])=_
  rfl
 |y::xs,j,x=>by
  have a:=xo xs (j+1) x;rw[show j+1+xs.length=j+(y::xs).length by rw[eS];lia]at a
  show(if y.2.isNone then j::ix (j+1) (xs++[x])else ix (j+1) (xs++[x]))=_
  rw[a];show _=(if y.2.isNone then j::ix (j+1) xs else ix (j+1) xs)++_
  split<;>rfl
abbrev eY(xs:List Rw):FK:=(ix 0 xs).map λi=>T.int (i:Nat)
abbrev rws(xs:List Rw):List Tx:=xs.map (·.1)
def Ae(ns:Ee)(j:Nat):∃v:Int,∀m,cN (n+1) 41 [.scr ns,.int (j:Nat)] m=.ok (.int v,m):=by
 by_cases h:j<ns.length
 .refine⟨ns[j],λm=>?_⟩
  rw[Ď];exact sEq J J J<|bY (s:=s2 (.scr ns)<|.int (j:Nat)) (gP<|pE (t:=.int (j:Nat)) (u:=.int (ns.length:Nat)) J J<|(nT ..).trans<|by rw[bt<|by lia])<|bR (bB (t:=.scr ns) (u:=.int (j:Nat)) J J<|by show(atT ns (j:Int)).map _=_;rw[rT h,fH h];rfl) J
 .refine⟨0,λm=>?_⟩
  rw[Ď];exact sEq J J J<|bN (s:=s2 (.scr ns)<|.int (j:Nat)) (gP<|pE (t:=.int (j:Nat)) (u:=.int (ns.length:Nat)) J J<|(nT ..).trans<|by rw[a9<|by lia])<|bR J J
abbrev sR(ns:Ee)(xs:List Rw)(y:Option C):S:=⟨[sv<|.scr ns,U<|.ol<|eY xs,U<|.ol<|ai<|rws xs,y],[]⟩
theorem Af(n:Nat){ns:Ee}:∀(cs:Ee)(xs:List Rw)(y:Option C),(∀x∈xs,Kx x)->xs.length+cs.length<=100->∃a b,aM (setG 3) (P4<|cN<|n+3) (cs.map T.int) (sR ns xs y)=.ok (.nx,sR ns a b)/\(∀x∈a,Kx x)/\a.length=xs.length+cs.length
 |[],xs,y,h,_=>⟨xs,y,J,h,J⟩
 |c::cs,xs,y,h,hl=>by
  rw[eS]at hl;obtain⟨v,B⟩:=Ae (n+2) ns 0;have G:D.dm (oE (oM zD<|cI 11) zO) (sR ns xs<|sv<|.int c)=.ok (decide<|c % 11=0,sR ns xs<|sv<|.int c):=ė<|md J<|by decide
  have F:D.dm (dD (aU .Gt) (oM (aj (cN (n+3) 41) []<|k2 zA zO)<|cI 3) zO) (sR ns xs<|sv<|.int c)=.ok (decide<|0<v % 3,sR ns xs<|sv<|.int c):=gP<|bB (md (cE (ts:=[.scr ns,.int 0]) J<|B _)<|by decide) J<|uT ..
  have f:=lA G F;have E:oD zD (cI 11) (sR ns xs<|sv<|.int c)=.ok (.int<|c/11,sR ns xs<|sv<|.int c):=fd J (by decide)
  have d:∀x:Rw,Kx x->∀b,(xs++[x]).length+cs.length<=100->∃a g,aM (setG 3) (P4<|cN<|n+3) (cs.map T.int) (sR ns (xs++[x]) b)=.ok (.nx,sR ns a g)/\(∀x∈a,Kx x)/\a.length=(xs++[x]).length+cs.length:=λx A b I=>Af n cs (xs++[x]) b (λz w=>by
   rcases lD.mp w with q|q
   .exact h z q
   .rw[kq.mp q];exact A) I
  have e:∀x:Rw,(xs++[x]).length=xs.length+1:=λx=>by rw[dq,jC]
  cases o:(decide (c % 11=0)&&decide (0<v % 3))with
  |true=>
   rw[o]at f;obtain⟨r,⟨k1,k2,k3⟩,k⟩:=Qu n<|c/11;have K:Kx (r,Y):=⟨k2,k3,k1,λl z=>nomatch z⟩;obtain⟨a,b,q1,q2,i⟩:=d _ K (sv<|.int c) (by rw[e];lia)
   refine⟨a,b,?_,q2,by rw[i,e,eS];lia⟩
   have m:eY (xs++[(r,Y)])=eY xs++[.int (xs.length:Nat)]:=by
    show(ix 0<|xs++[(r,Y)]).map _=_;rw[xo];simp
   have s:gS 1 (yo 2) (sR ns xs<|sv<|.int c)=.ok (.nx,⟨[sv<|.scr ns,U<|.ol<|eY xs++[.int (xs.length:Nat)],U<|.ol<|ai<|rws xs,sv<|.int c],[]⟩):=by
    have H:(ai<|rws xs).length=xs.length:=by rw[ck,ck]
    refine rV (ts:=eY xs) (s1:=sR ns xs<|sv<|.int c) J ?_ J ?_
    .show Res.ok (T.int ((ai<|rws xs).length:Nat),_)=_
     rw[H]
    .rw[ck]
     have:∀(ys:List Rw)(j:Nat),(ix j ys).length<=ys.length:=λys=>by
      induction ys with
      |nil=>exact λ_=>dS _
      |cons y ys u=>
       intro j;show(if y.2.isNone then j::ix (j+1) ys else ix (j+1) ys).length<=_
       have:=u<|j+1
       split
       .rw[eS,eS];lia
       .rw[eS];lia
     have:=this xs 0
     lia
   refine dZ (r:=[sv<|.scr ns,U<|.ol<|eY xs,U<|.ol<|ai<|rws xs,sv<|.int c]) J (Ml f<|seq1 s<|rV (t:=.str r) (ts:=ai<|rws xs) (s1:=⟨[sv<|.scr ns,U<|.ol<|eY xs++[.int (xs.length:Nat)],U<|.ol<|ai<|rws xs,sv<|.int c],[]⟩) J (cE (ts:=[.int<|c/11]) (cT (fd J<|by decide) J) k) J<|by rw[ck,ck];lia) ?_
   rw[sR,m,show ai (rws<|xs++[(r,Y)])=ai (rws xs)++[.str r] by simp]at q1
   exact q1
  |false=>
   rw[o]at f;obtain⟨r,⟨⟨l,k1⟩,k2,k3⟩,k⟩:=J8 (n+1)<|c/11;have K:Kx (r,U l):=⟨k2,k3,k1.p,λL z=>by cases z;exact k1⟩
   obtain⟨a,b,q1,q2,i⟩:=d _ K (sv<|.int c) (by rw[e];lia)
   refine⟨a,b,?_,q2,by rw[i,e,eS];lia⟩
   have m:eY (xs++[(r,U l)])=eY xs:=by
    show(ix 0<|xs++[(r,U l)]).map _=_;rw[xo];simp
   refine dZ (r:=[sv<|.scr ns,U<|.ol<|eY xs,U<|.ol<|ai<|rws xs,sv<|.int c]) J (zF f<|rV (t:=.str r) (ts:=ai<|rws xs) (s1:=sR ns xs<|sv<|.int c) J (cE (ts:=[.int<|c/11]) (cT E J) k) J<|by rw[ck,ck];lia) ?_
   rw[sR,m,show ai (rws<|xs++[(r,U l)])=ai (rws xs)++[.str r] by simp]at q1
   exact q1
def J9{α:Type}(l:List α)(a b:Dx):(cj l a b).length<=l.length:=by
 unfold cj;rw[xH,An]
 lia
theorem jx:∀l:B1,aN (l.map λi=>T.int (i:Nat))=O
 |[]=>J
 |a::l=>by show(O&&aN (l.map λi=>T.int (i:Nat)))=O;rw[jx l];rfl
def J_{ns:Ee}(m:ns.length<=63):∃xs,(∀x∈xs,Kx x)/\xs.length<=63/\cN (n+4) 50 [.scr ns] []=.ok (.tup [.lst<|ai<|rws xs,.lst<|eY xs],[]):=by
 obtain⟨v,d⟩:=Ae (n+2) ns 1;obtain⟨k,a,j⟩:=r8 (l:=[T.int 24,.int 24,.int 40]) (i:=v) (n:=3) J (by decide)
 obtain⟨b,rfl⟩:∃b,k=.int b:=by
  rcases bu.mp a with rfl|a
  .exact⟨_,J⟩
  rcases bu.mp a with rfl|a
  .exact⟨_,J⟩
  rw[kq.mp a];exact⟨_,J⟩
 have o:=J9 ns (U 2)<|U<|2+b;obtain⟨xs,y,e,c,g⟩:=Af n (ns:=ns) (cj ns (U 2)<|U<|2+b) [] Y (λ_ h=>nomatch h) (by show 0+_<=_;lia)
 refine⟨xs,c,by rw[g];show 0+_<=_;lia,?_⟩
 have f:vA (jy zA (iS<|cI 2)<|iS<|oA (cI 2)<|oI (aZ bJ<|k3 (cI 24) (cI 24)<|cI 40)<|oM (aj (cN (n+3) 41) []<|k2 zA zI)<|cI 3) (sR ns [] Y)=.ok ((cj ns (U 2)<|U<|2+b).map T.int,sR ns [] Y):=by
  refine itE (t:=.lst<|(cj ns (U 2)<|U<|2+b).map T.int) (BD (x:=U 2) (y:=U<|2+b) J J ?_ J) J;have c:oA (cI 2) (oI (aZ bJ<|k3 (cI 24) (cI 24)<|cI 40)<|oM (aj (cN (n+3) 41) []<|k2 zA zI)<|cI 3) (sR ns [] Y)=.ok (.int<|2+b,sR ns [] Y):=ad<|bB (t:=.lst [.int 24,.int 24,.int 40]) J (md (cE (ts:=[.scr ns,.int 1]) J<|d _)<|by decide) j
  unfold iS;rw[c];rfl
 rw[w50];refine eW (m':=[]) J (gY (s':=⟨[sv<|.scr ns,sv<|.lst<|eY xs,sv<|.lst<|ai<|rws xs,y],[]⟩) J (seq1 (s':=⟨[sv<|.scr ns,U<|.ol [],Y,Y],[]⟩) J<|seq1 (s':=sR ns [] Y) J<|seq1 (uU f e)<|kg<|eX (ts:=[.lst<|ai<|rws xs,.lst<|eY xs]) J<|rW ..) J) ?_;show(aN (ai<|rws xs)&&(aN (eY xs)&&O))=O;rw[dP,jx];rfl
theorem ME:∀(xs:List Rw)(j:Nat),∀i∈ix j xs,j<=i
 |[],_,_,h=>nomatch h
 |x::xs,j,i,h=>by
  have a:=ME xs (j+1) i;have h:i∈(if x.2.isNone then j::ix (j+1) xs else ix (j+1) xs):=h
  split at h
  .rcases bu.mp h with z|z
   .lia
   .have:=a z;lia
  .have:=a h;lia
theorem k6:∀(xs:List Rw)(j f:Nat),(∀x∈xs,parse x.1=x.2)->(f∈ix j xs\/f=24)->f<=24->(∀i∈ix j xs,f<=i)->j<=f->(f<j+xs.length->d9 (j+1) (rws xs)=.error (f+1))/\(j+xs.length<=f->∃ls,d9 (j+1) (rws xs)=.ok ls/\xs.map (·.2)=ls.map U)
 |[],j,f,_,_,_,_,m=>⟨λh=>by rw[B7]at h;lia,λ_=>⟨[],J,J⟩⟩
 |x::xs,j,f,d,b,p,a,m=>by
  rw[eS];have k:=d x<|eu ..;have e:ix j (x::xs)=if x.2.isNone then j::ix (j+1) xs else ix (j+1) xs:=J
  have o:d9 (j+1) (rws<|x::xs)=if 24<j+1 then .error (j+1)else match parse x.1 with
   |none=>.error<|j+1
   |some l=>match d9 (j+1+1) (rws xs)with
    |.ok ls=>.ok<|l::ls
    |.error i=>.error i:=J
  rw[o];by_cases Qj:24<j+1
  .rw[b7 Qj]
   have:f=j:=by lia
   exact⟨λ_=>by rw[this],λz=>by lia⟩
  rw[b0 Qj,k];cases c:x.2 with
  |none=>
   rw[e,c]at a
   have:f<=j:=a j (by simp)
   have:f=j:=by lia
   exact⟨λ_=>by rw[this],λz=>by lia⟩
  |some l=>
   rw[e,c]at b a;have b:f∈ix (j+1) xs\/f=24:=b;have a:∀i∈ix (j+1) xs,f<=i:=a;have n:j+1<=f:=by
    rcases b with z|z
    .exact ME xs (j+1) f z
    .lia
   obtain⟨q1,q2⟩:=k6 xs (j+1) f (λy g=>d y<|eE _ g) b p a n;refine⟨λz=>?_,λz=>?_⟩
   .rw[q1<|by lia]
   .obtain⟨ls,r,q⟩:=q2 (by lia)
    refine⟨l::ls,by rw[r],?_⟩
    rw[eF,eF,q,c]
theorem vo:∀l:B1,nJ (l.map λi=>T.int (i:Nat))=U (l.map λ(i:Nat)=>(i:Int))
 |[]=>J
 |a::l=>by
  show(nJ<|l.map λi=>T.int (i:Nat)).map _=_;rw[vo l];rfl
def min_eq(l:B1):∃f:Nat,Eu [.lst<|l.map (λi=>T.int (i:Nat))++[.int 24]]=U (.int (f:Nat))/\(f∈l\/f=24)/\f<=24/\∀i∈l,f<=i:=by
 have e:l.map (λi=>T.int (i:Nat))++[.int 24]=(l++[24]).map λi=>T.int (i:Nat):=by simp
 rw[e];show ∃f:Nat,(nJ<|(l++[24]).map λi=>T.int (i:Nat)).bind YL=_/\_;rw[vo];cases h:l++[24]with
 |nil=>simp at h
 |cons a r=>
  obtain⟨k1,k2,k3⟩:=wz (a:Int)<|r.map λ(i:Nat)=>(i:Int);have k:∃f∈a::r,mn (a:Int) (r.map λ(i:Nat)=>(i:Int))=(f:Nat):=by
   rcases k1 with z|z
   .exact⟨a,eu ..,z⟩
   .obtain⟨b,d,c⟩:=iw.mp z
    exact⟨b,eE _ d,c.symm⟩
  obtain⟨f,d,c⟩:=k;have j:∀i∈a::r,f<=i:=λi g=>by
   rw[c]at k2 k3;rcases bu.mp g with z|z
   .rw[z];lia
   .have:=k3 (i:Int)<|iw.mpr ⟨i,z,J⟩;lia
  refine⟨f,eD (λq=>U<|T.int q) c,?_,j 24<|by rw[<- h];simp,λi g=>j i<|by rw[<- h];exact G7 _ g⟩
  rw[<- h]at d;rcases lD.mp d with z|z
  .exact .inl z
  .exact .inr<|kq.mp z
def sA(c:Nat):T:=.lst<|(M.kb.getD c []).map T.bl
def QI(m:FV):cN (n+1) 53 [.int 0] m=.ok (sA 0,m):=by
 rw[Zu];exact sEq J J J<|bR J J
def QJ(m:FV):cN (n+1) 53 [.int 1] m=.ok (sA 1,m):=by
 rw[Zu];exact sEq J J J<|bR J J
def QK(m:FV):cN (n+1) 53 [.int 2] m=.ok (sA 2,m):=by
 rw[Zu];exact sEq J J J<|bR J J
def idx:Nat->Nat->FK
 |_,0=>[]
 |k,m+1=>.int (k:Nat)::idx (k+1) m
def Ka:sQ 0 n=idx 0 n:=by
 have:∀m k:Nat,(Cg k m).map (λj=>T.int<|0+(j:Nat))=idx k m:=λm=>by
  induction m with
  |zero=>exact λ_=>J
  |succ m a=>
   intro k;rw[K4,eF,a<|k+1];show T.int (0+(k:Int))::_=T.int (k:Int)::_;rw[Int.zero_add]
 unfold sQ;rw[List.range_eq_range'];exact this n 0
abbrev lQ:Tx:=[109,97,114,107,32]
abbrev MF:Tx:=[103,111,32]
abbrev Gx:=Tx×LN
def GL{P R:List Tx}{r:Tx}:uf (.lst<|ai<|P++r::R) (.int (P.length:Nat))=U (.str r):=by
 show atT (ai<|P++r::R) (P.length:Int)=_;rw[rT<|by rw[ck];simp]
 simp
def QM(p x:Tx):cj (p++x) (U (p.length:Int)) Y=x:=kh p x
def Ag(a:Tx)(l:List Tx):GY (.str a) (.lst<|ai l)=U (decide<|a∈l):=by
 have h:(ai l).all cM=O:=by
  rw[B5];exact bF.mpr λ_ _=>J
 show gd _ _=_;rw[my ⟨J,h⟩,B6]
 congr 1
 induction l with
 |nil=>rfl
 |cons b l c=>
  have c:=c (by rw[B5];exact bF.mpr λ_ _=>J)
  rw[mP,c];show(decide (b=a) ||decide (a∈l))=_;by_cases h1:a=b
  .subst h1
   rw[bt J,bt<|eu ..];rfl
  .rw[a9<|ew h1,BZ]
   exact decide_eq_decide.mpr ⟨eE _,λz=>(bu.mp z).resolve_left h1⟩
abbrev sD(rs:List Tx)(bad fst dJ:T)(seen:List Tx)(y:Option C):S:=⟨[sv<|.lst<|ai rs,sv bad,sv fst,sv dJ,U<|.ol<|ai seen,y],[]⟩
section
variable{bad fst dJ:T}
def VU(rs:List Tx)(bad fst dJ:T)(o:Except Nat<|List Tx)(x:Res<|Out×S):Prop:=match o with
 |.ok d=>∃y,x=.ok (.nx,sD rs bad fst dJ d y)
 |.error j=>∃s:S,x=.ok (.rt<|.tup [sA 1,.int (j:Nat)],s)
theorem MG(n:Nat):∀(zs:List Gx)(P seen:List Tx)(y:Option C),(∀z∈zs,z.2.name=strip lQ z.1)->seen.length+zs.length<=100->VU (P++zs.map (·.1)) bad fst dJ (cO (P.length+1) (zs.map (·.2)) seen) (aM (setG 5) (nS<|cN<|n+1) (idx P.length zs.length)<|sD (P++zs.map (·.1)) bad fst dJ seen y)
 |[],P,seen,y,_,_=>⟨y,J⟩
 |z::zs,P,seen,y,h,hl=>by
  obtain⟨r,l⟩:=z;rw[eS]at hl;have o:l.name=strip lQ r:=h (r,l)<|eu ..;have c:=λb (f:b.length+zs.length<=100)=>MG n zs (P++[r]) b (sv<|.int (P.length:Nat)) (λx m=>h x<|eE _ m) f;rw[dq,bD]at c;have c:∀b,b.length+zs.length<=100->VU (P++r::zs.map (·.1)) bad fst dJ (cO (P.length+1+1) (zs.map (·.2)) b) (aM (setG 5) (nS<|cN<|n+1) (idx (P.length+1) zs.length)<|sD (P++r::zs.map (·.1)) bad fst dJ b<|sv<|.int (P.length:Nat)):=c
  have j:∀{s:S},vF 0 s=.ok (.lst<|ai<|P++r::zs.map (·.1),s)->vF 5 s=.ok (.int (P.length:Nat),s)->oI zA (vF 5) s=.ok (.str r,s):=λv u=>bB v u GL
  have i:setG 5 (.int (P.length:Nat)) [sv<|.lst<|ai<|P++r::zs.map (·.1),sv bad,sv fst,sv dJ,U<|.ol<|ai seen,y]=U [sv<|.lst<|ai<|P++r::zs.map (·.1),sv bad,sv fst,sv dJ,U<|.ol<|ai seen,sv<|.int (P.length:Nat)]:=J
  have d:D.tB (j1 rk (oI zA<|vF 5)<|k1<|cS lQ) (sD (P++r::zs.map (·.1)) bad fst dJ seen<|sv<|.int (P.length:Nat))=.ok ((strip lQ r).isSome,sD (P++r::zs.map (·.1)) bad fst dJ seen<|sv<|.int (P.length:Nat)):=oY<|uW (j J J) (ts:=[.str lQ]) J<|by show U (T.bl<|pre lQ r)=_;rw[iV]
  have p:cO (P.length+1) (((r,l)::zs).map (·.2)) seen=match l.name with
   |none=>cO (P.length+1+1) (zs.map (·.2)) seen
   |some a=>if a∈seen then .error (P.length+1)else cO (P.length+1+1) (zs.map (·.2)) (seen++[a]):=J
  rw[p,o];cases f:strip lQ r with
  |none=>
   rw[f]at d;have e:aM (setG 5) (nS<|cN<|n+1) (idx P.length ((r,l)::zs).length) (sD (P++r::zs.map (·.1)) bad fst dJ seen y)=_:=dZ i (zF d J) J
   show VU (P++r::zs.map (·.1)) bad fst dJ (cO (P.length+1+1) (zs.map (·.2)) seen)<|aM (setG 5) (nS<|cN<|n+1) (idx P.length ((r,l)::zs).length)<|sD (P++r::zs.map (·.1)) bad fst dJ seen y
   rw[e];exact c seen (by lia)
  |some a=>
   rw[f]at d;have w:=dh f;have k:jy (oI zA<|vF 5) (iS<|cI 5) nk (sD (P++r::zs.map (·.1)) bad fst dJ seen<|sv<|.int (P.length:Nat))=.ok (.str a,sD (P++r::zs.map (·.1)) bad fst dJ seen<|sv<|.int (P.length:Nat)):=BD (x:=U 5) (y:=Y) (j J J) J J (by
    show U (T.str<|cj r (U ((lQ.length:Nat):Int)) Y)=_;rw[w,QM])
   have g:D.dm (vB .In Zn 4<|jy (oI zA<|vF 5) (iS<|cI 5) nk) (sD (P++r::zs.map (·.1)) bad fst dJ seen<|sv<|.int (P.length:Nat))=.ok (decide<|a∈seen,sD (P++r::zs.map (·.1)) bad fst dJ seen<|sv<|.int (P.length:Nat)):=by
    refine gP ?_;show yY Zn 4 _ _=_;unfold yY;rw[k];show Res.bind (dG<|GY (.str a)<|.lst<|ai seen) _=_;rw[Ag];rfl
   show VU (P++r::zs.map (·.1)) bad fst dJ (if a∈seen then .error (P.length+1)else cO (P.length+1+1) (zs.map (·.2)) (seen++[a]))<|aM (setG 5) (nS<|cN<|n+1) (.int (P.length:Nat)::idx (P.length+1) zs.length)<|sD (P++r::zs.map (·.1)) bad fst dJ seen y
   split
   .rename_i hd
    rw[bt hd]at g;refine⟨sD (P++r::zs.map (·.1)) bad fst dJ seen<|sv<|.int (P.length:Nat),?_⟩
    have t:nS (cN<|n+1) (sD (P++r::zs.map (·.1)) bad fst dJ seen<|sv<|.int (P.length:Nat))=.ok (.rt<|.tup [sA 1,.int ((P.length+1:Nat):Int)],sD (P++r::zs.map (·.1)) bad fst dJ seen<|sv<|.int (P.length:Nat)):=Ml d<|Fz<|Ml g<|kg<|eX (ts:=[sA 1,.int ((P.length+1:Nat):Int)]) (cT (cE (ts:=[.int 1]) J<|QJ n _) J)<|rW ..
    unfold aM;rw[i];refine mw ?_;rw[t];rfl
   .rename_i hd
    rw[a9 hd]at g;have e:aM (setG 5) (nS<|cN<|n+1) (.int (P.length:Nat)::idx (P.length+1) zs.length) (sD (P++r::zs.map (·.1)) bad fst dJ seen y)=aM (setG 5) (nS<|cN<|n+1) (idx (P.length+1) zs.length) (sD (P++r::zs.map (·.1)) bad fst dJ (seen++[a])<|sv<|.int (P.length:Nat)):=by
     refine dZ i (Ml d<|seq1 (zF g J)<|rV (ts:=ai seen) J k J<|by rw[ck];lia) ?_
     exact eD (λq=>aM (setG 5) (nS<|cN<|n+1) (idx (P.length+1) zs.length) ⟨[sv<|.lst<|ai<|P++r::zs.map (·.1),sv bad,sv fst,sv dJ,U<|.ol q,sv<|.int (P.length:Nat)],[]⟩) (by simp:ai seen++[.str a]=ai (seen++[a]))
    rw[e];exact c (seen++[a]) (by rw[dq,jC];lia)
end
section
variable{bad fst:T}{dJ:List Tx}{sn:Option C}
abbrev sE(rs:List Tx)(bad fst:T)(dJ:List Tx)(sn y:Option C):S:=⟨[sv<|.lst<|ai rs,sv bad,sv fst,sv<|.lst<|ai dJ,sn,y],[]⟩
def WC(rs:List Tx)(bad fst:T)(dJ:List Tx)(sn:Option C)(o:Except Nat Unit)(x:Res<|Out×S):Prop:=match o with
 |.ok _=>∃y,x=.ok (.nx,sE rs bad fst dJ sn y)
 |.error j=>∃s:S,x=.ok (.rt<|.tup [sA 2,.int (j:Nat)],s)
theorem MH(n:Nat):∀(zs:List Gx)(P:List Tx)(y:Option C),(∀z∈zs,z.2.kY=strip MF z.1)->WC (P++zs.map (·.1)) bad fst dJ sn (fT dJ (P.length+1)<|zs.map (·.2)) (aM (setG 5) (Be<|cN<|n+1) (idx P.length zs.length)<|sE (P++zs.map (·.1)) bad fst dJ sn y)
 |[],P,y,_=>⟨y,J⟩
 |z::zs,P,y,h=>by
  obtain⟨r,l⟩:=z;have m:l.kY=strip MF r:=h (r,l)<|eu ..;have d:=MH n zs (P++[r]) (sv<|.int (P.length:Nat)) λx k=>h x<|eE _ k;rw[dq,bD]at d;have d:WC (P++r::zs.map (·.1)) bad fst dJ sn (fT dJ (P.length+1+1)<|zs.map (·.2))<|aM (setG 5) (Be<|cN<|n+1) (idx (P.length+1) zs.length)<|sE (P++r::zs.map (·.1)) bad fst dJ sn<|sv<|.int (P.length:Nat):=d
  have i:oI zA (vF 5) (sE (P++r::zs.map (·.1)) bad fst dJ sn<|sv<|.int (P.length:Nat))=.ok (.str r,sE (P++r::zs.map (·.1)) bad fst dJ sn<|sv<|.int (P.length:Nat)):=bB J J GL
  have j:setG 5 (.int (P.length:Nat)) [sv<|.lst<|ai<|P++r::zs.map (·.1),sv bad,sv fst,sv<|.lst<|ai dJ,sn,y]=U [sv<|.lst<|ai<|P++r::zs.map (·.1),sv bad,sv fst,sv<|.lst<|ai dJ,sn,sv<|.int (P.length:Nat)]:=J
  have e:D.tB (j1 rk (oI zA<|vF 5)<|k1<|cS MF) (sE (P++r::zs.map (·.1)) bad fst dJ sn<|sv<|.int (P.length:Nat))=.ok ((strip MF r).isSome,sE (P++r::zs.map (·.1)) bad fst dJ sn<|sv<|.int (P.length:Nat)):=oY<|uW i (ts:=[.str MF]) J<|by show U (T.bl<|pre MF r)=_;rw[iV]
  have o:fT dJ (P.length+1) (((r,l)::zs).map (·.2))=match l.kY with
   |none=>fT dJ (P.length+1+1)<|zs.map (·.2)
   |some a=>if a∈dJ then fT dJ (P.length+1+1) (zs.map (·.2))else .error (P.length+1):=J
  have b:∀{c:FT}{A:FS},c (sE (P++r::zs.map (·.1)) bad fst dJ sn<|sv<|.int (P.length:Nat))=.ok (Zn,sE (P++r::zs.map (·.1)) bad fst dJ sn<|sv<|.int (P.length:Nat))->aM (setG 5) (aX c A aF) (idx P.length ((r,l)::zs).length) (sE (P++r::zs.map (·.1)) bad fst dJ sn y)=aM (setG 5) (aX c A aF) (idx (P.length+1) zs.length) (sE (P++r::zs.map (·.1)) bad fst dJ sn<|sv<|.int (P.length:Nat)):=λh=>dZ j (zF h J) J
  rw[o,m];show WC (P++r::zs.map (·.1)) bad fst dJ sn _<|aM (setG 5) (Be<|cN<|n+1) (idx P.length ((r,l)::zs).length)<|sE (P++r::zs.map (·.1)) bad fst dJ sn y
  cases g:strip MF r with
  |none=>
   rw[g]at e;rw[b<|JG e];exact d
  |some a=>
   rw[g]at e;have q:=dh g;have s:jy (oI zA<|vF 5) (iS<|cI 3) nk (sE (P++r::zs.map (·.1)) bad fst dJ sn<|sv<|.int (P.length:Nat))=.ok (.str a,sE (P++r::zs.map (·.1)) bad fst dJ sn<|sv<|.int (P.length:Nat)):=BD (x:=U 3) (y:=Y) i J J (by
    show U (T.str<|cj r (U ((MF.length:Nat):Int)) Y)=_;rw[q,QM])
   have f:D.dm (vB .NotIn O 3<|jy (oI zA<|vF 5) (iS<|cI 3) nk) (sE (P++r::zs.map (·.1)) bad fst dJ sn<|sv<|.int (P.length:Nat))=.ok (!decide (a∈dJ),sE (P++r::zs.map (·.1)) bad fst dJ sn<|sv<|.int (P.length:Nat)):=by
    refine gP ?_;show dD (aU .NotIn) _ zD _=_;refine bB s J ?_;show(GY (.str a)<|.lst<|ai dJ).map _=_;rw[Ag];rfl
   dsimp only;split
   .rename_i hd
    rw[bt hd]at f;rw[b<|lA e f];exact d
   .rename_i hd
    rw[a9 hd]at f;refine⟨sE (P++r::zs.map (·.1)) bad fst dJ sn<|sv<|.int (P.length:Nat),?_⟩
    have p:Be (cN<|n+1) (sE (P++r::zs.map (·.1)) bad fst dJ sn<|sv<|.int (P.length:Nat))=.ok (.rt<|.tup [sA 2,.int ((P.length+1:Nat):Int)],sE (P++r::zs.map (·.1)) bad fst dJ sn<|sv<|.int (P.length:Nat)):=Ml (lA e f)<|kg<|eX (ts:=[sA 2,.int ((P.length+1:Nat):Int)]) (cT (cE (ts:=[.int 2]) J<|QK n _) J)<|rW ..
    show aM (setG 5) _ (.int (P.length:Nat)::idx (P.length+1) zs.length) _=_;unfold aM;rw[j];refine mw ?_;rw[p];rfl
end
theorem oS:∀{ls:List LN}{j:Nat}{s d:List Tx},cO j ls s=.ok d->d=s++ls.filterMap LN.name
 |[],_,s,d,h=>by cases h;simp
 |l::ls,j,s,d,h=>by
  unfold cO at h;rw[vD];split at h
  .rename_i e
   rw[e];exact oS h
  .rename_i a e
   split at h
   .cases h
   .rw[e,oS h];simp
def resT:Except (Nat×Nat) (List LN)->T
 |.error p=>.tup [sA p.1,.int (p.2:Nat)]
 |.ok _=>.tup [.lst [],.int 0]
theorem all_some:∀{xs:List Rw}{ls:List LN},(∀x∈xs,Kx x)->xs.map (·.2)=ls.map U->∃zs:List Gx,zs.map (·.1)=rws xs/\zs.map (·.2)=ls/\∀z∈zs,Gd z.1 z.2
 |[],[],_,_=>⟨[],J,J,λ_ h=>nomatch h⟩
 |[],_::_,_,h=>by cases h
 |_::_,[],_,h=>by cases h
 |x::xs,l::ls,h,e=>by
  rw[eF,eF]at e;injection e with e1 e2
  obtain⟨zs,q1,q2,b⟩:=all_some (λy c=>h y<|eE _ c) e2;exact⟨(x.1,l)::zs,by rw[eF,q1];rfl,by rw[eF,q2],λz a=>by
   rcases bu.mp a with rfl|a
   .exact(h x<|eu ..).g l e1
   .exact b z a⟩
def VV:∀c<3,noOwn (sA c)=O:=by decide
theorem qH:∀{zs:List Gx},(∀z∈zs,Gd z.1 z.2)->(zs.map (·.1)).filterMap (strip lQ)=(zs.map (·.2)).filterMap LN.name
 |[],_=>J
 |z::zs,h=>by
  rw[eF,eF,vD,vD,(h z<|eu ..).nm,qH λy a=>h y<|eE _ a]
theorem oU{b:Fs}(g:b=[Y,Y]):∀l:List Tx,b_ (setG 1) (D.tB<|j1 rk zB<|k1<|cS lQ) (jy zB (iS<|cI 5) nk) b (ai l) []=.ok (ai<|l.filterMap<|strip lQ,[])
 |[]=>J
 |r::l=>by
  subst g;have c:=oU J l;have d:D.tB (j1 rk zB<|k1<|cS lQ) ⟨[Y,sv<|.str r],[]⟩=.ok ((strip lQ r).isSome,⟨[Y,sv<|.str r],[]⟩):=oY<|uW (l:=r) J (ts:=[.str lQ]) J<|by show U (T.bl<|pre lQ r)=_;rw[iV]
  show b_ _ _ _ _ (.str r::ai l) []=_;rw[b_];refine mw (a:=[Y,sv<|.str r]) ?_;rw[d];refine mw ?_;dsimp only;rw[vD];cases f:strip lQ r with
  |none=>exact c
  |some a=>
   have e:jy zB (iS<|cI 5) nk ⟨[Y,sv<|.str r],[]⟩=.ok (.str a,⟨[Y,sv<|.str r],[]⟩):=BD (x:=U 5) (y:=Y) J J J (by
    show U (T.str<|cj r (U ((lQ.length:Nat):Int)) Y)=_;rw[dh f,QM])
   rw[e];show Res.bind (b_ _ _ _ _ (ai l) []) _=_;rw[c];rfl
def QN{xs:List Rw}(h:∀x∈xs,Kx x)(hl:xs.length<=63):cN (n+2) 51 [.lst<|ai<|rws xs,.lst<|eY xs] []=.ok (resT<|gh<|rws xs,[]):=by
 obtain⟨f,V,P,N,M⟩:=min_eq<|ix 0 xs;obtain⟨q1,q2⟩:=k6 xs 0 f (λx K=>(h x K).p) P N M<|i_ _;have B:(ai<|rws xs).length=xs.length:=by rw[ck,ck]
 rw[w51];have l:aN [T.lst<|ai<|rws xs,.lst<|eY xs]=O:=Rf (dP _)<|jx _;have i:aD 2 (aZ Eu<|k1<|oA zB<|aZ bJ<|k1<|cI 24) ⟨[sv<|.lst<|ai<|rws xs,sv<|.lst<|eY xs,Y,Y,Y,Y],[]⟩=.ok (.nx,⟨[sv<|.lst<|ai<|rws xs,sv<|.lst<|eY xs,sv<|.int (f:Nat),Y,Y,Y],[]⟩):=eo (s':=⟨[sv<|.lst<|ai<|rws xs,sv<|.lst<|eY xs,Y,Y,Y,Y],[]⟩)<|eX (ts:=[.lst<|eY xs++[.int 24]]) (cT (bB (t:=.lst<|eY xs) (u:=.lst [.int 24]) J J<|by
  show gd _ _=_;rw[my<|by
   have:∀(ys:List Rw)(j:Nat),(ix j ys).length<=ys.length:=λys=>by
    induction ys with
    |nil=>exact λ_=>dS _
    |cons y ys I=>
     intro j;show(if y.2.isNone then j::ix (j+1) ys else ix (j+1) ys).length<=_
     have:=I<|j+1
     split
     .rw[eS,eS];lia
     .rw[eS];lia
   have:=this xs 0
   rw[ck];show _+1<=_
   lia]) J) V
 have t0:D.dm (dD (aU .Lt) zC<|aZ dw<|k1 zA) ⟨[sv<|.lst<|ai<|rws xs,sv<|.lst<|eY xs,sv<|.int (f:Nat),Y,Y,Y],[]⟩=.ok (decide<|f<xs.length,⟨[sv<|.lst<|ai<|rws xs,sv<|.lst<|eY xs,sv<|.int (f:Nat),Y,Y,Y],[]⟩):=gP<|pE (t:=.int (f:Nat)) (u:=.int ((ai<|rws xs).length:Nat)) J J<|(nT ..).trans<|by rw[B];congr 2;apply decide_eq_decide.mpr;lia
 rw[Av]at q1 q2;by_cases hf:f<xs.length
 .have A:=q1 hf
  have Q:gh (rws xs)=.error (0,f+1):=by unfold gh;rw[A]
  rw[Q];rw[bt hf]at t0;exact eW (m':=[]) l (gY (s':=⟨[sv<|.lst<|ai<|rws xs,sv<|.lst<|eY xs,sv<|.int (f:Nat),Y,Y,Y],[]⟩) J (seq1 i<|Fz<|Ml t0<|kg<|eX (ts:=[sA 0,.int ((f+1:Nat):Int)]) (cT (cE (ts:=[.int 0]) J<|QI n _) J)<|rW ..) J) J
 .obtain⟨C,A,R⟩:=q2 (by lia)
  obtain⟨a,e,q,o⟩:=all_some h R;rw[a9 hf]at t0;have G:a.length=xs.length:=by rw[<- ck (f:=(·.1)) (as:=a),e,ck]
  have k:aD 3 (iH<|eB (vA zA) 2 [] (setG 1) (D.tB<|j1 rk zB<|k1<|cS lQ)<|jy zB (iS<|cI 5) nk) ⟨[sv<|.lst<|ai<|rws xs,sv<|.lst<|eY xs,sv<|.int (f:Nat),Y,Y,Y],[]⟩=.ok (.nx,⟨[sv<|.lst<|ai<|rws xs,sv<|.lst<|eY xs,sv<|.int (f:Nat),sv<|.lst<|ai<|(rws xs).filterMap<|strip lQ,Y,Y],[]⟩):=eo (s':=⟨[sv<|.lst<|ai<|rws xs,sv<|.lst<|eY xs,sv<|.int (f:Nat),Y,Y,Y],[]⟩)<|Wv (ts:=ai<|rws xs) J (by rw[B];lia) J<|oU J _
  have W:GZ tW (k1<|aZ dw<|k1 zA)=λs=>GZ tW (k1<|aZ dw<|k1 zA) s:=J;have b:∀{s:S},vF 0 s=.ok (.lst<|ai<|rws xs,s)->GZ tW (k1<|aZ dw<|k1 zA) s=.ok (idx 0 a.length,s):=λL=>Vl (ts:=[.int ((ai<|rws xs).length:Nat)]) (cT (eX (ts:=[.lst<|ai<|rws xs]) (cT L J) J) J) (by
   rw[B,G,<- Ka];show gd _ _=_;exact my<|by lia)
  have E:=qH o;rw[e,q]at E;have g1:=MG (bad:=.lst<|eY xs) (fst:=.int (f:Nat)) (dJ:=.lst<|ai<|(rws xs).filterMap<|strip lQ) n a [] [] Y (λz r=>(o z r).nm) (by show 0+_<=_;lia)
  have g1:VU (a.map (·.1)) (.lst<|eY xs) (.int (f:Nat)) (.lst<|ai<|(rws xs).filterMap<|strip lQ) (cO 1 (a.map (·.2)) [])<|aM (setG 5) (nS<|cN<|n+1) (idx 0 a.length)<|sD (a.map (·.1)) (.lst<|eY xs) (.int (f:Nat)) (.lst<|ai<|(rws xs).filterMap<|strip lQ) [] Y:=g1
  rw[e,q]at g1;have g:pG 4 (rj bI) ⟨[sv<|.lst<|ai<|rws xs,sv<|.lst<|eY xs,sv<|.int (f:Nat),sv<|.lst<|ai<|(rws xs).filterMap<|strip lQ,Y,Y],[]⟩=.ok (.nx,sD (rws xs) (.lst<|eY xs) (.int (f:Nat)) (.lst<|ai<|(rws xs).filterMap<|strip lQ) [] Y):=J;unfold gh;rw[A];dsimp only;cases w:cO 1 C []with
  |error j=>
   rw[w]at g1;obtain⟨s,c⟩:=g1;exact eW (m':=s.m) l (gY (s':=s) J (seq1 i<|seq1 (zF t0 J)<|seq1 k<|seq1 g<|Fz<|uU (b J) c) J) J
  |ok d=>
   rw[w]at g1;obtain⟨y,c⟩:=g1;have hd:d=(rws xs).filterMap (strip lQ):=by
    have:=oS w
    rw[this,E];rfl
   have g2:=MH (bad:=.lst<|eY xs) (fst:=.int (f:Nat)) (dJ:=d) (sn:=U<|.ol<|ai d) n a [] y λz r=>(o z r).gs;have g2:WC (a.map (·.1)) (.lst<|eY xs) (.int (f:Nat)) d (U<|.ol<|ai d) (fT d 1<|a.map (·.2))<|aM (setG 5) (Be<|cN<|n+1) (idx 0 a.length)<|sE (a.map (·.1)) (.lst<|eY xs) (.int (f:Nat)) d (U<|.ol<|ai d) y:=g2
   rw[e,q]at g2;rw[<- hd]at k g c;dsimp only;cases F:fT d 1 C with
   |error j=>
    rw[F]at g2;obtain⟨s,v⟩:=g2;exact eW (m':=s.m) l (gY (s':=s) J (seq1 i<|seq1 (zF t0 J)<|seq1 k<|seq1 g<|seq1 (uU (b J) c)<|Fz<|uU (b J) v) J) J
   |ok u=>
    rw[F]at g2;obtain⟨H,v⟩:=g2;exact eW (m':=[]) l (gY (s':=sE (rws xs) (.lst<|eY xs) (.int (f:Nat)) d (U<|.ol<|ai d) H) J (seq1 i<|seq1 (zF t0 J)<|seq1 k<|seq1 g<|seq1 (uU (b J) c)<|seq1 (uU (b J) v)<|kg<|eX (ts:=[.lst [],.int 0]) J<|rW ..) J) J
theorem oV:∀{rs:List Tx},(∀r∈rs,r.length<=500)->(flat rs).length<=501*rs.length
 |[],_=>dS _
 |r::rs,h=>by
  have c:=h r<|eu ..;have b:=oV (rs:=rs) λx a=>h x<|eE _ a;show((r++[10])++flat rs).length<=_;rw[dq,dq,jC,eS]
  lia
def ZS{r:Tx}(h:cU c_ r=O):10∉r:=λz=>by
 have:=aR<|bF.mp h 10 z
 revert this;decide
def GN:∀{rs:List Tx}{p:Nat×Nat},gh rs=.error p->p.1<3:=λ{rs p} h=>by
 unfold gh at h;split at h
 .cases h;show 0<3;decide
 .split at h
  .cases h;show 1<3;decide
  .split at h
   .cases h;show 2<3;decide
   .cases h
section
variable{rs:List Tx}(h:∀r∈rs,cU c_ r=O/\r.length<=500)(hl:rs.length<=63)
include h hl
def fl:(flat rs).length<=100000:=by
 have:=oV λr a=>(h r a).2
 lia
def rd(nn:Nat)(b:FV):ĕ (gh rs) b<|cN (nn+14) 31 [.str<|flat rs] b:=J1 nn (λl a=>ZS (h l a).1) (λl a=>eT (h l a).2<|by decide)<|fl h hl
def xq(nn:Nat):cN (nn+15) 52 [.str<|flat rs] []=.ok (resT<|gh rs,[]):=by
 have b:=rd h hl nn [];rw[w52];have d:aD 1 (aZ bJ bI) ⟨[sv<|.str<|flat rs,Y,Y,Y],[]⟩=.ok (.nx,⟨[sv<|.str<|flat rs,sv<|.lst [],Y,Y],[]⟩):=J;have s2:aD 2 zO ⟨[sv<|.str<|flat rs,sv<|.lst [],Y,Y],[]⟩=.ok (.nx,⟨[sv<|.str<|flat rs,sv<|.lst [],sv<|.int 0,Y],[]⟩):=J;cases e:gh rs with
 |ok k=>
  rw[e]at b;have u:cN (nn+14) 31 [.str<|flat rs] []=.ok (.obj 0 [.lst<|aK k],[]):=b;have a:uE (aj (cN (nn+14) 31) []<|kO<|k1 zA) (OW 3 1 2 M.kb) ⟨[sv<|.str<|flat rs,sv<|.lst [],sv<|.int 0,Y],[]⟩=.ok (.nx,⟨[sv<|.str<|flat rs,sv<|.lst [],sv<|.int 0,Y],[]⟩):=by
   have:=cE (s:=⟨[sv<|.str<|flat rs,sv<|.lst [],sv<|.int 0,Y],[]⟩) (fl:=kO<|k1 zA) (ts:=[.str<|flat rs]) J u
   unfold uE;rw[this]
  exact eW (m':=[]) J (gY (s':=⟨[sv<|.str<|flat rs,sv<|.lst [],sv<|.int 0,Y],[]⟩) J (seq1 d<|seq1 s2<|seq1 a<|kg<|eX (ts:=[.lst [],.int 0]) J<|rW ..) J) J
 |error p=>
  rw[e]at b;obtain⟨c,j⟩:=p;have g:c<3:=GN e;obtain⟨s,a⟩:Xq c (j:Nat)<|aj (cN (nn+14) 31) [] (kO<|k1 zA) ⟨[sv<|.str<|flat rs,sv<|.lst [],sv<|.int 0,Y],[]⟩:=oq (ts:=[.str<|flat rs]) J b;have f:s.r=[sv<|.str<|flat rs,sv<|.lst [],sv<|.int 0,Y]:=by
   obtain⟨d,t⟩:=b;have o:aj (cN (nn+14) 31) [] (kO<|k1 zA) ⟨[sv<|.str<|flat rs,sv<|.lst [],sv<|.int 0,Y],[]⟩=(match cN (nn+14) 31 [.str<|flat rs] []with|.ok q=>.ok (q.1,⟨[sv<|.str<|flat rs,sv<|.lst [],sv<|.int 0,Y],q.2⟩)|.bad=>.bad|.exc c fs s'=>.exc c fs ⟨[sv<|.str<|flat rs,sv<|.lst [],sv<|.int 0,Y],s'.m⟩):=J
   rw[o,t]at a;injection a with _ _ a
   rw[<- a]
  obtain⟨i,sm⟩:=s;have f:i=_:=f;subst f;have l:M.kb[c]?=U (M.kb.getD c []):=by
   match c,g with
   |0,_=>rfl
   |1,_=>rfl
   |2,_=>rfl
  have n:uE (aj (cN (nn+14) 31) []<|kO<|k1 zA) (OW 3 1 2 M.kb) ⟨[sv<|.str<|flat rs,sv<|.lst [],sv<|.int 0,Y],[]⟩=.ok (.nx,⟨[sv<|.str<|flat rs,sv<|sA c,sv<|.int (j:Nat),Y],sm⟩):=by
   unfold uE;rw[a];show OW 3 1 2 M.kb c [.int (j:Nat)] _=_;unfold OW;rw[l];rfl
  refine eW (m':=sm) J (gY (s':=⟨[sv<|.str<|flat rs,sv<|sA c,sv<|.int (j:Nat),Y],sm⟩) J (seq1 d<|seq1 s2<|seq1 n<|kg<|eX (ts:=[sA c,.int (j:Nat)]) J<|rW ..) J)<|Rf (VV c g) J
end
def GO{zs:List Gx}(h:∀z∈zs,Gd z.1 z.2/\z.1.length<=500)(hl:zs.length<=63):cN (n+9) 35 [.obj 0 [.lst<|aK<|zs.map (·.2)]] m=.ok (.str<|flat<|zs.map (·.1),m):=by
 rw[w35];have c:(flat<|zs.map (·.1)).length<=100000:=by
  have:=oV (rs:=zs.map (·.1)) λr f=>by
   obtain⟨z,i,rfl⟩:=iw.mp f;exact(h z i).2
  rw[ck]at this
  lia
 have b:=join_eq (l:=(zs.map (·.1)).map λl=>l++[10])<|eT c<|by decide
 have g:b_ (setG 1) i6 (oA (aj (cN (n+8) 36) []<|k1 zB)<|cS [10]) [Y,Y] (aK<|zs.map (·.2)) []=.ok (ai<|(zs.map (·.1)).map λl=>l++[10],[]):=by
  clear c b hl
  induction zs with
  |nil=>rfl
  |cons z zs d=>
   have a:=h z<|eu ..;exact đ (t:=z.2.val) (u:=.str<|z.1++[10]) (b1:=[Y,sv z.2.val]) (b2:=[Y,sv z.2.val]) J (bB (cE (s:=⟨[Y,sv z.2.val],[]⟩) (ts:=[z.2.val]) J<|a.1.sh n _) J<|gj<|by have:=a.2;show _+1<=_;lia)<|d λy e=>h y<|eE _ e
 refine sEq (BE<|by show(aN (aK<|zs.map (·.2))&&O)=O;rw[dj];rfl) J J<|bR (uW (l:=[]) (ts:=[.lst<|ai<|(zs.map (·.1)).map λl=>l++[10]]) J (cT (Wv (s:=S1<|.obj 0 [.lst<|aK<|zs.map λz:Gx=>z.2]) (ts:=aK<|zs.map λz:Gx=>z.2) J (by rw[ck,ck];lia) J g) J) b) J
def GP(j:Nat)(m:FV):cN (n+1) 43 [.int (j:Nat)] m=.ok (.bl O,m):=by
 rw[w43];exact sEq J J J<|bR J J
def ZT(a b:T)(h:shape 5 a b=O):aU .NotEq a b=U (.bl<|!eqT a b):=by
 have:aU .NotEq a b=XZ a b:=by
  cases b<;>rfl
 rw[this];exact my h
def GQ:∀c<3,∀j:Nat,shape 5 (.tup [sA c,.int (j:Nat)]) (.tup [sA c,.int (j:Nat)])=O:=λc a j=>by
 match c,a with
 |0,_=>rfl
 |1,_=>rfl
 |2,_=>rfl
def QO(ns:Ee)(N:ns.length<=63):∃m',cN (n+16) 54 [.scr ns] []=.ok (.bl O,m'):=by
 obtain⟨xs,h,hl,X⟩:=J_ (n+11) N;have hd:=QN (n+13) h hl;have w:(rws xs).length<=63:=by rw[ck];exact hl
 have k:∀r∈rws xs,cU c_ r=O/\r.length<=500:=λr e=>by
  obtain⟨x,v,rfl⟩:=iw.mp e;exact⟨(h x v).i,(h x v).l⟩
 have C:=fl k w;have F:=xq k w n;have e:=rd k w (n+1) [];refine⟨[],?_⟩;rw[Zv];have a1:tY (cQ [3,4]) (aj (cN (n+15) 50) []<|k1 zA) ⟨[sv<|.scr ns,Y,Y,Y,Y,Y,Y],[]⟩=.ok (.nx,⟨[sv<|.scr ns,Y,Y,sv<|.lst<|ai<|rws xs,sv<|.lst<|eY xs,Y,Y],[]⟩):=by
  unfold tY;rw[cE (ts:=[.scr ns]) J X];rfl
 have P:=join_eq (l:=(rws xs).map λl=>l++[10])<|eT C<|by decide
 have s:b_ (setG 1) i6 (oA zB<|cS [10]) [Y,Y] (ai<|rws xs) []=.ok (ai<|(rws xs).map λl=>l++[10],[]):=by
  have:∀g:List Tx,(∀r∈g,r.length<=500)->b_ (setG 1) i6 (oA zB<|cS [10]) [Y,Y] (ai g) []=.ok (ai<|g.map λl=>l++[10],[]):=λg=>by
   induction g with
   |nil=>exact λ_=>J
   |cons r g K=>
    intro o;exact đ (t:=.str r) (u:=.str<|r++[10]) (b1:=[Y,sv<|.str r]) (b2:=[Y,sv<|.str r]) J (bB (t:=.str r) J J<|gj<|by have:=o r<|eu ..;show _+1<=_;lia)<|K λy L=>o y<|eE _ L
  exact this _ λr e=>(k r e).2
 have a2:aD 1 (j1 joinM (cS [])<|k1<|iH<|eB (vA zD) 2 [] (setG 1) i6<|oA zB<|cS [10]) ⟨[sv<|.scr ns,Y,Y,sv<|.lst<|ai<|rws xs,sv<|.lst<|eY xs,Y,Y],[]⟩=.ok (.nx,⟨[sv<|.scr ns,sv<|.str<|flat<|rws xs,Y,sv<|.lst<|ai<|rws xs,sv<|.lst<|eY xs,Y,Y],[]⟩):=eo (s':=⟨[sv<|.scr ns,Y,Y,sv<|.lst<|ai<|rws xs,sv<|.lst<|eY xs,Y,Y],[]⟩)<|uW (l:=[]) (ts:=[.lst<|ai<|(rws xs).map λl=>l++[10]]) J (cT (Wv (ts:=ai<|rws xs) J (by rw[ck];lia) J s) J) P
 have d:∀(a:T)(j:Nat),resT (gh<|rws xs)=.tup [a,.int (j:Nat)]->shape 5 (.tup [a,.int (j:Nat)]) (.tup [a,.int (j:Nat)])=O->SS (dD (aU .NotEq) (vF 5)<|aZ bJ bI) (oE (aj (cN (n+15) 35) []<|k1<|aj (cN (n+15) 31) []<|k1 zB) zB) ⟨[sv<|.scr ns,sv<|.str<|flat<|rws xs,sv<|.tup [a,.int (j:Nat)],sv<|.lst<|ai<|rws xs,sv<|.lst<|eY xs,sv a,sv<|.int (j:Nat)],[]⟩=.ok (.bl O,⟨[sv<|.scr ns,sv<|.str<|flat<|rws xs,sv<|.tup [a,.int (j:Nat)],sv<|.lst<|ai<|rws xs,sv<|.lst<|eY xs,sv a,sv<|.int (j:Nat)],[]⟩)->cN (n+16) 54 [.scr ns] []=.ok (.bl O,[]):=λa j b q M=>by
  rw[b]at hd F;have a3:tY (cQ [5,6]) (aj (cN (n+15) 51) []<|k2 zD<|vF 4) ⟨[sv<|.scr ns,sv<|.str<|flat<|rws xs,Y,sv<|.lst<|ai<|rws xs,sv<|.lst<|eY xs,Y,Y],[]⟩=.ok (.nx,⟨[sv<|.scr ns,sv<|.str<|flat<|rws xs,Y,sv<|.lst<|ai<|rws xs,sv<|.lst<|eY xs,sv a,sv<|.int (j:Nat)],[]⟩):=by
   unfold tY;rw[cE (ts:=[.lst<|ai<|rws xs,.lst<|eY xs]) J hd];rfl
  have a4:aD 2 (aj (cN (n+15) 52) []<|k1 zB) ⟨[sv<|.scr ns,sv<|.str<|flat<|rws xs,Y,sv<|.lst<|ai<|rws xs,sv<|.lst<|eY xs,sv a,sv<|.int (j:Nat)],[]⟩=.ok (.nx,⟨[sv<|.scr ns,sv<|.str<|flat<|rws xs,sv<|.tup [a,.int (j:Nat)],sv<|.lst<|ai<|rws xs,sv<|.lst<|eY xs,sv a,sv<|.int (j:Nat)],[]⟩):=eo (s':=⟨[sv<|.scr ns,sv<|.str<|flat<|rws xs,Y,sv<|.lst<|ai<|rws xs,sv<|.lst<|eY xs,sv a,sv<|.int (j:Nat)],[]⟩)<|cE (ts:=[.str<|flat<|rws xs]) J F;have t1:yn (dU<|D.tB<|aj (cN (n+15) 43) []<|k1<|oI zC zI) (D.dm<|dD (aU .NotEq) zC<|aZ gu<|k2 (vF 5)<|vF 6) ⟨[sv<|.scr ns,sv<|.str<|flat<|rws xs,sv<|.tup [a,.int (j:Nat)],sv<|.lst<|ai<|rws xs,sv<|.lst<|eY xs,sv a,sv<|.int (j:Nat)],[]⟩=.ok (Zn ||Zn,⟨[sv<|.scr ns,sv<|.str<|flat<|rws xs,sv<|.tup [a,.int (j:Nat)],sv<|.lst<|ai<|rws xs,sv<|.lst<|eY xs,sv a,sv<|.int (j:Nat)],[]⟩):=uV (wU (y:=O)<|oY<|cE (ts:=[.int (j:Nat)]) J<|GP (n+14) j _)<|gP<|pE (t:=.tup [a,.int (j:Nat)]) (u:=.tup [a,.int (j:Nat)]) J (eX (ts:=[a,.int (j:Nat)]) J<|rW ..)<|(ZT _ _ q).trans<|by rw[tR];rfl
  rw[Zv];exact eW (m':=[]) J (gY (s':=⟨[sv<|.scr ns,sv<|.str<|flat<|rws xs,sv<|.tup [a,.int (j:Nat)],sv<|.lst<|ai<|rws xs,sv<|.lst<|eY xs,sv a,sv<|.int (j:Nat)],[]⟩) J (seq1 a1<|seq1 a2<|seq1 a3<|seq1 a4<|seq1 (zF t1 J)<|kg M) J) J
 rw[<- Zv];cases b:gh (rws xs)with
 |error p=>
  obtain⟨c,j⟩:=p;have s:=GN b;rw[b]at d;refine d (sA c) j J (GQ c s j) ?_
  match c,s with
  |0,_=>rfl
  |1,_=>rfl
  |2,_=>rfl
 |ok B=>
  rw[b]at d e;have e:cN (n+15) 31 [.str<|flat<|rws xs] []=.ok (.obj 0 [.lst<|aK B],[]):=e;obtain⟨zs,A,H,G⟩:∃zs:List Gx,zs.map (·.1)=rws xs/\zs.map (·.2)=B/\∀z∈zs,Gd z.1 z.2:=by
   refine all_some h ?_;obtain⟨f,_,v,R,Q⟩:=min_eq<|ix 0 xs;obtain⟨q1,q2⟩:=k6 xs 0 f (λx o=>(h x o).p) v R Q<|i_ _;unfold gh at b;by_cases C:f<0+xs.length
   .rw[q1 C]at b;cases b
   .obtain⟨I,V,S⟩:=q2 (by lia)
    rw[V]at b;dsimp only at b;split at b
    .cases b
    .split at b
     .cases b
     .cases b;exact S
  have q:=GO (n+6) (zs:=zs) (m:=[]) (λz E=>⟨G z E,(k z.1<|by rw[<- A];exact iw.mpr ⟨z,E,J⟩).2⟩) (by rw[<- ck (f:=(·.1)) (as:=zs),A];exact w)
  rw[A,H]at q;refine d (.lst []) 0 J J ?_;have W:oE (aj (cN (n+15) 35) []<|k1<|aj (cN (n+15) 31) []<|k1 zB) zB ⟨[sv<|.scr ns,sv<|.str<|flat<|rws xs,sv<|.tup [.lst [],.int 0],sv<|.lst<|ai<|rws xs,sv<|.lst<|eY xs,sv<|.lst [],sv<|.int 0],[]⟩=.ok (.bl O,⟨[sv<|.scr ns,sv<|.str<|flat<|rws xs,sv<|.tup [.lst [],.int 0],sv<|.lst<|ai<|rws xs,sv<|.lst<|eY xs,sv<|.lst [],sv<|.int 0],[]⟩):=bB (cE (ts:=[.obj 0 [.lst<|aK B]]) (cT (cE (ts:=[.str<|flat<|rws xs]) J e) J) q) J<|(wO ..).trans<|by rw[bt J]
  exact W
end K24
namespace K24
open PySem D L2
variable(n:Nat){m:List _root_.D.Ob}
set_option maxHeartbeats 0
def Kc:∀P,PV (KH.K P) M Ft It=O:=λP=>by kernel_rfl
def Kd:∀P,M.cs.all (Jy<|KH.K P)=O:=λP=>by kernel_rfl
def Ke:∀P,Ft.map (Mi<|KH.K P)=Ft.map λe=>(Mi (KH.K P) e).map<|Fo e:=λP=>by kernel_rfl
set_option maxHeartbeats 0
def Ę:List Fe->Prop
 |[]=>True
 |e::r=>Bn e/\Ę r
theorem MI:∀{l:List Fe},Ę l->∀e∈l,Bn e
 |e::r,h,x,a=>by
  rcases bu.mp a with z|z
  .rw[z];exact h.1
  .exact MI h.2 x z
def ę{P:B2->Prop}(h:P []):∀us:B2,us.length=0->P us
 |[],_=>h
 |_::_,e=>by cases e
def WD{n:Nat}{P:B2->Prop}(h:∀a,∀us:B2,us.length=n->P (a::us)):∀us:B2,us.length=n+1->P us
 |[],e=>by cases e
 |a::us,e=>h a us<|Cq.inj e
def Ě{P:B2->Prop}(h:∀a,P [a]):∀us:B2,us.length=1->P us:=WD λa=>ę<|h a
def ě{P:B2->Prop}(h:∀a b,P [a,b]):∀us:B2,us.length=2->P us:=WD λa=>Ě<|h a
def Ĝ{P:B2->Prop}(h:∀a b c,P [a,b,c]):∀us:B2,us.length=3->P us:=WD λa=>ě<|h a
def lz4{P:B2->Prop}(h:∀a b c d,P [a,b,c,d]):∀us:B2,us.length=4->P us:=WD λa=>Ĝ<|h a
def bn:∀e∈Ft,Bn e:=MI (by
 repeat' first|exact trivial|refine And.intro ?_ ?_
 all_goals first|exact λ_ _ _ _ _ _=>ę J|exact λ_ _ _ _ _ _=>Ě λ_=>J|exact λ_ _ _ _ _ _=>ě λ_ _=>J|exact λ_ _ _ _ _ _=>Ĝ λ_ _ _=>J|exact λ_ _ _ _ _ _=>lz4 λ_ _ _ _=>J|exact λ_ _ _ _ _ _=>lz5 λ_ _ _ _ _=>J)
end K24
end
open PySem PySem.W PyProof.Rows
set_option maxRecDepth 100000 in
set_option maxHeartbeats 0 in
theorem PySem.Challenge.cw_rowblade_k24_what_is_refused_holds : PySem.Challenge.rw_rowblade_k24_what_is_refused.Holds := by
 w_on
 refine holds_law (by
  unfold OpenLaw.wellSaid OpenRow.wellSaid OpenRow.partSaid looksOpen
  repeat' (with_reducible refine look_both ?_ ?_)
  all_goals decide +kernel) λaaa=>?_
 refine holds_open (q:=KH.vw) (loose:=KH.lz) (Xt:=KH.Xt) (XP:=XL KH.vw []) (Yf:=Hook.obs<|kHook KH.K KH.as KH.QX) (Ya:=Hook.val<|kHook KH.K KH.as KH.QX) (YP:=Hook.says<|kHook KH.K KH.as KH.QX) (N:=19758) KH.left (Hook.of<|kHook KH.K KH.as KH.QX) (Hook.keeps<|kHook KH.K KH.as KH.QX) (λs e=>xl_of s (Bool.and_eq_true_iff.mp e).1) XL.keeps (by rfl) (by rfl) (by rfl) (λs e=>recFacts_of (Bool.and_eq_true_iff.mp e).2) (by rfl) (by first|assumption|decide +kernel) (by decide +kernel) ⟨J,J,J,J,J,by decide +kernel⟩ ?hw ?hc
 (case hw=>w_witness2)
 k_fill
 refine _root_.D.U7 (l:=PySem.Challenge.rw_rowblade_k24_what_is_refused) (m:=63) (n:=16) (K:=KH.K) (M:=K24.M) (Ft:=K24.Ft) (It:=K24.It) (i:=54) J (by decide) J ⟨J,by decide,by decide⟩ (λw h a=>PySem.W.kIn_of a) J J J J J (λP=>⟨⟨K24.Kc P,K24.Ke P,K24.bn⟩,K24.Kd P⟩) λns hn _=>K24.QO 0 ns hn
