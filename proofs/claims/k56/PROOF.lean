import PyProof.Rows.All
import KE.IntBitsLaws
import KE.KDictOf
import KE.KDictSum
import KE.KIntText
import KE.KSortTup
import KE.LcSums
import KE.RegKIsAll
import KE.KNestM
import KE.KPairComp
import Lean
import PySem.Challenge.RW_stonelay_k56_turned_about
open PySem renaming wpAny_bind→ZB,Value→X8,Shared→X6,wpAny_pure→XS,mainGlobals→XC,FuncData→Xz,sizeLine→Xx,Program→Xn,model→Xk,Paired→Xj,wpAny→Xg,boot_len→W3,World→WW,mem_of_lookup→WP,Around→WM,starEach→WH,SetTable→Ww,wpAny_mono→Wi,compareOp→Wh,wpAny_loadPart'→Wc,PyData→Wa,tupleKind→VY,wpAny_holding→VU,cLine→VP,wpAny_truthy_bool→VO,wpAny_newObj_type→VN,codeAny_builtin→VL,sysModules→Vt,Spec→Vk,wpAny_call_entry→U6,wpAny_rule→U2,builtinLookup_eq_fast→UY,wpAny_passesOwn→UW,Builtin→UT,plainId_quiet→UK,storedH→UF,Scope→Ux,relabel→Uv,binaryOp→Uo,wpAny_standAt→Uh,rawInt→Ug,wpAny_dictEntries→Ud,sizeLine_eq→T8,wpAny_forIn_list→T1,backTo→TY,NameKind→TN,behindInMarks→TM,wpAny_comprehension_free→TL,wpAny_specialOf→TH,typeLookup_type→TF,entryOfKey→TC,assignEach→TB,tupleKind_room_in1→Tw,sliceBounds→Tr,codeAny→To,compEnvC→Tn,wpAny_pyIter_list→Te,foldedSetIterable→Td,wpAny_pyIter_enum→Tb,wpAny_setState_of→Ta,ofAClassStatement→S9,codeAny_compStart_list→S5,wpAny_isTrue_Compare1→SZ,GenState→SJ,wpAny_execs_nil→SE,letOwnedTupleGo→SD,wpAny_setEntries_of→Sx,bootBuiltins→Sv,codeAny_mono→Su,wpAny_typeOf→Sr,cellsFrom→Sl,pyNext→Sk,firstArgMember→Sh,wpAny_Call_Name_kw→Se,again→R3,wpAny_attempt→RW,setSearchFrom→RU,DictEntry→RK,pickOrder→RJ,wpAny_execs_cons→RI,wpAny_isInstance→RD,wpAny_askSetting→RB,wpAny_callSpecial?_slot→Rv,typeLookup→Rr,call_meets→Rq,seqIndex_neg→Rp,wpAny_getItem_list_neg→Rj,theTreesLotGoes→QP,wpAny_notOrdered_dict→P8,seqIndex_of→PU,subscripted→PQ,storedH_new→PP,unsupported→PN,hashByValue→PM,intText?→PK,isSubtype_type→PJ,wpAny_setField→PH,wpAny_newFunctionEnv→PB,codeAny_call_builtin→Py,getItem→Po,Keyword→Pn,callerA→Pl,valueAt→Pk,atKey→Pc,attributeBase→O8,compTurn_list→O7,dictSetHashed→O6,wpAny_newList→O3,builtinsNs→O2,closureFor→O0,BindsTo→OX,ReadsAll→OW,codeAny_loop→OS,swapsWith→OQ,keywordEach→OP,wpAny_noted→OO,wpAny_of_eq→ON,bindL→OL,bindC→OK,IntMulOk→OJ,entryFor→OI,CmpOp→OH
open List renaming length_map→Y1,mem_filter→X9,mem_of_getElem?→X7,length_append→X4,getElem?_eq_some_iff→X0,getElem?_eq_getElem→XZ,mem_cons_self→XW,mem_cons_of_mem→XR,mem_map→XQ,mem_append→XO,length_take→XM,mem_cons→XF,getElem?_map→XD,map_cons→XB,take_length→XA,mem_append_right→Xy,map_append→Xs,size_toArray→Xr,getD_eq_getElem?_getD→Xo,length_cons→Xm,length_filter_le→Xe,take_add_one→Xc,map_congr_left→Xb,filter_sublist→Xa,append_nil→W9,Nodup→W7,mem_append_left→W6,perm_ext_iff_of_nodup→W2,filter_append→WY,append_assoc→WX,length_range→WU,take_append_drop→WT,nodup_append→WN,all_eq_true→WG,any_eq_true→WF,take_of_length_le→WE,filter_cons→WD,range→WC,drop_eq_getElem_cons→WA,mem_range→Wz,replicate→Wu,map_map→Ws,countP_cons→Wn,pairwise_map→Wm,length_eq_zero_iff→Wj,nodup_cons→Wg,mem_flatten→Wf,filter_eq_nil_iff→We,mem_of_mem_take→V9,flatten_append→V3,flatten_cons→V0,filter_congr→VZ,filter_filter→VX,foldl_cons→VT,getElem?_append_left→VS,isEmpty_eq_false_iff→VR,getElem?_range→VQ,countP_eq_length_filter→VI,mem_singleton→VH,sublist_flatten_of_mem→VF,nodup_nil→VA,getElem?_append_right→Vy,pairwise_iff_getElem→Vw,lookup_cons→Vr,countP_congr→Vl,length_nil→Vi,filterMap_cons→Vh,replicate_succ→Vg,flatMap_append→Vf,length_drop→U8,getElem_mem→U5,mem_flatMap→U3,length_mapIdx→U0,foldl_append→UP,flatMap_cons→UO,getElem?_of_mem→UL,sublist_append_left→UI,take_succ_cons→UE,find?_cons→Um,range_succ→Uk,map→Ua,pairwise_append→T6,any_map→T3,getElem?_zip_eq_some→T0,exists_mem_of_ne_nil→TZ,getElem_of_mem→TW,reverse_append→TV,countP_eq_zero→TU,filter_eq_self→TR,length_erase_of_mem→TJ,mem_filterMap→Tx,getElem?_drop→Tv,ne_nil_of_mem→Ts,map_id→Tp,take_sublist→Tc,ext_getElem?→S7,drop_eq_nil_of_le→S4,length_pos_of_mem→S1,perm_append_comm→SW,getElem?_eq_none→SV,any_cons→SO,lookup→SH,reverse_reverse→SF,countP_map→SC,pairwise_cons→Sb,extract_eq_take_drop→R6,drop_sublist→RZ,reverse_perm→RY,all_cons→RX,sum_cons→RS,getElem?_take_of_lt→RR,cons_append→RF,not_mem_nil→RE,nil_sublist→RA,mapIdx_cons→Rz,getElem?_cons_succ→Rw,map_nil→Ro,getElem?_set_self→Rm,of_mem_zip→Q1,nil_append→QR,mem_mapIdx→Qb,length_singleton→P9,mem_iff_getElem?→P7,pairwise_reverse→P0,mem_of_mem_erase→PZ,drop_drop→PF,getElem?_set_ne→PD,mem_of_mem_drop→Pw,getElem?_mapIdx→Pr,map_eq_nil_iff→Ph,countP_pos_iff→Pg,mem_map_of_mem→Pd,map_take→O4
open Array renaming length_toList→X5,getElem?_toList→Xv,toList_append→WO,getElem?_eq_none→WK,getElem?_eq_some_iff→Vx,getElem?_eq_getElem→Vv,size_map→Vn,toList_reverse→Vm,toList_map→U4,size_reverse→U1,perm_iff_toList_perm→UZ,getElem_toList→UM,size_extract→Ur,getElem?_setIfInBounds→Uj,size_setIfInBounds→TK,toList_push→S8,getElem?_extract→S2,forIn_toList→Sd,toList_setIfInBounds→R7,getElem?_replicate→RN,getElem?_reverse→Rc,toList_extract→Pu,toList_filter→Pi,toList_modify→Pe
open PySem.Heap renaming get?_push_of_some→XY,lt_size→XH,get?_push_size→W5,get?_update_self→Wl,SameBut→V2,size_push→Vo,get?_none_of_le→UN,get?_update_other→Uq,get?_update_ne→Sw
open Nat renaming le_trans→XX,le_refl→XU,lt_of_le_of_lt→XG,lt_of_lt_of_le→Xq,ne_of_lt→Xi,zero_le→WZ,lt_succ_of_lt→WJ,lt_irrefl→Wb,le_succ→V4,zero_add→VC,succ_ne_self→Vs,le_add_right→U7,lt_or_ge→Uu,pow_succ→Ut,le_succ_of_le→Ue,pow_le_pow_right→T5,ne_of_gt→T4,not_lt_zero→TD,lt_of_lt_of_eq→Tt,le_of_lt→Tk,sub_self→Tj,succ_pos→Ti,lt_trans→Ss,mod_lt→Sj,add_sub_cancel→Sc,lt_trichotomy→R0,lt_succ_self→RG,add_sub_cancel_left→Rt,add_zero→Rn,one_le_iff_ne_zero→Rb,add_le_add_right→Pz,pow_lt_pow_right→Ps,succ_mul→OU,mul_comm→OT
open Bool renaming false_ne_true→XV,eq_false_iff→Xh,eq_iff_iff→WV,not_eq_true'→WI,false_eq_true→Wy,and_eq_true→Wo,and_eq_true_iff→VW,and_true→SK,and_false→Si,and_comm→RT,false_and→PL,or_false→O9
open PySem.W renaming Frag→XT,nsIn→Xl,mg_none_of→Wx,mg_of→VE,hashAt→VD,fnOf→US,excIn→Ui,hideAll_get→TX,codeIn→Th,keepIn→Tg,cellsFrom_some→S6,methodObj→R1,OpenLaw→QQ,WalkO→Pb
open PySem.SetTable renaming bits→XJ,below→Xw,insertAt→Xf,turns→W4,runEnd→VJ,leap→Vq,grown→UB,sizeAbove→Tu,Probe→Sg,advance→RC,fill→O5
open PyProof.Rows renaming wpS_bind→XI,wpS_pure→Xu,arrOf→Xp,Keyed→Xd,SortSt→WS,pendingOf→WR,boot_sorted→Wp,wpS_forRange→V7,callWith_type1→VG,boot_min→UX,wpS_mono→UC,pairsOf_toList→UA,seqObj→Uw,boot_any→Uf,SortKind→Ub,wpS_modify→Tz,failedOf→Tl,boot_max→SU,AllBare→SR,wpS_get→SQ,reverseSlice'→SL,mem_zip_self→Sq,listItems_at→R4,wpS_lift→RL,envOfC→Rs,subscriptTail_builtinR→Rl,boot_dict→Ra,boot_int→PY,boot_sum→PX,boot_abs→PV,IntsAre→Pm,pairsOf→Pj,getElem?_mirror_all→Pf,subscriptTail→Pa,IsTup→OM
open Or renaming inl→XE,inr→Vp
open PySem.PassesOwn renaming never→W1
open PySem.F renaming plainAttrs_list→WQ,slot_list_append→Wr,type_list_append→Wq,slot_list_extend→UH,type_list_extend→UG,slot_dict_get→SY,excBase_ValueError→R8,slot_dict_update→RO,args_dict_get_3→Ry,plainAttrs_dict→Rx,plain_list_iadd→Ru,entry_dict_get→Rh,slot_set_iter→P6,plain_set_new→P1
open PySem.PyData renaming eqv→WL,depthAll→UU,canLayAll0→UQ,canLay0→Uz,bool→Tq
open PySem.Value renaming ref→WB,int→Vu,none→T9
open Classical renaming byContradiction→Wv
open PySem.Heap.SameBut renaming update→Wt
open False renaming elim→Wd
open PySem.Around renaming under_plainId→V8
open Int renaming le_of_lt→V6,zero_add→V1,le_trans→VB,le_refl→Va,emod_nonneg→UV,toNat_natCast→UR,emod_lt_of_pos→Us,neg_le_neg→Tf,toNat_of_nonneg→Sz,add_zero→So,natAbs_natCast→Sa,natCast_add→Qr,not_lt→OY,mul_comm→OR
open ForInStep renaming yield→V5
open Option renaming isSome_iff_exists→VM,map_eq_some_iff→Vc,map_some→Ul,getD_some→T2
open PySem.SetTable.below renaming go→Vz
open PySem.Obj renaming mapSeq→Vj,data_mapDictKeys→T7,mapFields→SM,isFreed_of_dict→Sy
open PyProof.Rows.F renaming plain_set_update_loop→Ve,entry_set_update_loop→TQ
open Ne renaming symm→Vd
open List.Sublist renaming length_le→Vb
open PySem.NameKind renaming cell→U9
open PySem.Builtin.List renaming listTooLong→UJ,listExtendWith→Sm,listSameRef→RM
open List.Perm renaming length_eq→UD,append_left→SX
open PySem.Builtin.Dict renaming updateFrom→Uy,entriesForEmpty→SA,addKeywords→RQ,selfAndRest→RP,pairItems→Rf,mergeDict→Re,quietEq→Px
open PySem.SetTable.probe renaming go→Uc
open True renaming intro→SS
open PySem.Shared renaming TypeIs→SN
open PySem.Calls renaming evalArgs_plain→SG,spliced_cons→Sf,Name_function_global→R9,call_function_entry→R5,callWith_builtin→Ri
open Sum renaming inl→Pq,inr→Pp
open PUnit renaming unit→OZ
open PySem.Str renaming join→OV
set_option Elab.async false
set_option linter.all false
set_option maxRecDepth 100000
namespace zbu
open PySem PySem.W
noncomputable def sel:List Nat->Nat->List Stmt->List Stmt
 | _,_,[]=>[]
 | ns,i,x::xs=>match ns.contains i with
  | true=>sel ns (i+1) xs
  | false=>x::sel ns (i+1) xs
theorem zia {r:OpenRow}{q:Xn}{H:Hook}{d:DefRec}{kwd:List (PySem.Str×Expr)}{N:Nat}(left:LeftO r.prog q [] (fun s=>xlAt q [] s&&recOk (RowW.records r.toRowW) s) (Hook.obs H) (Hook.val H) N)
  (hdef:defOf q r.name=some (d,kwd)) (hp:r.prog.theDef r.name=some (d.params,d.body,d.scope)) (hk:kwWritten? d.params.kwonlyargs d.params.kw_defaults=some kwd) (hwr:(!r.writes || r.records.isEmpty)=true)
  (k1:r.wellSaid=true) (ok:(chainsOk q&&opensWell r.prog&&(frees r.toRowW&&r.within.isEmpty))=true) (hb:r.prog.bare) (hw:r.toRowW.promised)
  (call:WalkO q [] (XL q []) (Hook.says H) r.toRowW d kwd fun f vs=>PySem.call f vs):r.Holds :=
 holds_open (q:=q) (loose:=[]) (Xt:=fun s=>xlAt q [] s&&recOk (RowW.records r.toRowW) s) (XP:=XL q []) (Yf:=Hook.obs H) (Ya:=Hook.val H) (YP:=Hook.says H) (N:=N) left (Hook.of H) (Hook.keeps H) (fun s e=>xl_of s (VW.mp e).1) XL.keeps hdef hp hk
  (fun s e=>recFacts_of (VW.mp e).2) hwr k1 ok hb hw call
noncomputable def top (i:Nat):Stmt:=PySem.Challenge.pw_stonelay_k56_turned_about.main.body.getD i (.Pass ⟨0,0,0,0⟩)
noncomputable def JF (s:Stmt):Arguments:=match s with
 | .FunctionDef _ a _ _ _ _ _ _ _ _=>a
 | _=>{ posonlyargs:=[],args:=[],vararg:=none,kwonlyargs:=[],kw_defaults:=[],kwarg:=none,defaults:=[] }
noncomputable def yY (s:Stmt):List Stmt:=match s with
 | .FunctionDef _ _ b _ _ _ _ _ _ _=>b
 | _=>[]
noncomputable def zf (s:Stmt):Ux:=match s with
 | .FunctionDef _ _ _ _ _ _ sc _ _ _=>sc
 | _=>{ kind:=.function,names:=[],isGenerator:=false,isCoroutine:=false }
def HD (K:XT)(x:Str)(i:Nat):Prop:=∃(f:Addr) (oc:X8) (od an:Option Addr) (sl:Array (Option X8)) (kV dc pm cd ct:X8),Xl K XC x=some (some (.ref f))/\K.lookup f=some ⟨oc,od,.func (US x x (JF (top i)) (yY (top i)) (zf (top i)) .none kV dc pm an cd ct),sl⟩/\Th K cd x=true/\Tg K (.ref f)=true
def zew:List X8:=[.type "ValueError",.type "Exception",.type "BaseException",.type "object"]
structure Facts (K:XT):Prop where
 Qz:HD K "closed" 7
 xS:HD K "open_cells" 8
 QA:HD K "around" 9
 JG:HD K "number_at" 10
 Zy:HD K "cells_of" 11
 YA:HD K "sign_at" 12
 zbe:HD K "parts" 14
 QB:HD K "joined" 15
 zg1:HD K "far" 16
 xT:HD K "numbers_of" 17
 xU:HD K "bare_wrong" 18
 j5:HD K "closed_around" 19
 yr:HD K "part_layings" 22
 Zz:HD K "needs_at" 23
 YB:HD K "may_fit" 24
 yZ:HD K "part_counts" 25
 YC:HD K "counted" 26
 YD:HD K "choices" 28
 QC:HD K "poured" 29
 xg:HD K "near_counts" 31
 zbf:HD K "count" 32
 xV:HD K "all_poured" 33
 zbg:HD K "dealt" 34
 ZA:HD K "asked_by" 37
 ZC:HD K "known_of" 38
 xh:HD K "still_asked" 39
 QD:HD K "gained" 40
 YE:HD K "settled" 41
 ZD:HD K "thoughts" 44
 JH:HD K "all_steps" 45
 xj:HD K "place_lists" 46
 xW:HD K "first_step" 47
 xo:HD K "_law_cell_at" 49
 JI:HD K "_law_mixed" 50
 ZE:HD K "_law_mark" 51
 JJ:HD K "_law_drawn" 52
 JK:HD K "_law_cells" 53
 ZF:HD K "_law_near" 54
 JL:HD K "_law_board" 55
 JM:HD K "_law_there" 56
 xX:HD K "_law_turned" 57
 zg2:HD K "law" 58
 zg3:Xl K XC "abs"=some none
 zg4:Xl K XC "any"=some none
 zdI:Xl K XC "dict"=some none
 JN:Xl K XC "enumerate"=some none
 zg5:Xl K XC "int"=some none
 zg6:Xl K XC "len"=some none
 zdJ:Xl K XC "list"=some none
 zg7:Xl K XC "max"=some none
 zg8:Xl K XC "min"=some none
 zbh:Xl K XC "range"=some none
 zg9:Xl K XC "set"=some none
 QE:Xl K XC "sorted"=some none
 zha:Xl K XC "str"=some none
 zhb:Xl K XC "sum"=some none
 zhc:∃t,Xl K XC "ALL"=some (some (.str "all" t))
 xr:∃t,Xl K XC "CLOSED_SIGN"=some (some (.str "?" t))
 yt:∃t,Xl K XC "MOST_OF_PART"=some (some (.int 14 t))
 xu:∃t,Xl K XC "MOST_THINGS"=some (some (.int 30 t))
 yu:∃t,Xl K XC "NO_CELL_SIGN"=some (some (.str "#" t))
 c_NoLaying:∃jaa:Addr,Xl K XC "NoLaying"=some (some (.ref jaa))/\Ui K jaa zew "ValueError.__new__"=true
 c_TooGreat:∃jab:Addr,Xl K XC "TooGreat"=some (some (.ref jab))/\Ui K jab zew "ValueError.__new__"=true
end zbu
noncomputable def zbu.view:PySem.Program:={ PySem.Challenge.rw_stonelay_k56_turned_about.prog with main:={ PySem.Challenge.rw_stonelay_k56_turned_about.prog.main with body:=zbu.sel [0,4,13,20,27,30,35,42,48] 0 PySem.Challenge.rw_stonelay_k56_turned_about.prog.main.body } }
namespace zbu
open PySem PySem.W
theorem left4 {E:Option Shared}{β γ δ ε α:Type}{O:Shared->β×γ×δ×ε}{g:β×γ×δ×ε}{Y:Shared->α}{y:α}(a:E.map (fun s=>(O s).1)=some g.1)(b:E.map (fun s=>((O s).2.1,(O s).2.2.1))=some (g.2.1,g.2.2.1))(c:E.map (fun s=>(O s).2.2.2)=some g.2.2.2)(d:E.map Y=some y):E.map (fun s=>(O s,Y s))=some (g,y):=by
 cases E with
 | none=>cases a
 | some s=>exact congrArg some (Prod.ext (Prod.ext (Option.some.inj a) (Prod.ext (congrArg (·.1) (Option.some.inj b)) (Prod.ext (congrArg (·.2) (Option.some.inj b)) (Option.some.inj c)))) (Option.some.inj d))
noncomputable abbrev OS:=openSeen view [] (importedModules PySem.Challenge.rw_stonelay_k56_turned_about.row.prog.main.body) (fun s=>xlAt view [] s&&recOk (RowW.records PySem.Challenge.rw_stonelay_k56_turned_about.row.toRowW) s) true
noncomputable abbrev GG:=openGood view []
set_option maxRecDepth 100000
set_option maxHeartbeats 0
theorem sa (w:World):(openEnds treeTable PySem.Challenge.rw_stonelay_k56_turned_about.row.prog w 4020).map (fun s=>(OS s).1)=some GG.1:=by kernel_rfl
theorem sb (w:World):(openEnds treeTable PySem.Challenge.rw_stonelay_k56_turned_about.row.prog w 4020).map (fun s=>((OS s).2.1,(OS s).2.2.1))=some (GG.2.1,GG.2.2.1):=by kernel_rfl
theorem sc (w:World):(openEnds treeTable PySem.Challenge.rw_stonelay_k56_turned_about.row.prog w 4020).map (fun s=>(OS s).2.2.2)=some GG.2.2.2:=by kernel_rfl
end zbu
local macro_rules | `(tactic| o_head $H)=>`(tactic| (refine' zbu.zia (q:=zbu.view) (H:=$H) (N:=4020) (fun w=>zbu.left4 (O:=zbu.OS) (zbu.sa w) (zbu.sb w) (zbu.sc w) (by kernel_rfl)) (by rfl) (by rfl) (by rfl) (by rfl) (by first | assumption | decide +kernel) (by decide +kernel) ⟨rfl,rfl,rfl,rfl,rfl,by decide +kernel⟩ ?_ ?_))
open PySem PySem.W PyProof.Rows in
set_option maxRecDepth 100000 in
set_option maxHeartbeats 0 in
theorem zbu.look:PySem.Challenge.rw_stonelay_k56_turned_about.wellSaid=true:=by kernel_rfl
open PySem PySem.W PyProof.Rows in
set_option maxRecDepth 100000 in
set_option maxHeartbeats 0 in
theorem zbu.early (h:∀{q:Xn} {XP:(Str->Option X8)->Heap->Prop} {YP:WW->Heap->Prop} {d:DefRec} {K:Params->XT},d.params.defaults=[]->(∀(w:WW) (h:Heap),YP w h->(K w.params).In h)->d.name="law"->(∀w:WW,zbu.Facts (K w.params))->Pb q [] XP YP PySem.Challenge.rw_stonelay_k56_turned_about.row.toRowW d [] (fun f vs=>PySem.call f vs)):PySem.Challenge.rw_stonelay_k56_turned_about.Holds:=by
 w_on;refine holds_law zbu.look fun said=>?_;k_head;w_witness2;k_fill;refine h rfl (fun w h Y=>PySem.W.kIn_of Y) rfl fun w=>?_;constructor;all_goals first | k_is | exact⟨_,_,_,_,_,_,_,_,_,_,by k_is,by k_is,by k_is,by k_is⟩ | exact⟨_,by k_is⟩ | exact⟨_,by k_is,by k_exc⟩ | exact⟨_,by k_is,by k_exc⟩
noncomputable section
namespace L2
open PySem PySem.Spec PyProof.Rows
abbrev Key:=Sum Int Str
def zcR:Key->X8->Bool
 | .inl k,v=>Value.isInt k v
 | .inr x,v=>Value.isStrOf x v
def znA (w:WW):Key->Int
 | .inl k=>hashInt k
 | .inr x=>hashStr w x
theorem qX:∀{k:Key} {v:X8},zcR k v=true->(∃i t,k=Pq i/\v=Vu i t)\/(∃x t,k=Pp x/\v=Value.str x t)
 | .inl i,v,h=>by
  obtain⟨t,e⟩:=Value.isInt_shape (k:=i) (v:=v) h;exact .inl ⟨i,t,rfl,e⟩
 | .inr x,v,h=>by
  obtain⟨t,e⟩:=Value.isStrOf_shape (x:=x) (v:=v) h;exact .inr ⟨x,t,rfl,e⟩
theorem zan (i:Int)(t:Tok):zcR (.inl i) (.int i t)=true:=by simp[zcR,Value.isInt]
theorem zib (x:Str)(t:Tok):zcR (.inr x) (.str x t)=true:=by simp[zcR,Value.isStrOf]
theorem znB (a b:Int):decide ((Pq a:Key)=Pq b)=(a==b):=by
 by_cases e:a=b
 ·subst e;simp
 ·have h:¬ (Pq a:Key)=Pq b:=fun q=>e (Sum.inl.inj q);rw[decide_eq_false h];exact(beq_eq_false_iff_ne.mpr e).symm
theorem znC (a b:Str):decide ((Pp a:Key)=Pp b)=decide (a=b):=by
 by_cases e:a=b
 ·subst e;simp
 ·have h:¬ (Pp a:Key)=Pp b:=fun q=>e (Sum.inr.inj q);rw[decide_eq_false h,decide_eq_false e]
theorem znD (a:Int)(b:Str):decide ((Pq a:Key)=Pp b)=false:=decide_eq_false (fun q=>nomatch q)
theorem znE (a:Str)(b:Int):decide ((Pp a:Key)=Pq b)=false:=decide_eq_false (fun q=>nomatch q)
def zQ (prog:Xn)(w:WW):PySem.KeyKind prog w Key where
 is:=zcR
 hash:=znA w
 inj:=fun v a b ha hb=>by
  rcases qX ha with ⟨i,t,rfl,rfl⟩ | ⟨x,t,rfl,rfl⟩
  ·rcases qX hb with ⟨j,u,rfl,e⟩ | ⟨y,u,rfl,e⟩
   ·injection e with e1 _;rw[e1]
   ·exact nomatch e
  ·rcases qX hb with ⟨j,u,rfl,e⟩ | ⟨y,u,rfl,e⟩
   ·exact nomatch e
   ·injection e with e1 _;rw[e1]
 byValue:=fun k v h=>by
  rcases qX h with ⟨i,t,rfl,rfl⟩ | ⟨x,t,rfl,rfl⟩<;>rfl
 pyHash:=fun hv h=>by
  rcases qX hv with ⟨i,t,rfl,rfl⟩ | ⟨x,t,rfl,rfl⟩
  ·exact wpAny_pyHash_int h
  ·exact wpAny_pyHash_str h
 eqBool:=fun hu hv h=>by
  rcases qX hu with ⟨i,t,rfl,rfl⟩ | ⟨x,t,rfl,rfl⟩
  ·rcases qX hv with ⟨j,u,rfl,rfl⟩ | ⟨y,u,rfl,rfl⟩
   ·rw[znB] at h;exact wpAny_eqBool_int h
   ·rw[znD] at h;exact SeqAt.EqAt.int_str i t y u _ _ _ _ h
  ·rcases qX hv with ⟨j,u,rfl,rfl⟩ | ⟨y,u,rfl,rfl⟩
   ·rw[znE] at h;exact SeqAt.EqAt.str_int x t j u _ _ _ _ h
   ·rw[znC] at h;exact wpAny_eqBool_str h
 «strs»:=fun k x t v h=>by
  rcases qX h with ⟨i,u,rfl,e⟩ | ⟨y,u,rfl,e⟩
  ·exact nomatch e
  ·injection e with e1 _
   subst e1;cases v<;>rfl
theorem zex (prog:Xn)(w:WW)(i:Int)(t:Tok):(zQ prog w).is (.inl i) (.int i t)=true:=zan i t
theorem zey (prog:Xn)(w:WW)(x:Str)(t:Tok):(zQ prog w).is (.inr x) (.str x t)=true:=zib x t
inductive V where
 | non | bl (b:Bool) | int (i:Int) | str (x:Str) | byt (b:Array UInt8) | flt (b:UInt64) | ref (a:Addr) | ty (n:String)
 deriving DecidableEq
def RelV:V->X8->Prop
 | .non,u=>u=T9
 | .bl b,u=>u=Value.bool b
 | .int i,u=>∃t,u=Vu i t
 | .str x,u=>∃t,u=Value.str x t
 | .byt b,u=>∃t,u=Value.bytes b t
 | .flt b,u=>∃t,u=Value.float b t
 | .ref a,u=>u=WB a
 | .ty n,u=>u=Value.type n
abbrev Vals:List V->List X8->Prop:=Xj RelV
theorem Vals.length {xs:List V}{us:List X8}(r:Vals xs us):xs.length=us.length:=Paired.length r
theorem Vals.get:∀{xs:List V} {us:List X8} {i:Nat} {x:V},Vals xs us->xs[i]?=some x->∃u,us[i]?=some u/\RelV x u
 | _,_,_,_,.nil,e=>by simp at e
 | _,_,0,_,.cons r _,e=>by simp at e;subst e;exact⟨_,rfl,r⟩
 | _,_,i+1,x,.cons _ t,e=>by
  obtain⟨u,h1,h2⟩:=Vals.get (i:=i) (x:=x) t (by simpa using e);exact⟨u,by simpa using h1,h2⟩
theorem Vals.set {x:V}{u:X8}(r:RelV x u):∀{xs:List V} {us:List X8} (i:Nat),Vals xs us->Vals (xs.set i x) (us.set i u)
 | _,_,_,.nil=>.nil
 | _,_,0,.cons _ t=>.cons r t
 | _,_,i+1,.cons q t=>.cons q (Vals.set r i t)
theorem Vals.append:∀{xs ys:List V} {us ws:List X8},Vals xs us->Vals ys ws->Vals (xs++ys) (us++ws)
 | _,_,_,_,.nil,s=>s
 | _,_,_,_,.cons r t,s=>.cons r (Vals.append t s)
theorem Vals.take:∀{xs:List V} {us:List X8} (n:Nat),Vals xs us->Vals (xs.take n) (us.take n)
 | _,_,0,_=>.nil
 | _,_,_+1,.nil=>.nil
 | _,_,n+1,.cons r t=>.cons r (Vals.take n t)
theorem Vals.drop:∀{xs:List V} {us:List X8} (n:Nat),Vals xs us->Vals (xs.drop n) (us.drop n)
 | _,_,0,r=>r
 | _,_,_+1,.nil=>.nil
 | _,_,n+1,.cons _ t=>Vals.drop n t
def za8:Option V->Option X8->Prop
 | some v,some u=>RelV v u
 | none,none=>True
 | _,_=>False
def KV {κ:Type}:List (κ × V)->List (κ × X8)->Prop:=Xj fun (p:κ × V) (q:κ × X8)=>p.1=q.1/\RelV p.2 q.2
def kV:Key->V
 | .inl i=>.int i
 | .inr x=>.str x
inductive HO where
  | lst (xs:List V)
  | tup (xs:List V)
  | dK (kvs:List (Key×V)) | dT (kvs:List (List Key×V))
  | set (S:Int->Bool) (n:Nat)
  | ins (C dx:Addr) (fs:List (Str×V))
  | own (x:Addr)
  | xd (fs:List (Str×V))
  | met (f x:Addr)
  | rng (lo hi:Int)
  | frz (o:Obj) (u:HO)
  | tbl (ps:Array X8)
  | ext (φ:Heap->Prop)
abbrev Hp:=Addr->Option HO
def upd (H:Hp)(a:Addr)(o:HO):Hp:=fun b=>if b=a then some o else H b
theorem zb {H:Hp}{a:Addr}{o:HO}:upd H a o a=some o:=by unfold upd;rw[if_pos rfl]
theorem zk {H:Hp}{a b:Addr}{o:HO}(h:b≠a):upd H a o b=H b:=by unfold upd;rw[if_neg h]
theorem zcS {H:Hp}{a b:Addr}{o u:HO}(h:H a=some o)(h':H b=some u)(d:o≠u):a≠b:=by
 intro e;subst e;rw[h] at h';exact d (Option.some.inj h')
theorem zj {H:Hp}{a b:Addr}{o:HO}(h:H a=some o)(h':H b=none):a≠b:=by
 intro e;subst e;rw[h] at h';cases h'
section
variable (P:Xn)(w:WW)
def jk (H:Hp)(h:Heap)(a:Addr):HO->Prop
 | .lst xs=>xs.length<=Xx/\∃(its:List X8) (n:Nat),Vals xs its/\h.get? a=some { cls:=.type "list",data:=.seq its.toArray n }
 | .tup xs=>xs.length<=Xx/\∃its:List X8,Vals xs its/\OM h a its.toArray
 | .dK kvs=>kvs.length<=Xx/\(a==Vt)=false/\∃vs,KV kvs vs/\h.DictOf (zQ P w) a vs
 | .dT kvs=>kvs.length<=Xx/\(a==Vt)=false/\∃xs:List (List Key×Addr×X8),
   Xj (fun (p:List Key×V) (q:List Key×Addr×X8)=>p.1=q.1/\H q.2.1=some (.tup (p.1.map kV))/\RelV p.2 q.2.2) kvs xs /\
   ∃o es ep,h.get? a=some o/\o.ExactDict/\o.data=.dict es ep/\es.toList=xs.map (TC (VY (zQ P w)))/\(xs.map (·.1)).Nodup
 | .set S n=>h.SetOf (intKind P w) a S n
 | .ins C dx fs=>H dx=some (.own a)/\fs.length<=1000/\dx≠a/\h.get? a=some (PySem.W.instObj C dx) /\
   ∃mA,h.Ns1 dx mA/\(∀f,za8 (fs.lookup f) (mA f))/\PySem.Within mA (fs.map (·.1))
 | .own _=>∃o,h.get? a=some o
 | .xd fs=>∃mA,h.Ns1 a mA/\∀f,za8 (fs.lookup f) (mA f)
 | .rng lo hi=>∃t u v,h.get? a=some { cls:=.type "range",data:=.fields #[.int lo t,.int hi u,.int 1 v] }
 | .frz o u=>h.get? a=some o/\jk H h a u
 | .tbl ps=>h.get? a=some { cls:=.none,data:=.fields ps }
 | .met f x=>h.get? a=some (R1 (.ref f) (.ref x))
 | .ext φ=>φ h/\(∃o,h.get? a=some o)/\∀h1 h2:Heap,φ h1->(∀o,h1.get? a=some o->h2.get? a=some o)->φ h2
def HOk (H:Hp)(h:Heap):Prop:=∀a o,H a=some o->jk P w H h a o
end
section
variable {P:Xn}{w:WW}{H H':Hp}{h h':Heap}{a:Addr}{o:HO}
theorem jk.lt (x:jk P w H h a o):a<h.objs.size:=by
 cases o with
 | lst xs=>obtain⟨_,_,_,_,e⟩:=x;exact XH e
 | tup xs=>obtain⟨_,_,_,p⟩:=x;exact p.lt
 | dK kvs=>obtain⟨_,_,_,_,o,_,_,e,_⟩:=x;exact XH e
 | dT kvs=>obtain⟨_,_,_,_,o,_,_,e,_⟩:=x;exact XH e
 | set S n=>obtain⟨o,_,_,_,e,_⟩:=x;exact XH e
 | ins C dx fs=>obtain⟨_,_,_,e,_⟩:=x;exact XH e
 | own y=>obtain⟨_,e⟩:=x;exact XH e
 | xd fs=>obtain⟨_,⟨_,_,_,e,_⟩,_⟩:=x;exact XH e
 | rng lo hi=>obtain⟨_,_,_,e⟩:=x;exact XH e
 | frz ob u=>obtain⟨e,_⟩:=x;exact XH e
 | tbl ps=>exact XH (show h.get? a=some _ from x)
 | met f y=>exact XH (show h.get? a=some _ from x)
 | ext φ=>obtain⟨_,⟨_,e⟩,_⟩:=x;exact XH e
theorem Paired.mapP {α β:Type}{F G:α->β->Prop}:∀{l₁:List α} {l₂:List β},Xj F l₁ l₂->(∀a b,F a b->G a b)->Xj G l₁ l₂
 | _,_,.nil,_=>.nil
 | _,_,.cons r t,f=>.cons (f _ _ r) (Paired.mapP t f)
theorem Paired.imp' {α β:Type}{F G:α->β->Prop}(f:∀a b,F a b->G a b){l₁:List α}{l₂:List β}(r:Xj F l₁ l₂):Xj G l₁ l₂:=Paired.mapP r f
theorem jk.stay (x:jk P w H h a o)(k:∀b u,(b=a\/H b=some (.own a))->h.get? b=some u->h'.get? b=some u)
  (ho:∀b,H b=some (.own a)->H' b=some (.own a)) (ht:∀b xs,H b=some (.tup xs)->H' b=some (.tup xs)):jk P w H' h' a o:=by
 induction o with
 | lst xs=>obtain⟨z,its,n,r,e⟩:=x;exact⟨z,its,n,r,k _ _ (.inl rfl) e⟩
 | tup xs=>obtain⟨z,its,r,ob,e,c⟩:=x;exact⟨z,its,r,ob,k _ _ (.inl rfl) e,c⟩
 | dK kvs=>obtain⟨z,y,vs,r,ob,es,ep,e,c⟩:=x;exact⟨z,y,vs,r,ob,es,ep,k _ _ (.inl rfl) e,c⟩
 | dT kvs =>
  obtain⟨z,y,xs,r,ob,es,ep,e,c⟩:=x;exact⟨z,y,xs,Paired.mapP r fun p q z=>⟨z.1,ht _ _ z.2.1,z.2.2⟩,ob,es,ep,k _ _ (.inl rfl) e,c⟩
 | set S n=>obtain⟨ob,es,ep,t,e,c⟩:=x;exact⟨ob,es,ep,t,k _ _ (.inl rfl) e,c⟩
 | ins C dx fs =>
  obtain⟨d,z,ne,e,mA,⟨od,es,ep,e2,c⟩,r⟩:=x;exact⟨ho _ d,z,ne,k _ _ (.inl rfl) e,mA,⟨od,es,ep,k _ _ (.inr d) e2,c⟩,r⟩
 | own y=>obtain⟨ob,e⟩:=x;exact⟨ob,k _ _ (.inl rfl) e⟩
 | xd fs=>obtain⟨mA,⟨od,es,ep,e,c⟩,r⟩:=x;exact⟨mA,⟨od,es,ep,k _ _ (.inl rfl) e,c⟩,r⟩
 | rng lo hi=>obtain⟨t,u,v,e⟩:=x;exact⟨t,u,v,k _ _ (.inl rfl) e⟩
 | frz ob u ih=>obtain⟨e,q⟩:=x;exact⟨k _ _ (.inl rfl) e,ih q⟩
 | tbl ps =>
  have e:h.get? a=some { cls:=.none,data:=.fields ps }:=x;show h'.get? a=some { cls:=.none,data:=.fields ps };exact k a _ (.inl rfl) e
 | met f y =>
  have e:h.get? a=some (R1 (.ref f) (.ref y)):=x;show h'.get? a=some (R1 (.ref f) (.ref y));exact k a _ (.inl rfl) e
 | ext φ=>obtain⟨p,⟨o,e⟩,st⟩:=x;exact⟨st _ _ p fun o q=>k _ _ (.inl rfl) q,⟨o,k _ _ (.inl rfl) e⟩,st⟩
theorem HOk.lt (x:HOk P w H h)(e:H a=some o):a<h.objs.size:=(x a o e).lt
theorem HOk.fresh (x:HOk P w H h)(e:h.objs.size<=a):H a=none:=by
 cases q:H a with
 | none=>rfl
 | some u=>exact absurd (Xq (x.lt q) e) (Wb _)
theorem HOk.kept (x:HOk P w H h)(k:∀b u,h.get? b=some u->h'.get? b=some u):HOk P w H h':=fun a o e =>
 (x a o e).stay (fun b u _ q=>k b u q) (fun _ q=>q) fun _ _ q=>q
theorem HOk.laid (x:HOk P w H h)(k:∀b u,h.get? b=some u->h'.get? b=some u)(hp:h.objs.size<=a)(new:jk P w (upd H a o) h' a o):HOk P w (upd H a o) h':=fun b u e=>by
 have hn:=x.fresh hp;by_cases hb:b=a
 ·subst hb;rw[zb] at e;cases e;exact new
 ·rw[zk hb] at e;exact(x b u e).stay (fun c v _ q=>k c v q) (fun c q=>by rw[zk (zj q hn)];exact q) fun c xs q=>by rw[zk (zj q hn)];exact q
end
def Rd (H:Hp)(a:Addr)(u:HO):Prop:=H a=some u\/∃o,H a=some (.frz o u)
theorem Rd.ok {P:Xn}{w:WW}{H:Hp}{h:Heap}{a:Addr}{u:HO}(r:Rd H a u)(x:HOk P w H h):jk P w H h a u:=by
 rcases r with r | ⟨o,r⟩
 ·exact x a u r
 ·obtain⟨_,q⟩:=x a _ r;exact q
def Mut:Option HO->Prop
 | some (.lst _)=>True
 | some (.dK _)=>True
 | some (.dT _)=>True
 | some (.set _ _)=>True
 | some (.ins _ _ _)=>True
 | some (.ext _)=>True
 | _=>False
section
variable {P:Xn}{w:WW}{H:Hp}{h h':Heap}{x e:Addr}{o':HO}
theorem HOk.write (ok:HOk P w H h)(mu:Mut (H x))(he:e=x\/H e=some (.own x))(k:∀b u,b≠e->h.get? b=some u->h'.get? b=some u)(heo:∃u,h'.get? e=some u)
  (new:jk P w (upd H x o') h' x o'):HOk P w (upd H x o') h':=fun b u q=>by
 have nown:∀c y,H c=some (.own y)->c≠x:=fun c y r z=>by subst z;rw[r] at mu;exact mu
 have ntup:∀c xs,H c=some (.tup xs)->c≠x:=fun c xs r z=>by subst z;rw[r] at mu;exact mu
 by_cases hb:b=x
 ·subst hb;rw[zb] at q;cases q;exact new
 ·rw[zk hb] at q;by_cases hbe:b=e
  ·have q':H b=some (.own x):=by
    rcases he with z | z
    ·exact absurd (hbe.trans z) hb
    ·rw[hbe];exact z
   rw[q] at q';cases q';obtain⟨v,hv⟩:=heo;exact⟨v,by rw[hbe];exact hv⟩
  ·refine(ok b u q).stay (fun c v hc r=>k c v ?_ r) (fun c r=>by rw[zk (nown c b r)];exact r) fun c xs r=>by rw[zk (ntup c xs r)];exact r
   rcases hc with rfl | hc
   ·exact hbe
   ·rintro rfl;rcases he with z | z
    ·exact nown c b hc z
    ·rw[hc] at z;cases z;exact hb rfl
end
structure Un (fs ex:List Addr)(H H':Hp)(h h':Heap):Prop where
 keep:∀b o,h.get? b=some o->H b=none->b ∉ fs->b ∉ ex->h'.get? b=some o
 slot:∀b o,h.get? b=some o->H b=none->b∈fs->b ∉ ex->∃sl,h'.get? b=some { o with slots:=sl }
 free:∀b o,h.get? b=some o->H b=none->b ∉ ex->H' b=none
 there:∀b o,h.get? b=some o->b ∉ ex->∃o',h'.get? b=some o'
 tups:∀b xs,H b=some (.tup xs)->H' b=some (.tup xs)
 frzs:∀b o u,H b=some (.frz o u)->H' b=some (.frz o u)
 tbls:∀b ps,H b=some (.tbl ps)->∃more,H' b=some (.tbl (ps++more))
section
variable {fs fs' ex ex':List Addr}{H H1 H2:Hp}{h h1 h2 h':Heap}{a x e:Addr}{o:HO}
theorem Un.any (u:Un fs ex H H1 h h1){b:Addr}{ob:Obj}(q:h.get? b=some ob)(n:H b=none)(hx:b ∉ ex):∃sl,h1.get? b=some { ob with slots:=sl }:=by
 by_cases hb:b∈fs
 ·exact u.slot b ob q n hb hx
 ·exact⟨ob.slots,u.keep b ob q n hb hx⟩
theorem Un.kept (k:∀b u,h.get? b=some u->h'.get? b=some u):Un fs ex H H h h' :=
 ⟨fun b ob q _ _ _=>k b ob q,fun b ob q _ _ _=>⟨ob.slots,k b ob q⟩,fun _ _ _ n _=>n,fun b ob q _=>⟨ob,k b ob q⟩,fun _ _ q=>q,fun _ _ _ q=>q,fun _ ps q=>⟨#[],by rw[q];simp⟩⟩
theorem Un.refl:Un fs ex H H h h:=Un.kept fun _ _ q=>q
theorem Un.laid (k:∀b u,h.get? b=some u->h'.get? b=some u)(hp:h.objs.size<=a)(hn:H a=none):Un fs ex H (upd H a o) h h' where
 keep:=fun b u q _ _ _=>k b u q
 slot:=fun b u q _ _ _=>⟨u.slots,k b u q⟩
 free:=fun b u q n _=>by rw[zk (Xi (Xq (XH q) hp))];exact n
 there:=fun b u q _=>⟨u,k b u q⟩
 tups:=fun b xs q=>by rw[zk (zj q hn)];exact q
 frzs:=fun b u xs q=>by rw[zk (zj q hn)];exact q
 tbls:=fun b ps q=>⟨#[],by rw[zk (zj q hn),q];simp⟩
theorem Un.write (mu:Mut (H x))(he:e=x\/H e=some (.own x))(k:∀b u,b≠e->h.get? b=some u->h'.get? b=some u)(heo:∃u,h'.get? e=some u):Un fs ex H (upd H x o) h h':=by
 have hx:∀b,H b=none->b≠x:=fun b n z=>by subst z;rw[n] at mu;exact mu
 have hb:∀b,H b=none->b≠e:=fun b n z=>by
  subst z;rcases he with r | r
  ·exact hx b n r
  ·rw[n] at r;cases r
 have hm:∀b u,H b=some u->¬ Mut (some u)->b≠x:=fun b u q nm z=>by subst z;rw[q] at mu;exact nm mu
 refine⟨fun b u q n _ _=>k b u (hb b n) q,fun b u q n _ _=>⟨u.slots,k b u (hb b n) q⟩,fun b u q n _=>by rw[zk (hx b n)];exact n,fun b u q _=>?_,
  fun b xs q=>by rw[zk (hm b _ q fun z=>z)];exact q,fun b u xs q=>by rw[zk (hm b _ q fun z=>z)];exact q,fun b ps q=>⟨#[],by rw[zk (hm b _ q fun z=>z),q];simp⟩⟩
 by_cases hbe:b=e
 ·subst hbe;exact heo
 ·exact⟨u,k b u hbe q⟩
end
def trk (h:Heap)(H:Hp):List Addr:=(WC h.objs.size).filter fun a=>(H a).isSome
def zdK (h:Heap)(H:Hp):Heap:=PySem.W.hideAll h (trk h H)
theorem zic (h:Heap)(H:Hp):(zdK h H).objs.size=h.objs.size:=PySem.W.hideAll_size _ _
theorem zjn {h:Heap}{H:Hp}{b:Addr}{o:Obj}(e:h.get? b=some o)(n:H b=none):(zdK h H).get? b=some o :=
 TX _ e fun hm=>by
  have q:(H b).isSome=true:=(X9.mp hm).2;rw[n] at q;simp at q
theorem zlz {h:Heap}{H:Hp}{b:Addr}{o:Obj}(e:(zdK h H).get? b=some o):h.get? b=some o/\H b=none:=by
 have e':h.get? b=some o:=PySem.W.of_hideAll (trk h H) e;refine⟨e',?_⟩;cases q:H b with
 | none=>rfl
 | some x =>
  have hm:b∈trk h H:=X9.mpr ⟨Wz.mpr (XH e'),by simp[q]⟩;have z:(zdK h H).get? b=none:=PySem.W.hideAll_none (trk h H) hm;rw[z] at e;cases e
structure Mod (K:XT)(mg:Str->Option X8)(base:Heap):Prop where
 kin:K.In base
 glob:base.Ns XC mg
 blt:∃mb,base.Ns O2 mb/\∀x:Str,x ≠ "__name__"->mb x=Sv x
 nolimit:base.NoLimit
structure Cx where
 prog:Xn
 w:WW
 K:XT
 mg:Str->Option X8
 base:Heap
 A:WM
 N:List Str
 s₀:X6
 H₀:Hp
 env:Env
 outer:List Env
 stack:List Env
 ex:List Addr
 fn:Str->Bool
 calm:Bool
 pn:List (Addr×Obj)
 xe:X8->X6->Prop
def frs (l:List Env):List Addr:=l.filterMap (·.frame)
abbrev Cx.fs (X:Cx):List Addr:=frs X.outer
def Vis (sc:Ux)(x:Str):Prop:=sc.names.lookup x=some .local\/sc.names.lookup x=some .cell\/sc.names.lookup x=some .free
def Loc (sc:Ux)(x:Str):Prop:=sc.names.lookup x=some .local\/sc.names.lookup x=some .cell
def Look (env:Env)(h:Heap)(m:Str->Option X8)(x:Str)(u:X8):Prop :=
 (env.kindOf x=some .local/\m x=some u)\/((env.kindOf x=some .cell\/env.kindOf x=some .free)/\∃c,env.cells.lookup x=some c/\h.IsCell c (some u))
structure Cx.Ok (X:Cx):Prop where
 mod:Mod X.K X.mg X.base
 kind:X.env.scope.kind=.function
 glob:X.env.globals=XC
 blt:X.env.builtins=O2
 above:X.s₀.heap.objs.size<=X.env.locals
 inj:∀x y c,X.env.cells.lookup x=some c->X.env.cells.lookup y=some c->x=y
 has:∀x,(X.env.kindOf x=some .cell\/X.env.kindOf x=some .free)->∃c,X.env.cells.lookup x=some c
 cab:∀x c,X.fn x=true->X.env.cells.lookup x=some c->X.s₀.heap.objs.size<=c
 hd:X.calm=true->X.A.handled=none
 frames:X.A.frames=some X.stack
 stk:X.stack=X.outer\/(X.stack=X.env::X.outer/\X.env.frame=some X.env.locals)
 exf:∀b∈X.ex,b≠X.env.locals/\∀x c,X.env.cells.lookup x=some c->c≠b
 bs:∀b o,X.base.get? b=some o->X.s₀.heap.get? b=some o/\X.H₀ b=none
 bsz:X.base.objs.size<=X.s₀.heap.objs.size
 noex:∀b o,X.base.get? b=some o->b ∉ X.ex
 exfs:∀b∈X.ex,b ∉ X.fs
 funs:X.s₀.heap.FunFrames X.base X.outer
 frf:∀b∈X.fs,X.H₀ b=none
structure Inv (X:Cx)(pins:List (Addr×Obj))(σ:List (Option V))(H:Hp)(s:X6):Prop where
 ok:X.Ok
 os:s.os=X.s₀.os
 bare:SR s.gens
 base:Un X.fs X.ex X.H₀ H X.s₀.heap s.heap
 loc:∃m,s.heap.Ns X.env.locals m/\∀(i:Nat) (x:Str) (v:V),X.N[i]?=some x->σ[i]?=some (some v)->Vis X.env.scope x->∃u,RelV v u/\Look X.env s.heap m x u
 cell:∀x c,X.env.cells.lookup x=some c->∃v,s.heap.IsCell c v
 free:H X.env.locals=none
 zZ:∀x c,X.env.cells.lookup x=some c->H c=none
 pin:∀p∈X.pn++pins,s.heap.get? p.1=some p.2/\H p.1=none/\p.1≠X.env.locals/\p.1 ∉ X.fs/\∀v,p.2.data ≠ .cell v
 hok:HOk X.prog X.w H s.heap
 len:σ.length=X.N.length
section
variable {X:Cx}{pins:List (Addr×Obj)}{σ:List (Option V)}{H H':Hp}{s:X6}{h':Heap}
theorem Cx.Ok.nofr (ok:X.Ok){b:Addr}{o:Obj}(e:X.base.get? b=some o):b ∉ X.fs:=fun hb=>by
 have:=(ok.funs.mem hb).1;rw[e] at this;cases this
theorem Inv.bs (I:Inv X pins σ H s):∀b o,X.base.get? b=some o->s.heap.get? b=some o/\H b=none:=fun b o e =>
 ⟨I.base.keep b o (I.ok.bs b o e).1 (I.ok.bs b o e).2 (I.ok.nofr e) (I.ok.noex b o e),I.base.free b o (I.ok.bs b o e).1 (I.ok.bs b o e).2 (I.ok.noex b o e)⟩
theorem Inv.bk (I:Inv X pins σ H s):∀b o,X.base.get? b=some o->s.heap.get? b=some o:=fun b o e=>(I.bs b o e).1
theorem Inv.mod (I:Inv X pins σ H s):Mod X.K X.mg X.base:=I.ok.mod
theorem Inv.kIn (I:Inv X pins σ H s):X.K.In s.heap:=I.ok.mod.kin.keeps I.bk
theorem Inv.lt (I:Inv X pins σ H s):X.env.locals<s.heap.objs.size:=let ⟨_,hn,_⟩:=I.loc;hn.lt
theorem Inv.sz (I:Inv X pins σ H s):X.s₀.heap.objs.size<=s.heap.objs.size:=XX I.ok.above (Tk I.lt)
theorem Inv.nofs (I:Inv X pins σ H s){a:Addr}(h:s.heap.objs.size<=a):a ∉ X.fs:=fun hb=>by
 obtain⟨_,o,ho,_⟩:=I.ok.funs.mem hb;exact absurd (Xq (XH ho) (XX I.sz h)) (Wb _)
theorem Inv.cne (I:Inv X pins σ H s):∀x c,X.env.cells.lookup x=some c->c≠X.env.locals:=fun x c e z=>by
 obtain⟨v,o,ho,hd⟩:=I.cell x c e;obtain⟨m,⟨o',es,ep,ho',hd',_⟩,_⟩:=I.loc;rw[z,ho'] at ho;cases ho;rw[hd'] at hd;cases hd
theorem Inv.funs (I:Inv X pins σ H s):s.heap.FunFrames X.base X.outer:=by
 have all:∀(l:List Env),(∀b∈frs l,b∈X.fs)->X.s₀.heap.FunFrames X.base l->s.heap.FunFrames X.base l:=by
  intro l;induction l with
  | nil=>intro _ _;trivial
  | cons env r ih =>
   intro hs hl;obtain⟨hk,⟨L,o,hf,hn,ho,hd⟩,hr⟩:=hl;have hL:L∈X.fs:=hs L (by unfold frs;rw[Vh,hf];exact XW);obtain⟨sl,e⟩:=I.base.slot L o ho (I.ok.frf L hL) hL fun z=>I.ok.exfs L z hL;exact⟨hk,⟨L,_,hf,hn,e,hd⟩,ih (fun b hb=>hs b (by unfold frs;rw[Vh,hf];exact XR _ hb)) hr⟩
 exact all X.outer (fun _ hb=>hb) I.ok.funs
theorem Inv.stack (I:Inv X pins σ H s):s.heap.FunFrames X.base X.stack:=by
 rcases I.ok.stk with e | ⟨e,hf⟩
 ·rw[e];exact I.funs
 ·rw[e];obtain⟨m,hn,_⟩:=I.loc;refine .cons (by rw[I.ok.kind];decide) hf hn ?_ I.funs;exact UN (XX I.ok.bsz I.ok.above)
theorem Inv.stkSub (I:Inv X pins σ H s):∀b∈frs X.stack,b∈X.env.locals::X.fs:=fun b hb=>by
 rcases I.ok.stk with e | ⟨e,hf⟩
 ·rw[e] at hb;exact XR _ hb
 ·rw[e] at hb;unfold frs at hb;rw[Vh,hf] at hb;exact hb
theorem Inv.stkFree (I:Inv X pins σ H s):∀b∈frs X.stack,H b=none:=fun b hb=>by
 rcases XF.mp (I.stkSub b hb) with e | hb
 ·rw[e];exact I.free
 ·obtain⟨_,o,ho,_⟩:=I.ok.funs.mem hb;exact I.base.free b o ho (I.ok.frf b hb) fun z=>I.ok.exfs b z hb
theorem Inv.step {g':Array SJ}{t':Nat}{d':Drawn}{ch:List Addr}(I:Inv X pins σ H s)
  (hch:∀b∈ch,(b∈X.ex\/X.s₀.heap.objs.size<=b)/\b≠X.env.locals/\(∀x c,X.env.cells.lookup x=some c->c≠b)/\∀p∈X.pn++pins,p.1≠b)
  (keep:∀b o,b≠X.env.locals->b ∉ X.fs->b ∉ ch->s.heap.get? b=some o->H b=none->h'.get? b=some o)
  (slot:∀b o,b≠X.env.locals->b∈X.fs->b ∉ ch->s.heap.get? b=some o->H b=none->∃sl,h'.get? b=some { o with slots:=sl }) (free:∀b o,b ∉ ch->s.heap.get? b=some o->H b=none->H' b=none)
  (there:∀b o,b ∉ ch->s.heap.get? b=some o->∃o',h'.get? b=some o')
  (tups:∀b xs,H b=some (.tup xs)->H' b=some (.tup xs)) (frzs:∀b o u,H b=some (.frz o u)->H' b=some (.frz o u)) (tbls:∀b ps,H b=some (.tbl ps)->∃more,H' b=some (.tbl (ps++more)))
  (ns:∀m,s.heap.Ns X.env.locals m->h'.Ns X.env.locals m) (hok:HOk X.prog X.w H' h') (hg:SR g') :
  Inv X pins σ H' { s with heap:=h',gens:=g',drawn:=d',toks:=t' }:=by
 have neL:∀b o,X.s₀.heap.get? b=some o->b≠X.env.locals:=fun b o e=>Xi (Xq (XH e) I.ok.above);have neC:∀b o,X.s₀.heap.get? b=some o->b ∉ X.ex->b ∉ ch:=fun b o e hx hb=>by
  rcases(hch b hb).1 with z | z
  ·exact hx z
  ·exact absurd (Xq (XH e) z) (Wb _)
 have cellK:∀x c,X.env.cells.lookup x=some c->∀v,s.heap.IsCell c v->h'.IsCell c v:=fun x c e v ⟨o,ho,hd⟩=>by
  have nch:c ∉ ch:=fun z=>(hch c z).2.2.1 x c e rfl;by_cases hc:c∈X.fs
  ·obtain⟨sl,q⟩:=slot c o (I.cne x c e) hc nch ho (I.zZ x c e);exact⟨_,q,hd⟩
  ·exact⟨o,keep c o (I.cne x c e) hc nch ho (I.zZ x c e),hd⟩
 refine⟨I.ok,I.os,hg,⟨fun b o e n hb hx=>?_,fun b o e n hb hx=>?_,fun b o e n hx=>?_,fun b o e hx=>?_,fun b xs e=>tups b xs (I.base.tups b xs e),fun b o xs e=>frzs b o xs (I.base.frzs b o xs e),fun b ps e=>?_⟩,?_,fun x c e=>?_,?_,fun x c e=>?_,fun p hp=>?_,hok,I.len⟩
 ·exact keep b o (neL b o e) hb (neC b o e hx) (I.base.keep b o e n hb hx) (I.base.free b o e n hx)
 ·obtain⟨sl,e1⟩:=I.base.slot b o e n hb hx;obtain⟨sl',e2⟩:=slot b _ (neL b o e) hb (neC b o e hx) e1 (I.base.free b o e n hx);exact⟨sl',e2⟩
 ·obtain⟨o',e1⟩:=I.base.there b o e hx;exact free b o' (neC b o e hx) e1 (I.base.free b o e n hx)
 ·obtain⟨o',e1⟩:=I.base.there b o e hx;exact there b o' (neC b o e hx) e1
 ·obtain⟨m1,e1⟩:=I.base.tbls b ps e;obtain⟨m2,e2⟩:=tbls b _ e1;exact⟨m1++m2,by rw[e2,Array.append_assoc]⟩
 ·obtain⟨m,hn,hl⟩:=I.loc;refine⟨m,ns m hn,fun i x v e1 e2 e3=>?_⟩;obtain⟨u,r,l⟩:=hl i x v e1 e2 e3;refine⟨u,r,?_⟩;rcases l with l | ⟨k,c,e,z⟩
  ·exact .inl l
  ·exact .inr ⟨k,c,e,cellK x c e _ z⟩
 ·obtain⟨v,z⟩:=I.cell x c e;exact⟨v,cellK x c e v z⟩
 ·obtain⟨m,⟨o,_,_,ho,_⟩,_⟩:=I.loc;exact free _ o (fun z=>(hch _ z).2.1 rfl) ho I.free
 ·obtain⟨v,o,ho,hd⟩:=I.cell x c e;exact free c o (fun z=>(hch c z).2.2.1 x c e rfl) ho (I.zZ x c e)
 ·obtain⟨e,n,ne,nf,d⟩:=I.pin p hp;have nch:p.1 ∉ ch:=fun z=>(hch p.1 z).2.2.2 p hp rfl;exact⟨keep p.1 p.2 ne nf nch e n,free p.1 p.2 nch e n,ne,nf,d⟩
theorem Inv.un {t':Nat}(I:Inv X pins σ H s)(u:Un X.fs [] H H' s.heap h')(hok:HOk X.prog X.w H' h'):Inv X pins σ H' { s with heap:=h',toks:=t' }:=by
 obtain⟨m,⟨o,es,ep,ho,r⟩,_⟩:=id I.loc;obtain⟨sl,hL⟩:=u.any ho I.free (by simp);exact I.step (g':=s.gens) (d':=s.drawn) (ch:=[]) (fun _ z=>nomatch z) (fun b o _ hb _ e n=>u.keep b o e n hb (by simp)) (fun b o _ hb _ e n=>u.slot b o e n hb (by simp)) (fun b o _ e n=>u.free b o e n (by simp)) (fun b o _ e=>u.there b o e (by simp)) u.tups u.frzs u.tbls (fun m' hm=>by
  obtain⟨o',es',ep',ho',r'⟩:=hm;rw[ho] at ho';cases ho';exact⟨_,es',ep',hL,r'⟩) hok I.bare
theorem Inv.call {g':Array SJ}{t':Nat}{d':Drawn}{ch:List Addr}(I:Inv X pins σ H s)(u:Un (frs X.stack) ch H H' s.heap h')(hok:HOk X.prog X.w H' h')(hg:SR g')
  (hch:∀b∈ch,(b∈X.ex\/X.s₀.heap.objs.size<=b)/\b≠X.env.locals/\(∀x c,X.env.cells.lookup x=some c->c≠b)/\∀p∈X.pn++pins,p.1≠b) :
  Inv X pins σ H' { s with heap:=h',gens:=g',drawn:=d',toks:=t' }:=by
 obtain⟨m,⟨o,es,ep,ho,r⟩,_⟩:=id I.loc;obtain⟨sl,hL⟩:=u.any ho I.free fun z=>(hch _ z).2.1 rfl;exact I.step (ch:=ch) hch (fun b o hL hb hc e n=>u.keep b o e n (fun z=>(XF.mp (I.stkSub b z)).elim hL hb) hc) (fun b o _ _ hc e n=>u.any e n hc) (fun b o hc e n=>u.free b o e n hc) (fun b o hc e=>u.there b o e hc) u.tups u.frzs u.tbls (fun m' hm=>by
  obtain⟨o',es',ep',ho',r'⟩:=hm;rw[ho] at ho';cases ho';exact⟨_,es',ep',hL,r'⟩) hok hg
theorem Inv.turned {t':Nat}{it:Addr}(I:Inv X pins σ H s)(k:∀b o,b≠it->s.heap.get? b=some o->h'.get? b=some o)(hn:H it=none)(hL:it≠X.env.locals)
  (h1:it∈X.ex\/X.s₀.heap.objs.size<=it) (h2:∀x c,X.env.cells.lookup x=some c->c≠it) (h3:∀p∈X.pn++pins,p.1≠it):Inv X pins σ H { s with heap:=h',toks:=t' }:=by
 have nit:∀b u,H b=some u->b≠it:=fun b u e z=>by rw[z,hn] at e;cases e
 refine I.step (g':=s.gens) (d':=s.drawn) (ch:=[it]) (fun b hb=>?_) (fun b o _ _ hc e _=>k b o (fun z=>hc (by simp[z])) e) (fun b o _ _ hc e _=>⟨o.slots,k b o (fun z=>hc (by simp[z])) e⟩) (fun _ _ _ _ n=>n)
  (fun b o hc e=>⟨o,k b o (fun z=>hc (by simp[z])) e⟩) (fun _ _ e=>e) (fun _ _ _ e=>e) (fun b ps e=>⟨#[],by rw[e];simp⟩) (fun m hm=>?_) (fun b u e=>?_) I.bare
 ·have e:b=it:=by simpa using hb
  subst e;exact⟨h1,hL,h2,h3⟩
 ·obtain⟨o,es,ep,ho,r⟩:=hm;exact⟨o,es,ep,k _ o (Vd hL) ho,r⟩
 ·refine(I.hok b u e).stay (fun c v hc q=>k c v ?_ q) (fun _ q=>q) fun _ _ q=>q;rcases hc with z | z
  ·rw[z];exact nit b u e
  ·exact nit c _ z
theorem Inv.tok (I:Inv X pins σ H s)(t:Nat):Inv X pins σ H { s with toks:=t }:=I.un (h':=s.heap) (t':=t) Un.refl I.hok
theorem Inv.kept {t':Nat}(I:Inv X pins σ H s)(k:∀b u,s.heap.get? b=some u->h'.get? b=some u):Inv X pins σ H { s with heap:=h',toks:=t' }:=I.un (Un.kept k) (I.hok.kept k)
theorem Inv.laid {a:Addr}{o:HO}{t':Nat}(I:Inv X pins σ H s)(k:∀b u,s.heap.get? b=some u->h'.get? b=some u)(hp:s.heap.objs.size<=a)(new:jk X.prog X.w (upd H a o) h' a o) :
  Inv X pins σ (upd H a o) { s with heap:=h',toks:=t' }:=I.un (Un.laid k hp (I.hok.fresh hp)) (I.hok.laid k hp new)
theorem Inv.write {x e:Addr}{o:HO}{t':Nat}(I:Inv X pins σ H s)(mu:Mut (H x))(he:e=x\/H e=some (.own x))(k:∀b u,b≠e->s.heap.get? b=some u->h'.get? b=some u)(heo:∃u,h'.get? e=some u)
  (new:jk X.prog X.w (upd H x o) h' x o):Inv X pins σ (upd H x o) { s with heap:=h',toks:=t' }:=I.un (Un.write mu he k heo) (I.hok.write mu he k heo new)
theorem Inv.pins_of {pins':List (Addr×Obj)}(I:Inv X pins σ H s)(h:∀p∈pins',s.heap.get? p.1=some p.2/\H p.1=none/\p.1≠X.env.locals/\p.1 ∉ X.fs/\∀v,p.2.data ≠ .cell v):Inv X pins' σ H s :=
 ⟨I.ok,I.os,I.bare,I.base,I.loc,I.cell,I.free,I.zZ,fun p hp=>(XO.mp hp).elim (fun z=>I.pin p (W6 _ z)) (h p),I.hok,I.len⟩
theorem zez {N:List Str}(hN:N.Nodup){i j:Nat}{x:Str}(a:N[i]?=some x)(b:N[j]?=some x):i=j:=by
 obtain⟨h1,e1⟩:=X0.mp a;obtain⟨h2,e2⟩:=X0.mp b;exact(List.getElem_inj hN).mp (e1.trans e2.symm)
theorem zcT {M:Model}{A:WM}{E:X8->X6->Prop}{i:Nat}{x:Str}{v:V}{u:X8}{Q:Unit->X6->Prop}(I:Inv X pins σ H s)(hN:X.N.Nodup)(hi:X.N[i]?=some x)(hx:Loc X.env.scope x)(r:RelV v u)
  (h:∀s',Inv X pins (σ.set i (some v)) H s'->(∃a,V2 a s.heap s'.heap/\(a=X.env.locals\/X.env.cells.lookup x=some a))->Q () s') (hf:X.fn x=true\/X.env.scope.names.lookup x=some .local:=by first | exact .inl rfl | exact .inr rfl | assumption):Xg M A (storeName X.env x u) Q E s:=by
 obtain⟨m,hn,hl⟩:=id I.loc;have hcls:(X.env.scope.kind == .class || (X.env.scope.kind == .module&&X.env.locals != X.env.globals))=false:=by rw[I.ok.kind];rfl
 have hiσ:i < σ.length:=by rw[I.len];exact(X0.mp hi).1
 have cne:=I.cne;have tracked:∀{a:Addr} {h':Heap},(∃o,s.heap.get? a=some o/\H a=none)->V2 a s.heap h'->HOk X.prog X.w H h':=fun {a h'} ha hs b ob e=>by
  obtain⟨_,_,hfree⟩:=ha;refine(I.hok b ob e).stay (fun c w' hc q=>(hs.2 c ?_).trans q) (fun _ q=>q) fun _ _ q=>q;rintro rfl;rcases hc with rfl | hc
  ·rw[hfree] at e;cases e
  ·rw[hfree] at hc;cases hc
 rcases hx with hk | hk
 ·refine wpAny_storeName_local hk hn (fun h' hn' hs=>?_) hcls;obtain⟨oL,_,_,hoL,_⟩:=id hn;refine h _ ⟨I.ok,I.os,I.bare,⟨fun b o e n hb hx=>?_,fun b o e n hb hx=>?_,I.base.free,fun b o e hx=>?_,I.base.tups,I.base.frzs,I.base.tbls⟩,⟨_,hn',fun j y v' e1 e2 e3=>?_⟩,fun y c e=>?_,I.free,I.zZ,fun p hp=>?_,tracked ⟨oL,hoL,I.free⟩ hs,by simpa using I.len⟩ ⟨_,hs,.inl rfl⟩
  ·exact(hs.2 b (Xi (Xq (XH e) I.ok.above))).trans (I.base.keep b o e n hb hx)
  ·obtain⟨sl,e1⟩:=I.base.slot b o e n hb hx;exact⟨sl,(hs.2 b (Xi (Xq (XH e) I.ok.above))).trans e1⟩
  ·obtain⟨o',e1⟩:=I.base.there b o e hx;exact⟨o',(hs.2 b (Xi (Xq (XH e) I.ok.above))).trans e1⟩
  ·by_cases hj:j=i
   ·subst hj;rw[hi] at e1;cases e1;rw[Rm hiσ] at e2;cases e2;exact⟨u,r,.inl ⟨hk,by simp⟩⟩
   ·rw[PD (Vd hj)] at e2;obtain⟨u',r',q⟩:=hl j y v' e1 e2 e3;refine⟨u',r',?_⟩;rcases q with ⟨k,e⟩ | ⟨k,c,e,z⟩
    ·refine .inl ⟨k,?_⟩;have:y≠x:=fun e=>hj (zez hN e1 (e ▸ hi));simp[this,e]
    ·exact .inr ⟨k,c,e,z.sameBut hs (cne y c e)⟩
  ·obtain⟨w',z⟩:=I.cell y c e;exact⟨w',z.sameBut hs (cne y c e)⟩
  ·obtain⟨e,n,ne,nf,d⟩:=I.pin p hp;exact⟨(hs.2 p.1 ne).trans e,n,ne,nf,d⟩
 ·have hfn:X.fn x=true:=by
   rcases hf with z | z
   ·exact z
   ·rw[z] at hk;cases hk
  obtain⟨c,hc⟩:=I.ok.has x (.inl hk);obtain⟨w',z⟩:=I.cell x c hc;refine wpAny_storeName_cell I.ok.kind hk hc z (fun h' hc' hs=>?_);obtain⟨oc,hoc,hocd⟩:=id z;refine h { s with heap:=h' } ⟨I.ok,I.os,I.bare,⟨fun b o e n hb hx=>?_,fun b o e n hb hx=>?_,I.base.free,fun b o e hx=>?_,I.base.tups,I.base.frzs,I.base.tbls⟩,⟨m,hn.sameBut hs (Vd (cne x c hc)),fun j y v' e1 e2 e3=>?_⟩,fun y c' e=>?_,I.free,I.zZ,fun p hp=>?_,tracked ⟨oc,hoc,I.zZ x c hc⟩ hs,by simpa using I.len⟩ ⟨c,hs,.inr hc⟩
  ·exact(hs.2 b (Xi (Xq (XH e) (I.ok.cab x c hfn hc)))).trans (I.base.keep b o e n hb hx)
  ·obtain⟨sl,e1⟩:=I.base.slot b o e n hb hx;exact⟨sl,(hs.2 b (Xi (Xq (XH e) (I.ok.cab x c hfn hc)))).trans e1⟩
  ·obtain⟨o',e1⟩:=I.base.there b o e hx;exact⟨o',(hs.2 b (Xi (Xq (XH e) (I.ok.cab x c hfn hc)))).trans e1⟩
  ·by_cases hj:j=i
   ·subst hj;rw[hi] at e1;cases e1;rw[Rm hiσ] at e2;cases e2;exact⟨u,r,.inr ⟨.inl hk,c,hc,hc'⟩⟩
   ·rw[PD (Vd hj)] at e2;obtain⟨u',r',q⟩:=hl j y v' e1 e2 e3;refine⟨u',r',?_⟩;rcases q with q | ⟨k,c',e,z'⟩
    ·exact .inl q
    ·refine .inr ⟨k,c',e,z'.sameBut hs ?_⟩;rintro rfl;exact hj (zez hN e1 (I.ok.inj _ _ _ e hc ▸ hi))
  ·by_cases hcc:c'=c
   ·subst hcc;exact⟨_,hc'⟩
   ·obtain⟨w2,z2⟩:=I.cell y c' e;exact⟨w2,z2.sameBut hs hcc⟩
  ·obtain⟨e,n,ne,nf,d⟩:=I.pin p hp;refine⟨(hs.2 p.1 ?_).trans e,n,ne,nf,d⟩;intro q;rw[q,hoc] at e;have q':oc=p.2:=Option.some.inj e;exact d w' (by rw[<- q'];exact hocd)
theorem zeA {M:Model}{A:WM}{E:X8->X6->Prop}{i:Nat}{x:Str}{v:V}{u:X8}{Q:Unit->X6->Prop}(I:Inv X pins σ H s)(hN:X.N.Nodup)(hi:X.N[i]?=some x)(hx:Loc X.env.scope x)(r:RelV v u)
  (h:∀s',Inv X pins (σ.set i (some v)) H s'->Q () s') (hf:X.fn x=true\/X.env.scope.names.lookup x=some .local:=by first | exact .inl rfl | exact .inr rfl | assumption):Xg M A (storeName X.env x u) Q E s :=
 zcT I hN hi hx r (fun s' I' _=>h s' I') hf
theorem Inv.call' {s':X6}{ch:List Addr}(I:Inv X pins σ H s)(ho:s'.os=s.os)(u:Un (frs X.stack) ch H H' s.heap s'.heap)(hok:HOk X.prog X.w H' s'.heap)(hg:SR s'.gens)
  (hch:∀b∈ch,(b∈X.ex\/X.s₀.heap.objs.size<=b)/\b≠X.env.locals/\(∀x c,X.env.cells.lookup x=some c->c≠b)/\∀p∈X.pn++pins,p.1≠b):Inv X pins σ H' s':=by
 obtain⟨h',g',d',t',o'⟩:=s';have e:o'=s.os:=ho;subst e;exact I.call (g':=g') (t':=t') (d':=d') u hok hg hch
end
abbrev XK:=X8->Option Addr->Hp->Prop
abbrev St:=List (Option V)
abbrev VK:=V->Hp->Prop
abbrev TE:=St->Hp->VK->Prop
abbrev TT:=St->Hp->(Bool->Hp->Prop)->Prop
abbrev TA:=St->Hp->(List V->Hp->Prop)->Prop
structure Ends where
 nx:St->Hp->Prop
 rt:VK
 bk:St->Hp->Prop:=fun _ _=>False
 ct:St->Hp->Prop:=fun _ _=>False
abbrev TS:=Ends->St->Hp->Prop
def EP (X:Cx)(pins:List (Addr×Obj))(σ:St)(Q:VK)(u:X8)(s':X6):Prop:=∃v H',Inv X pins σ H' s'/\RelV v u/\Q v H'
def TP (X:Cx)(pins:List (Addr×Obj))(σ:St)(Q:Bool->Hp->Prop)(b:Bool)(s':X6):Prop:=∃H',Inv X pins σ H' s'/\Q b H'
def AP (X:Cx)(pins:List (Addr×Obj))(σ:St)(Q:List V->Hp->Prop)(us:List X8)(s':X6):Prop:=∃vs H',Inv X pins σ H' s'/\Vals vs us/\Q vs H'
def SP (X:Cx)(pins:List (Addr×Obj))(D:Ends)(f:Flow)(s':X6):Prop :=
 match f with
 | .next=>∃ σ' H',Inv X pins σ' H' s'/\D.nx σ' H'
 | .brk=>∃ σ' H',Inv X pins σ' H' s'/\D.bk σ' H'
 | .cont=>∃ σ' H',Inv X pins σ' H' s'/\D.ct σ' H'
 | .ret u=>∃v σ' H',Inv X pins σ' H' s'/\RelV v u/\D.rt v H'
def PE (X:Cx)(e:Expr)(t:TE):Prop :=
 ∀(pins:List (Addr×Obj)) (s:X6) (σ:St) (H:Hp) (Q:VK),Inv X pins σ H s->t σ H Q->Xg (Xk X.prog X.w) X.A (eval e X.env) (EP X pins σ Q) X.xe s
def PT (X:Cx)(e:Expr)(t:TT):Prop :=
 ∀(pins:List (Addr×Obj)) (s:X6) (σ:St) (H:Hp) (Q:Bool->Hp->Prop),Inv X pins σ H s->t σ H Q->Xg (Xk X.prog X.w) X.A (isTrue e X.env (eval e X.env)) (TP X pins σ Q) X.xe s
def PW (X:Cx)(e:Expr)(t:TT):Prop :=
 ∀(whole:Sem X8) (pins:List (Addr×Obj)) (s:X6) (σ:St) (H:Hp) (Q:Bool->Hp->Prop),Inv X pins σ H s->t σ H Q->Xg (Xk X.prog X.w) X.A (isTrue e X.env whole) (TP X pins σ Q) X.xe s
theorem PW.pt {X:Cx}{e:Expr}{t:TT}(h:PW X e t):PT X e t:=h _
def PA (X:Cx)(es:List Expr)(t:TA):Prop :=
 ∀(pos:Pos) (pins:List (Addr×Obj)) (s:X6) (σ:St) (H:Hp) (Q:List V->Hp->Prop),Inv X pins σ H s->t σ H Q->Xg (Xk X.prog X.w) X.A (spliced (TY pos (WH es X.env))) (AP X pins σ Q) X.xe s
def PS (X:Cx)(st:Stmt)(t:TS):Prop :=
 ∀(pins:List (Addr×Obj)) (s:X6) (σ:St) (H:Hp) (D:Ends),Inv X pins σ H s->t D σ H->Xg (Xk X.prog X.w) X.A (exec st X.env) (SP X pins D) X.xe s
def PSs (X:Cx)(st:List Stmt)(t:TS):Prop :=
 ∀(pins:List (Addr×Obj)) (s:X6) (σ:St) (H:Hp) (D:Ends),Inv X pins σ H s->t D σ H->Xg (Xk X.prog X.w) X.A (execs st X.env) (SP X pins D) X.xe s
theorem thn {α:Type}{t:Sem α}{Q Q':α->X6->Prop}{M:Model}{A:WM}{E:X8->X6->Prop}{s:X6}(h:Xg M A t Q E s)(hQ:∀a s,Q a s->Q' a s):Xg M A t Q' E s:=Wi h hQ fun _ _ x=>x
section
variable {X:Cx}
def zo5 (i:Nat):TE:=fun σ H Q=>∃v,σ[i]?=some (some v)/\Q v H
def tC (v:V):TE:=fun _ H Q=>Q v H
theorem znF {i:Nat}{x:Str}{pos:Pos}(hN:X.N[i]?=some x)(hv:Vis X.env.scope x)(hd:(x==("__debug__":Str))=false:=by decide)(hcd:(x==("__classdict__":Str))=false:=by decide):PE X (.Name x pos) (zo5 i):=by
 intro pins s σ H Q I h;obtain⟨v,e,h⟩:=h;obtain⟨m,hn,hl⟩:=I.loc;obtain⟨u,r,l⟩:=hl i x v hN e hv;have fin:EP X pins σ Q u s:=⟨v,H,I,r,h⟩;rcases l with ⟨hk,hm⟩ | ⟨hk,c,hc,hcell⟩
 ·exact wpAny_Name (wpAny_loadName_local I.ok.kind hk hn hm fin) hd
 ·rcases hk with hk | hk
  ·exact wpAny_Name (wpAny_loadName_cell I.ok.kind hk hc hcell fin) hd
  ·exact wpAny_Name (wpAny_loadName_free I.ok.kind hk hc hcell fin hcd) hd
theorem zg {i j pos}:PE X (.Constant (.int i) j pos) (tC (.int i)):=fun _ _ _ H _ I h=>wpAny_Constant_int ⟨.int i,H,I.tok _,⟨_,rfl⟩,h⟩
theorem zhd {b j pos}:PE X (.Constant (.bool b) j pos) (tC (.bl b)):=fun _ _ _ H _ I h=>Constant_bool ⟨.bl b,H,I,rfl,h⟩
theorem zjo {j pos}:PE X (.Constant .none j pos) (tC .non):=fun _ _ _ H _ I h=>Constant_none ⟨.non,H,I,rfl,h⟩
theorem jF {x j pos}:PE X (.Constant (.str x) j pos) (tC (.str x)):=fun _ _ _ H _ I h=>Calls.Constant_str ⟨.str x,H,I.tok _,⟨_,rfl⟩,h⟩
def Gl (X:Cx)(x:Str):Prop:=X.env.kindOf x=some .globalImplicit
theorem zdL {E:X8->X6->Prop}{pins:List (Addr×Obj)}{s:X6}{σ:St}{H:Hp}{x:Str}{u:X8}{pos:Pos}{Q:X8->X6->Prop}(I:Inv X pins σ H s)(hg:Gl X x)(hm:X.mg x=some u)(h:Q u s)
  (hd:(x==("__debug__":Str))=false:=by decide):Xg (Xk X.prog X.w) X.A (eval (.Name x pos) X.env) Q E s :=
 R9 I.ok.kind hg (Calls.loadGlobal_global (by rw[I.ok.glob];exact I.mod.glob.keeps I.bk) hm h) hd
theorem zao {E:X8->X6->Prop}{pins:List (Addr×Obj)}{s:X6}{σ:St}{H:Hp}{x:Str}{u:X8}{pos:Pos}{Q:X8->X6->Prop}(I:Inv X pins σ H s)(hg:Gl X x)(hm:X.mg x=none)(hv:Sv x=some u)(h:Q u s)
  (hn:x ≠ "__name__":=by decide) (hd:(x==("__debug__":Str))=false:=by decide):Xg (Xk X.prog X.w) X.A (eval (.Name x pos) X.env) Q E s:=by
 obtain⟨mb,h1,h2⟩:=I.mod.blt;exact R9 I.ok.kind hg (Calls.loadGlobal_builtin (by rw[I.ok.glob];exact I.mod.glob.keeps I.bk) hm (by rw[I.ok.blt];exact h1.keeps I.bk) ((h2 x hn).trans hv) h) hd
theorem xY {x:Str}{v:V}{u:X8}{pos:Pos}(hg:Gl X x)(hm:X.mg x=some u)(r:RelV v u)(hd:(x==("__debug__":Str))=false:=by decide):PE X (.Name x pos) (tC v) :=
 fun _ _ _ H _ I h=>zdL I hg hm ⟨v,H,I,r,h⟩ hd
variable {a b:Expr}{ta tb:TE}{pos:Pos}
def PC (X:Cx)(op:OH)(a b:Expr)(t:TE):Prop :=
 ∀(pins:List (Addr×Obj)) (s:X6) (σ:St) (H:Hp) (Q:VK),Inv X pins σ H s->t σ H Q ->
  Xg (Xk X.prog X.w) X.A (eval a X.env) (fun v s₁=>Xg (Xk X.prog X.w) X.A (eval b X.env) (fun u s₂=>Xg (Xk X.prog X.w) X.A (Wh op v u) (EP X pins σ Q) X.xe s₂) X.xe s₁) X.xe s
def tB (t:TE):TT:=fun σ H Q=>t σ H fun x H1=>∃c,x=.bl c/\Q c H1
theorem znG {op:OH}{t:TE}(h:PC X op a b t)(h1:TM op b=false:=by first | exact nobehind _ (by decide) (by decide) | rfl):PT X (.Compare a [op] [b] pos) (tB t):=by
 intro pins s σ H Q I hw;refine SZ (thn (h pins s σ H _ I hw) fun v s1 h1=>thn h1 fun u s2 h2=>thn h2 fun c s3 ⟨x,H1,I1,r1,q1⟩=>?_) h1;obtain⟨d,rfl,q⟩:=q1;cases r1;exact VO ⟨H1,I1,q⟩
variable {tA tB':TT}{rest:List Expr}
def zp4 (t u:TT):TT:=fun σ H Q=>t σ H fun c H1=>if c=true then u σ H1 Q else Q false H1
def zp5 (t:TT):TT:=fun σ H Q=>t σ H fun c H1=>Q (!c) H1
theorem zdM (ha:PT X a tA):PW X (.BoolOp .And [a] pos) tA:=by
 intro wh pins s σ H Q I h;refine isTrue_and (thn (ha pins s σ H Q I h) fun c s1 e=>?_);cases c with
 | true=>exact isTrue_and_nil e
 | false=>exact e
theorem zf6 (ha:PT X a tA)(hb:PW X (.BoolOp .And (b::rest) pos) tB'):PW X (.BoolOp .And (a::b::rest) pos) (zp4 tA tB'):=by
 intro wh pins s σ H Q I h;refine isTrue_and (thn (ha pins s σ H _ I h) fun c s1 ⟨H1,I1,q1⟩=>?_);cases c with
 | true=>exact hb wh pins s1 σ H1 Q I1 q1
 | false=>exact⟨H1,I1,q1⟩
theorem zf7 (ha:PT X a tA):PT X (.UnaryOp .Not a pos) (zp5 tA):=by
 intro pins s σ H Q I h;exact isTrue_not (ha pins s σ H (fun c H1=>Q (!c) H1) I h)
def zo6 (ta tb:TE):TE:=fun σ H Q=>ta σ H fun x H1=>∃c,x=.bl c/\if c=true then tb σ H1 Q else Q (.bl false) H1
theorem znH {op}{t:TE}(h:PE X a t):PE X (.BoolOp op [a] pos) t:=fun pins s σ H Q I hw=>BoolOp_one (h pins s σ H Q I hw)
theorem zjp (ha:PE X a ta)(hb:PE X (.BoolOp .And (b::rest) pos) tb):PE X (.BoolOp .And (a::b::rest) pos) (zo6 ta tb):=by
 intro pins s σ H Q I h;refine BoolOp_and (thn (ha pins s σ H _ I h) fun v s1 ⟨x,H1,I1,r1,q1⟩=>?_);obtain⟨c,rfl,q1⟩:=q1;cases r1;refine VO ?_;cases c with
 | true=>exact hb pins s1 σ H1 Q I1 q1
 | false=>exact⟨.bl false,H1,I1,rfl,q1⟩
def tIf (t:TT)(ta tb:TE):TE:=fun σ H Q=>t σ H fun c H1=>if c=true then ta σ H1 Q else tb σ H1 Q
theorem zjq {c:Expr}(hc:PT X c tA)(ha:PE X a ta)(hb:PE X b tb):PE X (.IfExp c a b pos) (tIf tA ta tb):=by
 intro pins s σ H Q I h;refine wpAny_IfExp (thn (hc pins s σ H _ I h) fun d s1 ⟨H1,I1,q1⟩=>?_);cases d with
 | true=>exact ha pins s1 σ H1 Q I1 q1
 | false=>exact hb pins s1 σ H1 Q I1 q1
end
def SqL (K:XT)(H:Hp)(a:Addr)(xs:List V):Prop :=
 Rd H a (.lst xs) \/
  ∃(o:Obj) (its:Array X8) (n:Nat),K.lookup a=some o/\o.cls=.type "list"/\o.dict=none/\o.data=.seq its n/\its.size<=Xx/\Vals xs its.toList
def SqT (K:XT)(H:Hp)(a:Addr)(xs:List V):Prop :=
 Rd H a (.tup xs) \/
  ∃(o:Obj) (its:Array X8) (n:Nat),K.lookup a=some o/\o.cls=.type "tuple"/\o.data=.seq its n/\its.size<=Xx/\Vals xs its.toList
def zp6:X8->Option V
 | .none=>some .non
 | .bool b=>some (.bl b)
 | .int i _=>some (.int i)
 | .str x _=>some (.str x)
 | .bytes b _=>some (.byt b)
 | .float b _=>some (.flt b)
 | .ref a=>some (.ref a)
 | .type n=>some (.ty n)
 | _=>none
theorem RelV.abs {x:V}{u:X8}(r:RelV x u):zp6 u=some x:=by
 cases x with
 | non=>cases r;rfl
 | bl _=>cases r;rfl
 | int _=>obtain⟨t,rfl⟩:=r;rfl
 | str _=>obtain⟨t,rfl⟩:=r;rfl
 | byt _=>obtain⟨t,rfl⟩:=r;rfl
 | flt _=>obtain⟨t,rfl⟩:=r;rfl
 | ref _=>cases r;rfl
 | ty _=>cases r;rfl
theorem RelV.inj {x y:V}{u:X8}(r:RelV x u)(q:RelV y u):x=y:=Option.some.inj (r.abs.symm.trans q.abs)
theorem Vals.inj:∀{xs ys:List V} {us:List X8},Vals xs us->Vals ys us->xs=ys
 | _,_,_,.nil,.nil=>rfl
 | _,_,_,.cons r t,.cons r' t'=>by rw[r.inj r',Vals.inj t t']
section
variable {X:Cx}{pins:List (Addr×Obj)}{σ:St}{H:Hp}{s:X6}{a:Addr}{xs ys:List V}
theorem SqL.of {K:XT}(h:H a=some (.lst xs)):SqL K H a xs:=.inl (.inl h)
theorem SqT.of {K:XT}(h:H a=some (.tup xs)):SqT K H a xs:=.inl (.inl h)
theorem Inv.list (I:Inv X pins σ H s)(h:SqL X.K H a xs):∃its:List X8,Vals xs its/\PlainL s.heap a its.toArray/\xs.length<=Xx:=by
 rcases h with h | ⟨o,its,n,hk,hc,hd,hs,hz,r⟩
 ·obtain⟨z,its,n,r,e⟩:=h.ok I.hok;exact⟨its,r,⟨_,n,e,rfl,rfl,rfl⟩,z⟩
 ·refine⟨its.toList,r,⟨o,n,I.kIn a o hk,hc,hd,by simpa using hs⟩,?_⟩;have e:=r.length;simp only[X5] at e;lia
theorem Inv.tuple (I:Inv X pins σ H s)(h:SqT X.K H a xs):∃its:List X8,Vals xs its/\OM s.heap a its.toArray/\xs.length<=Xx:=by
 rcases h with h | ⟨o,its,n,hk,hc,hs,hz,r⟩
 ·obtain⟨z,its,r,p⟩:=h.ok I.hok;exact⟨its,r,p,z⟩
 ·refine⟨its.toList,r,⟨o,I.kIn a o hk,hc,n,by simpa using hs⟩,?_⟩;have e:=r.length;simp only[X5] at e;lia
theorem Inv.list_inj (I:Inv X pins σ H s)(h:SqL X.K H a xs)(h':SqL X.K H a ys):xs=ys:=by
 obtain⟨its,r,⟨o,n,e,_,_,d⟩,_⟩:=I.list h;obtain⟨its',r',⟨o',n',e',_,_,d'⟩,_⟩:=I.list h';rw[e] at e';cases e';rw[d] at d';injection d' with d1 _
 have:its=its':=by simpa using congrArg Array.toList d1
 subst this;exact r.inj r'
end
abbrev Cx.wish (X:Cx)(E:X8->X6->Prop):Cx:={ X with xe:=E }
abbrev Cx.nox (X:Cx):Cx:=X.wish fun _ _=>False
theorem Cx.Ok.wish {X:Cx}(ok:X.Ok)(E:X8->X6->Prop):(X.wish E).Ok :=
 ⟨ok.mod,ok.kind,ok.glob,ok.blt,ok.above,ok.inj,ok.has,ok.cab,ok.hd,ok.frames,ok.stk,ok.exf,ok.bs,ok.bsz,ok.noex,ok.exfs,ok.funs,ok.frf⟩
theorem Cx.Ok.unwish {X:Cx}{E:X8->X6->Prop}(ok:(X.wish E).Ok):X.Ok :=
 ⟨ok.mod,ok.kind,ok.glob,ok.blt,ok.above,ok.inj,ok.has,ok.cab,ok.hd,ok.frames,ok.stk,ok.exf,ok.bs,ok.bsz,ok.noex,ok.exfs,ok.funs,ok.frf⟩
section
variable {X:Cx}{pins:List (Addr×Obj)}{σ:St}{H:Hp}{s:X6}{E:X8->X6->Prop}
theorem Inv.wish (I:Inv X pins σ H s)(E:X8->X6->Prop):Inv (X.wish E) pins σ H s:=⟨I.ok.wish E,I.os,I.bare,I.base,I.loc,I.cell,I.free,I.zZ,I.pin,I.hok,I.len⟩
theorem Inv.unwish (I:Inv (X.wish E) pins σ H s):Inv X pins σ H s:=⟨I.ok.unwish,I.os,I.bare,I.base,I.loc,I.cell,I.free,I.zZ,I.pin,I.hok,I.len⟩
theorem SP.unwish {D:Ends}{f:Flow}{s':X6}(h:SP (X.wish E) pins D f s'):SP X pins D f s':=by
 cases f with
 | next=>obtain⟨σ',H',I,q⟩:=h;exact⟨σ',H',I.unwish,q⟩
 | brk=>obtain⟨σ',H',I,q⟩:=h;exact⟨σ',H',I.unwish,q⟩
 | cont=>obtain⟨σ',H',I,q⟩:=h;exact⟨σ',H',I.unwish,q⟩
 | ret u=>obtain⟨v,σ',H',I,r,q⟩:=h;exact⟨v,σ',H',I.unwish,r,q⟩
theorem PSs.nox {st:List Stmt}{t:TS}(h:PSs X.nox st t):PSs X st t:=fun pins s σ H D I hw =>
 Wi (h pins s σ H D (I.wish _) hw) (fun _ _ q=>q.unwish) fun _ _ z=>Wd z
end
section
variable {X:Cx}{st:Stmt}{rest:List Stmt}{t u:TS}{e:Expr}{te:TE}{pos:Pos}
def zo7:TS:=fun D σ H=>D.nx σ H
def zp7 (t u:TS):TS:=fun D σ H=>t { D with nx:=u D } σ H
theorem qi:PSs X [] zo7:=fun _ _ σ H _ I h=>SE ⟨σ,H,I,h⟩
theorem ze (h1:PS X st t)(h2:PSs X rest u):PSs X (st::rest) (zp7 t u):=by
 intro pins s σ H D I h;refine RI (thn (h1 pins s σ H { D with nx:=u D } I h) fun f s1 q=>?_);cases f with
 | next =>
  obtain⟨σ',H',I',q⟩:=q;exact h2 pins s1 σ' H' D I' q
 | ret v=>exact q
 | brk=>exact q
 | cont=>exact q
theorem zh (h1:PS X st t):PSs X [st] t:=by
 intro pins s σ H D I h;refine RI (thn (h1 pins s σ H D I h) fun f s1 q=>?_);cases f with
 | next=>exact SE q
 | ret v=>exact q
 | brk=>exact q
 | cont=>exact q
theorem Inv.quiet {pins:List (Addr×Obj)}{σ:St}{H:Hp}{s:X6}(I:Inv X pins σ H s):interactive X.env=false:=by simp[interactive,I.ok.kind]
def zo8 (te:TE):TS:=fun D σ H=>te σ H fun _ H1=>D.nx σ H1
theorem jC (he:PE X e te)(hs:OQ e none pos.line X.env=pure false:=by rfl):PS X (.Expr e pos) (zo8 te):=by
 intro pins s σ H D I h;exact wpAny_Expr_any (thn (he pins s σ H _ I h) fun v s1 ⟨x,H1,I1,r1,q1⟩=>⟨σ,H1,I1,q1⟩) I.quiet hs
def zp8 (te:TE):TS:=fun D σ H=>te σ H D.rt
theorem zH (he:PE X e te):PS X (.Return (some e) pos) (zp8 te):=by
 intro pins s σ H D I h;exact wpAny_Return_some (thn (he pins s σ H _ I h) fun v s1 ⟨x,H1,I1,r1,q1⟩=>⟨x,σ,H1,I1,r1,q1⟩)
def zp9 (c:TT)(t u:TS):TS:=fun D σ H=>c σ H fun b H1=>if b=true then t D σ H1 else u D σ H1
theorem jg {c:Expr}{a b:List Stmt}{tc:TT}(hc:PT X c tc)(ha:PSs X a t)(hb:PSs X b u):PS X (.If c a b pos) (zp9 tc t u):=by
 intro pins s σ H D I h;refine wpAny_If (thn (hc pins s σ H _ I h) fun d s1 ⟨H1,I1,q1⟩=>?_);cases d with
 | true=>exact ha pins s1 σ H1 D I1 q1
 | false=>exact hb pins s1 σ H1 D I1 q1
def znI:TS:=fun _ _ _=>False
theorem zjr:PS X st znI:=fun _ _ _ _ _ _ h=>h.elim
end
abbrev TG:=V->St->Hp->(St->Hp->Prop)->Prop
abbrev TGs:=List V->St->Hp->(St->Hp->Prop)->Prop
def PG (X:Cx)(target:Expr)(t:TG):Prop :=
 ∀(pins:List (Addr×Obj)) (s:X6) (σ:St) (H:Hp) (v:V) (u:X8) (Q:St->Hp->Prop),Inv X pins σ H s->RelV v u->t v σ H Q ->
  Xg (Xk X.prog X.w) X.A (assign target X.env u) (fun _ s'=>∃ σ' H',Inv X pins σ' H' s'/\Q σ' H') X.xe s
def PGs (X:Cx)(ts:List Expr)(t:TGs):Prop :=
 ∀(pins:List (Addr×Obj)) (s:X6) (σ:St) (H:Hp) (vs:List V) (us:List X8) (Q:St->Hp->Prop),Inv X pins σ H s->Vals vs us->t vs σ H Q ->
  Xg (Xk X.prog X.w) X.A (assignInOrder ((TB ts X.env).map (·.2)) us) (fun _ s'=>∃ σ' H',Inv X pins σ' H' s'/\Q σ' H') X.xe s
abbrev znJ:=V->V->V->Hp->(Hp->Prop)->Prop
def zo9 (X:Cx)(t:znJ):Prop :=
 ∀(pins:List (Addr×Obj)) (s:X6) (σ:St) (H:Hp) (o i v:V) (ov iv u:X8) (Q:Hp->Prop),Inv X pins σ H s->RelV o ov->RelV i iv->RelV v u->t o i v H Q ->
  Xg (Xk X.prog X.w) X.A (setItem ov iv u) (fun _ s'=>∃H',Inv X pins σ H' s'/\Q H') X.xe s
abbrev TIp:=V->V->Hp->VK->Prop
def PIp (X:Cx)(op:Operator)(t:TIp):Prop :=
 ∀(pins:List (Addr×Obj)) (s:X6) (σ:St) (H:Hp) (x y:V) (v u:X8) (Q:VK),Inv X pins σ H s->RelV x v->RelV y u->t x y H Q ->
  Xg (Xk X.prog X.w) X.A (inplaceOp op v u) (EP X pins σ Q) X.xe s
section
variable {X:Cx}{pos:Pos}
def JO (i:Nat):TG:=fun v σ H Q=>Q (σ.set i (some v)) H
theorem zo {i:Nat}{x:Str}(hN:X.N.Nodup)(hi:X.N[i]?=some x)(hx:Loc X.env.scope x)(hf:X.fn x=true\/X.env.scope.names.lookup x=some .local:=by first | exact .inl rfl | exact .inr rfl | assumption):PG X (.Name x pos) (JO i):=by
 intro pins s σ H v u Q I r h;exact wpAny_assign_Name (zeA I hN hi hx r (fun s' I'=>⟨_,H,I',h⟩) hf)
def zqa:TGs:=fun vs σ H Q=>vs=[]/\Q σ H
def zpa (t:TG)(u:TGs):TGs:=fun vs σ H Q=>∃v r,vs=v::r/\t v σ H fun σ' H'=>u r σ' H' Q
theorem jD:PGs X [] zqa:=by
 intro pins s σ H vs us Q I r h;obtain⟨e,h⟩:=h;subst e;cases r;exact assignInOrder_nil ⟨σ,H,I,h⟩
theorem zM {e:Expr}{es:List Expr}{t:TG}{u:TGs}(h1:PG X e t)(h2:PGs X es u)
  (hs:(TB (e::es) X.env).map (·.2)=assign e X.env::(TB es X.env).map (·.2):=by rfl):PGs X (e::es) (zpa t u):=by
 intro pins s σ H vs us Q I r h;obtain⟨v,vr,e1,h⟩:=h;subst e1;cases r with
 | cons r rr =>
  rw[hs];refine assignInOrder_cons (thn (h1 pins s σ H _ _ _ I r h) fun _ s1 ⟨σ1,H1,I1,q1⟩=>?_);exact h2 pins s1 σ1 H1 _ _ Q I1 rr q1
def zpb (K:XT)(n:Nat)(t:TGs):TG:=fun v σ H Q=>∃a xs,v=.ref a/\SqT K H a xs/\xs.length=n/\t xs σ H Q
theorem yN {es:List Expr}{k:Nat}{t:TGs}{n:Nat}(hc:X.calm=true)(h:PGs X es t)
  (hn:(TB es X.env).length=n:=by rfl) (hst:(TB es X.env).findIdx? (·.1)=none:=by rfl):PG X (.Tuple es k pos) (zpb X.K n t):=by
 intro pins s σ H v u Q I r hw;obtain⟨a,xs,e1,hq,hl,hw⟩:=hw;subst e1;cases r;obtain⟨its,rv,ht,hz⟩:=I.tuple hq;refine assign_Tuple_tuple (I.ok.hd hc) ht (by simp[hn,<- hl,rv.length]) hst fun h' hx=>?_;have I1:Inv X pins σ H { s with heap:=h' }:=I.kept (t':=s.toks) fun b o e=>hx b o (Xi (XH e)) e;exact h pins _ σ H xs _ Q I1 (by simpa using rv) hw
def znK (te:TE)(g:TG):TS:=fun D σ H=>te σ H fun x H1=>g x σ H1 D.nx
theorem zdN {tg e:Expr}{te:TE}{g:TG}(he:PE X e te)(hg:PG X tg g)(hs:swapsWithSole [tg] e pos.line X.env=pure false:=by rfl)(hw:swappedStores [tg] e X.env=pure none:=by rfl)
  (h1:(TB [tg] X.env).map (·.2)=[assign tg X.env]:=by rfl):PS X (.Assign [tg] e pos) (znK te g):=by
 intro pins s σ H D I h;refine wpAny_Assign_stores (thn (he pins s σ H _ I h) fun v s1 ⟨x,H1,I1,r1,q1⟩=>?_) hs hw;rw[h1];exact thn (hg pins s1 σ H1 x v _ I1 r1 q1) fun _ s2 q=>q
theorem zz {i:Nat}{x:Str}{e:Expr}{te:TE}{pos':Pos}(hN:X.N.Nodup)(hi:X.N[i]?=some x)(hx:Loc X.env.scope x)(he:PE X e te)(hs:OQ e (some (.Name x pos')) pos.line X.env=pure false:=by rfl)(hf:X.fn x=true\/X.env.scope.names.lookup x=some .local:=by first | exact .inl rfl | exact .inr rfl | assumption) :
  PS X (.Assign [.Name x pos'] e pos) (znK te (JO i)):=by
 intro pins s σ H D I h;refine wpAny_Assign_Name (thn (he pins s σ H _ I h) fun v s1 ⟨y,H1,I1,r1,q1⟩=>?_) hs;exact zeA I1 hN hi hx r1 (fun s2 I2=>⟨_,H1,I2,q1⟩) hf
def zpc (to ti te:TE)(tget:V->V->Hp->VK->Prop)(tip:TIp)(tset:znJ):TS:=fun D σ H=>to σ H fun o H1=>ti σ H1 fun i H2=>tget o i H2 fun x H3=>te σ H3 fun y H4=>tip x y H4 fun z H5=>tset o i z H5 fun H6=>D.nx σ H6
def zpd (X:Cx)(t:V->V->Hp->VK->Prop):Prop :=
 ∀(pins:List (Addr×Obj)) (s:X6) (σ:St) (H:Hp) (o i:V) (ov iv:X8) (Q:VK),Inv X pins σ H s->RelV o ov->RelV i iv->t o i H Q ->
  Xg (Xk X.prog X.w) X.A (Po ov iv) (EP X pins σ Q) X.xe s
theorem zhe {o i e:Expr}{to ti te:TE}{tget:V->V->Hp->VK->Prop}{tip:TIp}{tset:znJ}{op:Operator}{tpos:Pos}(ho:PE X o to)(hi:PE X i ti)(hg:zpd X tget)(he:PE X e te)(hp:PIp X op tip)(hs:zo9 X tset)
  (ha:∀ov iv new,augStore i ov iv new=(do holding [new,ov,iv] (setItem ov iv new);release [new,ov,iv] [];pure .next):=by intros;rfl):PS X (.AugAssign (.Subscript o i tpos) op e pos) (zpc to ti te tget tip tset):=by
 intro pins s σ H D I h;refine wpAny_AugAssign_SubscriptAny (thn (ho pins s σ H _ I h) fun ov s1 ⟨x1,H1,I1,r1,q1⟩=>?_) ha;refine thn (hi pins s1 σ H1 _ I1 q1) fun iv s2 ⟨x2,H2,I2,r2,q2⟩=>?_;refine thn (hg pins s2 σ H2 x1 x2 ov iv _ I2 r1 r2 q2) fun old s3 ⟨x3,H3,I3,r3,q3⟩=>?_;refine thn (he pins s3 σ H3 _ I3 q3) fun v s4 ⟨x4,H4,I4,r4,q4⟩=>?_;refine thn (hp pins s4 σ H4 x3 x4 old v _ I4 r3 r4 q4) fun new s5 ⟨x5,H5,I5,r5,q5⟩=>?_;exact thn (hs pins s5 σ H5 x1 x2 x5 ov iv new _ I5 r1 r2 r5 q5) fun _ s6 ⟨H6,I6,q6⟩=>⟨σ,H6,I6,q6⟩
def ipI (f:Int->Int->Int):TIp:=fun x y H Q=>∃i j,x=.int i/\y=.int j/\Q (.int (f i j)) H
theorem zjs:PIp X .Add (ipI fun i j=>i+j):=by
 intro pins s σ H x y v u Q I r1 r2 h;obtain⟨i,j,e1,e2,q⟩:=h;subst e1;subst e2;obtain⟨t,rfl⟩:=r1;obtain⟨t',rfl⟩:=r2;exact iadd_int ⟨.int _,H,I.tok _,⟨_,rfl⟩,q⟩
end
section
variable {X:Cx}{pos:Pos}
def znL (c:TT)(tb:TS):TS:=fun D σ H=>∃W:Nat->St->Hp->Prop,(∃m,W m σ H)/\∀m σ H,W m σ H ->
 c σ H fun b H1=>if b=true then ∃N:St->Hp->Prop,(∀ σ' H',N σ' H'->∃m',m'<m/\W m' σ' H')/\tb { D with nx:=N,ct:=N,bk:=D.nx } σ H1 else D.nx σ H1
theorem zjt {c:Expr}{body:List Stmt}{tc:TT}{tb:TS}(hp:PassesOwn (Xk X.prog X.w) X.A X.env X.xe)(hc:PT X c tc)(hb:PSs X body tb):PS X (.While c body [] pos) (znL tc tb):=by
 intro pins s σ H D I h;obtain⟨W,⟨m0,w0⟩,turn⟩:=h;refine wpAny_While (codeAny_whileLoop (fun n s'=>∃ σ' H',Inv X pins σ' H' s'/\W n σ' H') ?_ m0 ⟨σ,H,I,w0⟩);rintro n s1 ⟨σ1,H1,I1,w1⟩;refine UW hp (thn (hc pins s1 σ1 H1 _ I1 (turn n σ1 H1 w1)) fun b s2 ⟨H2,I2,q2⟩=>?_);cases b with
 | true =>
  obtain⟨N,hN,q2⟩:=q2;rw[if_pos rfl];refine UW hp (thn (hb pins s2 σ1 H2 _ I2 q2) fun f s3 q3=>?_);cases f with
  | next =>
   obtain⟨σ3,H3,I3,n3⟩:=q3;obtain⟨m',hm,w3⟩:=hN σ3 H3 n3;exact⟨m',hm,σ3,H3,I3,w3⟩
  | cont =>
   obtain⟨σ3,H3,I3,n3⟩:=q3;obtain⟨m',hm,w3⟩:=hN σ3 H3 n3;exact⟨m',hm,σ3,H3,I3,w3⟩
  | brk=>exact q3
  | ret v=>exact q3
 | false =>
  rw[if_neg XV];exact SE ⟨σ1,H2,I2,q2⟩
end
structure It where
 go:Nat->Hp->Prop
 yld:Nat->Hp->V->Hp->Prop
 stop:Nat->Hp->Prop
def QF (X:Cx)(pins:List (Addr×Obj))(H:Hp)(b:Addr):Prop :=
 H b=none/\b≠X.env.locals/\b ∉ X.fs/\(b∈X.ex\/X.s₀.heap.objs.size<=b)/\(∀x c,X.env.cells.lookup x=some c->c≠b)/\∀p∈X.pn++pins,p.1≠b
theorem Inv.fpOk {X:Cx}{pins:List (Addr×Obj)}{σ:St}{H H':Hp}{s:X6}{b:Addr}(I:Inv X pins σ H s)(hb:s.heap.objs.size<=b)(hn:H' b=none):QF X pins H' b:=by
 refine⟨hn,T4 (Xq I.lt hb),I.nofs hb,.inr (XX I.sz hb),fun x c e z=>?_,fun p hp z=>?_⟩
 ·obtain⟨v,q⟩:=I.cell x c e;exact absurd (Xq q.lt (by rw[z];exact hb)) (Wb _)
 ·exact absurd (Xq (XH (I.pin p hp).1) (by rw[z];exact hb)) (Wb _)
structure Turn (P:Xn)(w:WW)(K:XT)(tg:Expr)(J:It)(fp:List Addr)(it:Addr)(tn:Nat->Heap->Prop):Prop where
 mem:it∈fp
 obj:∀i h,tn i h->∀b∈fp,∃o,h.get? b=some o/\∀v,o.data ≠ .cell v
 keep:∀i h h',tn i h->(∀b∈fp,∀o,h.get? b=some o->h'.get? b=some o)->tn i h'
 item:∀(X:Cx),X.prog=P->X.w=w->X.K=K->X.calm=true->∀(i:Nat) (pins:List (Addr×Obj)) (s:X6) (σ:St) (H:Hp) (E:X8->X6->Prop),Inv X pins σ H s->(∀b∈fp,QF X pins H b)->tn i s.heap->J.go i H ->
  Xg (Xk P w) X.A (Sk (.ref it)) (fun r s1=>∃u,r=some u /\
   Xg (Xk P w) X.A (SD tg (.ref it) u) (fun _ s2=>∃x H',Inv X pins σ H' s2/\RelV x u/\J.yld i H x H'/\tn (i+1) s2.heap/\∀b∈fp,H' b=none) E s1) E s
 done:∀(X:Cx),X.prog=P->X.w=w->X.K=K->X.calm=true->∀(i:Nat) (pins:List (Addr×Obj)) (s:X6) (σ:St) (H:Hp) (E:X8->X6->Prop),Inv X pins σ H s->(∀b∈fp,QF X pins H b)->tn i s.heap->J.stop i H ->
  Xg (Xk P w) X.A (Sk (.ref it)) (fun r s1=>r=none/\Inv X pins σ H s1) E s
 self:∀(A:WM) (i:Nat) (s:X6) (Q:X8->X6->Prop) (E:X8->X6->Prop),tn i s.heap->Q (.ref it) s->Xg (Xk P w) A (pyIter (.ref it)) Q E s
abbrev TI:=St->Hp->(It->Hp->Prop)->Prop
def PIE (X:Cx)(pins:List (Addr×Obj))(σ:St)(tg:Expr)(R:It->Hp->Prop)(itv:X8)(s2:X6):Prop :=
 ∃(it:Addr) (fp:List Addr) (tn:Nat->Heap->Prop) (J:It) (H':Hp),itv=.ref it/\Inv X pins σ H' s2/\Turn X.prog X.w X.K tg J fp it tn/\tn 0 s2.heap/\(∀b∈fp,QF X pins H' b)/\R J H'
def PI (X:Cx)(tg iter:Expr)(wi:TI):Prop :=
 ∀(pins:List (Addr×Obj)) (s:X6) (σ:St) (H:Hp) (R:It->Hp->Prop),Inv X pins σ H s->wi σ H R ->
  Xg (Xk X.prog X.w) X.A (eval iter X.env) (fun v s1=>Xg (Xk X.prog X.w) X.A (pyIter v) (PIE X pins σ tg R) X.xe s1) X.xe s
theorem zm1 {M:Model}{A:WM}{E:X8->X6->Prop}{s:X6}{tg:Expr}{it:Addr}{u:X8}{o:Obj}{n:String}{vs:Array X8}{Q:Unit->X6->Prop}(ho:s.heap.get? it=some o)(hc:o.cls=.type n)(hd:o.data=.fields vs)
    (hn:["enumerate","zip","dict_itemiterator","dict_reverseitemiterator","odict_iterator","itertools.zip_longest","itertools.pairwise"].contains n=false) (hQ:Q () s):Xg M A (SD tg (.ref it) u) Q E s:=by
  unfold SD;cases tg<;>first
    | exact XS hQ
    | (cases u<;>first
        | exact XS hQ
        | (refine ZB (wpAny_load ho ?_)
           rw[hc,hd]
           show Xg M A (if (["enumerate","zip","dict_itemiterator","dict_reverseitemiterator","odict_iterator","itertools.zip_longest","itertools.pairwise"].contains n&&vs[0]?==some (Ug _))=true then _ else _) Q E s
           rw[if_neg (by intro h;rw[hn,PL] at h;cases h)]
           exact XS hQ))
def Itl (K:XT)(a:Addr):It :=
 ⟨fun i H=>∃xs x,SqL K H a xs/\xs[i]?=some x,fun i H x H'=>H'=H/\∀xs,SqL K H a xs->xs[i]?=some x,fun i H=>∃xs,SqL K H a xs/\xs.length<=i⟩
def Itr (lo:Int)(n:Nat):It:=⟨fun i _=>i<n,fun i H x H'=>H'=H/\x=.int (lo+i),fun i _=>n<=i⟩
theorem zid {P:Xn}{w:WW}{K:XT}{tg:Expr}(a it:Addr):Turn P w K tg (Itl K a) [it] it (fun i h=>h.IsListIter it a i) where
 mem:=by simp
 obj:=fun i h st b hb=>by
  have e:b=it:=by simpa using hb
  subst e;obtain⟨o,e,c,d⟩:=st;exact⟨o,e,fun v z=>by rw[d] at z;cases z⟩
 keep:=fun i h h' st k=>st.at fun o e=>k it (by simp) o e
 item:=by
  intro X hP hw hK hc i pins s σ H E I hf st hg;subst hP hw hK;obtain⟨xs,x,hq,hx⟩:=hg;obtain⟨its,rv,p,hz⟩:=I.list hq;obtain⟨u,hu,ru⟩:=rv.get hx;obtain⟨f0,f1,f2,f3,f4,f5⟩:=hf it (by simp);refine wpAny_pyNext_list_item st p.isList (x:=u) (by simpa using hu) fun h' st' sb=>?_;have I1:Inv X pins σ H { s with heap:=h' }:=I.turned (t':=s.toks) (fun b o hb e=>(sb.2 b hb).trans e) f0 f1 f3 f4 f5;obtain⟨o,e,c,d⟩:=id st';exact⟨u,rfl,zm1 (s:={ s with heap:=h' }) e c d (by decide) ⟨x,H,I1,ru,⟨rfl,fun ys hy=>by rw[I.list_inj hy hq];exact hx⟩,st',fun b hb=>(hf b hb).1⟩⟩
 done:=by
  intro X hP hw hK hc i pins s σ H E I hf st hg;subst hP hw hK;obtain⟨xs,hq,hx⟩:=hg;obtain⟨its,rv,p,hz⟩:=I.list hq;obtain⟨f0,f1,f2,f3,f4,f5⟩:=hf it (by simp);have hl:=rv.length;exact wpAny_pyNext_list_end (I.ok.hd hc) st p.isList (by simp;lia) fun h' eb=>⟨rfl,I.turned (t':=s.toks) (fun b o hb e=>eb b o hb e) f0 f1 f3 f4 f5⟩
 self:=fun _ _ _ _ _ st h=>wpAny_pyIter_listiter st h
theorem zf8 {P:Xn}{w:WW}{K:XT}{tg:Expr}(it:Addr)(lo:Int)(n:Nat):Turn P w K tg (Itr lo n) [it] it (fun i h=>IsRangeIter h it (lo+(i:Nat)*1) ((n:Int)-(i:Nat)) 1) where
 mem:=by simp
 obj:=fun i h st b hb=>by
  have e:b=it:=by simpa using hb
  subst e;exact⟨_,st,fun v z=>by
   have z':Data.fields _=Data.cell v:=z;cases z'⟩
 keep:=fun i h h' st k=>k it (by simp) _ st
 item:=by
  intro X hP hw hK hc i pins s σ H E I hf st hg;subst hP hw hK;obtain⟨f0,f1,f2,f3,f4,f5⟩:=hf it (by simp);have W:=Walks.range (prog:=X.prog) (w:=X.w) (I.ok.hd hc) it lo 1 n;refine W.item i s _ _ hg st fun v h' tk hv st' kk=>?_;obtain⟨t,rfl⟩:=hv;have I1:Inv X pins σ H { s with heap:=h',toks:=tk }:=I.turned (fun b o hb e=>kk b o (by simpa using hb) e) f0 f1 f3 f4 f5;refine⟨_,rfl,zm1 (s:={ s with heap:=h',toks:=tk }) (n:="range_iterator") st' rfl rfl (by decide) ⟨.int (lo+i),H,I1,⟨t,?_⟩,⟨rfl,rfl⟩,st',fun b hb=>(hf b hb).1⟩⟩;rw[Int.mul_one]
 done:=by
  intro X hP hw hK hc i pins s σ H E I hf st hg;subst hP hw hK;obtain⟨f0,f1,f2,f3,f4,f5⟩:=hf it (by simp);exact wpAny_pyNext_range_end (I.ok.hd hc) st (by have:n<=i:=hg;lia) fun h' eb=>⟨rfl,I.turned (t':=s.toks) (fun b o hb e=>eb b o hb e) f0 f1 f3 f4 f5⟩
 self:=fun _ _ _ _ _ st h=>wpAny_pyIter_rangeiter st h
section
variable {X:Cx}{tg:Expr}
def zm2 (K:XT)(tl:TE):TI:=fun σ H R=>tl σ H fun x H1=>∃a,x=.ref a/\(∃xs,SqL K H1 a xs)/\R (Itl K a) H1
theorem zJ {l:Expr}{tl:TE}(hl:PE X l tl):PI X tg l (zm2 X.K tl):=by
 intro pins s σ H R I h;refine thn (hl pins s σ H _ I h) fun v s1 ⟨x,H1,I1,r1,q1⟩=>?_;obtain⟨a,e,⟨xs,hq⟩,q⟩:=q1;subst e;cases r1;obtain⟨its,rv,p,hz⟩:=I1.list hq;refine Te p.isList ?_;refine⟨s1.heap.objs.size,[s1.heap.objs.size],_,_,H1,rfl,I1.kept (t':=s1.toks) fun b o e=>XY _ e,zid a _,⟨_,W5 _ rfl,rfl,rfl⟩,fun b hb=>?_,q⟩;have e:b=s1.heap.objs.size:=by simpa using hb
 subst e;exact I1.fpOk (XU _) (I1.hok.fresh (XU _))
theorem zeB {pins:List (Addr×Obj)}{σ:St}{H:Hp}{s:X6}{R:It->Hp->Prop}{E:X8->X6->Prop}{lo hi:Int}{t u v:Tok}{tk:Nat}(I:Inv X pins σ H s)(h1:-(2^62)<=lo)(h2:lo<2^62)(h3:-(2^62)<=hi)(h4:hi<2^62)
  (q:R (Itr lo (hi-lo).toNat) H):Xg (Xk X.prog X.w) X.A (pyIter (.ref s.heap.objs.size)) (PIE X pins σ tg R) E { s with heap:=s.heap.push { cls:=.type "range",data:=.fields #[.int lo t,.int hi u,.int 1 v] },toks:=tk }:=by
 refine wpAny_pyIter_range (IsRange.new ..) (small_one h1 h2 h3 h4) ?_;have I1:Inv X pins σ H { s with heap:=s.heap.push { cls:=.type "range",data:=.fields #[.int lo t,.int hi u,.int 1 v] },toks:=tk }:=I.kept fun b o e=>XY _ e;refine⟨(s.heap.push { cls:=.type "range",data:=.fields #[.int lo t,.int hi u,.int 1 v] }).objs.size,[(s.heap.push { cls:=.type "range",data:=.fields #[.int lo t,.int hi u,.int 1 v] }).objs.size],_,_,H,rfl,
  I1.kept (t':=tk) fun b o e=>XY _ e,zf8 _ lo (hi-lo).toNat,?_,fun b hb=>?_,q⟩
 ·have e1:lo+((0:Nat):Int)*1=lo:=by simp
  have e2:(((hi-lo).toNat:Nat):Int)-((0:Nat):Int)=Builtin.Range.rangeSize lo hi 1:=by rw[rangeSize_one];split<;>lia
  show IsRangeIter _ _ (lo+((0:Nat):Int)*1) ((((hi-lo).toNat:Nat):Int)-((0:Nat):Int)) 1;rw[e1,e2];exact W5 _ rfl
 ·have e:b=(s.heap.push { cls:=.type "range",data:=.fields #[.int lo t,.int hi u,.int 1 v] }).objs.size:=by simpa using hb
  subst e;exact I1.fpOk (XU _) (I1.hok.fresh (XU _))
def zpe (ta:TA):TI:=fun σ H R=>ta σ H fun vs H1=>∃j:Int,vs=[.int j]/\-(2^62)<=j/\j<2^62/\R (Itr 0 j.toNat) H1
def zpf (ta:TA):TI:=fun σ H R=>ta σ H fun vs H1=>∃i j:Int,vs=[.int i,.int j]/\(-(2^62)<=i/\i<2^62/\-(2^62)<=j/\j<2^62)/\R (Itr i (j-i).toNat) H1
theorem qU {a:Expr}{ta:TA}{p pos:Pos}(hg:Gl X "range")(hm:X.mg "range"=none)(ha:PA X [a] ta)(hs:WH [a] X.env=[(false,eval a X.env)]:=by rfl):PI X tg (.Call (.Name "range" p) [a] [] pos) (zpe ta):=by
 intro pins s σ H R I h;refine Call_ (zao I hg hm boot_range (VG (thn (ha pos pins s σ H _ I h) fun us s1 ⟨vs,H1,I1,r1,q1⟩=>?_) hs rfl));obtain⟨j,e,q1,q2,q⟩:=q1;subst e;cases r1 with
 | cons r rr =>
  cases rr;obtain⟨t,rfl⟩:=r;exact call_range_1 (zeB I1 (by lia) (by lia) q1 q2 (by simpa using q))
theorem YF {a b:Expr}{ta:TA}{p pos:Pos}(hg:Gl X "range")(hm:X.mg "range"=none)(ha:PA X [a,b] ta)(hs:WH [a,b] X.env=[(false,eval a X.env),(false,eval b X.env)]:=by rfl)(hs2:WH [b] X.env=[(false,eval b X.env)]:=by rfl) :
  PI X tg (.Call (.Name "range" p) [a,b] [] pos) (zpf ta):=by
 intro pins s σ H R I h;refine Call_ (zao I hg hm boot_range (VG (thn (ha pos pins s σ H _ I h) fun us s1 ⟨vs,H1,I1,r1,q1⟩=>?_) (by rw[hs,hs2]) (by rw[hs2];rfl)));obtain⟨i,j,e,⟨q1,q2,q3,q4⟩,q⟩:=q1;subst e;cases r1 with
 | cons r rr =>
  cases rr with
  | cons r' rr =>
   cases rr;obtain⟨t,rfl⟩:=r;obtain⟨t',rfl⟩:=r';exact call_range_2 (zeB I1 q1 q2 q3 q4 q)
def zqb (wi:TI)(g:TG)(tb:TS):TS:=fun D σ H=>wi σ H fun J H1=>∃W:Nat->Nat->St->Hp->Prop,(∃m,W 0 m σ H1)/\∀i m σ H,W i m σ H ->
 (J.stop i H/\D.nx σ H)\/(J.go i H/\∃N:St->Hp->Prop,(∀ σ' H',N σ' H'->∃m',m'<m/\W (i+1) m' σ' H')/\∀x H',J.yld i H x H'->g x σ H' fun σ2 H2=>tb { D with nx:=N,ct:=N,bk:=D.nx } σ2 H2)
def Qg (fp:List Addr)(h:Heap):List (Addr×Obj):=fp.filterMap fun b=>(h.get? b).map fun o=>(b,o)
theorem jG {fp:List Addr}{h:Heap}{b:Addr}{o:Obj}(hb:b∈fp)(e:h.get? b=some o):(b,o)∈Qg fp h:=Tx.mpr ⟨b,hb,by rw[e];rfl⟩
theorem zie {fp:List Addr}{h:Heap}{p:Addr×Obj}(hp:p∈Qg fp h):p.1∈fp/\h.get? p.1=some p.2:=by
 obtain⟨b,hb,e⟩:=Tx.mp hp;cases q:h.get? b with
 | none=>rw[q] at e;cases e
 | some o =>
  rw[q] at e;have e':(b,o)=p:=Option.some.inj e;subst e';exact⟨hb,q⟩
theorem Inv.pinned {pins:List (Addr×Obj)}{σ:St}{H:Hp}{s:X6}{fp:List Addr}(I:Inv X pins σ H s)(hf:∀b∈fp,QF X pins H b)(ho:∀b∈fp,∃o,s.heap.get? b=some o/\∀v,o.data ≠ .cell v):Inv X (pins++Qg fp s.heap) σ H s :=
 I.pins_of fun p hp=>(XO.mp hp).elim (fun z=>I.pin p (Xy _ z)) fun z=>by
  obtain⟨hb,e⟩:=zie z;obtain⟨f0,f1,f2,_⟩:=hf p.1 hb;obtain⟨o,e',d⟩:=ho p.1 hb;rw[e] at e';cases e';exact⟨e,f0,f1,f2,d⟩
theorem Inv.unpinned {pins pl:List (Addr×Obj)}{σ:St}{H:Hp}{s:X6}(I:Inv X (pins++pl) σ H s):Inv X pins σ H s:=I.pins_of fun p hp=>I.pin p (Xy _ (W6 _ hp))
theorem qD {iter:Expr}{body:List Stmt}{wi:TI}{g:TG}{tb:TS}{pos:Pos}(hp:PassesOwn (Xk X.prog X.w) X.A X.env X.xe)(hc:X.calm=true)(hi:PI X tg iter wi)(hg:PG X tg g)(hb:PSs X body tb)
  (hs:∀x,Td iter X.env x=pure x:=by intro _;rfl):PS X (.For tg iter body [] pos) (zqb wi g tb):=by
 intro pins s σ H D I h;refine wpAny_For (thn (hi pins s σ H _ I h) fun v s1 h1=>thn h1 fun itv s2 h2=>?_) hs;obtain⟨it,fp,tn,J,H2,e,I2,T,st2,f2,W,⟨m0,w0⟩,turn⟩:=h2;subst e;have stat:∀{H':Hp},(∀b∈fp,H' b=none)->∀b∈fp,QF X pins H' b:=fun hn b hb=>⟨hn b hb,(f2 b hb).2⟩;refine codeAny_forLoop_any (fun n s'=>∃i σ' H',Inv X pins σ' H' s'/\tn i s'.heap/\(∀b∈fp,H' b=none)/\W i n σ' H') ?_ m0 ⟨0,σ,H2,I2,st2,fun b hb=>(f2 b hb).1,w0⟩;rintro n s3 ⟨i,σ3,H3,I3,st3,fr3,w3⟩;rcases turn i n σ3 H3 w3 with ⟨stop,qn⟩ | ⟨go,N,hN,step⟩
 ·refine UW hp (thn (T.done X rfl rfl rfl hc i pins s3 σ3 H3 X.xe I3 (stat fr3) st3 stop) fun r s4 ⟨hr,I4⟩=>?_);subst hr;exact SE ⟨σ3,H3,I4,qn⟩
 ·refine UW hp (thn (T.item X rfl rfl rfl hc i pins s3 σ3 H3 X.xe I3 (stat fr3) st3 go) fun r s4 ⟨u,hr,h4⟩=>?_);subst hr;refine UW hp (thn h4 fun _ s5 ⟨x,H5,I5,r5,y5,st5,fr5⟩=>?_);have I5':=I5.pinned (stat fr5) (T.obj _ _ st5);refine UW hp (thn (hg _ s5 σ3 H5 x u _ I5' r5 (step x H5 y5)) fun _ s6 ⟨σ6,H6,I6,q6⟩=>?_);refine UW hp (thn (hb _ s6 σ6 H6 _ I6 q6) fun f s7 q7=>?_);have R3:∀{σ7:St} {H7:Hp},Inv X (pins++Qg fp s5.heap) σ7 H7 s7->N σ7 H7->∃m,m<n/\∃i σ' H',Inv X pins σ' H' s7/\tn i s7.heap/\(∀b∈fp,H' b=none)/\W i m σ' H':=fun {σ7 H7} I7 n7=>by
   obtain⟨m',hm,w7⟩:=hN σ7 H7 n7;refine⟨m',hm,i+1,σ7,H7,I7.unpinned,T.keep _ _ _ st5 fun b hb o e=>(I7.pin (b,o) (Xy _ (Xy _ (jG hb e)))).1,fun b hb=>?_,w7⟩;obtain⟨o,e,d⟩:=T.obj _ _ st5 b hb;exact(I7.pin (b,o) (Xy _ (Xy _ (jG hb e)))).2.1
  cases f with
  | next=>obtain⟨σ7,H7,I7,n7⟩:=q7;exact R3 I7 n7
  | cont=>obtain⟨σ7,H7,I7,n7⟩:=q7;exact R3 I7 n7
  | brk=>obtain⟨σ7,H7,I7,q7⟩:=q7;exact⟨σ7,H7,I7.unpinned,q7⟩
  | ret v=>obtain⟨x7,σ7,H7,I7,r7,q7⟩:=q7;exact⟨x7,σ7,H7,I7.unpinned,r7,q7⟩
end
theorem xB {K:XT}{a:Addr}{xs:List V}{g:TG}{tb:TS}{D:Ends}{σ:St}{H:Hp}(Pv:Nat->St->Hp->Prop)(h0:Pv 0 σ H)(hl:∀i σ H,i<=xs.length->Pv i σ H->SqL K H a xs)
  (hs:∀i x σ H,xs[i]?=some x->Pv i σ H->g x σ H fun σ2 H2=>tb { D with nx:=Pv (i+1),ct:=Pv (i+1),bk:=D.nx } σ2 H2) (hd:∀ σ H,Pv xs.length σ H->D.nx σ H) :
  ∃W:Nat->Nat->St->Hp->Prop,(∃m,W 0 m σ H)/\∀i m σ H,W i m σ H ->
   ((Itl K a).stop i H/\D.nx σ H)\/((Itl K a).go i H/\∃N:St->Hp->Prop,(∀ σ' H',N σ' H'->∃m',m'<m/\W (i+1) m' σ' H')/\∀x H',(Itl K a).yld i H x H'->g x σ H' fun σ2 H2=>tb { D with nx:=N,ct:=N,bk:=D.nx } σ2 H2):=by
 refine⟨fun i m σ H=>m=xs.length-i/\i<=xs.length/\Pv i σ H,⟨xs.length,by simp,WZ _,h0⟩,?_⟩;rintro i m σ H ⟨rfl,hi,p⟩;have q:=hl i σ H hi p;by_cases hlt:i<xs.length
 ·refine .inr ⟨⟨xs,xs[i],q,by simp[hlt]⟩,Pv (i+1),fun σ' H' p'=>⟨xs.length-(i+1),by lia,rfl,hlt,p'⟩,fun x H' y=>?_⟩;obtain⟨e,y⟩:=y;subst e;exact hs i x σ _ (y xs q) p
 ·have e:i=xs.length:=by lia
  subst e;exact .inl ⟨⟨xs,q,XU _⟩,hd σ H p⟩
theorem qO {lo:Int}{n:Nat}{g:TG}{tb:TS}{D:Ends}{σ:St}{H:Hp}(Pv:Nat->St->Hp->Prop)(h0:Pv 0 σ H)
  (hs:∀i σ H,i<n->Pv i σ H->g (.int (lo+i)) σ H fun σ2 H2=>tb { D with nx:=Pv (i+1),ct:=Pv (i+1),bk:=D.nx } σ2 H2) (hd:∀ σ H,Pv n σ H->D.nx σ H) :
  ∃W:Nat->Nat->St->Hp->Prop,(∃m,W 0 m σ H)/\∀i m σ H,W i m σ H ->
   ((Itr lo n).stop i H/\D.nx σ H)\/((Itr lo n).go i H/\∃N:St->Hp->Prop,(∀ σ' H',N σ' H'->∃m',m'<m/\W (i+1) m' σ' H')/\∀x H',(Itr lo n).yld i H x H'->g x σ H' fun σ2 H2=>tb { D with nx:=N,ct:=N,bk:=D.nx } σ2 H2):=by
 refine⟨fun i m σ H=>m=n-i/\i<=n/\Pv i σ H,⟨n,by simp,WZ _,h0⟩,?_⟩;rintro i m σ H ⟨rfl,hi,p⟩;by_cases hlt:i<n
 ·refine .inr ⟨hlt,Pv (i+1),fun σ' H' p'=>⟨n-(i+1),by lia,rfl,hlt,p'⟩,fun x H' y=>?_⟩;obtain⟨e,y⟩:=y;subst e y;exact hs i σ _ hlt p
 ·have e:i=n:=by lia
  subst e;exact .inl ⟨XU _,hd σ H p⟩
abbrev R2:=V->V->Hp->VK->Prop
def OpR (X:Cx)(f:X8->X8->Sem X8)(r:R2):Prop :=
 ∀(pins:List (Addr×Obj)) (s:X6) (σ:St) (H:Hp) (x y:V) (v u:X8) (Q:VK),Inv X pins σ H s->RelV x v->RelV y u->r x y H Q ->
  Xg (Xk X.prog X.w) X.A (f v u) (EP X pins σ Q) X.xe s
def UnR (X:Cx)(f:X8->Sem X8)(r:V->Hp->VK->Prop):Prop :=
 ∀(pins:List (Addr×Obj)) (s:X6) (σ:St) (H:Hp) (x:V) (v:X8) (Q:VK),Inv X pins σ H s->RelV x v->r x H Q ->
  Xg (Xk X.prog X.w) X.A (f v) (EP X pins σ Q) X.xe s
def jR (X:Cx)(f:X8)(r:List V->Hp->VK->Prop):Prop :=
 ∀(pins:List (Addr×Obj)) (s:X6) (σ:St) (H:Hp) (xs:List V) (us:List X8) (Q:VK),Inv X pins σ H s->Vals xs us->r xs H Q ->
  Xg (Xk X.prog X.w) X.A (call f us) (EP X pins σ Q) X.xe s
def zqc (X:Cx)(r:V->Hp->(Bool->Hp->Prop)->Prop):Prop :=
 ∀(pins:List (Addr×Obj)) (s:X6) (σ:St) (H:Hp) (x:V) (v:X8) (Q:Bool->Hp->Prop),Inv X pins σ H s->RelV x v->r x H Q ->
  Xg (Xk X.prog X.w) X.A (truthy v) (TP X pins σ Q) X.xe s
def tOp (r:R2)(ta tb:TE):TE:=fun σ H Q=>ta σ H fun x H1=>tb σ H1 fun y H2=>r x y H2 Q
def tUn (r:V->Hp->VK->Prop)(ta:TE):TE:=fun σ H Q=>ta σ H fun x H1=>r x H1 Q
def rI (C:Int->Int->Prop)(g:Int->Int->V):R2:=fun x y H Q=>∃i j,x=.int i/\y=.int j/\C i j/\Q (g i j) H
def rI0 (g:Int->Int->V):R2:=fun x y H Q=>∃i j,x=.int i/\y=.int j/\Q (g i j) H
def rU (g:Int->V):V->Hp->VK->Prop:=fun x H Q=>∃i,x=.int i/\Q (g i) H
section
variable {X:Cx}{a b c:Expr}{ta tb tc:TE}{pos:Pos}
theorem znM (ha:PE X a ta)(hb:PE X b tb){pins:List (Addr×Obj)}{s:X6}{σ:St}{H:Hp}{R:V->V->Hp->Prop}(I:Inv X pins σ H s)
  (h:ta σ H fun x H1=>tb σ H1 fun y H2=>R x y H2) {Q:X8->X6->Prop} {f:X8->X8->Sem X8}
  (hf:∀v u s2 x y H2,Inv X pins σ H2 s2->RelV x v->RelV y u->R x y H2->Xg (Xk X.prog X.w) X.A (f v u) Q X.xe s2) :
  Xg (Xk X.prog X.w) X.A (eval a X.env) (fun v s₁=>Xg (Xk X.prog X.w) X.A (eval b X.env) (fun u s₂=>Xg (Xk X.prog X.w) X.A (f v u) Q X.xe s₂) X.xe s₁) X.xe s:=by
 refine thn (ha pins s σ H _ I h) fun v s1 ⟨x,H1,I1,r1,q1⟩=>?_;refine thn (hb pins s1 σ H1 _ I1 q1) fun u s2 ⟨y,H2,I2,r2,q2⟩=>?_;exact hf v u s2 x y H2 I2 r1 r2 q2
theorem zE {op:Operator}{r:R2}(ho:OpR X (Uo op) r)(ha:PE X a ta)(hb:PE X b tb):PE X (.BinOp a op b pos) (tOp r ta tb):=by
 intro pins s σ H Q I h;exact wpAny_BinOp (znM ha hb I h fun v u s2 x y H2 I2 rx ry q=>ho pins s2 σ H2 x y v u Q I2 rx ry q)
theorem zpg {op:UnaryOp}{r:V->Hp->VK->Prop}(ho:UnR X (unaryOp op) r)(ha:PE X a ta):PE X (.UnaryOp op a pos) (tUn r ta):=by
 intro pins s σ H Q I h;exact UnaryOp_ (thn (ha pins s σ H _ I h) fun v s1 ⟨x,H1,I1,r1,q1⟩=>ho pins s1 σ H1 x v Q I1 r1 q1)
theorem opI {f:X8->X8->Sem X8}{C:Int->Int->Prop}{g:Int->Int->Int}
  (rule:∀(i j:Int) (t u:Tok) (s:X6) (Q:X8->X6->Prop) (E:X8->X6->Prop),C i j->Q (.int (g i j) s.toks) { s with toks:=s.toks+1 }->Xg (Xk X.prog X.w) X.A (f (.int i t) (.int j u)) Q E s) :
  OpR X f (rI C fun i j=>.int (g i j)):=by
 intro pins s σ H x y v u Q I rx ry h;obtain⟨i,j,rfl,rfl,hc,q⟩:=h;obtain⟨t,rfl⟩:=rx;obtain⟨t',rfl⟩:=ry;exact rule i j t t' s _ _ hc ⟨.int (g i j),H,I.tok _,⟨_,rfl⟩,q⟩
theorem zph {f:X8->X8->Sem X8}{g:Int->Int->Int}
  (rule:∀(i j:Int) (t u:Tok) (s:X6) (Q:X8->X6->Prop) (E:X8->X6->Prop),Q (.int (g i j) s.toks) { s with toks:=s.toks+1 }->Xg (Xk X.prog X.w) X.A (f (.int i t) (.int j u)) Q E s) :
  OpR X f (rI0 fun i j=>.int (g i j)):=by
 intro pins s σ H x y v u Q I rx ry h;obtain⟨i,j,rfl,rfl,q⟩:=h;obtain⟨t,rfl⟩:=rx;obtain⟨t',rfl⟩:=ry;exact rule i j t t' s _ _ ⟨.int (g i j),H,I.tok _,⟨_,rfl⟩,q⟩
theorem znN {f:X8->X8->Sem X8}{g:Int->Int->Bool}
  (rule:∀(i j:Int) (t u:Tok) (s:X6) (Q:X8->X6->Prop) (E:X8->X6->Prop),Q (.bool (g i j)) s->Xg (Xk X.prog X.w) X.A (f (.int i t) (.int j u)) Q E s) :
  OpR X f (rI0 fun i j=>.bl (g i j)):=by
 intro pins s σ H x y v u Q I rx ry h;obtain⟨i,j,rfl,rfl,q⟩:=h;obtain⟨t,rfl⟩:=rx;obtain⟨t',rfl⟩:=ry;exact rule i j t t' s _ _ ⟨.bl (g i j),H,I,rfl,q⟩
theorem ZG:OpR X (Uo .Add) (rI0 fun i j=>.int (i+j)):=zph fun _ _ _ _ _ _ _ q=>add_int q
theorem J5:OpR X (Uo .Sub) (rI0 fun i j=>.int (i-j)):=zph fun _ _ _ _ _ _ _ q=>sub_int q
theorem yw:OpR X (Uo .Mod) (rI (fun _ j=>0<j) fun i j=>.int (i%j)):=opI fun i j _ _ _ _ _ hc q=>by
 have h1:(0:Int)<j:=hc;exact mod_int' (by lia) (by rw[Int.fmod_eq_emod_of_nonneg i (by lia)];exact q)
theorem unI {f:X8->Sem X8}{g:Int->Int}
  (rule:∀(i:Int) (t:Tok) (s:X6) (Q:X8->X6->Prop) (E:X8->X6->Prop),Q (.int (g i) s.toks) { s with toks:=s.toks+1 }->Xg (Xk X.prog X.w) X.A (f (.int i t)) Q E s) :
  UnR X f (rU fun i=>.int (g i)):=by
 intro pins s σ H x v Q I rx h;obtain⟨i,rfl,q⟩:=h;obtain⟨t,rfl⟩:=rx;exact rule i t s _ _ ⟨.int (g i),H,I.tok _,⟨_,rfl⟩,q⟩
theorem znO:UnR X (unaryOp .USub) (rU fun i=>.int (-i)):=unI fun _ _ _ _ _ q=>neg_int q
end
def zpi:V->V->Bool
 | .non,.non=>true | .non,.int _=>true | .int _,.non=>true | .non,.bl _=>true | .bl _,.non=>true | .non,.str _=>true | .str _,.non=>true
 | .int _,.int _=>true | .bl _,.bl _=>true | .str _,.str _=>true | .byt _,.byt _=>true
 | .int _,.str _=>true | .str _,.int _=>true | .bl _,.str _=>true | .str _,.bl _=>true
 | _,_=>false
def rEq:R2:=fun x y H Q=>zpi x y=true/\Q (.bl (decide (x=y))) H
def rNe:R2:=fun x y H Q=>zpi x y=true/\Q (.bl (!decide (x=y))) H
theorem zdO {i j:Int}:decide (V.int i=V.int j)=(i==j):=by
 rw[WV];simp
theorem zju {i j:Bool}:decide (V.bl i=V.bl j)=(i==j):=by
 rw[WV];simp
theorem zhf {i j:Str}:decide (V.str i=V.str j)=(i==j):=by
 rw[WV];simp
theorem zhg {i j:Array UInt8}:decide (V.byt i=V.byt j)=(i.toList==j.toList):=by
 rw[WV];cases i;cases j;simp
section
variable {X:Cx}{a b c:Expr}{ta tb tc:TE}{pos:Pos}
theorem qu {pins:List (Addr×Obj)}{σ:St}{H:Hp}{s:X6}{Q:VK}{k k':Bool}(I:Inv X pins σ H s)(q:Q (.bl k) H)(e:k=k'):EP X pins σ Q (.bool k') s:=by
 subst e;exact⟨.bl k,H,I,rfl,q⟩
theorem Zc:OpR X (Wh .Eq) rEq:=by
 intro pins s σ H x y v u Q I rx ry h;obtain⟨hs,q⟩:=h;cases x with
 | non =>
  cases rx;cases y with
  | non=>cases ry;exact PySem.EqNone.eq_none_none (qu I q (by simp))
  | bl j=>cases ry;exact PySem.EqNone.eq_none_bool (qu I q (by simp))
  | int j=>obtain⟨t',rfl⟩:=ry;exact PySem.EqNone.eq_none_int (qu I q (by simp))
  | str j=>obtain⟨t',rfl⟩:=ry;exact PySem.EqNone.eq_none_str (qu I q (by simp))
  | _=>exact absurd (show false=true from hs) XV
 | bl i =>
  cases rx;cases y with
  | non=>cases ry;exact PySem.EqNone.eq_bool_none (qu I q (by simp))
  | bl j=>cases ry;exact eq_bool (qu I q zju)
  | str j=>obtain⟨t',rfl⟩:=ry;exact PySem.EqMixed.eq_bool_str (qu I q (by simp))
  | _=>exact absurd (show false=true from hs) XV
 | int i =>
  obtain⟨t,rfl⟩:=rx;cases y with
  | non=>cases ry;exact PySem.EqNone.eq_int_none (qu I q (by simp))
  | int j=>obtain⟨t',rfl⟩:=ry;exact eq_int (qu I q zdO)
  | str j=>obtain⟨t',rfl⟩:=ry;exact PySem.EqMixed.eq_int_str (qu I q (by simp))
  | _=>exact absurd (show false=true from hs) XV
 | str i =>
  obtain⟨t,rfl⟩:=rx;cases y with
  | non=>cases ry;exact PySem.EqNone.eq_str_none (qu I q (by simp))
  | bl j=>cases ry;exact PySem.EqMixed.eq_str_bool (qu I q (by simp))
  | int j=>obtain⟨t',rfl⟩:=ry;exact PySem.EqMixed.eq_str_int (qu I q (by simp))
  | str j=>obtain⟨t',rfl⟩:=ry;exact eq_str (qu I q zhf)
  | _=>exact absurd (show false=true from hs) XV
 | byt i =>
  obtain⟨t,rfl⟩:=rx;cases y with
  | byt j=>obtain⟨t',rfl⟩:=ry;exact PySem.W.eq_bytes (qu I q zhg)
  | _=>exact absurd (show false=true from hs) XV
 | _=>cases y<;>exact absurd (show false=true from hs) XV
theorem zhh:OpR X (Wh .NotEq) rNe:=by
 intro pins s σ H x y v u Q I rx ry h;obtain⟨hs,q⟩:=h;cases x with
 | non =>
  cases rx;cases y with
  | non=>cases ry;exact PySem.EqNone.ne_none_none (qu I q (by simp))
  | bl j=>cases ry;exact PySem.EqNone.ne_none_bool (qu I q (by simp))
  | int j=>obtain⟨t',rfl⟩:=ry;exact PySem.EqNone.ne_none_int (qu I q (by simp))
  | str j=>obtain⟨t',rfl⟩:=ry;exact PySem.EqNone.ne_none_str (qu I q (by simp))
  | _=>exact absurd (show false=true from hs) XV
 | bl i =>
  cases rx;cases y with
  | non=>cases ry;exact PySem.EqNone.ne_bool_none (qu I q (by simp))
  | bl j=>cases ry;exact ne_bool (qu I q (congrArg not zju))
  | str j=>obtain⟨t',rfl⟩:=ry;exact PySem.EqMixed.ne_bool_str (qu I q (by simp))
  | _=>exact absurd (show false=true from hs) XV
 | int i =>
  obtain⟨t,rfl⟩:=rx;cases y with
  | non=>cases ry;exact PySem.EqNone.ne_int_none (qu I q (by simp))
  | int j=>obtain⟨t',rfl⟩:=ry;exact ne_int (qu I q (congrArg not zdO))
  | str j=>obtain⟨t',rfl⟩:=ry;exact PySem.EqMixed.ne_int_str (qu I q (by simp))
  | _=>exact absurd (show false=true from hs) XV
 | str i =>
  obtain⟨t,rfl⟩:=rx;cases y with
  | non=>cases ry;exact PySem.EqNone.ne_str_none (qu I q (by simp))
  | bl j=>cases ry;exact PySem.EqMixed.ne_str_bool (qu I q (by simp))
  | int j=>obtain⟨t',rfl⟩:=ry;exact PySem.EqMixed.ne_str_int (qu I q (by simp))
  | str j=>obtain⟨t',rfl⟩:=ry;exact ne_str (qu I q (congrArg not zhf))
  | _=>exact absurd (show false=true from hs) XV
 | byt i =>
  obtain⟨t,rfl⟩:=rx;cases y with
  | byt j=>obtain⟨t',rfl⟩:=ry;exact PySem.W.ne_bytes (qu I q (congrArg not zhg))
  | _=>exact absurd (show false=true from hs) XV
 | _=>cases y<;>exact absurd (show false=true from hs) XV
theorem zeC:OpR X (Wh .Lt) (rI0 fun i j=>.bl (decide (i<j))):=znN fun _ _ _ _ _ _ _ q=>lt_int q
theorem zpj:OpR X (Wh .LtE) (rI0 fun i j=>.bl (decide (i<=j))):=znN fun _ _ _ _ _ _ _ q=>le_int q
theorem zm3:OpR X (Wh .Gt) (rI0 fun i j=>.bl (decide (j<i))):=znN fun _ _ _ _ _ _ _ q=>gt_int q
theorem zlA:OpR X (Wh .IsNot) (fun x y H Q=>y=.non/\Q (.bl (!decide (x=.non))) H):=by
 intro pins s σ H x y v u Q I rx ry h;obtain⟨rfl,q⟩:=h;cases ry;refine isnot_none_gen (qu I q ?_);cases x<;>first
  | (cases rx;rfl)
  | (obtain⟨t,rfl⟩:=rx;rfl)
theorem qa (b:Expr){op:OH}(h:op ≠ .In:=by decide)(h2:op ≠ .NotIn:=by decide):TM op b=false:=by
 have e1:(op==CmpOp.In)=false:=by cases op<;>first | rfl | exact absurd rfl h
 have e2:(op==CmpOp.NotIn)=false:=by cases op<;>first | rfl | exact absurd rfl h2
 cases b<;>simp[TM,e1,e2]
theorem xZ {op:OH}{r:R2}(ho:OpR X (Wh op) r)(ha:PE X a ta)(hb:PE X b tb)(hm:TM op b=false):PE X (.Compare a [op] [b] pos) (tOp r ta tb):=by
 intro pins s σ H Q I h;exact wpAny_Compare1 (znM ha hb I h fun v u s2 x y H2 I2 rx ry q=>ho pins s2 σ H2 x y v u Q I2 rx ry q) hm
def zm4 (t:TE):TT:=fun σ H Q=>t σ H fun x H'=>∃k,x=.bl k/\Q k H'
theorem jL {op:OH}{r:R2}(ho:OpR X (Wh op) r)(ha:PE X a ta)(hb:PE X b tb)(hm:TM op b=false):PT X (.Compare a [op] [b] pos) (zm4 (tOp r ta tb)):=by
 intro pins s σ H Q I h;refine SZ (thn (ha pins s σ H _ I h) fun v s1 ⟨x,H1,I1,r1,q1⟩=>thn (hb pins s1 σ H1 _ I1 q1) fun u s2 ⟨y,H2,I2,r2,q2⟩ =>
  thn (ho pins s2 σ H2 x y v u _ I2 r1 r2 q2) fun c s3 ⟨z,H3,I3,r3,k,e,q3⟩=>?_) hm
 subst e;cases r3;exact VO ⟨H3,I3,q3⟩
def znP (r r':R2)(ta tb tc:TE):TE:=fun σ H Q=>ta σ H fun x H1=>tb σ H1 fun y H2=>r x y H2 fun z H3=>∃k,z=.bl k /\
 (if k=true then tc σ H3 fun w' H4=>r' y w' H4 Q else Q (.bl false) H3)
theorem zeD {op op':OH}{r r':R2}(ho:OpR X (Wh op) r)(ho':OpR X (Wh op') r')(ha:PE X a ta)(hb:PE X b tb)(hc:PE X c tc)
  (hm:lastMarks [op,op'] [b,c]=false:=by with_unfolding_all rfl):PT X (.Compare a [op,op'] [b,c] pos) (zm4 (znP r r' ta tb tc)):=by
 intro pins s σ H Q I h;refine isTrue_chain (thn (ha pins s σ H _ I h) fun v s1 ⟨x,H1,I1,r1,q1⟩=>test_link (thn (hb pins s1 σ H1 _ I1 q1) fun u s2 ⟨y,H2,I2,r2,q2⟩ =>
  thn (ho pins s2 σ H2 x y v u _ I2 r1 r2 q2) fun d s3 ⟨z,H3,I3,r3,k,e,q3⟩=>?_)) hm
 subst e;cases r3;refine VO ?_;cases k with
 | false =>
  obtain⟨k',e',q'⟩:=q3;cases e';exact ite_ff ⟨H3,I3,q'⟩
 | true =>
  refine ite_tt (test_last (thn (hc pins s3 σ H3 _ I3 q3) fun w' s4 ⟨z',H4,I4,r4,q4⟩=>thn (ho' pins s4 σ H4 y z' u w' _ I4 r2 r4 q4) fun d' s5 ⟨z2,H5,I5,r5,k2,e2,q5⟩=>?_));subst e2;cases r5;exact VO ⟨H5,I5,q5⟩
def znQ (K:XT)(x:V)(H:Hp)(k:Bool):Prop :=
 match x with
 | .non=>k=false
 | .bl b=>k=b
 | .int i=>k=(i != 0)
 | .str y=>y.length<=Xx/\k=((y.length:Int) != 0)
 | .byt y=>y.size<=Xx/\k=((y.size:Int) != 0)
 | .ref p=>(∃xs,SqL K H p xs/\k=!xs.isEmpty)\/(∃xs,SqT K H p xs/\k=!xs.isEmpty)\/∃kvs,H p=some (.dK kvs)/\k=!kvs.isEmpty
 | _=>False
theorem zf9 {κ:Type}{kvs:List (κ × V)}{vs:List (κ × X8)}(r:KV kvs vs):(!vs.isEmpty)=!kvs.isEmpty:=by
 cases r<;>rfl
theorem zbv {xs:List V}{its:List X8}(r:Vals xs its):(!its.toArray.isEmpty)=!xs.isEmpty:=by
 cases r<;>simp
theorem Yg:(Xx:Nat)<2^63:=by rw[T8];decide
theorem znR:zqc X (fun x H Q=>∃k,znQ X.K x H k/\Q k H):=by
 intro pins s σ H x v Q I rx h;obtain⟨k,e,q⟩:=h;have hl:=Yg;have hs:Xx=16777216:=T8;cases x with
 | non =>
  cases rx;have e':k=false:=e;subst e';exact truthy_none ⟨H,I,q⟩
 | bl b =>
  cases rx;have e':k=b:=e;subst e';exact VO ⟨H,I,q⟩
 | int i =>
  obtain⟨t,rfl⟩:=rx;have e':k=(i != 0):=e;subst e';exact PySem.P.truthy_int ⟨H,I,q⟩
 | str y =>
  obtain⟨t,rfl⟩:=rx;obtain⟨hy,e'⟩:y.length<=Xx/\k=((y.length:Int) != 0):=e;subst e';exact PySem.P.truthy_str (by lia) ⟨H,I.tok _,q⟩
 | byt y =>
  obtain⟨t,rfl⟩:=rx;obtain⟨hy,e'⟩:y.size<=Xx/\k=((y.size:Int) != 0):=e;subst e';exact PySem.W.truthy_bytes (by lia) ⟨H,I.tok _,q⟩
 | ref p =>
  cases rx;have e':(∃xs,SqL X.K H p xs/\k=!xs.isEmpty)\/(∃xs,SqT X.K H p xs/\k=!xs.isEmpty)\/∃kvs,H p=some (.dK kvs)/\k=!kvs.isEmpty:=e;rcases e' with ⟨xs,hx,e'⟩ | ⟨xs,hx,e'⟩ | ⟨kvs,hx,e'⟩
  ·subst e';obtain⟨its,r,pl,hz⟩:=I.list hx;have hlen:=r.length;exact wpAny_truthy_list pl.isList (by simp only[Xr];lia) ⟨H,I.tok _,by rw[zbv r];exact q⟩
  ·subst e';obtain⟨its,r,pl,hz⟩:=I.tuple hx;have hlen:=r.length;exact truthy_tuple pl (by simp only[Xr];lia) ⟨H,I.tok _,by rw[zbv r];exact q⟩
  ·subst e';obtain⟨hz,hS,vs,r,m⟩:kvs.length<=Xx/\(p==Vt)=false/\∃vs,KV kvs vs/\s.heap.DictOf (zQ X.prog X.w) p vs:=I.hok p _ hx;have hlen:kvs.length=vs.length:=Paired.length r;exact wpAny_truthy_dict hS m (by lia) ⟨H,I.tok _,by rw[zf9 r];exact q⟩
 | _=>exact(show False from e).elim
theorem Yh (ha:PE X a ta)(he:∀whole,isTrue a X.env whole=(do let v <- whole;standAt a.pos;holding [v] (truthy v))) :
  PT X a (fun σ H Q=>ta σ H fun x H'=>∃k,znQ X.K x H' k/\Q k H'):=by
 intro pins s σ H Q I h;exact isTrue_plain (thn (ha pins s σ H _ I h) fun v s1 ⟨x,H1,I1,r1,q1⟩=>znR pins s1 σ H1 x v Q I1 r1 q1) (he _)
theorem zga:OpR X (Uo .Add) (fun x y H Q=>∃i j,x=.str i/\y=.str j/\i.length+j.length<=Xx/\Q (.str (i++j)) H):=by
 intro pins s σ H x y v u Q I rx ry h;obtain⟨i,j,rfl,rfl,hz,q⟩:=h;obtain⟨t,rfl⟩:=rx;obtain⟨t',rfl⟩:=ry;exact add_str (fun t' tk=>⟨.str (i++j),H,I.tok _,⟨_,rfl⟩,q⟩) hz
theorem vals1 {x:V}{us:List X8}(r:Vals [x] us):∃u,us=[u]/\RelV x u:=by
 cases r with
 | cons r1 r2=>cases r2;exact⟨_,rfl,r1⟩
theorem vals2 {x y:V}{us:List X8}(r:Vals [x,y] us):∃u w',us=[u,w']/\RelV x u/\RelV y w':=by
 cases r with
 | cons r1 r2 =>
  cases r2 with
  | cons r3 r4=>cases r4;exact⟨_,_,rfl,r1,r3⟩
theorem zeE:jR X (.builtin "abs") (fun xs H Q=>∃i,xs=[.int i]/\Q (.int (if i<0 then -i else i)) H):=by
 intro pins s σ H xs us Q I r h;obtain⟨i,rfl,q⟩:=h;obtain⟨u,rfl,t,rfl⟩:=vals1 r;exact call_abs_int fun u tk=>⟨.int (if i<0 then -i else i),H,I.tok _,⟨_,rfl⟩,q⟩
theorem zcU (hc:X.calm=true):jR X (.builtin "max") (fun xs H Q=>∃i j,xs=[.int i,.int j]/\Q (.int (if j>i then j else i)) H):=by
 intro pins s σ H xs us Q I r h;obtain⟨i,j,rfl,q⟩:=h;obtain⟨u,w',rfl,⟨t,rfl⟩,⟨t',rfl⟩⟩:=vals2 r;refine max_two_ints (I.ok.hd hc) fun h' tk k=>⟨_,H,I.kept k,?_,q⟩;by_cases hj:j>i
 ·rw[if_pos hj,if_pos hj];exact⟨_,rfl⟩
 ·rw[if_neg hj,if_neg hj];exact⟨_,rfl⟩
theorem YG (hc:X.calm=true):jR X (.builtin "min") (fun xs H Q=>∃i j,xs=[.int i,.int j]/\Q (.int (if j<i then j else i)) H):=by
 intro pins s σ H xs us Q I r h;obtain⟨i,j,rfl,q⟩:=h;obtain⟨u,w',rfl,⟨t,rfl⟩,⟨t',rfl⟩⟩:=vals2 r;refine min_two_ints (I.ok.hd hc) fun h' tk k=>⟨_,H,I.kept k,?_,q⟩;by_cases hj:j<i
 ·rw[if_pos hj,if_pos hj];exact⟨_,rfl⟩
 ·rw[if_neg hj,if_neg hj];exact⟨_,rfl⟩
theorem zif:jR X (.type "int") (fun xs H Q=>(∃i,xs=[.int i]/\Q (.int i) H)\/∃k,xs=[.bl k]/\Q (.int (if k then 1 else 0)) H):=by
 intro pins s σ H xs us Q I r h;rcases h with ⟨i,rfl,q⟩ | ⟨k,rfl,q⟩
 ·obtain⟨u,rfl,t,rfl⟩:=vals1 r;exact call_int_int ⟨.int i,H,I,⟨_,rfl⟩,q⟩
 ·obtain⟨u,rfl,r1⟩:=vals1 r;cases r1;exact call_int_bool ⟨.int (if k then 1 else 0),H,I.tok _,⟨_,rfl⟩,q⟩
theorem zdP:jR X (.type "str") (fun xs H Q=>∃i,xs=[.int i]/\i.natAbs.log2<1920/\Q (.str (toString i)) H):=by
 intro pins s σ H xs us Q I r h;obtain⟨i,rfl,hz,q⟩:=h;obtain⟨u,rfl,t,rfl⟩:=vals1 r;exact PySem.P.str_of_int hz ⟨.str _,H,I.tok _,⟨_,rfl⟩,q⟩
end
section
variable {prog:Xn}{w:WW}{A:WM}{E:X8->X6->Prop}{s:X6}{K:XT}{x dx C f:Addr}{mA:Str->Option X8}{name:Str}{v:X8}
end
theorem za8.some_of {v:V}{o:Option X8}(r:za8 (some v) o):∃u,o=some u/\RelV v u:=by
 cases o with
 | none=>exact(show False from r).elim
 | some u=>exact⟨u,rfl,r⟩
section
variable {P:Xn}{w:WW}{H H':Hp}{h h':Heap}{a C dx:Addr}{fs fs':List (Str×V)}
end
section
variable {X:Cx}{pins:List (Addr×Obj)}{σ:St}{H:Hp}{s:X6}{a C dx:Addr}{fs:List (Str×V)}{f:Str}{v:V}{A:WM}{E:X8->X6->Prop}
end
section
variable {X:Cx}{o e value:Expr}{f:Str}{pos pos' tpos:Pos}{ta tv:TE}
end
section
variable {X:Cx}{pins:List (Addr×Obj)}{σ:St}{H:Hp}{s:X6}{A:WM}{E:X8->X6->Prop}{Q:X8->X6->Prop}{c:X8}{b:Bool}
end
structure J6 (k:Nat)(A:WM):Prop where
 hd:A.handled=none
 dp:A.depth+3*k+5<recursionLimit
 un:A.units+16*k+200<VP
theorem J6.mono {j k:Nat}{A:WM}(r:J6 k A)(h:j<=k):J6 j A:=⟨r.hd,by have:=r.dp;lia,by have:=r.un;lia⟩
theorem J6.deeper {k:Nat}{A:WM}(r:J6 (k+1) A)(env:Env):J6 k (A.deeper env) :=
 ⟨r.hd,by have:=r.dp;show A.depth+1+3*k+5<_;lia,by have:=r.un;show A.units+3+16*k+200<_;lia⟩
theorem J6.depth {k:Nat}{A:WM}(r:J6 k A):A.depth<recursionLimit:=by have:=r.dp;lia
theorem J6.units {k:Nat}{A:WM}(r:J6 k A):A.units+64<VP:=by have:=r.un;lia
def zpk:TA:=fun _ H Q=>Q [] H
def zeF (ta:TE)(tr:TA):TA:=fun σ H Q=>ta σ H fun x H1=>tr σ H1 fun xs H2=>Q (x::xs) H2
section
variable {X:Cx}{e:Expr}{es:List Expr}{te:TE}{t:TA}{pos:Pos}
theorem zc:PA X [] zpk:=fun _ _ _ _ H Q I h=>Calls.spliced_nil ⟨[],H,I,.nil,h⟩
theorem za (ha:PE X e te)(hr:PA X es t)(hs:WH (e::es) X.env=(false,eval e X.env)::WH es X.env:=by rfl):PA X (e::es) (zeF te t):=by
 intro pos pins s σ H Q I h;rw[hs];show Xg _ _ (spliced ((false,eval e X.env)::TY pos (WH es X.env))) _ _ s;refine Sf (thn (ha pins s σ H _ I h) fun u s1 ⟨x,H1,I1,r1,q1⟩=>?_);exact thn (hr pos pins s1 σ H1 _ I1 q1) fun us s2 ⟨xs,H2,I2,r2,q2⟩=>⟨x::xs,H2,I2,.cons r1 r2,q2⟩
def zqd (t:TA):TE:=fun σ H Q=>t σ H fun xs H1=>xs.length<=Xx/\∀p,H1 p=none->Q (.ref p) (upd H1 p (.tup xs))
def zqe (t:TA):TE:=fun σ H Q=>t σ H fun xs H1=>xs.length<=Xx/\∀p,H1 p=none->Q (.ref p) (upd H1 p (.lst xs))
theorem qm {x1}(h:PA X es t):PE X (.Tuple es x1 pos) (zqd t):=by
 intro pins s σ H Q I hq;refine wpAny_Tuple_spliced (thn (h pos pins s σ H _ I hq) fun us s1 ⟨xs,H1,I1,r,z,q⟩=>⟨by rw[<- r.length];exact z,?_⟩);have hf:H1 s1.heap.objs.size=none:=I1.hok.fresh (XU _);refine⟨.ref s1.heap.objs.size,upd H1 s1.heap.objs.size (.tup xs),I1.laid (t':=s1.toks) (fun b u e=>XY _ e) (XU _) ?_,rfl,q _ hf⟩;exact⟨z,us,r,⟨_,W5 _ rfl,rfl,_,rfl⟩⟩
theorem qd (h:PA X es t):PE X (.List es pos) (zqe t):=by
 intro pins s σ H Q I hq;refine wpAny_List_spliced (thn (h pos pins s σ H _ I hq) fun us s1 ⟨xs,H1,I1,r,z,q⟩=>⟨by rw[<- r.length];exact z,?_⟩);have hf:H1 s1.heap.objs.size=none:=I1.hok.fresh (XU _);refine⟨.ref s1.heap.objs.size,upd H1 s1.heap.objs.size (.lst xs),I1.laid (t':=s1.toks) (fun b u e=>XY _ e) (XU _) ?_,rfl,q _ hf⟩;exact⟨z,us,0,r,W5 _ rfl⟩
end
abbrev Sp:=List V->Hp->VK->XK->Prop
abbrev CXT:=List Env->Hp->X6->XK->X8->X6->Prop
structure zlB (P:Xn)(w:WW)(K:XT)(mg:Str->Option X8)(base:Heap)(A:WM)(outer:List Env)(s:X6)(H:Hp):Prop where
 frames:A.frames=some outer
 mod:Mod K mg base
 bs:∀b o,base.get? b=some o->s.heap.get? b=some o/\H b=none
 bsz:base.objs.size<=s.heap.objs.size
 funs:s.heap.FunFrames base outer
 frf:∀b∈frs outer,H b=none
 hok:HOk P w H s.heap
 bare:SR s.gens
def CE (outer:List Env)(P:Xn)(w:WW)(H:Hp)(s:X6)(Q:VK)(u:X8)(s':X6):Prop :=
 ∃v H',s'.os=s.os/\SR s'.gens/\Un (frs outer) [] H H' s.heap s'.heap/\HOk P w H' s'.heap/\RelV v u/\Q v H'
def CR (CX:CXT)(outer:List Env)(P:Xn)(w:WW)(H:Hp)(s:X6)(Q:VK)(E:XK)(r:Result)(s':X6):Prop :=
 match r with
 | .ok (.ret u)=>CE outer P w H s Q u s'
 | .ok _=>False
 | .error e=>CX outer H s E e s'
structure qb (P:Xn)(w:WW)(K:XT)(mg:Str->Option X8)(base:Heap)(CX:CXT)(k:Nat)(f:Addr)(fd:Xz)(ps:List Str)(sp:Sp):Prop where
 len:∀vs H Q E,sp vs H Q E->vs.length=ps.length
 run:∀(A:WM) (outer:List Env) (s:X6) (H:Hp) (args:Args) (us:List X8) (vs:List V) (Q:VK) (E:XK),J6 k A->zlB P w K mg base A outer s H->OX s fd args (ps.zip us)->Vals vs us->sp vs H Q E ->
  To (Xk P w) A (.call (.ref f) args) (CR CX outer P w H s Q E) s
section
variable {X:Cx}{pins:List (Addr×Obj)}{σ:St}{H:Hp}{s s':X6}
theorem Inv.env0 (I:Inv X pins σ H s):zlB X.prog X.w X.K X.mg X.base X.A X.stack s H :=
 ⟨I.ok.frames,I.ok.mod,I.bs,XX I.ok.bsz I.sz,I.stack,I.stkFree,I.hok,I.bare⟩
theorem Inv.after {Q:VK}{u:X8}(I:Inv X pins σ H s)(h:CE X.stack X.prog X.w H s Q u s'):EP X pins σ Q u s':=by
 obtain⟨v,H',os,bare,un,hok,r,q⟩:=h;obtain⟨hh,g,d,t,os'⟩:=s';obtain rfl:os'=s.os:=os;exact⟨v,H',I.call (h':=hh) (g':=g) (d':=d) (t':=t) (ch:=[]) un hok bare (fun b z=>absurd z (by simp)),r,q⟩
end
def zeG (sp:Sp)(dvs:List V)(E:XK)(t:TA):TE:=fun σ H Q=>t σ H fun vs H1=>sp (vs++dvs) H1 Q E
def Binds (K:XT)(fd:Xz)(ps:List Str)(ds:List X8):Prop :=
 ∀(s:X6) (us:List X8),K.In s.heap->(us++ds).length=ps.length->OX s fd ⟨us,[]⟩ (ps.zip (us++ds))
theorem Binds.all {K:XT}{fd:Xz}{ps:List Str}(h:∀us:List X8,us.length=ps.length->bindArgs fd ⟨us,[]⟩=pure (ps.zip us)):Binds K fd ps []:=fun s us _ hl=>by
 rw[W9] at hl ⊢;exact .of_eq (h us hl)
def Passes (CX:CXT)(X:Cx)(E:XK):Prop:=∀(pins:List (Addr×Obj)) (σ:St) (H:Hp) (s:X6) (e:X8) (s':X6),Inv X pins σ H s->CX X.stack H s E e s'->X.xe e s'
section
variable {X:Cx}{CX:CXT}{k:Nat}{f C:Addr}{fd:Xz}{ps:List Str}{sp:Sp}{dvs:List V}{ds:List X8}{E:XK}{x m:Str}{p pos apos:Pos}{e o:Expr}{es:List Expr}{ta:TE}{t:TA}
theorem znS {pins:List (Addr×Obj)}{σ:St}{H:Hp}{s:X6}{Q:VK}{us:List X8}{vs:List V}(F:qb X.prog X.w X.K X.mg X.base CX k f fd ps sp)(hr:J6 k X.A)(hb:Binds X.K fd ps ds)(hd:Vals dvs ds)(hx:Passes CX X E)
  (I:Inv X pins σ H s) (r:Vals vs us) (h:sp (vs++dvs) H Q E):Xg (Xk X.prog X.w) X.A (call (.ref f) us) (EP X pins σ Q) X.xe s:=by
 have r2:Vals (vs++dvs) (us++ds):=r.append hd;have hl:(us++ds).length=ps.length:=by rw[<- r2.length];exact F.len _ _ _ _ h
 refine wpAny_call (Su (F.run X.A X.stack s H ⟨us,[]⟩ (us++ds) (vs++dvs) Q E hr I.env0 (hb s us I.kIn hl) r2 h) fun r s' hq=>?_);cases r with
 | error e=>exact hx pins σ H s e s' I hq
 | ok fl =>
  cases fl with
  | ret u=>exact I.after hq
  | next=>exact Wd hq
  | brk=>exact Wd hq
  | cont=>exact Wd hq
theorem zdQ (F:qb X.prog X.w X.K X.mg X.base CX k f fd ps sp)(hr:J6 k X.A)(hg:Gl X x)(hm:X.mg x=some (.ref f))(hk:Tg X.K (.ref f)=true)(hb:Binds X.K fd ps ds)(hd:Vals dvs ds)(hx:Passes CX X E)
  (ha:PA X (e::es) t) (hdb:(x==("__debug__":Str))=false:=by decide) (he:WH (e::es) X.env=(false,eval e X.env)::WH es X.env:=by rfl) (hpl:(TY pos (WH es X.env)).any (·.1)=false:=by rfl) :
  PE X (.Call (.Name x p) (e::es) [] pos) (zeG sp dvs E t):=by
 intro pins s σ H Q I h;refine Se (zdL I hg hm ?_ hdb);refine PySem.W.callWith_K (h₀:=X.base) I.ok.mod.kin hk (thn (ha pos pins s σ H _ I h) fun us s1 ⟨vs,H1,I1,r,q⟩=>⟨I1.kIn,?_⟩) he hpl;exact znS F hr hb hd hx I1 r q
end
section
variable {X:Cx}{CX:CXT}{k:Nat}{f C:Addr}{fd:Xz}{ps ks:List Str}{sp:Sp}{E:XK}{x m:Str}{p pos apos kpos:Pos}{e o:Expr}{es:List Expr}{kws:List Pn}{te ta:TE}{t tk:TA}{nm:Option Str}
variable {g:List X8->List X8->List X8}{gV:List V->List V->List V}
end
structure zF (N P:List Str)(sc:Ux):Prop where
 kind:sc.kind=.function
 co:sc.isCoroutine=false
 gen:sc.isGenerator=false
 nd:N.Nodup
 pre:N.take P.length=P
 par:∀x∈P,sc.names.lookup x=some .local\/sc.names.lookup x=some .cell
 nofree:∀y∈sc.names,y.2 ≠ .free
theorem zcV {kindOf:Str->Option TN}{x:Str}:∀{binds:List (Str×X8)} {m:Str->Option X8},(∀v,(x,v) ∉ binds)->OL kindOf binds m x=m x
 | [],_,_=>rfl
 | (n,v)::r,m,h=>by
  unfold OL;rw[zcV fun w hw=>h w (XR _ hw)];split
  ·have:x≠n:=by rintro rfl;exact h v XW
   simp[this]
  ·rfl
theorem zcW {kindOf:Str->Option TN}{x:Str}:∀{binds:List (Str×X8)} {m:Str->Option X8},(∀v,(x,v) ∉ binds)->OK kindOf binds m x=m x
 | [],_,_=>rfl
 | (n,v)::r,m,h=>by
  unfold OK;rw[zcW fun w hw=>h w (XR _ hw)];split
  ·rfl
  ·have:x≠n:=by rintro rfl;exact h v XW
   simp[this]
theorem zcX {kindOf:Str->Option TN}{x:Str}{v:X8}:∀{P:List Str} {vs:List X8} {i:Nat} {m:Str->Option X8},P.Nodup->P[i]?=some x->vs[i]?=some v->kindOf x=some .local ->
  OL kindOf (P.zip vs) m x=some v
 | [],_,_,_,_,h,_,_=>by simp at h
 | _::_,[],_,_,_,_,h,_=>by simp at h
 | p::P,w::vs,0,m,nd,h1,h2,hk=>by
  simp at h1 h2;subst h1;subst h2;show OL kindOf ((p,w)::P.zip vs) m p=_;unfold OL;rw[zcV fun v hv=>(Wg.mp nd).1 (Q1 hv).1,if_pos hk];simp
 | p::P,w::vs,i+1,m,nd,h1,h2,hk=>by
  show OL kindOf ((p,w)::P.zip vs) m x=_;unfold OL;exact zcX (i:=i) (Wg.mp nd).2 (by simpa using h1) (by simpa using h2) hk
theorem zcY {kindOf:Str->Option TN}{x:Str}{v:X8}:∀{P:List Str} {vs:List X8} {i:Nat} {m:Str->Option X8},P.Nodup->P[i]?=some x->vs[i]?=some v->kindOf x≠some .local ->
  OK kindOf (P.zip vs) m x=some v
 | [],_,_,_,_,h,_,_=>by simp at h
 | _::_,[],_,_,_,_,h,_=>by simp at h
 | p::P,w::vs,0,m,nd,h1,h2,hk=>by
  simp at h1 h2;subst h1;subst h2;show OK kindOf ((p,w)::P.zip vs) m p=_;unfold OK;rw[zcW fun v hv=>(Wg.mp nd).1 (Q1 hv).1,if_neg hk];simp
 | p::P,w::vs,i+1,m,nd,h1,h2,hk=>by
  show OK kindOf ((p,w)::P.zip vs) m x=_;unfold OK;exact zcY (i:=i) (Wg.mp nd).2 (by simpa using h1) (by simpa using h2) hk
def start (N:List Str)(vs:List V):St:=vs.map some++Wu (N.length-vs.length) none
def zeH (CX:CXT)(P:Xn)(w:WW)(K:XT)(mg:Str->Option X8)(base:Heap)(N:List Str)(qual:Str)(scope:Ux)(f:Addr)(cd:X8)(A:WM)(outer:List Env)(s:X6)(H:Hp)(E:XK):Cx where
 prog:=P
 w:=w
 K:=K
 mg:=mg
 base:=base
 A:=A.deeper (Rs qual scope s.heap.objs.size f cd)
 N:=N
 s₀:=s
 H₀:=H
 env:=Rs qual scope s.heap.objs.size f cd
 outer:=outer
 stack:=Rs qual scope s.heap.objs.size f cd::outer
 ex:=[]
 calm:=true
 fn:=fun _=>true
 pn:=[]
 xe:=fun e s'=>Xg (Xk P w) (A.deeper (Rs qual scope s.heap.objs.size f cd)) (leaving (Rs qual scope s.heap.objs.size f cd) e) (fun _ s''=>CX outer H s E e s'') (fun e' s''=>CX outer H s E e' s'') s'
theorem zeI {sc:Ux}{n:Nat}{x:Str}(h:sc.names.lookup x=some .cell):∃c,(Sl n sc.names []).lookup x=some c:=by
 have q:=S6 sc.names n [] (.inl h);exact VM.mp q
theorem zig {CX:CXT}{P:Xn}{w:WW}{K:XT}{mg:Str->Option X8}{base:Heap}{N ps:List Str}{qual:Str}{scope:Ux}{f:Addr}{cd:X8}{A:WM}{outer:List Env}{s s1:X6}{H:Hp}{E:XK}{us:List X8}{vs:List V}
  (S:zF N ps scope) (hd:A.handled=none) (e0:zlB P w K mg base A outer s H) (hl:vs.length=ps.length) (r:Vals vs us)
  (x:InCallC s s.heap.objs.size (OL (Rs qual scope s.heap.objs.size f cd).kindOf (ps.zip us) fun _=>none) (Sl (s.heap.objs.size+1) scope.names []) (OK (Rs qual scope s.heap.objs.size f cd).kindOf (ps.zip us) fun _=>none) s1) :
  Inv (zeH CX P w K mg base N qual scope f cd A outer s H E) [] (start N vs) H s1:=by
 have hpl:ps.length<=N.length:=by have:=congrArg List.length S.pre;rw[XM] at this;lia
 obtain⟨h1,tk,rfl,hk⟩:=x.done;have noA:∀b:Addr,b ∉ (zeH CX P w K mg base N qual scope f cd A outer s H E).ex:=fun b z=>absurd (show b∈([]:List Addr) from z) (by simp);refine⟨⟨e0.mod,S.kind,rfl,rfl,XU _,fun y z c h1 h2=>?_,fun y hy=>?_,fun y c _ h=>?_,fun _=>hd,Around.frames_deeper e0.frames,.inr ⟨rfl,rfl⟩,fun b z=>absurd z (noA b),e0.bs,e0.bsz,fun b _ _=>noA b,fun b z=>absurd z (noA b),e0.funs,e0.frf⟩,
  rfl,e0.bare,Un.kept hk,⟨_,x.toInCall.ns,fun i y v h1 h2 h3=>?_⟩,fun y c h=>⟨_,x.cell y c h⟩,e0.hok.fresh (XU _),fun y c h=>?_,fun p hp=>absurd (show p∈([]:List (Addr×Obj)) from hp) (by simp),e0.hok.kept hk,?_⟩
 ·exact name_of_addr x.apart (WP h1) (WP h2)
 ·have hy:scope.names.lookup y=some .cell\/scope.names.lookup y=some .free:=hy;rcases hy with hy | hy
  ·exact zeI hy
  ·exact absurd rfl (S.nofree _ (WP hy))
 ·exact Tk (x.above y c (WP h))
 ·have hi:i<vs.length:=by
   unfold start at h2;by_cases hi:i<vs.length
   ·exact hi
   ·rw[Vy (by simpa using hi)] at h2;rw[List.getElem?_replicate] at h2;split at h2<;>cases h2
  have ha:vs[i]?=some v:=by
   unfold start at h2;rw[VS (by simpa using hi),XD] at h2;cases e:vs[i]? with
   | none=>rw[e] at h2;cases h2
   | some a=>rw[e] at h2;cases h2;rfl
  obtain⟨u,hu,rv⟩:=r.get ha;have hp:ps[i]?=some y:=by
   rw[<- S.pre,RR (by lia)];exact h1
  have ndP:ps.Nodup:=by rw[<- S.pre];exact S.nd.sublist (Tc _ _)
  refine⟨u,rv,?_⟩;rcases S.par y (X7 hp) with k | k
  ·exact .inl ⟨k,zcX ndP hp hu k⟩
  ·obtain⟨c,e⟩:=zeI (n:=s.heap.objs.size+1) k;refine .inr ⟨.inl k,c,e,?_⟩;have q:=x.cell y c e;rw[zcY ndP hp hu (by show scope.names.lookup y≠_;rw[k];decide)] at q;exact q
 ·exact e0.hok.fresh (Tk (x.above y c (WP h)))
 ·unfold start;show _=N.length;rw[X4,Y1,List.length_replicate];lia
theorem zm5 {CX:CXT}{P:Xn}{w:WW}{K:XT}{mg:Str->Option X8}{base:Heap}{k:Nat}{f:Addr}{name qual:Str}{params:Arguments}{body:List Stmt}{scope:Ux}{dV kV doc pm cdv ct oc:X8}{an od:Option Addr}
  {osl:Array (Option X8)} {N ps:List Str} {sp:Sp} (lk:K.lookup f=some ⟨oc,od,.func (US name qual params body scope dV kV doc pm an cdv ct),osl⟩) (hcd:Th K cdv qual=true) (S:zF N ps scope)
  (len:∀vs H Q E,sp vs H Q E->vs.length=ps.length)
  (hbody:∀(A:WM) (outer:List Env) (s:X6) (H:Hp) (vs:List V) (Q:VK) (E:XK),J6 k (A.deeper (Rs qual scope s.heap.objs.size f cdv))->sp vs H Q E ->
   ∃t,PSs (zeH CX P w K mg base N qual scope f cdv A outer s H E) body t/\t { nx:=fun _ H'=>Q .non H',rt:=Q } (start N vs) H) :
  qb P w K mg base CX (k+1) f (US name qual params body scope dV kV doc pm an cdv ct) ps sp:=by
 refine⟨len,fun A outer s H args us vs Q E hr e0 hb r hsp=>?_⟩;have hl:=len _ _ _ _ hsp;have KX:K.In s.heap:=e0.mod.kin.keeps fun b o e=>(e0.bs b o e).1;have lim:s.heap.NoLimit:=e0.mod.nolimit.keeps fun b o e=>(e0.bs b o e).1;have hkind:∀y∈ps.zip us,scope.names.lookup y.1=some .local\/(scope.names.lookup y.1=some .cell/\((Sl (s.heap.objs.size+1) scope.names []).lookup y.1).isSome=true):=fun ⟨n,v⟩ hy=>by
  rcases S.par n (Q1 hy).1 with q | q
  ·exact .inl q
  ·exact .inr ⟨q,S6 _ _ _ (.inl q)⟩
 refine codeAny_call_function hr.depth (KX _ _ lk) rfl S.co S.gen rfl (PySem.W.codeRec_of KX hcd) (hb _ _ _ _ ?_);refine wpAny_newFunctionEnv_cells S.kind hkind fun env he s1 x=>?_;subst he;refine⟨lim.keeps x.toInCall.keep,codeAny_func ?_⟩;obtain⟨t,ht,hq⟩:=hbody A outer s H vs Q E (hr.deeper _) hsp;have I:Inv (zeH CX P w K mg base N qual scope f cdv A outer s H E) [] (start N vs) H s1:=zig S hr.hd e0 hl r x;refine Wi (ht [] s1 (start N vs) H _ I hq) (fun fl s' hs=>?_) fun e s' hs=>hs;have fin:∀{σ':St} {H':Hp} {v:V} {u:X8},Inv (zeH CX P w K mg base N qual scope f cdv A outer s H E) [] σ' H' s'->RelV v u->Q v H'->CE outer P w H s Q u s' :=
  fun {σ' H' v u} J rv q=>⟨v,H',J.os,J.bare,J.base,J.hok,rv,q⟩
 cases fl with
 | ret u =>
  obtain⟨v,σ',H',J,rv,q⟩:=hs;exact fin J rv q
 | next =>
  obtain⟨σ',H',J,q⟩:=hs;exact fin (v:=V.non) (u:=T9) J rfl q
 | brk =>
  obtain⟨_,_,_,q⟩:=hs;exact Wd q
 | cont =>
  obtain⟨_,_,_,q⟩:=hs;exact Wd q
section
variable {X:Cx}{x:Str}{p pos:Pos}{e:Expr}{es:List Expr}{t:TA}{id T:String}{r:List V->Hp->VK->Prop}
def tCB (r:List V->Hp->VK->Prop)(t:TA):TE:=fun σ H Q=>t σ H fun vs H1=>r vs H1 Q
theorem zu (hc:jR X (.builtin id) r)(hg:Gl X x)(hm:X.mg x=none)(hv:Sv x=some (.builtin id))(ha:PA X (e::es) t)(hn:x ≠ "__name__":=by decide)(hdb:(x==("__debug__":Str))=false:=by decide)
  (he:WH (e::es) X.env=(false,eval e X.env)::WH es X.env:=by rfl) (hpl:(TY pos (WH es X.env)).any (·.1)=false:=by rfl):PE X (.Call (.Name x p) (e::es) [] pos) (tCB r t):=by
 intro pins s σ H Q I h;refine Se (zao I hg hm hv ?_ hn hdb);exact PyProof.Rows.callWith_builtin1 (thn (ha pos pins s σ H _ I h) fun us s1 ⟨vs,H1,I1,r1,q1⟩=>hc pins s1 σ H1 vs us Q I1 r1 q1) he hpl
theorem yO (hc:jR X (.type T) r)(hg:Gl X x)(hm:X.mg x=none)(hv:Sv x=some (.type T))(ha:PA X (e::es) t)(hn:x ≠ "__name__":=by decide)(hdb:(x==("__debug__":Str))=false:=by decide)
  (he:WH (e::es) X.env=(false,eval e X.env)::WH es X.env:=by rfl) (hpl:(TY pos (WH es X.env)).any (·.1)=false:=by rfl):PE X (.Call (.Name x p) (e::es) [] pos) (tCB r t):=by
 intro pins s σ H Q I h;refine Se (zao I hg hm hv ?_ hn hdb);exact VG (thn (ha pos pins s σ H _ I h) fun us s1 ⟨vs,H1,I1,r1,q1⟩=>hc pins s1 σ H1 vs us Q I1 r1 q1) he hpl
end
end L2
namespace HT
open PySem PyProof.Rows
section
open PySem.SeqAt
open PySem.AutoSeq1 (wpAny_loadPart')
open PySem.MeetsSeq PySem.MeetsSeq2 PySem.MeetsSeq3
end
section
variable {prog:Xn}{w:WW}{A:WM}{E:X8->X6->Prop}{s:X6}
def sIx (n d:Nat):Option Int->Nat
 | none=>d
 | some v=>if v<0 then (v+(n:Int)).toNat else min v.toNat n
theorem zlC (n d k:Nat):sIx n d (some (k:Int))=min k n:=by
 show (if (k:Int)<0 then ((k:Int)+(n:Int)).toNat else min (k:Int).toNat n)=min k n;rw[if_neg (by lia),UR]
end
end HT
namespace L2
open PySem PySem.Spec PyProof.Rows
abbrev TO:=St->Hp->(Option Int->Hp->Prop)->Prop
def PO (X:Cx)(e:Option Expr)(t:TO):Prop :=
 ∀(pins:List (Addr×Obj)) (s:X6) (σ:St) (H:Hp) (Q:Option Int->Hp->Prop),Inv X pins σ H s->t σ H Q ->
  Xg (Xk X.prog X.w) X.A (evalPart e X.env) (fun u s'=>∃o H',Inv X pins σ H' s'/\IsPart u o/\Q o H') X.xe s
def zlD:TO:=fun _ H Q=>Q none H
def zpl (t:TE):TO:=fun σ H Q=>t σ H fun x H1=>∃i,x=.int i/\Q (some i) H1
section
variable {X:Cx}{e:Expr}{te:TE}{lo hi:Option Expr}{tl th:TO}{pos p2:Pos}
theorem zlE:PO X none zlD:=by
 intro pins s σ H Q I h;rw[evalPart_none];exact XS ⟨none,H,I,.none,h⟩
theorem zlF (h:PE X e te):PO X (some e) (zpl te):=by
 intro pins s σ H Q I hw;rw[evalPart_some];refine thn (h pins s σ H _ I hw) fun u s1 ⟨x,H1,I1,r1,q1⟩=>?_;obtain⟨i,rfl,q⟩:=q1;obtain⟨t,rfl⟩:=r1;exact⟨some i,H1,I1,.int i t,q⟩
def SlR (X:Cx)(r:V->Option Int->Option Int->Hp->VK->Prop):Prop :=
 ∀(pins:List (Addr×Obj)) (s:X6) (σ:St) (H:Hp) (x:V) (v vl vu:X8) (lo hi:Option Int) (sl:Addr) (Q:VK),Inv X pins σ H s->RelV x v->s.heap.IsSliceOf sl vl vu .none->IsPart vl lo->IsPart vu hi->r x lo hi H Q ->
  ∃T id,Rr (.type T) "__getitem__"=pure (some (.builtin id))/\s.TypeIs v T/\Xg (Xk X.prog X.w) X.A (Po v (.ref sl)) (EP X pins σ Q) X.xe s
def tSl (r:V->Option Int->Option Int->Hp->VK->Prop)(te:TE)(tl th:TO):TE:=fun σ H Q=>te σ H fun x H1=>tl σ H1 fun l H2=>th σ H2 fun u H3=>r x l u H3 Q
theorem zjv {r:V->Option Int->Option Int->Hp->VK->Prop}(hr:SlR X r)(he:PE X e te)(hl:PO X lo tl)(hu:PO X hi th):PE X (.Subscript e (.Slice lo hi none p2) pos) (tSl r te tl th):=by
 intro pins s σ H Q I h;refine Subscript_ (thn (he pins s σ H _ I h) fun v s1 ⟨x,H1,I1,r1,q1⟩=>?_);refine wpAny_Slice (thn (hl pins s1 σ H1 _ I1 q1) fun vl s2 ⟨l,H2,I2,pl,q2⟩=>thn (hu pins s2 σ H2 _ I2 q2) fun vu s3 ⟨u,H3,I3,pu,q3⟩=>?_);rw[evalPart_none];refine XS ?_;have I4:Inv X pins σ H3 { s3 with heap:=s3.heap.push { cls:=.type "slice",data:=.fields #[vl,vu,.none] } }:=I3.kept (t':=s3.toks) fun b ob q=>XY _ q;obtain⟨T,id,hT,ht,hg⟩:=hr pins { s3 with heap:=s3.heap.push { cls:=.type "slice",data:=.fields #[vl,vu,.none] } } σ H3 x v vl vu l u s3.heap.objs.size Q I4 r1 (Heap.IsSliceOf.new ..) pl pu q3;show Xg (Xk X.prog X.w) X.A (Pa e (.Slice lo hi none p2) v (.ref s3.heap.objs.size)) (EP X pins σ Q) X.xe { s3 with heap:=s3.heap.push { cls:=.type "slice",data:=.fields #[vl,vu,.none] } };exact tail_any (ops:=[.ref s3.heap.objs.size,v]) ht hT hg (by with_unfolding_all rfl)
def zih (xs:List V)(lo hi:Option Int):List V:=(xs.drop (HT.sIx xs.length 0 lo)).take (HT.sIx xs.length xs.length hi-HT.sIx xs.length 0 lo)
theorem zeJ (xs:List V)(lo hi:Option Int):(zih xs lo hi).length<=xs.length:=by
 unfold zih;rw[XM,U8];lia
end
def ixN (n:Nat)(i:Int):Option Nat:=if 0<=i then (if i<n then some i.toNat else none) else if -(n:Int)<=i then some (i+n).toNat else none
def atI {α:Type}(xs:List α)(i:Int):Option α:=(ixN xs.length i).bind fun j=>xs[j]?
theorem zhi {n:Nat}{i:Int}{j:Nat}(h:ixN n i=some j):seqIndex? i n=some j/\j<n/\-(n:Int)<=i/\i<n:=by
 unfold ixN at h;by_cases h0:0<=i
 ·rw[if_pos h0] at h;by_cases h1:i<n
  ·rw[if_pos h1] at h;have e:i.toNat=j:=Option.some.inj h;exact⟨by rw[PU h0 h1,e],by lia,by lia,h1⟩
  ·rw[if_neg h1] at h;cases h
 ·rw[if_neg h0] at h;by_cases h1:-(n:Int)<=i
  ·rw[if_pos h1] at h;have e:(i+n).toNat=j:=Option.some.inj h;exact⟨by rw[Rp (by lia) h1,e],by lia,h1,by lia⟩
  ·rw[if_neg h1] at h;cases h
theorem zbi {α:Type}{xs:List α}{i:Int}{v:α}(h:atI xs i=some v):∃j,seqIndex? i xs.length=some j/\xs[j]?=some v/\j<xs.length/\-(xs.length:Int)<=i/\i<xs.length:=by
 unfold atI at h;cases e:ixN xs.length i with
 | none=>rw[e] at h;cases h
 | some j =>
  rw[e] at h;obtain⟨h1,h2,h3,h4⟩:=zhi e;exact⟨j,h1,h,h2,h3,h4⟩
theorem je {α:Type}{xs:List α}{j:Nat}{v:α}(h:xs[j]?=some v):atI xs (j:Int)=some v:=by
 have hj:j<xs.length:=(X0.mp h).1;have e:ixN xs.length (j:Int)=some j:=by
  unfold ixN;rw[if_pos (by lia),if_pos (by lia)];simp
 unfold atI;rw[e];exact h
def zlG (b:Expr):Prop:=∀o i,PQ b false o i=operate [o,i] (Po o i)
def IxR (X:Cx)(r:R2):Prop :=
 ∀(value slice:Expr) (pins:List (Addr×Obj)) (s:X6) (σ:St) (H:Hp) (x y:V) (v u:X8) (Q:VK),Inv X pins σ H s->RelV x v->RelV y u->r x y H Q ->
  PQ slice false v u=operate [v,u] (Po v u)->Xg (Xk X.prog X.w) X.A (Pa value slice v u) (EP X pins σ Q) X.xe s
def MtR (X:Cx)(id:String)(r:V->List V->Hp->VK->Prop):Prop :=
 ∀(pins:List (Addr×Obj)) (s:X6) (σ:St) (H:Hp) (x:V) (xs:List V) (v:X8) (us:List X8) (Q:VK),Inv X pins σ H s->RelV x v->Vals xs us->r x xs H Q ->
  Xg (Xk X.prog X.w) X.A (call (.builtin id) (v::us)) (EP X pins σ Q) X.xe s
section
variable {X:Cx}{a b:Expr}{ta tb:TE}{pos:Pos}
theorem zL {r:R2}(hr:IxR X r)(ha:PE X a ta)(hb:PE X b tb)(hs:zlG b):PE X (.Subscript a b pos) (tOp r ta tb):=by
 intro pins s σ H Q I h;exact Subscript_ (znM ha hb I h fun v u s2 x y H2 I2 rx ry q=>hr a b pins s2 σ H2 x y v u Q I2 rx ry q (hs _ _))
def zpm (K:XT):R2:=fun x y H Q=>∃p xs i v,x=.ref p/\y=.int i/\SqL K H p xs/\atI xs i=some v/\Q v H
def zpn (K:XT):R2:=fun x y H Q=>∃p xs i v,x=.ref p/\y=.int i/\SqT K H p xs/\atI xs i=some v/\Q v H
def zqf:R2:=fun x y H Q=>∃z i c,x=.str z/\y=.int i/\z.length<=Xx/\atI z.cps.toList i=some c/\Q (.str ⟨#[c]⟩) H
theorem xw:IxR X (zpm X.K):=by
 intro value slice pins s σ H x y v u Q I rx ry h hs;obtain⟨p,xs,i,z,rfl,rfl,hq,he,q⟩:=h;cases rx;obtain⟨t,rfl⟩:=ry;obtain⟨its,r,pl,hz⟩:=I.list hq;obtain⟨j,h1,h2,h3,h4,h5⟩:=zbi he;obtain⟨w,ew,rw'⟩:=r.get h2;have hl:=r.length;have hn:=Yg;have fin:EP X pins σ Q w s:=⟨z,H,I,rw',q⟩;by_cases h0:0<=i
 ·have hj:i.toNat=j:=by
   rw[PU h0 h5] at h1;exact Option.some.inj h1
  exact item_listR pl.isList h0 (by lia) (by rw[hj];simpa using ew) fin hs
 ·have hj:(i+(its.toArray.size:Int)).toNat=j:=by
   rw[Rp (by lia) h4] at h1;rw[Xr,<- hl];exact Option.some.inj h1
  exact Rl (x:=w) pl.isList.typeIs slot_list_getitem.lookup
   (Rj (Q:=fun r s'=>r=w/\EP X pins σ Q r s') pl.isList (by lia) (by rw[Xr]<;>lia) (by lia) (by rw[hj];simpa using ew) ⟨rfl,fin⟩) hs
theorem qP:IxR X (zpn X.K):=by
 intro value slice pins s σ H x y v u Q I rx ry h hs;obtain⟨p,xs,i,z,rfl,rfl,hq,he,q⟩:=h;cases rx;obtain⟨t,rfl⟩:=ry;obtain⟨its,r,pl,hz⟩:=I.tuple hq;obtain⟨j,h1,h2,h3,h4,h5⟩:=zbi he;obtain⟨w,ew,rw'⟩:=r.get h2;have hl:=r.length;have hn:=Yg;have fin:EP X pins σ Q w s:=⟨z,H,I,rw',q⟩;exact Rl (x:=w) pl.typeIs slot_tuple_getitem.lookup
  (getItem_tuple (j:=j) (Q:=fun r s'=>r=w/\EP X pins σ Q r s') pl (by lia) (by lia) (by rw[Xr,<- hl];exact h1) (by simpa using ew) ⟨rfl,fin⟩) hs
theorem znT:IxR X zqf:=by
 intro value slice pins s σ H x y v u Q I rx ry h hs;obtain⟨z,i,c,rfl,rfl,hz,he,q⟩:=h;obtain⟨t,rfl⟩:=rx;obtain⟨t',rfl⟩:=ry;obtain⟨j,h1,h2,h3,h4,h5⟩:=zbi he;have hl:z.cps.toList.length=z.length:=by simp[Str.length]
 rw[hl] at h1 h4 h5;have hn:=Yg;exact tail_any (typeIs_str s z t) slot_str_getitem.lookup (getItem_str (c:=c) (by
  have e1:decide (i < -(2^63:Int))=false:=decide_eq_false (by lia);have e2:decide (i >= 2^63)=false:=decide_eq_false (by lia);rw[e1,e2,O9]) (by rw[h1];simpa using h2) ⟨.str ⟨#[c]⟩,H,I.tok _,⟨_,rfl⟩,q⟩) hs
theorem zgb (its:List X8)(n j:Nat)(u:X8):Vj (·.setIfInBounds j u) { cls:=.type "list",data:=.seq its.toArray n }={ cls:=.type "list",data:=.seq (its.set j u).toArray n }:=by
 simp[Vj]
theorem Inv.lst {pins:List (Addr×Obj)}{σ:St}{H:Hp}{s:X6}{p:Addr}{xs:List V}(I:Inv X pins σ H s)(h:H p=some (.lst xs)) :
  ∃(its:List X8) (n:Nat),Vals xs its/\s.heap.get? p=some { cls:=.type "list",data:=.seq its.toArray n }/\xs.length<=Xx:=by
 obtain⟨z,its,n,r,e⟩:=I.hok p _ h;exact⟨its,n,r,e,z⟩
theorem Inv.lstUpd {pins:List (Addr×Obj)}{σ:St}{H:Hp}{s:X6}{p:Addr}{xs ys:List V}{its its':List X8}{n n':Nat}{f:Obj->Obj}(I:Inv X pins σ H s)(h:H p=some (.lst xs))
  (ho:s.heap.get? p=some { cls:=.type "list",data:=.seq its.toArray n }) (hf:f { cls:=.type "list",data:=.seq its.toArray n }={ cls:=.type "list",data:=.seq its'.toArray n' }) (r:Vals ys its') (hz:ys.length<=Xx) (t:Nat) :
  Inv X pins σ (upd H p (.lst ys)) { s with heap:=s.heap.update p f,toks:=t }:=by
 have e:(s.heap.update p f).get? p=some { cls:=.type "list",data:=.seq its'.toArray n' }:=by
  rw[Wl f ho (by rw[hf]<;>rfl),hf]
 refine I.write (x:=p) (e:=p) (by rw[h];trivial) (.inl rfl) (fun b u hb q=>(Uq _ _ (Vd hb)).trans q) ⟨_,e⟩ ?_;exact⟨hz,its',n',r,e⟩
def zpo:V->V->V->Hp->(Hp->Prop)->Prop:=fun o i v H Q=>∃p xs k j,o=.ref p/\i=.int k/\H p=some (.lst xs)/\ixN xs.length k=some j/\Q (upd H p (.lst (xs.set j v)))
theorem set_list:zo9 X zpo:=by
 intro pins s σ H o i v ov iv u Q I ro ri rv h;obtain⟨p,xs,k,j,rfl,rfl,hp,hj,q⟩:=h;cases ro;obtain⟨t,rfl⟩:=ri;obtain⟨its,n,r,ho,hz⟩:=I.lst hp;obtain⟨h1,h2,h3,h4⟩:=zhi hj;have hl:=r.length;have hn:=Yg;have I':Inv X pins σ (upd H p (.lst (xs.set j v))) { s with heap:=s.heap.update p (Vj (·.setIfInBounds j u)) } :=
  I.lstUpd hp ho (zgb its n j u) (r.set rv j) (by rw[List.length_set];exact hz) s.toks
 by_cases h0:0<=k
 ·have hk:k.toNat=j:=by
   rw[PU h0 h4] at h1;exact Option.some.inj h1
  exact PySem.W.ki_setAt ho h0 (by lia) (by rw[Xr,<- hl];exact h4) (by rw[hk];exact⟨_,I',q⟩)
 ·have hk:(k+(its.toArray.size:Int)).toNat=j:=by
   rw[Rp (by lia) h3] at h1;rw[Xr,<- hl];exact Option.some.inj h1
  exact PySem.W.ki_setBack ho (by lia) (by rw[Xr,<- hl];exact h3) (by lia) (by rw[hk];exact⟨_,I',q⟩)
theorem zdR (lo hi:Option Int)(n:Nat):(Tr lo hi none n).1=((HT.sIx n 0 lo:Nat):Int)/\(Tr lo hi none n).2.1=((HT.sIx n n hi:Nat):Int)/\(Tr lo hi none n).2.2=1:=by
 refine⟨?_,?_,rfl⟩
 ·cases lo with
  | none=>simp[Tr,HT.sIx]
  | some i =>
   simp only[Tr,HT.sIx,Option.getD_none,show (1:Int)>0 by decide,if_true];by_cases h:i<0
   ·simp only[h,if_true]<;>lia
   ·simp only[h,if_false]<;>lia
 ·cases hi with
  | none=>simp[Tr,HT.sIx]
  | some i =>
   simp only[Tr,HT.sIx,Option.getD_none,show (1:Int)>0 by decide,if_true];by_cases h:i<0
   ·simp only[h,if_true]<;>lia
   ·simp only[h,if_false]<;>lia
theorem zcB (its:List X8)(lo hi:Option Int):slicePick its.toArray lo hi none=((its.drop (HT.sIx its.length 0 lo)).take (HT.sIx its.length its.length hi-HT.sIx its.length 0 lo)).toArray:=by
 obtain⟨h1,h2,h3⟩:=zdR lo hi its.toArray.size;unfold slicePick;rw[h1,h2,h3];simp only[sliceRange_one,pick_run,Xr]<;>rfl
def zqg (K:XT):V->Option Int->Option Int->Hp->VK->Prop:=fun x lo hi H Q=>∃a xs,x=.ref a/\SqL K H a xs/\∀p,H p=none->Q (.ref p) (upd H p (.lst (zih xs lo hi)))
theorem zlH:SlR X (zqg X.K):=by
 intro pins s σ H x v vl vu lo hi sl Q I rx hs pl pu h;obtain⟨a,xs,rfl,hx,q⟩:=h;cases rx;obtain⟨its,r,ht,hz⟩:=I.list hx;have hlen:=r.length;refine⟨"list",_,slot_list_getitem.lookup,ht.isList.typeIs,?_⟩;refine wpAny_getItem_list_slice ht.isList hs pl pu .none (by simp) ?_ (by rw[Xr]<;>lia);rw[zcB,<- hlen];refine⟨.ref s.heap.objs.size,_,I.laid (t':=s.toks) (o:=.lst (zih xs lo hi)) (fun b ob q=>XY _ q) (XU _) ?_,rfl,q _ (I.hok.fresh (XU _))⟩;exact⟨XX (zeJ xs lo hi) hz,_,0,(r.drop (HT.sIx xs.length 0 lo)).take (HT.sIx xs.length xs.length hi-HT.sIx xs.length 0 lo),W5 _ rfl⟩
def QG:V->Bool
 | .non=>true
 | .bl _=>true
 | .int _=>true
 | .str _=>true
 | _=>false
def eqV:V->V->Bool
 | .non,.non=>true
 | .bl a,.bl b=>a==b
 | .bl a,.int b=>(if a then 1 else 0)==b
 | .int a,.bl b=>a==(if b then 1 else 0)
 | .int a,.int b=>a==b
 | .str a,.str b=>a==b
 | _,_=>false
theorem znU {A:WM}{s:X6}{y x:V}{u v:X8}(ry:RelV y u)(rx:RelV x v)(fy:QG y=true)(fx:QG x=true):SeqAt.EqAt A s u v (eqV y x):=by
 cases y with
 | non =>
  cases ry;cases x with
  | non=>cases rx;exact SeqAt.EqAt.same _
  | bl b=>cases rx;exact SeqAt.EqAt.none_bool b
  | int b=>obtain⟨t,rfl⟩:=rx;exact SeqAt.EqAt.none_int b t
  | str b=>obtain⟨t,rfl⟩:=rx;exact SeqAt.EqAt.none_str b t
  | _=>exact absurd (show false=true from fx) XV
 | bl a =>
  cases ry;cases x with
  | non=>cases rx;exact SeqAt.EqAt.bool_none a
  | bl b=>cases rx;exact SeqAt.EqAt.bool_bool a b
  | int b=>obtain⟨t,rfl⟩:=rx;exact SeqAt.EqAt.bool_int a b t
  | str b=>obtain⟨t,rfl⟩:=rx;exact SeqAt.EqAt.bool_str a b t
  | _=>exact absurd (show false=true from fx) XV
 | int a =>
  obtain⟨t',rfl⟩:=ry;cases x with
  | non=>cases rx;exact SeqAt.EqAt.int_none a t'
  | bl b=>cases rx;exact SeqAt.EqAt.int_bool a t' b
  | int b=>obtain⟨t,rfl⟩:=rx;exact SeqAt.EqAt.int_int a t' b t
  | str b=>obtain⟨t,rfl⟩:=rx;exact SeqAt.EqAt.int_str a t' b t
  | _=>exact absurd (show false=true from fx) XV
 | str a =>
  obtain⟨t',rfl⟩:=ry;cases x with
  | non=>cases rx;exact SeqAt.EqAt.str_none a t'
  | bl b=>cases rx;exact SeqAt.EqAt.str_bool a t' b
  | int b=>obtain⟨t,rfl⟩:=rx;exact SeqAt.EqAt.str_int a t' b t
  | str b=>obtain⟨t,rfl⟩:=rx;exact SeqAt.EqAt.str_str a t' b t
  | _=>exact absurd (show false=true from fx) XV
 | _=>exact absurd (show false=true from fy) XV
def eqU (x:V)(u:X8):Bool:=match u with
 | .none=>eqV .non x
 | .bool b=>eqV (.bl b) x
 | .int i _=>eqV (.int i) x
 | .str z _=>eqV (.str z) x
 | _=>false
theorem zjw {x y:V}{u:X8}(r:RelV y u)(f:QG y=true):eqU x u=eqV y x:=by
 cases y with
 | non=>cases r;rfl
 | bl b=>cases r;rfl
 | int i=>obtain⟨t,rfl⟩:=r;rfl
 | str z=>obtain⟨t,rfl⟩:=r;rfl
 | _=>exact absurd (show false=true from f) XV
theorem zdS {x:V}:∀{xs:List V} {us:List X8},Vals xs us->xs.all QG=true->us.any (eqU x)=xs.any fun y=>eqV y x
 | _,_,.nil,_=>rfl
 | y::xs,u::us,.cons r t,f=>by
  rw[RX,Wo] at f;rw[SO,SO,zjw r f.1,zdS t f.2]
theorem zbw {A:WM}{s:X6}{x:V}{v:X8}(rx:RelV x v)(fx:QG x=true):∀{xs:List V} {us:List X8},Vals xs us->xs.all QG=true->∀u∈us,SeqAt.EqAt A s u v (eqU x u)
 | _,_,.nil,_=>fun u hu=>by cases hu
 | y::xs,u::us,.cons r t,f=>fun u' hu=>by
  rw[RX,Wo] at f;rcases XF.mp hu with rfl | hu
  ·rw[zjw r f.1];exact znU r rx f.1 fx
  ·exact zbw rx fx t f.2 u' hu
def inV (x:V)(xs:List V):Bool:=xs.any fun y=>eqV y x
def rIn (K:XT)(neg:Bool):R2:=fun x y H Q=>∃p xs,y=.ref p/\(SqL K H p xs\/SqT K H p xs)/\QG x=true/\xs.all QG=true/\Q (.bl (if neg then !inV x xs else inV x xs)) H
theorem zii:OpR X (Wh .In) (rIn X.K false):=by
 intro pins s σ H x y v u Q I rx ry h;obtain⟨p,xs,rfl,hq,fx,fs,q⟩:=h;cases ry;rcases hq with hq | hq
 ·obtain⟨its,r,pl,hz⟩:=I.list hq;refine SeqAt.in_listAt (eqU x) pl.isList (fun w hw=>zbw rx fx r fs w (by simpa using hw)) ⟨.bl _,H,I,rfl,?_⟩;rw[show its.toArray.any (eqU x)=its.any (eqU x) by simp,zdS r fs];exact q
 ·obtain⟨its,r,pl,hz⟩:=I.tuple hq;refine SeqAt.in_tupleAt (eqU x) pl (fun w hw=>zbw rx fx r fs w (by simpa using hw)) ⟨.bl _,H,I,rfl,?_⟩;rw[show its.toArray.any (eqU x)=its.any (eqU x) by simp,zdS r fs];exact q
theorem qq:jR X (.builtin "len") (fun xs H Q=>∃p ys,xs=[.ref p]/\(SqL X.K H p ys\/SqT X.K H p ys)/\Q (.int ys.length) H):=by
 intro pins s σ H xs us Q I r h;obtain⟨p,ys,rfl,hq,q⟩:=h;obtain⟨u,rfl,rx⟩:=vals1 r;cases rx;have hn:=Yg;rcases hq with hq | hq
 ·obtain⟨its,r',pl,hz⟩:=I.list hq;have hlen:=r'.length;exact Calls.call_len_list pl.isList (by simp only[Xr]<;>lia) ⟨.int ys.length,H,I.tok _,⟨s.toks+1,by rw[Xr,hlen]⟩,q⟩
 ·obtain⟨its,r',pl,hz⟩:=I.tuple hq;have hlen:=r'.length;exact len_tuple pl (by simp only[Xr]<;>lia) ⟨.int ys.length,H,I.tok _,⟨s.toks+1,by rw[Xr,hlen]⟩,q⟩
theorem ZH:jR X (.builtin "len") (fun xs H Q=>∃z,xs=[.str z]/\z.length<=Xx/\Q (.int z.length) H):=by
 intro pins s σ H xs us Q I r h;obtain⟨z,rfl,hz,q⟩:=h;obtain⟨u,rfl,t,rfl⟩:=vals1 r;have hn:=Yg;exact len_str (by lia) ⟨.int z.length,H,I.tok _,⟨_,rfl⟩,q⟩
theorem zdT:jR X (.type "list") (fun xs H Q=>∃p ys,xs=[.ref p]/\(SqL X.K H p ys\/SqT X.K H p ys)/\∀l,H l=none->Q (.ref l) (upd H l (.lst ys))):=by
 intro pins s σ H xs us Q I r h;obtain⟨p,ys,rfl,hq,q⟩:=h;obtain⟨u,rfl,rx⟩:=vals1 r;cases rx;have fin:∀(its:List X8),Vals ys its->ys.length<=Xx->∀(h':Heap) (c':Nat),(∀b o',s.heap.get? b=some o'->h'.get? b=some o') ->
   h'.get? s.heap.objs.size=some { cls:=.type "list",dict:=none,data:=.seq its.toArray c',slots:=#[] }->EP X pins σ Q (.ref s.heap.objs.size) { s with heap:=h' }:=fun its r' hz h' c' kp e =>
  ⟨.ref s.heap.objs.size,_,I.laid (t':=s.toks) kp (XU _) (show jk X.prog X.w _ h' _ (.lst ys) from ⟨hz,its,c',r',e⟩),rfl,q _ (I.hok.fresh (XU _))⟩
 rcases hq with hq | hq
 ·obtain⟨its,r',pl,hz⟩:=I.list hq;have hlen:=r'.length;obtain⟨o,ho,hc,n,hd⟩:=pl.isList;exact call_list_seq p (.inl rfl) ho hc hd (fun h' c' kp e=>fin its r' hz h' c' kp e) (by simp only[Xr]<;>lia)
 ·obtain⟨its,r',pl,hz⟩:=I.tuple hq;have hlen:=r'.length;obtain⟨o,ho,hc,n,hd⟩:=pl;exact call_list_seq p (.inr rfl) ho hc hd (fun h' c' kp e=>fin its r' hz h' c' kp e) (by simp only[Xr]<;>lia)
def tyV (K:XT)(T:String)(x:V)(H:Hp):Prop:=match x with
 | .str _=>T="str"
 | .int _=>T="int"
 | .ref p=>(T="list"/\∃xs,SqL K H p xs)\/(T="tuple"/\∃o,K.lookup p=some o/\o.cls=.type "tuple"/\o.dict=none) \/
   (T="dict"/\((∃kvs,H p=some (.dK kvs))\/∃kvs,H p=some (.dT kvs)))\/(T="set"/\∃S n,H p=some (.set S n))
 | _=>False
theorem znV {pins:List (Addr×Obj)}{σ:St}{H:Hp}{s:X6}{T:String}{x:V}{v:X8}(I:Inv X pins σ H s)(r:RelV x v)(ty:tyV X.K T x H) :
  s.TypeIs v T/\∀a,v=.ref a->∃ob,s.heap.get? a=some ob/\ob.dict=none:=by
 cases x with
 | str z =>
  obtain⟨t,rfl⟩:=r;cases (show T="str" from ty);exact⟨typeIs_str s z t,fun _ e=>nomatch e⟩
 | int i =>
  obtain⟨t,rfl⟩:=r;cases (show T="int" from ty);exact⟨typeIs_int s i t,fun _ e=>nomatch e⟩
 | ref p =>
  cases r;rcases ty with ⟨rfl,xs,hq⟩ | ⟨rfl,o,hk,hc,hd⟩ | ⟨rfl,hk⟩ | ⟨rfl,S,n,hk⟩
  ·obtain⟨its,_,pl,_⟩:=I.list hq;refine⟨pl.isList.typeIs,fun a e=>?_⟩;cases e;obtain⟨o,n,e,c,hd,_⟩:=pl;exact⟨o,e,hd⟩
  ·refine⟨⟨o,I.kIn p o hk,hc⟩,fun a e=>?_⟩;cases e;exact⟨o,I.kIn _ o hk,hd⟩
  ·have z:∃o,s.heap.get? p=some o/\o.ExactDict:=by
    rcases hk with ⟨kvs,hk⟩ | ⟨kvs,hk⟩
    ·obtain⟨_,_,_,_,o,_,_,e,ex,_⟩:=I.hok p _ hk;exact⟨o,e,ex⟩
    ·obtain⟨_,_,_,_,o,_,_,e,ex,_⟩:=I.hok p _ hk;exact⟨o,e,ex⟩
   obtain⟨o,e,ex⟩:=z;refine⟨⟨o,e,ex.1⟩,fun a e2=>?_⟩;cases e2;exact⟨o,e,ex.2.1⟩
  ·obtain⟨o,_,_,_,e,ex,_⟩:=I.hok p _ hk;refine⟨⟨o,e,ex.1⟩,fun a e2=>?_⟩;cases e2;exact⟨o,e,ex.2.1⟩
 | _=>exact Wd ty
def tBM (K:XT)(T:String)(r:V->List V->Hp->VK->Prop)(to:TE)(t:TA):TE:=fun σ H Q=>to σ H fun x H1=>tyV K T x H1/\t σ H1 fun xs H2=>r x xs H2 Q
variable {o e:Expr}{es:List Expr}{to:TE}{t:TA}{name:Str}{apos cpos:Pos}{T id:String}{r:V->List V->Hp->VK->Prop}
theorem Jk (pa:PlainAttrs T)(slot:Slot T name id)(hty:typeOf (.builtin id)=pure (.type "method_descriptor"))(hm:MtR X id r)(ho:PE X o to)(ha:PA X (e::es) t)
  (hbase:O8 o name X.env (eval o X.env)=eval o X.env:=by rfl)
  (hfew:((TY cpos (WH (e::es) X.env)).all (fun x=>!x.1)&&(backToKw cpos (OP [] X.env)).all (fun x=>x.1.isSome)
   && decide ((e::es).length+([]:List Pn).length+(if ([]:List Pn).isEmpty then 0 else 1)<30))=true:=by rfl)
  (hline:(apos.endLine==cpos.line)=true:=by rfl) (hs:WH (e::es) X.env=(false,eval e X.env)::WH es X.env:=by rfl) (hplain:(TY cpos (WH es X.env)).any (·.1)=false:=by rfl) :
  PE X (.Call (.Attribute o name apos) (e::es) [] cpos) (tBM X.K T r to t):=by
 intro pins s σ H Q I h;refine wpAny_Call_method_late hbase hfew hline rfl (thn (ho pins s σ H _ I h) fun v s1 ⟨x,H1,I1,r1,ty,q1⟩=>?_);obtain⟨h1,h2⟩:=znV I1 r1 ty;refine⟨T,id,pa,slot,hty,h1,h2,?_⟩;have hA:=ha cpos pins s1 σ H1 _ I1 q1;rw[hs] at hA ⊢;refine Ri (by show (false || (TY cpos (WH es X.env)).any (·.1))=false;rw[hplain]<;>rfl) (SG ?_);exact thn hA fun us s2 ⟨vs,H2,I2,r2,q2⟩=>hm pins s2 σ H2 x vs v us Q I2 r1 r2 q2
/- xs.append(e),list.index on a module's tuple .. are MtR facts of 06m -/
end
def MtM (X:Cx)(id:String)(r:V->List V->Hp->VK->Prop):Prop :=
 ∀(pins:List (Addr×Obj)) (s:X6) (σ:St) (H:Hp) (x:V) (xs:List V) (v:X8) (us:List X8) (Q:VK),Inv X pins σ H s->RelV x v->Vals xs us->r x xs H Q ->
  Xg (Xk X.prog X.w) X.A (call (.builtin id) (v::us)) (EP X pins σ Q) X.xe s
theorem Vals.one:∀{x:V} {us:List X8},Vals [x] us->∃u,us=[u]/\RelV x u
 | _,_,.cons r .nil=>⟨_,rfl,r⟩
theorem Vals.rep {xs:List V}{us:List X8}(h:Vals xs us):∀k:Nat,Vals (Wu k xs).flatten (Wu k us).flatten
 | 0=>.nil
 | k+1=>by
  rw[Vg,Vg,V0,V0];exact Vals.append h (Vals.rep h k)
theorem foldl_rep (its:List X8):∀(k:Nat) (acc:List X8),
  List.foldl (fun x1 x2=>x1++x2) acc.toArray (Wu k its.toArray)=(acc++(Wu k its).flatten).toArray
 | 0,acc=>by simp
 | k+1,acc=>by
  have e:acc.toArray++its.toArray=(acc++its).toArray:=by simp
  have e2:(acc++its)++(Wu k its).flatten=acc++(Wu (k+1) its).flatten:=by
   rw[Vg,V0,WX]
  rw[<- e2,<- foldl_rep its k (acc++its),<- e,Vg,VT]
section
variable {X:Cx}{pins:List (Addr×Obj)}{σ:St}{H:Hp}{s:X6}{l b:Addr}{xs ys zs:List V}
theorem Inv.lset {its its':List X8}{n:Nat}{f:Array X8->Array X8}{t':Nat}(I:Inv X pins σ H s)(hH:H l=some (.lst xs))
  (e:s.heap.get? l=some { cls:=.type "list",data:=.seq its.toArray n }) (hf:f its.toArray=its'.toArray) (hv:Vals ys its') (hz:ys.length<=Xx) :
  Inv X pins σ (upd H l (.lst ys)) { s with heap:=s.heap.update l (Vj f),toks:=t' }:=by
 have q:=PySem.IsL.update e f;rw[hf] at q;refine I.write (x:=l) (e:=l) (by rw[hH];exact trivial) (.inl rfl) (fun b' u hb hu=>(Uq s.heap (Vj f) (Vd hb)).trans hu) ⟨_,q⟩ ?_;exact⟨hz,its',_,hv,q⟩
theorem Inv.lnew {its:List X8}{t':Nat}(I:Inv X pins σ H s)(hv:Vals ys its)(hz:ys.length<=Xx) :
  Inv X pins σ (upd H s.heap.objs.size (.lst ys)) { s with heap:=s.heap.push { cls:=.type "list",data:=.seq its.toArray },toks:=t' } :=
 I.laid (fun _ _ q=>XY _ q) (XU _) ⟨hz,its,0,hv,W5 _ rfl⟩
theorem Inv.fresh (I:Inv X pins σ H s):H s.heap.objs.size=none:=I.hok.fresh (XU _)
theorem Inv.lstM (I:Inv X pins σ H s)(hH:H l=some (.lst xs)):xs.length<=Xx/\∃(its:List X8) (n:Nat),Vals xs its/\xs.length=its.length/\s.heap.get? l=some { cls:=.type "list",data:=.seq its.toArray n }:=by
 obtain⟨z,its,n,r,e⟩:=I.hok l _ hH;exact⟨z,its,n,r,r.length,e⟩
theorem zeK {n:Nat}(h:n<=Xx):UJ n=false:=by
 unfold UJ;exact decide_eq_false (by lia)
end
section
variable {X:Cx}
def zlI:V->List V->Hp->VK->Prop:=fun x vs H Q=>∃l xs y,x=.ref l/\vs=[y]/\H l=some (.lst xs)/\xs.length<Xx/\Q .non (upd H l (.lst (xs++[y])))
theorem yd:MtM X "list.append" zlI:=by
 intro pins s σ H x vs v us Q I rx rv h;obtain⟨l,xs,y,rfl,rfl,hH,hz,q⟩:=h;cases rx;obtain⟨u,rfl,ru⟩:=rv.one;obtain⟨z,its,n,r,hl,e⟩:=I.lstM hH;refine Rq F.slot_list_append ⟨_,e,rfl⟩ F.entry_list_append (F.args_list_append_2 _ _) (PySem.list_append l its.toArray n u (by rw[Xr];lia)) ⟨e,?_⟩;refine⟨.non,_,I.lset (its':=its++[u]) hH e (by simp) (r.append (.cons ru .nil)) ?_,rfl,q⟩;rw[X4,P9];lia
def zlJ:V->List V->Hp->VK->Prop:=fun x vs H Q=>∃l b xs zs,x=.ref l/\vs=[.ref b]/\H l=some (.lst xs)/\H b=some (.lst zs)/\xs.length+zs.length<=Xx/\Q .non (upd H l (.lst (xs++zs)))
theorem YH:MtM X "list.extend" zlJ:=by
 intro pins s σ H x vs v us Q I rx rv h;obtain⟨l,b,xs,zs,rfl,rfl,hH,hB,hz,q⟩:=h;cases rx;obtain⟨u,rfl,ru⟩:=rv.one;cases ru;obtain⟨z,its,n,r,hl,e⟩:=I.lstM hH;obtain⟨z2,its2,n2,r2,hl2,e2⟩:=I.lstM hB;have hsz:its.toArray.size+its2.toArray.size<=Xx:=by rw[Xr,Xr];lia
 have hlong:¬ (!its.toArray.isEmpty&&UJ (its.toArray.size+its2.toArray.size))=true:=by
  rw[zeK hsz,Si];exact XV
 refine Rq F.slot_list_extend ⟨_,e,rfl⟩ F.entry_list_extend (F.args_list_extend_2 _ _)
  (AutoSeq1.list_extend_list_list_0 l its.toArray n b its2.toArray n2 hlong (by rw[Xr];lia) (by lia)) ⟨e,e2,?_⟩
 refine⟨.non,_,I.lset (its':=its++its2) hH e (by simp) (r.append r2) ?_,rfl,q⟩;rw[X4];lia
def zqh:R2:=fun x y H Q=>∃l b xs zs,x=.ref l/\y=.ref b/\H l=some (.lst xs)/\H b=some (.lst zs)/\xs.length+zs.length<=Xx/\∀p,H p=none->Q (.ref p) (upd H p (.lst (xs++zs)))
theorem Qh:OpR X (Uo .Add) zqh:=by
 intro pins s σ H x y v u Q I rx ry h;obtain⟨l,b,xs,zs,rfl,rfl,hH,hB,hz,q⟩:=h;cases rx;cases ry;obtain⟨z,its,n,r,hl,e⟩:=I.lstM hH;obtain⟨z2,its2,n2,r2,hl2,e2⟩:=I.lstM hB;refine PySem.P.add_list e e2 ?_ (by rw[Xr,Xr];lia);have ea:its.toArray++its2.toArray=(its++its2).toArray:=by simp
 rw[ea];exact⟨.ref _,_,I.lnew (t':=s.toks) (r.append r2) (by rw[X4];lia),rfl,q _ I.fresh⟩
def zqi:R2:=fun x y H Q=>∃l k xs,x=.ref l/\y=.int k/\H l=some (.lst xs)/\-(2^63)<=k/\k<2^63/\xs.length*k.toNat<=Xx /\
 ∀p,H p=none->Q (.ref p) (upd H p (.lst (Wu k.toNat xs).flatten))
theorem len_rep {α:Type}(xs:List α)(k:Nat):(Wu k xs).flatten.length=k*xs.length:=by
 induction k with
 | zero=>simp
 | succ k ih=>rw[Vg,V0,X4,ih,OU,Nat.add_comm]
theorem zjx:OpR X (Uo .Mult) zqi:=by
 intro pins s σ H x y v u Q I rx ry h;obtain⟨l,k,xs,rfl,rfl,hH,h1,h2,hz,q⟩:=h;cases rx;obtain⟨t,rfl⟩:=ry;obtain⟨z,its,n,r,hl,e⟩:=I.lstM hH;have hlen:its.toArray.size*k.toNat<=Xx:=by rw[Xr,<- hl];exact hz
 have hcap:¬ its.toArray.size*k.toNat>(2^63-1)/8:=by
  have:(Xx:Nat)<=(2^63-1)/8:=by decide
  lia
 have hfit:¬ (!Builtin.List.listFitsIndex k)=true:=by
  rw[fitsIndex_both h1 h2];exact XV
 have hlong:¬ UJ (its.toArray.size*k.toNat)=true:=by
  rw[zeK hlen];exact XV
 have hnew:List.foldl (fun x1 x2=>x1++x2) #[] (Wu (if its.toArray.isEmpty=true then 0 else k.toNat) its.toArray)=(Wu k.toNat its).flatten.toArray:=by
  have f0:∀m:Nat,List.foldl (fun x1 x2=>x1++x2) #[] (Wu m its.toArray)=(Wu m its).flatten.toArray:=fun m=>by
   have:=foldl_rep its m [];rw[QR] at this;exact this
  rw[f0];cases its with
  | nil=>simp
  | cons a r'=>rw[if_neg (by simp)]
 refine wpAny_binaryOp_repeat_ref (T:="list") (U:="int") (by decide) ⟨_,e,rfl⟩ (fun s'=>typeIs_int s' k t) noFill_list_mul F.fills_int_mul F.slot_int_rmul repeat_list F.slot_int_index.lookup
  (Rq F.slot_int_rmul (typeIs_int s k t) F.entry_int_rmul (F.args_int_rmul_2 _ _) (int___rmul___int_list k t l its.toArray n)
   ⟨e,rfl,⟨_,e,rfl⟩,Rq F.slot_list_mul ⟨_,e,rfl⟩ F.entry_list_mul (F.args_list_mul_2 _ _) (AutoListH.list___mul___list_int_3 l its.toArray n k t hfit hcap hlong) ⟨e,?_⟩⟩)
 rw[hnew];exact⟨.ref _,_,I.lnew (t':=s.toks) (r.rep k.toNat) (by rw[len_rep,OT];exact hz),rfl,q _ I.fresh⟩
end
section
variable {prog:Xn}{w:WW}{A:WM}{E:X8->X6->Prop}{s:X6}
end
section
variable {X:Cx}
end
end L2
namespace Att
open PySem PySem.W PySem.Calls PyProof.Rows
theorem za9 {P:Params}{h:Heap}:∀(ns:List Int) (vs:List X8),WellAll P h vs (ns.map WData.int)->Pm vs ns:=by
 intro ns;induction ns with
 | nil =>
  intro vs w;rw[Ro] at w;cases w;exact .nil
 | cons n ns ih =>
  intro vs w;rw[XB] at w;cases w with
  | cons a b =>
   cases a;exact .cons _ _ (ih _ b)
theorem zij {l:OpenLaw}{n:Nat}(hn:l.most=some n){P:Params}{h:Heap}{args:List WData}{vals:List X8}
  (hpre:l.row.toRowW.claim.pre args=true) (hwl:WellAll P h vals args) :
  ∃a vs ns,vals=[WB a]/\args=[WData.list (ns.map WData.int)]/\h.get? a=some { cls:=.type "list",data:=.seq vs.toArray }/\Pm vs ns/\ns.length<=n:=by
 have hsh:WShape.hasAll [] args [.list .int]=true:=(pre_splitW hpre).1;have hc:l.pre.holds [] { args:=args }=true:=(pre_splitW hpre).2;obtain⟨d,r,rfl,h1,h2⟩:=hasAllW_cons hsh;obtain rfl:=hasAllW_nil h2;obtain⟨xs,rfl,h3⟩:=hasW_list h1;obtain⟨ns,rfl⟩:=items_int h3;have hlen:ns.length<=n:=by
  unfold OpenLaw.pre at hc;have h4:(WTm.not (.lt (.lit (.int (n:Int))) (.len (.arg 0)))).holds [] { args:=[.list (ns.map .int)] }=true:=by
   have h4:=(holds_andW hc).1;rw[hn] at h4;exact h4
  have h5:=condW_of h4 (w_not (w_lt w_lit (w_len_list (w_arg rfl))));rw[Y1] at h5;refine Nat.le_of_not_lt fun q=>?_;have q':(n:Int)<((ns.length:Nat):Int):=by lia
  first
   | (rw[decide_eq_true q'] at h5;exact absurd h5 (by decide))
   | (simp at h5;lia)
 cases hwl with
 | cons w1 w2 =>
  cases w2;cases w1 with
  | list ho hall=>exact⟨_,_,ns,rfl,rfl,ho,za9 ns _ hall,hlen⟩
theorem zik (l:OpenLaw)(args:List WData):l.row.toRowW.claim.post args (.bool true) args=true :=
 postW_of (r:=l.row.toRowW) (X:=(true==true))
  (show WShape.has [] (.bool true) .bool=true by first | rfl | decide | simp[WShape.has,WShape.arms,WShape.armsAll])
  (show (WTm.eq .res (.lit (.bool true))).value [] { args:=args,res:=some (.bool true),after:=args }=some (.bool (true==true)) from w_eq_bool (w_res rfl) w_lit) rfl
theorem zeL {l:OpenLaw}{n:Nat}{q:Xn}{loose:List Str}{XP:(Str->Option X8)->Heap->Prop}{YP:WW->Heap->Prop}{d:DefRec}
  (hn:l.most=some n) (hdf:d.params.defaults=[])
  (call:∀(w:WW) (s₀ s₁:X6) (mg mb:Str->Option X8) (fa:Addr) (o:Obj) (pm cd doc:X8) (a:Addr) (vs:List X8) (ns:List Int),
   Ground q loose [] XP w s₀ mg mb s₁.heap->YP w s₁.heap ->
   s₁.heap.get? fa=some o->o.data=.func (docDef d.name d.params d.body d.scope pm cd doc)->s₁.heap.CodeRec cd d.name->mg d.name=some (.ref fa) ->
   s₁.heap.get? a=some { cls:=.type "list",data:=.seq vs.toArray }->Pm vs ns->ns.length<=n->s₁.gens=#[] ->
   To (Xk l.prog w) Pl (.call (.ref fa) ⟨[.ref a],[]⟩) (fun r s'=>r=.ok (.ret (.bool true))/\OldK s₁.heap s'.heap/\s'.os=s₁.os/\SR s'.gens) s₁) :
  WalkO q loose XP YP l.row.toRowW d [] (fun f vs=>PySem.call f vs):=by
 intro w s₀ s₁ mg mb G Y fa o pm cd doc dV kV ho hd hcd hD hmg hg args vals as hpre hlay hrd hwl hlo;obtain rfl:dV=.none:=Dflts.none hD hdf;obtain rfl:kV=.none:=Dflts.noKw hD;obtain⟨a,vs,ns,rfl,rfl,hobj,hints,hlen⟩:=zij hn hpre hwl;refine enter_call (Su (call w s₀ s₁ mg mb fa o pm cd doc a vs ns G Y ho (fd_plain hd) hcd hmg hobj hints hlen hg) fun r s' hq=>?_);obtain⟨rfl,h2,h3,h4⟩:=hq;exact⟨.inl ⟨.bool true,.bool true,[],rfl,fun _=>rfl,.bool true,zik l _,fun _=>⟨List.Pairwise.nil,fun _ hm=>(nomatch hm)⟩⟩,h2,h3,h4⟩
section
variable {prog:Xn}{w:WW}{A:WM}{E:X8->X6->Prop}{s:X6}{K:Frag}
end
end Att
namespace L2
open PySem PySem.Spec PyProof.Rows
theorem zcZ:∀{vs:List X8} {ns:List Int},Pm vs ns->Vals (ns.map V.int) vs
 | _,_,.nil=>.nil
 | _,_,.cons n t h=>.cons ⟨t,rfl⟩ (zcZ h)
def znW (H:Hp):Prop:=∀b,H b=none\/∃o xs,H b=some (.frz o (.lst xs))
theorem zjy {P:Xn}{w:WW}{K:XT}{mg mb:Str->Option X8}{CX:CXT}{k:Nat}{fa a:Addr}{fd:Xz}{x:Str}{sp:Sp}{s₁:X6}{vs:List X8}{ns:List Int}
  (KX:K.In s₁.heap) (hns:s₁.heap.Ns XC mg) (hb:s₁.heap.Ns O2 mb) (hbb:∀x:Str,x ≠ "__name__"->mb x=Sv x) (hlim:s₁.heap.NoLimit) (hg:s₁.gens=#[])
  (ha:s₁.heap.get? a=some { cls:=.type "list",data:=.seq vs.toArray }) (hi:Pm vs ns) (hl:ns.length<=Xx) (hr:J6 k Pl)
  (F:∀base:Heap,K.In base->base.Ns XC mg->qb P w K mg base CX k fa fd [x] sp) (hbind:∀(s:X6) (u:X8),OX s fd ⟨[u],[]⟩ [(x,u)])
  (hsp:∀H:Hp,znW H->SqL K H a (ns.map V.int)->sp [.ref a] H (fun v _=>v=.bl true) fun _ _ _=>False)
  (hCX:∀H e s',CX [] H s₁ (fun _ _ _=>False) e s'->False) :
  To (Xk P w) Pl (.call (.ref fa) ⟨[.ref a],[]⟩) (fun r s'=>r=.ok (.ret (.bool true))/\OldK s₁.heap s'.heap/\s'.os=s₁.os/\SR s'.gens) s₁:=by
 have rv:=zcZ hi;have lenV:=hi.length;have core:∀H:Hp,znW H->SqL K H a (ns.map V.int)->HOk P w H s₁.heap->(∀b,H b≠none->b=a)->(H a≠none->K.lookup a=none) ->
   To (Xk P w) Pl (.call (.ref fa) ⟨[.ref a],[]⟩) (fun r s'=>r=.ok (.ret (.bool true))/\OldK s₁.heap s'.heap/\s'.os=s₁.os/\SR s'.gens) s₁:=by
  intro H hO hS hok hA hK;have base_of:∀{b:Addr} {o:Obj},s₁.heap.get? b=some o->H b=none->(zdK s₁.heap H).get? b=some o:=fun e n=>zjn e n;have noA:∀{b:Addr} {o:Obj} {es:Array RK} {ep:Nat},s₁.heap.get? b=some o->o.data=.dict es ep->H b=none:=fun {b o es ep} e d=>by
   cases q:H b with
   | none=>rfl
   | some u =>
    have e':b=a:=hA b (by rw[q];simp);subst e';rw[ha] at e;cases e;have d':Data.seq vs.toArray _=Data.dict es ep:=d;cases d'
  have nsK:∀{b:Addr} {m:Str->Option X8},s₁.heap.Ns b m->(zdK s₁.heap H).Ns b m:=fun {b m} ⟨o,es,ep,e,d,r⟩=>⟨o,es,ep,base_of e (noA e d),d,r⟩;have hKb:K.In (zdK s₁.heap H):=fun b o e=>base_of (KX b o e) (by
   cases q:H b with
   | none=>rfl
   | some u =>
    have e':b=a:=hA b (by rw[q];simp);subst e';rw[hK (by rw[q];simp)] at e;cases e)
  have hM:Mod K mg (zdK s₁.heap H):=⟨hKb,nsK hns,⟨mb,nsK hb,hbb⟩,let ⟨mc,h1,h2⟩:=hlim;⟨mc,nsK h1,h2⟩⟩;have e0:zlB P w K mg (zdK s₁.heap H) Pl [] s₁ H:=⟨rfl,hM,fun b o e=>zlz e,Nat.le_of_eq (zic _ _),trivial,fun b hb=>absurd (show b∈([]:List Addr) from hb) (by simp),hok,.of_eq hg⟩;refine Su ((F _ hKb (nsK hns)).run Pl [] s₁ H ⟨[.ref a],[]⟩ [.ref a] [.ref a] _ _ hr e0 (hbind s₁ (.ref a)) (.cons rfl .nil) (hsp H hO hS)) fun r s' h=>?_;cases r with
  | error e=>exact(hCX H e s' h).elim
  | ok fl =>
   cases fl with
   | next=>exact Wd h
   | brk=>exact Wd h
   | cont=>exact Wd h
   | ret u =>
    obtain⟨v,H',os,bare,un,hok',r',q⟩:=h;have q':v=.bl true:=q;subst q';obtain rfl:u=Value.bool true:=r';refine⟨rfl,OldK.of_keep fun b o e=>?_,os,bare⟩;cases q:H b with
    | none=>exact un.keep b o e q (by intro z;exact absurd (show b∈([]:List Addr) from z) (by simp)) (by simp)
    | some u =>
     rcases hO b with z | ⟨ob,xs,z⟩
     ·rw[q] at z;cases z
     ·have z2:=un.frzs b ob _ z;obtain⟨e1,_⟩:=hok b _ z;obtain⟨e2,_⟩:=hok' b _ z2;rw[e] at e1;cases e1;exact e2
 cases hk:K.lookup a with
 | some o =>
  have e:=KX a o hk;rw[ha] at e;cases e;refine core (fun _=>none) (fun _=>.inl rfl) (.inr ⟨_,vs.toArray,_,hk,rfl,rfl,rfl,by rw[Xr,lenV];exact hl,by simpa using rv⟩) (fun b u z=>by have z':(none:Option HO)=some u:=z;cases z') (fun b z=>absurd rfl z) fun z=>absurd rfl z
 | none =>
  refine core (fun b=>if b=a then some (.frz { cls:=.type "list",data:=.seq vs.toArray } (.lst (ns.map V.int))) else none) (fun b=>?_) (.inl (.inr ⟨{ cls:=.type "list",data:=.seq vs.toArray },if_pos rfl⟩)) (fun b u z=>?_) (fun b z=>?_) fun _=>hk
  ·by_cases hb:b=a
   ·exact .inr ⟨_,_,if_pos hb⟩
   ·exact .inl (if_neg hb)
  ·by_cases hb:b=a
   ·have z':=(if_pos hb).symm.trans z;cases z';subst hb;exact⟨ha,by rw[Y1];exact hl,vs,_,rv,ha⟩
   ·have z':=(if_neg hb).symm.trans z;cases z'
  ·by_cases hb:b=a
   ·exact hb
   ·exact absurd (if_neg hb) z
theorem zhj {l:QQ}{n k:Nat}{q:Xn}{loose:List Str}{XP:(Str->Option X8)->Heap->Prop}{YP:WW->Heap->Prop}{d:DefRec}{K:Params->XT}{CX:WW->CXT}{sp:WW->Sp}{x:Str}
  (hn:l.most=some n) (hn2:n<=Xx) (hdf:d.params.defaults=[]) (hr:J6 k Pl)
  (hY:∀(w:WW) (h:Heap),YP w h->(K w.params).In h)
  (F:∀(w:WW) (mg:Str->Option X8) (fa:Addr) (h:Heap),(K w.params).In h->h.Ns XC mg->mg d.name=some (.ref fa) ->
   ∃fd:Xz,(∀(s:X6) (u:X8),OX s fd ⟨[u],[]⟩ [(x,u)]) /\
    ∀base:Heap,(K w.params).In base->base.Ns XC mg->qb l.prog w (K w.params) mg base (CX w) k fa fd [x] (sp w))
  (hsp:∀(w:WW) (H:Hp) (a:Addr) (ns:List Int),ns.length<=n->znW H->SqL (K w.params) H a (ns.map V.int)->sp w [.ref a] H (fun v _=>v=.bl true) fun _ _ _=>False)
  (hCX:∀(w:WW) (H:Hp) (s:X6) (e:X8) (s':X6),CX w [] H s (fun _ _ _=>False) e s'->False) :
  Pb q loose XP YP l.row.toRowW d [] (fun f vs=>PySem.call f vs):=by
 refine Att.zeL hn hdf fun w s₀ s₁ mg mb fa o pm cd doc a vs ns G Y ho hd hcd hmg hobj hints hlen hg=>?_;have KX:=hY w _ Y;obtain⟨fd,hb,hF⟩:=F w mg fa _ KX G.T.g hmg;exact zjy KX G.T.g G.T.b G.T.builtins G.T.nolimit hg hobj hints (XX hlen hn2) hr hF hb (fun H hO hS=>hsp w H a ns hlen hO hS) fun H e s'=>hCX w H s₁ e s'
end L2
/- THE LAST THEOREM (shape;LID,My.* are yours):
   My.Adr: a structure of the addresses that your layer names (classes,functions);My.Txt K t: a structure (Prop) of the equations over K;
   My.txt_mk:{K} {implicit addresses ..} (e1:nsIn K XC "law"=some (some (.ref f))) (e2:K.lookup f=some ⟨oc,od,.func (fnOf "law" "law" params body scope dV kV doc pm an cdv ct),sl⟩) (e3:codeIn K cdv "law"=true) ..:∃t,My.Txt K t
set_option maxRecDepth 100000 in
set_option maxHeartbeats 0 in
theorem PySem.Challenge.cw_LID_holds : PySem.Challenge.rw_LID.Holds := by
 w_on;o_law;k_head;(case hw=>w_witness2);k_fill;refine L2.zhj (l:=PySem.Challenge.rw_LID) (n:=63) (k:=40) (x:="script") (CX:=fun w=>..) (sp:=fun _=>My.zqj) rfl (by decide) rfl ⟨rfl,by decide,by decide⟩ (fun w h Y=>PySem.W.kIn_of Y) ?F ?S ?C
 case F =>
  intro w mg fa h KX G hmg
  have T:∃t,My.Txt (L2.KOf KX) t:=by
   dsimp only[L2.KOf]                          -- K must stand as «<heap const> w.params» for k_is;refine' My.txt_mk ?e1 ?e2 ?e3 ..;(case e1=>PySem.W.k_is)                    -- in the order: a name->its address->its object->its parts;(case e2=>PySem.W.k_is);..
  obtain⟨t,T⟩:=T
  have e0:=hmg.symm.trans (VE KX G T.law)
  cases e0                                       -- fa is the law's own address
  exact⟨_,fun s u=>.of_eq rfl,fun base kb nb=>My.law_fn T kb nb⟩     -- if «.of_eq rfl» comes too early: refine' ⟨_,?b,fun base kb nb=>My.law_fn T kb nb⟩;exact fun s u=>.of_eq rfl
 case S=>exact fun w H a ns hl hO hS=>..
 case C=>exact ..
(the tactic k_is has no namespace: write k_is) -/
namespace L2
open PySem PySem.Spec PyProof.Rows
def JF (s:Stmt):Arguments:=match s with
 | .FunctionDef _ a _ _ _ _ _ _ _ _=>a
 | _=>{ posonlyargs:=[],args:=[],vararg:=none,kwonlyargs:=[],kw_defaults:=[],kwarg:=none,defaults:=[] }
def yY (s:Stmt):List Stmt:=match s with
 | .FunctionDef _ _ b _ _ _ _ _ _ _=>b
 | _=>[]
def zf (s:Stmt):Ux:=match s with
 | .FunctionDef _ _ _ _ _ _ sc _ _ _=>sc
 | _=>{ kind:=.function,names:=[],isGenerator:=false,isCoroutine:=false }
abbrev CX0:CXT:=fun _ _ _ _ _ _=>False
abbrev E0:XK:=fun _ _ _=>False
theorem zpp {X:Cx}:Passes CX0 X E0:=fun _ _ _ _ _ _ _ h=>h.elim
structure Fun (K:XT)(x qual:Str)(st:Stmt)(f:Addr)(fd:Xz):Prop where
 ex:∃(oc:X8) (od:Option Addr) (kV doc pm:X8) (an:Option Addr) (cdv ct:X8) (osl:Array (Option X8)),
  fd=US x qual (JF st) (yY st) (zf st) .none kV doc pm an cdv ct/\K.lookup f=some ⟨oc,od,.func fd,osl⟩/\Th K cdv qual=true
 kp:Tg K (.ref f)=true
section
variable {P:Xn}{w:WW}{K:XT}{mg:Str->Option X8}{base:Heap}
theorem Fun.ok {x qual:Str}{st:Stmt}{f:Addr}{fd:Xz}{N ps:List Str}{k:Nat}{sp:Sp}(F:Fun K x qual st f fd)(S:zF N ps (zf st))(len:∀vs H Q E,sp vs H Q E->vs.length=ps.length)
  (hbody:∀(cdv:X8) (A:WM) (outer:List Env) (s:X6) (H:Hp) (vs:List V) (Q:VK) (E:XK),J6 k (A.deeper (Rs qual (zf st) s.heap.objs.size f cdv))->sp vs H Q E ->
   ∃t,PSs (zeH CX0 P w K mg base N qual (zf st) f cdv A outer s H E).nox (yY st) t/\t { nx:=fun _ H'=>Q .non H',rt:=Q } (start N vs) H):qb P w K mg base CX0 (k+1) f fd ps sp:=by
 obtain⟨oc,od,kV,doc,pm,an,cdv,ct,osl,rfl,lk,hcd⟩:=F.ex;refine zm5 lk hcd S len fun A outer s H vs Q E hr hsp=>?_;obtain⟨t,h,q⟩:=hbody cdv A outer s H vs Q E hr hsp;exact⟨t,h.nox,q⟩
theorem Fun.binds {x qual:Str}{st:Stmt}{f:Addr}{fd:Xz}{ps:List Str}(F:Fun K x qual st f fd)
  (h:∀(kV doc pm:X8) (an:Option Addr) (cdv ct:X8) (us:List X8),us.length=ps.length->bindArgs (US x qual (JF st) (yY st) (zf st) .none kV doc pm an cdv ct) ⟨us,[]⟩=pure (ps.zip us)):Binds K fd ps []:=by
 obtain⟨oc,od,kV,doc,pm,an,cdv,ct,osl,rfl,lk,hcd⟩:=F.ex;exact .all (h kV doc pm an cdv ct)
theorem zjz {x qual:Str}{st:Stmt}{f:Addr}{oc:X8}{od an:Option Addr}{osl:Array (Option X8)}{kV doc pm cdv ct:X8}(l:K.lookup f=some ⟨oc,od,.func (US x qual (JF st) (yY st) (zf st) .none kV doc pm an cdv ct),osl⟩)
  (c:Th K cdv qual=true) (k:Tg K (.ref f)=true):Fun K x qual st f (US x qual (JF st) (yY st) (zf st) .none kV doc pm an cdv ct):=⟨⟨oc,od,kV,doc,pm,an,cdv,ct,osl,rfl,l,c⟩,k⟩
end
section
variable {X:Cx}
theorem pv (i:Nat){x:Str}{pos:Pos}(hN:X.N[i]?=some x:=by rfl)(hv:Vis X.env.scope x:=by first | exact XE rfl | exact Vp (XE rfl) | exact Vp (Vp rfl))(hd:(x==("__debug__":Str))=false:=by decide)
  (hcd:(x==("__classdict__":Str))=false:=by decide):PE X (.Name x pos) (zo5 i):=znF hN hv hd hcd
end
theorem QH {A B:Prop}(h:B):if false=true then A else B:=by
 rw[if_neg XV];exact h
theorem QI {A B:Prop}(h:A):if true=true then A else B:=by
 rw[if_pos rfl];exact h
theorem zgc {c A B:Prop} [Decidable c](h1:c->A)(h2:¬ c->B):if c then A else B:=by
 by_cases h:c
 ·rw[if_pos h];exact h1 h
 ·rw[if_neg h];exact h2 h
def zq (H H':Hp):Prop:=∀b o,H b=some o->H' b=some o
theorem zq.refl (H:Hp):zq H H:=fun _ _ h=>h
theorem zq.trans {H H1 H2:Hp}(a:zq H H1)(b:zq H1 H2):zq H H2:=fun c o h=>b c o (a c o h)
theorem zq.free {H H':Hp}(e:zq H H'){l:Addr}(h:H' l=Option.none):H l=Option.none:=by
 cases q:H l with
 | none=>rfl
 | some o =>
  rw[e l o q] at h;cases h
theorem zq.seq {K:XT}{H H':Hp}{a:Addr}{xs:List V}(e:zq H H')(h:SqL K H a xs):SqL K H' a xs:=by
 rcases h with (h | ⟨o,h⟩) | h
 ·exact .inl (.inl (e _ _ h))
 ·exact .inl (.inr ⟨o,e _ _ h⟩)
 ·exact .inr h
end L2
set_option maxHeartbeats 4000000
namespace L2
open PySem PySem.Spec PyProof.Rows
section
variable {X:Cx}
theorem ZI:OpR X (Uo .Mult) (rI OJ fun i j=>.int (i*j)):=opI fun _ _ _ _ _ _ _ hc q=>mul_int q hc
def JP (_ j:Int):Prop:=0<j/\j.natAbs.log2<9000
theorem Jl:OpR X (Uo .FloorDiv) (rI JP fun i j=>.int (i/j)):=opI fun i j _ _ _ _ _ hc q=>by
 have h1:(0:Int)<j:=hc.1;exact floordiv_int (by lia) (by rw[Int.fdiv_eq_ediv_of_nonneg i (by lia)];exact q) (.inl (PyProof.noPylong_of_log2 hc.2))
theorem JP.small {i j:Int}(h:0<j)(h':j<1073741824):JP i j:=by
 refine⟨h,?_⟩;have h0:j.natAbs≠0:=by lia
 have:j.natAbs.log2<30:=(Nat.log2_lt h0).mpr (by lia);lia
theorem zpq {i j:Int}(h1:-(2^64)<j)(h2:j<2^64):OJ i j:=IntMulOk.of_right (intBits_le_64 h1 h2)
theorem mulL {i j:Int}(h1:-(2^64)<i)(h2:i<2^64):OJ i j:=IntMulOk.of_left (intBits_le_64 h1 h2)
theorem zpr {i j:Int}(h1:i.natAbs<2^8000)(h2:j.natAbs<2^8000):OJ i j:=IntMulOk.of_le (m:=8000) (n:=8000) (intBits_le_iff.mpr h1) (intBits_le_iff.mpr h2) (by decide)
end
theorem jT {b:Bool}{A B:Prop}(e:b=true)(h:A):if b=true then A else B:=by
 rw[if_pos e];exact h
theorem jE {b:Bool}{A B:Prop}(e:b=false)(h:B):if b=true then A else B:=by
 subst e;exact QH h
structure zm (K:XT)(mg:Str->Option X8)(x:Str)(st:Stmt)(ps:List Str)(f:Addr)(fd:Xz):Prop where
 F:Fun K x x st f fd
 g:mg x=some (.ref f)
 b:Binds K fd ps []
theorem zgd {α:Type}{xs:List α}{i:Int}{v:α}(h:0<=i)(e:xs[i.toNat]?=some v):atI xs i=some v:=by
 have:=je e;rwa [Sz h] at this
def zqk (t u:TS):TS:=fun D σ H=>∃M:St->Hp->Prop,t { D with nx:=M } σ H/\∀ σ' H',M σ' H'->u D σ' H'
theorem QJ {X:Cx}{st:Stmt}{rest:List Stmt}{t u:TS}(h1:PS X st t)(h2:PSs X rest u):PSs X (st::rest) (zqk t u):=by
 intro pins s σ H D I h;obtain⟨M,h3,h4⟩:=h;refine RI (thn (h1 pins s σ H _ I h3) fun f s1 q=>?_);cases f with
 | next =>
  obtain⟨σ1,H1,I1,q1⟩:=q;exact h2 pins s1 σ1 H1 D I1 (h4 σ1 H1 q1)
 | brk=>exact q
 | cont=>exact q
 | ret v=>exact q
theorem zd {H:Hp}{l:Addr}{o:HO}(h:H l=none):zq H (upd H l o):=fun b u e=>by rw[zk (zj e h)];exact e
section
variable {X:Cx}{tg:Expr}
end
mutual
inductive Rdv (K:XT)(H:Hp):V->Wa->Prop
 | non:Rdv K H .non .none
 | bl (b:Bool):Rdv K H (.bl b) (.bool b)
 | int (i:Int):Rdv K H (.int i) (.int i)
 | str (x:Str):Rdv K H (.str x) (.str x)
 | lst {a:Addr} {xs:List V} {ds:List Wa}:SqL K H a xs->J7 K H xs ds->Rdv K H (.ref a) (.list ds)
 | tup {a:Addr} {xs:List V} {ds:List Wa}:SqT K H a xs->J7 K H xs ds->Rdv K H (.ref a) (.tuple ds)
inductive J7 (K:XT)(H:Hp):List V->List Wa->Prop
 | nil:J7 K H [] []
 | cons {x:V} {d:Wa} {xs:List V} {ds:List Wa}:Rdv K H x d->J7 K H xs ds->J7 K H (x::xs) (d::ds)
end
section
variable {X:Cx}{pins:List (Addr×Obj)}{σ:St}{H:Hp}{s:X6}
theorem zil {a:Addr}{xs:List V}{ds:List Wa}(I:Inv X pins σ H s)(hq:SqL X.K H a xs)(h:∀us,Vals xs us->∃as,OW s.heap us ds as):∀u,RelV (.ref a) u->∃as,Reads s.heap u (.list ds) as:=by
 intro u r;cases r;obtain⟨its,rv,p,hz⟩:=I.list hq;obtain⟨as,ra⟩:=h _ rv;obtain⟨o,ho,hc,n,hd⟩:=p.isList;exact⟨_,.list ho hc hd (by simpa using ra)⟩
theorem zim {a:Addr}{xs:List V}{ds:List Wa}(I:Inv X pins σ H s)(hq:SqT X.K H a xs)(h:∀us,Vals xs us->∃as,OW s.heap us ds as):∀u,RelV (.ref a) u->∃as,Reads s.heap u (.tuple ds) as:=by
 intro u r;cases r;obtain⟨its,rv,p,hz⟩:=I.tuple hq;obtain⟨as,ra⟩:=h _ rv;obtain⟨o,ho,hc,n,hd⟩:=p;exact⟨_,.tuple ho hc hd (by simpa using ra)⟩
theorem zge {v:V}{vs:List V}{d:Wa}{ds:List Wa}(h:∀u,RelV v u->∃as,Reads s.heap u d as)(t:∀us,Vals vs us->∃as,OW s.heap us ds as):∀us,Vals (v::vs) us->∃as,OW s.heap us (d::ds) as:=by
 intro us r;cases r with
 | cons r1 r2 =>
  obtain⟨as,ra⟩:=h _ r1;obtain⟨bs,rb⟩:=t _ r2;exact⟨_,.cons ra rb⟩
theorem Rdv.reads (I:Inv X pins σ H s){v:V}{d:Wa}{u:X8}(h:Rdv X.K H v d):RelV v u->∃as,Reads s.heap u d as :=
 Rdv.rec (motive_1:=fun v d _=>∀u,RelV v u->∃as,Reads s.heap u d as) (motive_2:=fun vs ds _=>∀us,Vals vs us->∃as,OW s.heap us ds as)
  (fun u r=>by cases r;exact⟨_,.none⟩) (fun b u r=>by cases r;exact⟨_,.bool b⟩) (fun i u r=>by obtain⟨t,rfl⟩:=r;exact⟨_,.int i t⟩) (fun x u r=>by obtain⟨t,rfl⟩:=r;exact⟨_,.str x t⟩)
  (fun hq _ h=>zil I hq h) (fun hq _ h=>zim I hq h) (fun us r=>by cases r;exact⟨_,.nil⟩) (fun _ _ h t=>zge h t) h u
structure zlK (x y:Wa):Prop where
 l1:x.canLay0=true
 l2:y.canLay0=true
 dp:x.depth<=64
def zlL (K:XT)(neg:Bool):R2:=fun x y H Q=>∃dx dy,Rdv K H x dx/\Rdv K H y dy/\zlK dx dy/\Q (.bl (if neg then !PyData.eqv dx dy else WL dx dy)) H
theorem Qi (hu:X.A.units+64<VP):OpR X (Wh .Eq) (zlL X.K false):=by
 intro pins s σ H x y v u Q I rx ry h;obtain⟨dx,dy,hx,hy,c,q⟩:=h;obtain⟨as,ra⟩:=hx.reads I rx;obtain⟨bs,rb⟩:=hy.reads I ry;have:=c.dp;exact SeqAt.compareEq_reads ra rb c.l1 c.l2 (by lia) ⟨.bl _,H,I,rfl,q⟩
theorem yP (hu:X.A.units+64<VP):OpR X (Wh .NotEq) (zlL X.K true):=by
 intro pins s σ H x y v u Q I rx ry h;obtain⟨dx,dy,hx,hy,c,q⟩:=h;obtain⟨as,ra⟩:=hx.reads I rx;obtain⟨bs,rb⟩:=hy.reads I ry;have:=c.dp;exact SeqAt.compareNe_reads ra rb c.l1 c.l2 (by lia) ⟨.bl _,H,I,rfl,q⟩
def zlM (K:XT)(neg:Bool):R2:=fun x y H Q=>∃d ds,Rdv K H x d/\Rdv K H y (.list ds)/\d.canLay0=true/\UQ ds=true/\d.depth<=60/\Q (.bl (if neg then !ds.any (fun z=>WL z d) else ds.any fun z=>WL z d)) H
theorem zbx (hu:X.A.units+64<VP):OpR X (Wh .In) (zlM X.K false):=by
 intro pins s σ H x y v u Q I rx ry h;obtain⟨d,ds,hx,hy,c1,c2,c3,q⟩:=h;obtain⟨as,ra⟩:=hx.reads I rx;obtain⟨bs,rb⟩:=hy.reads I ry;exact SeqAt.in_list_reads rb ra c2 c1 (by lia) ⟨.bl _,H,I,rfl,q⟩
theorem zcC (hu:X.A.units+64<VP):OpR X (Wh .NotIn) (zlM X.K true):=by
 intro pins s σ H x y v u Q I rx ry h;obtain⟨d,ds,hx,hy,c1,c2,c3,q⟩:=h;obtain⟨as,ra⟩:=hx.reads I rx;obtain⟨bs,rb⟩:=hy.reads I ry;exact SeqAt.notIn_list_reads rb ra c2 c1 (by lia) ⟨.bl _,H,I,rfl,q⟩
end
def qQ (X:Cx)(N:List Str)(scope:Ux)(cl:List (Str×Addr))(C:Addr)(fp:List Addr)(pins:List (Addr×Obj))(s:X6)(H:Hp):Cx where
 prog:=X.prog
 w:=X.w
 K:=X.K
 mg:=X.mg
 base:=X.base
 A:=X.A
 N:=N
 s₀:=s
 H₀:=H
 env:=Tn scope cl C X.env
 outer:=X.stack
 stack:=X.stack
 ex:=fp
 fn:=fun _=>false
 calm:=X.calm
 pn:=X.pn++pins
 xe:=fun _ _=>False
def pull (src:List (Option Nat))(σ:St):St:=src.map fun o=>match o with
 | some j=>(σ[j]?).getD none
 | none=>none
structure zP (X:Cx)(N:List Str)(src:List (Option Nat))(scope:Ux)(cl:List (Str×Addr)):Prop where
 kind:scope.kind=.function
 nocell:∀y∈scope.names,y.2 ≠ .cell
 names:∀y∈scope.names,y.2=.local->scope.names.lookup y.1=some .local
 clos:O0 scope X.env=pure cl
 sub:∀x c,cl.lookup x=some c->X.env.cells.lookup x=some c
 has:∀x,((Uv scope X.env).names.lookup x=some .cell\/(Uv scope X.env).names.lookup x=some .free)->∃c,cl.lookup x=some c
 len:src.length=N.length
 pulls:∀(i j:Nat) (x:Str),N[i]?=some x->src[i]?=some (some j)->X.N[j]?=some x/\(X.env.kindOf x=some .cell\/X.env.kindOf x=some .free)/\((Uv scope X.env).names.lookup x=some .cell\/(Uv scope X.env).names.lookup x=some .free)
theorem zcD {scope:Ux}{env:Env}(nf:∀y∈scope.names,y.2 ≠ .free):(Uv scope env).names=scope.names:=by
 show scope.names.map _=scope.names;refine map_eq_self fun x hx=>?_;obtain⟨n,k⟩:=x;have:(k==NameKind.free)=false:=by simpa using nf _ hx
 simp[this]
theorem zP.plain {X:Cx}{N:List Str}{src:List (Option Nat)}{scope:Ux}(kind:scope.kind=.function)(nocell:∀y∈scope.names,y.2 ≠ .cell)(nofree:∀y∈scope.names,y.2 ≠ .free)
  (names:∀y∈scope.names,y.2=.local->scope.names.lookup y.1=some .local) (len:src.length=N.length) (none:∀o∈src,o=none):zP X N src scope [] where
 kind:=kind
 nocell:=nocell
 names:=names
 clos:=closureFor_none nofree
 sub:=fun x c h=>nomatch h
 has:=fun x h=>by
  rw[zcD nofree] at h;rcases h with h | h
  ·exact absurd rfl (nocell _ (WP h))
  ·exact absurd rfl (nofree _ (WP h))
 len:=len
 pulls:=fun i j x _ h=>by
  have:=none _ (X7 h);cases this
def zjA (X:Cx)(ifs:List Expr)(t:TT):Prop :=
 ∀(pins:List (Addr×Obj)) (s:X6) (σ:St) (H:Hp) (Q:Bool->Hp->Prop),Inv X pins σ H s->t σ H Q ->
  Xg (Xk X.prog X.w) X.A (forIn ifs true fun c r=>if r=true then do let ok <- isTrue c X.env (eval c X.env);pure (V5 ok) else pure (V5 r)) (TP X pins σ Q) X.xe s
def zjB:TT:=fun _ H Q=>Q true H
theorem qo {X:Cx}:zjA X [] zjB:=fun _ _ _ H _ I h=>wpAny_tests_nil ⟨H,I,h⟩
theorem qE {X:Cx}{c:Expr}{t:TT}(h:PT X c t):zjA X [c] t:=fun pins s σ H Q I hq=>wpAny_tests_one (h pins s σ H Q I hq)
def Jm (J:It)(g:TG)(tc:TT)(te:TE)(Q:VK)(D:Addr)(σ0:St)(H0:Hp):Prop :=
 ∃W:Nat->Nat->St->Hp->Prop,(∃m,W 0 m σ0 H0)/\∀i m σ' H',W i m σ' H' ->
  (J.stop i H'/\Q (.ref D) H')\/(J.go i H'/\∃N:St->Hp->Prop,(∀ σ'' H'',N σ'' H''->∃m',m'<m/\W (i+1) m' σ'' H'') /\
   ∀x H2,J.yld i H' x H2->g x σ' H2 fun σ2 H3=>tc σ2 H3 fun b H4=>if b=true then te σ2 H4 fun y H5=>∃ys,H5 D=some (.lst ys)/\ys.length<Xx/\N σ2 (upd H5 D (.lst (ys++[y]))) else N σ2 H4)
def zjC (wi:TI)(src:List (Option Nat))(g:TG)(tc:TT)(te:TE):TE:=fun σ H Q=>wi σ H fun J H1=>∀D,H1 D=none->Jm J g tc te Q D (pull src σ) (upd H1 D (.lst []))
theorem Un.but {fs ex:List Addr}{H H1:Hp}{h h1 h2:Heap}{C:Addr}(u:Un fs ex H H1 h h1)(hC:h.objs.size<=C)(sb:V2 C h1 h2):Un fs ex H H1 h h2:=by
 have ne:∀b o,h.get? b=some o->b≠C:=fun b o e=>Xi (Xq (XH e) hC);refine⟨fun b o e n hb hx=>(sb.2 b (ne b o e)).trans (u.keep b o e n hb hx),fun b o e n hb hx=>?_,u.free,fun b o e hx=>?_,u.tups,u.frzs,u.tbls⟩
 ·obtain⟨sl,q⟩:=u.slot b o e n hb hx;exact⟨sl,(sb.2 b (ne b o e)).trans q⟩
 ·obtain⟨o',q⟩:=u.there b o e hx;exact⟨o',(sb.2 b (ne b o e)).trans q⟩
theorem HOk.but {P:Xn}{w:WW}{H:Hp}{h h':Heap}{C:Addr}(ok:HOk P w H h)(hn:H C=none)(sb:V2 C h h'):HOk P w H h':=fun b ob e=>by
 refine(ok b ob e).stay (fun c w' hc q=>(sb.2 c ?_).trans q) (fun _ q=>q) fun _ _ q=>q;rintro rfl;rcases hc with rfl | hc
 ·rw[hn] at e;cases e
 ·rw[hn] at hc;cases hc
section
variable {X:Cx}{tg iter elt:Expr}{ifs:List Expr}{scope:Ux}{pos:Pos}{N:List Str}{src:List (Option Nat)}{cl:List (Str×Addr)}{wi:TI}{g:TG}{tc:TT}{te:TE}
theorem zby {pins:List (Addr×Obj)}{σ:St}{H:Hp}{s:X6}{fp:List Addr}{h1:Heap}{C:Addr}{tk:Nat}(ok:zP X N src scope cl)(I:Inv X pins σ H s)(hf:∀b∈fp,QF X pins H b)(ho:∀b∈fp,∃o,s.heap.get? b=some o)
  (hC:C=s.heap.objs.size+1) (k:∀b u,s.heap.get? b=some u->h1.get? b=some u) (hD:h1.get? s.heap.objs.size=some { cls:=.type "list",data:=.seq #[] }) {m:Str->Option X8} (hn:h1.Ns C m) :
  Inv (qQ X N scope cl C fp pins s H) [] (pull src σ) (upd H s.heap.objs.size (.lst [])) { s with heap:=h1,toks:=tk }:=by
 have lt:∀b o,s.heap.get? b=some o->b<s.heap.objs.size:=fun b o e=>XH e;have nC:∀b o,s.heap.get? b=some o->b≠C:=fun b o e=>by rw[hC];exact Xi (WJ (lt b o e))
 have nD:∀b o,s.heap.get? b=some o->b≠s.heap.objs.size:=fun b o e=>Xi (lt b o e);have fr:∀b,s.heap.objs.size<=b->H b=none:=fun b hb=>I.hok.fresh hb;have nst:∀b,b≠X.env.locals->b ∉ X.fs->b ∉ frs X.stack:=fun b h1 h2 z=>(XF.mp (I.stkSub b z)).elim h1 h2;have sub:=ok.sub;refine⟨⟨I.ok.mod,ok.kind,I.ok.glob,I.ok.blt,by rw[show (qQ X N scope cl C fp pins s H).env.locals=C from rfl,hC];exact V4 _,fun x y c e1 e2=>I.ok.inj x y c (sub x c e1) (sub y c e2),ok.has,(fun x c z _=>nomatch z),I.ok.hd,I.ok.frames,.inl rfl,fun b hb=>?_,I.bs,XX I.ok.bsz I.sz,fun b o e hb=>?_,fun b hb hz=>?_,I.stack,I.stkFree⟩,
  rfl,I.bare,Un.laid k (XU _) (fr _ (XU _)),⟨m,hn,fun i x v e1 e2 e3=>?_⟩,fun x c e=>?_,?_,fun x c e=>?_,fun p hp=>?_,I.hok.laid k (XU _) ⟨WZ _,[],0,.nil,hD⟩,?_⟩
 ·obtain⟨o,e⟩:=ho b hb;exact⟨nC b o e,fun x c z=>(hf b hb).2.2.2.2.1 x c (sub x c z)⟩
 ·rcases(hf b hb).2.2.2.1 with z | z
  ·exact I.ok.noex b o e z
  ·exact absurd (Xq (XH (I.ok.bs b o e).1) z) (Wb _)
 ·exact nst b (hf b hb).2.1 (hf b hb).2.2.1 hz
 ·have hi:i<src.length:=by
   have:=(X0.mp e2).1;unfold pull at this;rw[Y1] at this;exact this
  unfold pull at e2;rw[XD,XZ hi] at e2;cases q:src[i] with
  | none=>rw[q] at e2;cases e2
  | some j =>
   rw[q] at e2;have e2':(σ[j]?).getD none=some v:=Option.some.inj e2;have e4:σ[j]?=some (some v):=by
    cases z:σ[j]? with
    | none=>rw[z] at e2';cases e2'
    | some o=>rw[z] at e2';exact congrArg some e2'
   obtain⟨p1,p2,p3⟩:=ok.pulls i j x e1 (by rw[XZ hi,q]);obtain⟨m',hn',hl⟩:=I.loc;obtain⟨u,r,l⟩:=hl j x v p1 e4 (by
    rcases p2 with z | z
    ·exact .inr (.inl z)
    ·exact .inr (.inr z))
   refine⟨u,r,.inr ⟨p3,?_⟩⟩;obtain⟨c,hc⟩:=ok.has x p3;refine⟨c,hc,?_⟩;rcases l with ⟨z,_⟩ | ⟨_,c',hc',o,ho',hd'⟩
   ·rcases p2 with y | y<;>rw[z] at y<;>cases y
   ·rw[sub x c hc] at hc';cases hc';exact⟨o,k _ o ho',hd'⟩
 ·obtain⟨v,o,e1,e2⟩:=I.cell x c (sub x c e);exact⟨v,o,k c o e1,e2⟩
 ·show upd H s.heap.objs.size (.lst []) C=none;rw[hC,zk (Vs _)];exact fr _ (V4 _)
 ·show upd H s.heap.objs.size (.lst []) c=none;obtain⟨v,o,e1,e2⟩:=I.cell x c (sub x c e);rw[zk (nD c o e1)];exact I.zZ x c (sub x c e)
 ·have hp':p∈X.pn++pins:=by
   have:p∈(X.pn++pins)++[]:=hp;simpa using this
  obtain⟨e1,e2,e3,e4,e5⟩:=I.pin p hp';refine⟨k _ _ e1,?_,nC _ _ e1,nst _ e3 e4,e5⟩;show upd H s.heap.objs.size (.lst []) p.1=none;rw[zk (nD _ _ e1)];exact e2
 ·unfold pull;rw[Y1];exact ok.len
theorem z9 (ok:zP X N src scope cl)(hcalm:X.calm=true)(hi:PI X tg iter wi)
  (hg:∀C fp pins s H,PG (qQ X N scope cl C fp pins s H) tg g) (hc:∀C fp pins s H,zjA (qQ X N scope cl C fp pins s H) ifs tc) (he:∀C fp pins s H,PE (qQ X N scope cl C fp pins s H) elt te)
  (hs:∀x,Td iter X.env x=pure x:=by intro _;rfl):PE X (.ListComp elt [⟨tg,iter,ifs,0⟩] scope pos) (zjC wi src g tc te):=by
 intro pins s σ H Q I h;rw[eval_ListComp];refine TL (use:=none) rfl hs ok.clos ok.kind ok.names (thn (hi pins s σ H _ I h) fun xv s1 h1=>thn h1 fun itv s2 h2=>?_);obtain⟨it,fp,tn,J,H2,e,I2,T,st2,f2,q2⟩:=h2;subst e;refine VN (PB ok.nocell (by intro y hy;simp at hy) (fun h₁ hns₁ hsb₁=>?_) ok.kind);dsimp only at hns₁ hsb₁ ⊢;generalize hP:s2.heap.push { cls:=.type "list",dict:=none,data:=.seq ([]:List X8).toArray }=P2 at hns₁ hsb₁ ⊢;have hC:P2.objs.size=s2.heap.objs.size+1:=by rw[<- hP,Vo]
 have k:∀b u,s2.heap.get? b=some u->h₁.get? b=some u:=fun b u e=>by
  have lt:=XH e;exact(hsb₁.2 b (by rw[hC];exact Xi (WJ lt))).trans (XY _ (hP ▸ XY _ e))
 have hD:h₁.get? s2.heap.objs.size=some { cls:=.type "list",data:=.seq #[] }:=(hsb₁.2 _ (by rw[hC];exact(Vs _).symm)).trans (XY _ (hP ▸ W5 _ rfl));have ho:∀b∈fp,∃o,s2.heap.get? b=some o:=fun b hb=>let ⟨o,e,_⟩:=T.obj 0 _ st2 b hb;⟨o,e⟩
 obtain⟨W,⟨m0,w0⟩,turn⟩:=q2 s2.heap.objs.size (I2.hok.fresh (XU _));have I0:=zby (tk:=s2.toks+([]:List (Str×X8)).length) ok I2 f2 ho hC k hD hns₁;have st0:tn 0 h₁:=T.keep 0 _ _ st2 fun b _ o e=>k b o e;have fr0:∀b∈fp,upd H2 s2.heap.objs.size (.lst []) b=none:=fun b hb=>by
  obtain⟨o,e⟩:=ho b hb;rw[zk (Xi (XH e))];exact(f2 b hb).1
 have stat:∀{H':Hp},(∀b∈fp,H' b=none)->∀b∈fp,QF (qQ X N scope cl P2.objs.size fp pins s2 H2) [] H' b:=fun {H'} hn b hb=>by
  obtain⟨o,e⟩:=ho b hb;have lt:=XH e;refine⟨hn b hb,?_,fun z=>(XF.mp (I2.stkSub b z)).elim (f2 b hb).2.1 (f2 b hb).2.2.1,.inl hb,fun x c z=>(f2 b hb).2.2.2.2.1 x c (ok.sub x c z),fun p hp=>?_⟩
  ·show b≠P2.objs.size;rw[hC];exact Xi (WJ lt)
  ·have hp':p∈X.pn++pins:=by
    have:p∈(X.pn++pins)++[]:=hp;simpa using this
   exact(f2 b hb).2.2.2.2.2 p hp'
 have loop:∀s₃:X6,s₃={ s2 with heap:=h₁,toks:=s2.toks+([]:List (Str×X8)).length } ->
   To (Xk X.prog X.w) X.A (.compLoop (.ListComp elt [⟨tg,iter,ifs,0⟩] scope pos) 0 (.ref it) (.ref s2.heap.objs.size) (Tn scope cl P2.objs.size X.env))
    (compPost (Xk X.prog X.w) X.A X.xe none (EP X pins σ Q) (.ref s2.heap.objs.size) P2.objs.size) s₃:=by
  rintro s₃ rfl;refine OS rfl (fun n s'=>∃i σ' H',Inv (qQ X N scope cl P2.objs.size fp pins s2 H2) [] σ' H' s'/\tn i s'.heap/\(∀b∈fp,H' b=none)/\W i n σ' H') ?_ m0 ⟨0,_,_,I0,st0,fr0,w0⟩;rintro n s3 ⟨i,σ3,H3,I3,st3,fr3,w3⟩;show Xg _ X.A ((compTurn (.ListComp elt [⟨tg,iter,ifs,0⟩] scope pos) 0 (.ref it) (.ref s2.heap.objs.size) (Tn scope cl P2.objs.size X.env)).onRaise (fun x=>do noteFrame x (Tn scope cl P2.objs.size X.env);QP x)) _ _ s3;refine OO ?_;rw[O7];rcases turn i n σ3 H3 w3 with ⟨stop,qn⟩ | ⟨go,N',hN,step⟩
  ·refine ZB (Uh (ZB (thn (T.done (qQ X N scope cl P2.objs.size fp pins s2 H2) rfl rfl rfl hcalm i [] s3 σ3 H3 _ I3 (stat fr3) st3 stop) fun r s4 ⟨hr,I4⟩=>?_)));subst hr;refine XS ?_;obtain⟨m,hm,_⟩:=I4.loc;refine⟨m,hm,fun h' sb=>⟨.ref s2.heap.objs.size,H3,?_,rfl,qn⟩⟩;have un:Un (frs X.stack) fp H2 H3 s2.heap h':=Un.but I4.base (by show s2.heap.objs.size<=P2.objs.size;rw[hC];exact V4 _) sb;have hok:HOk X.prog X.w H3 h':=HOk.but I4.hok I4.free sb;exact I2.call' (s':={ s4 with heap:=h' }) (ch:=fp) I4.os un hok I4.bare fun b hb=>⟨(f2 b hb).2.2.2.1,(f2 b hb).2.1,(f2 b hb).2.2.2.2.1,(f2 b hb).2.2.2.2.2⟩
  ·refine ZB (Uh (ZB (thn (T.item (qQ X N scope cl P2.objs.size fp pins s2 H2) rfl rfl rfl hcalm i [] s3 σ3 H3 _ I3 (stat fr3) st3 go) fun r s4 ⟨u,hr,h4⟩=>?_)));subst hr;dsimp only;refine ZB (thn h4 fun _ s5 ⟨x,H5,I5,r5,y5,st5,fr5⟩=>?_);have I5':=I5.pinned (stat fr5) (T.obj _ _ st5);refine ZB (Wi (hg P2.objs.size fp pins s2 H2 _ s5 σ3 H5 x u _ I5' r5 (step x H5 y5)) (fun _ s6 ⟨σ6,H6,I6,q6⟩=>?_) fun _ _ z=>Wd z);have R3:∀{s7:X6} {σ7:St} {H7:Hp},Inv (qQ X N scope cl P2.objs.size fp pins s2 H2) ([]++Qg fp s5.heap) σ7 H7 s7->N' σ7 H7->∃m,m<n/\∃i σ' H',Inv (qQ X N scope cl P2.objs.size fp pins s2 H2) [] σ' H' s7/\tn i s7.heap/\(∀b∈fp,H' b=none)/\W i m σ' H':=fun {s7 σ7 H7} I7 n7=>by
    obtain⟨m',hm,w7⟩:=hN σ7 H7 n7;refine⟨m',hm,i+1,σ7,H7,I7.unpinned,T.keep _ _ _ st5 fun b hb o e=>(I7.pin (b,o) (Xy _ (Xy _ (jG hb e)))).1,fun b hb=>?_,w7⟩;obtain⟨o,e,d⟩:=T.obj _ _ st5 b hb;exact(I7.pin (b,o) (Xy _ (Xy _ (jG hb e)))).2.1
   refine ZB (Wi (hc P2.objs.size fp pins s2 H2 _ s6 σ6 H6 _ I6 q6) (fun b s7 ⟨H7,I7,q7⟩=>?_) fun _ _ z=>Wd z);cases b with
   | false =>
    rw[if_neg XV] at q7;exact XS ⟨rfl,R3 I7 q7⟩
   | true =>
    rw[if_pos rfl] at q7;refine ZB (ZB (Wi (he P2.objs.size fp pins s2 H2 _ s7 σ6 H7 _ I7 q7) (fun y s8 ⟨v8,H8,I8,r8,ys,hys,hlen,q8⟩=>?_) fun _ _ z=>Wd z));refine ZB (Wi (yd (X:=qQ X N scope cl P2.objs.size fp pins s2 H2) _ s8 σ6 H8 (.ref s2.heap.objs.size) [v8] (.ref s2.heap.objs.size) [y] (fun _ H9=>N' σ6 H9) I8 rfl (.cons r8 .nil) ⟨_,ys,v8,rfl,rfl,hys,hlen,q8⟩) (fun _ s9 ⟨v9,H9,I9,_,q9⟩=>?_) fun _ _ z=>Wd z);exact XS (XS ⟨rfl,R3 I9 q9⟩)
 exact S5 (loop _ rfl) (T.self _ 0 _ _ _ st0 (loop _ rfl))
end
section
variable {K:XT}{src:List (Option Nat)}{g:TG}{tc:TT}{te:TE}{Q:VK}{σ:St}{H:Hp}{D:Addr}
theorem qB {a:Addr}{xs:List V}(Pv:Nat->St->Hp->Prop)(h0:Pv 0 σ H)(hl:∀i σ H,i<=xs.length->Pv i σ H->SqL K H a xs)
  (hs:∀i x σ H,xs[i]?=some x->Pv i σ H->g x σ H fun σ2 H3=>tc σ2 H3 fun b H4=>if b=true then te σ2 H4 fun y H5=>∃ys,H5 D=some (.lst ys)/\ys.length<Xx/\Pv (i+1) σ2 (upd H5 D (.lst (ys++[y]))) else Pv (i+1) σ2 H4)
  (hd:∀ σ H,Pv xs.length σ H->Q (.ref D) H):Jm (Itl K a) g tc te Q D σ H:=by
 refine⟨fun i m σ H=>m=xs.length-i/\i<=xs.length/\Pv i σ H,⟨xs.length,by simp,WZ _,h0⟩,?_⟩;rintro i m σ H ⟨rfl,hi,p⟩;have q:=hl i σ H hi p;by_cases hlt:i<xs.length
 ·refine .inr ⟨⟨xs,xs[i],q,by simp[hlt]⟩,Pv (i+1),fun σ' H' p'=>⟨xs.length-(i+1),by lia,rfl,hlt,p'⟩,fun x H' y=>?_⟩;obtain⟨e,y⟩:=y;subst e;exact hs i x σ _ (y xs q) p
 ·have e:i=xs.length:=by lia
  subst e;exact .inl ⟨⟨xs,q,XU _⟩,hd σ H p⟩
theorem Qj {lo:Int}{n:Nat}(Pv:Nat->St->Hp->Prop)(h0:Pv 0 σ H)
  (hs:∀i σ H,i<n->Pv i σ H->g (.int (lo+i)) σ H fun σ2 H3=>tc σ2 H3 fun b H4=>if b=true then te σ2 H4 fun y H5=>∃ys,H5 D=some (.lst ys)/\ys.length<Xx/\Pv (i+1) σ2 (upd H5 D (.lst (ys++[y]))) else Pv (i+1) σ2 H4)
  (hd:∀ σ H,Pv n σ H->Q (.ref D) H):Jm (Itr lo n) g tc te Q D σ H:=by
 refine⟨fun i m σ H=>m=n-i/\i<=n/\Pv i σ H,⟨n,by simp,WZ _,h0⟩,?_⟩;rintro i m σ H ⟨rfl,hi,p⟩;by_cases hlt:i<n
 ·refine .inr ⟨hlt,Pv (i+1),fun σ' H' p'=>⟨n-(i+1),by lia,rfl,hlt,p'⟩,fun x H' y=>?_⟩;obtain⟨e,y⟩:=y;subst e y;exact hs i σ _ hlt p
 ·have e:i=n:=by lia
  subst e;exact .inl ⟨XU _,hd σ H p⟩
end
section
variable {X:Cx}{K:XT}
theorem YI {a:Expr}{ta:TE}(hK:X.K=K)(ha:PE X a ta)(he:∀whole,isTrue a X.env whole=(do let v <- whole;standAt a.pos;holding [v] (truthy v))) :
  PT X a (fun σ H Q=>ta σ H fun x H'=>∃k,znQ K x H' k/\Q k H'):=by
 subst hK;exact Yh ha he
theorem zlN (hK:X.K=K):IxR X (zpn K):=by
 subst hK;exact qP
theorem zeM (hK:X.K=K)(hu:X.A.units+64<VP):OpR X (Wh .Eq) (zlL K false):=by
 subst hK;exact Qi hu
theorem zeN (hK:X.K=K)(hu:X.A.units+64<VP):OpR X (Wh .NotEq) (zlL K true):=by
 subst hK;exact yP hu
theorem jH (hK:X.K=K)(hu:X.A.units+64<VP):OpR X (Wh .In) (zlM K false):=by
 subst hK;exact zbx hu
theorem Yi (hK:X.K=K)(hu:X.A.units+64<VP):OpR X (Wh .NotIn) (zlM K true):=by
 subst hK;exact zcC hu
theorem zhk {es:List Expr}{k:Nat}{t:TGs}{n:Nat}{pos:Pos}(hK:X.K=K)(hc:X.calm=true)(h:PGs X es t)
  (hn:(TB es X.env).length=n:=by rfl) (hst:(TB es X.env).findIdx? (·.1)=none:=by rfl):PG X (.Tuple es k pos) (zpb K n t):=by
 subst hK;exact yN hc h hn hst
end
section
variable {fs ch:List Addr}{H:Hp}{h h':Heap}{a:Addr}{o:HO}
theorem Un.laidX (k:∀b u,b ∉ ch->h.get? b=some u->h'.get? b=some u)(hp:h.objs.size<=a)(hn:H a=none):Un fs ch H (upd H a o) h h' where
 keep:=fun b u q _ _ hx=>k b u hx q
 slot:=fun b u q _ _ hx=>⟨u.slots,k b u hx q⟩
 free:=fun b u q n _=>by rw[zk (Xi (Xq (XH q) hp))];exact n
 there:=fun b u q hx=>⟨u,k b u hx q⟩
 tups:=fun b xs q=>by rw[zk (zj q hn)];exact q
 frzs:=fun b u xs q=>by rw[zk (zj q hn)];exact q
 tbls:=fun b ps q=>⟨#[],by rw[zk (zj q hn),q];simp⟩
theorem Un.keptX (k:∀b u,b ∉ ch->h.get? b=some u->h'.get? b=some u):Un fs ch H H h h' :=
 ⟨fun b ob q _ _ hx=>k b ob hx q,fun b ob q _ _ hx=>⟨ob.slots,k b ob hx q⟩,fun _ _ _ n _=>n,fun b ob q hx=>⟨ob,k b ob hx q⟩,fun _ _ q=>q,fun _ _ _ q=>q,fun _ ps q=>⟨#[],by rw[q];simp⟩⟩
theorem HOk.keptX {P:Xn}{w:WW}(x:HOk P w H h)(k:∀b u,b ∉ ch->h.get? b=some u->h'.get? b=some u)(hch:∀b∈ch,H b=none):HOk P w H h':=fun b u e=>by
 refine(x b u e).stay (fun c v hc q=>k c v (fun z=>?_) q) (fun _ q=>q) fun _ _ q=>q;have n:=hch c z;rcases hc with rfl | hc
 ·rw[n] at e;cases e
 ·rw[n] at hc;cases hc
theorem HOk.laidX {P:Xn}{w:WW}(x:HOk P w H h)(k:∀b u,b ∉ ch->h.get? b=some u->h'.get? b=some u)(hch:∀b∈ch,H b=none)(hp:h.objs.size<=a)(new:jk P w (upd H a o) h' a o):HOk P w (upd H a o) h':=fun b u e=>by
 have hn:=x.fresh hp;by_cases hb:b=a
 ·subst hb;rw[zb] at e;cases e;exact new
 ·rw[zk hb] at e;refine(x b u e).stay (fun c v hc q=>k c v (fun z=>?_) q) (fun c q=>by rw[zk (zj q hn)];exact q) fun c xs q=>by rw[zk (zj q hn)];exact q
  have n:=hch c z;rcases hc with rfl | hc
  ·rw[n] at e;cases e
  ·rw[n] at hc;cases hc
end
section
variable {X:Cx}{pins:List (Addr×Obj)}{s:X6}{σ:St}{H:Hp}{E:X8->X6->Prop}{fp wr FP:List Addr}{elts:List Expr}{k:Nat}{pos:Pos}{e:Addr}{n i:Nat}{Pt:Nat->Array X8->Prop}{Sn:Nat->Heap->Prop}{Mid:Nat->Addr->Heap->Prop}{J:It}{tn:Nat->Heap->Prop}
theorem zjD (I:Inv X pins σ H s)(hf:∀b∈fp,QF X pins H b)(ho:∀b∈fp,∃o,s.heap.get? b=some o)(hwr:∀b∈wr,b∈fp)(W:WalksT X.prog X.w X.A e FP wr n Pt Sn Mid)(hi:i<n)(st:Sn i s.heap)
  (y:∀T vals,H T=none->Pt i vals->∃vs,Vals vs vals.toList/\vs.length<=Xx/\J.yld i H (.ref T) (upd H T (.tup vs))) (nx:∀h'',Sn (i+1) h''->tn (i+1) h'') :
  Xg (Xk X.prog X.w) X.A (Sk (.ref e)) (fun r s1=>∃u,r=some u /\
   Xg (Xk X.prog X.w) X.A (SD (.Tuple elts k pos) (.ref e) u) (fun _ s2=>∃x H',Inv X pins σ H' s2/\RelV x u/\J.yld i H x H'/\tn (i+1) s2.heap/\∀b∈fp,H' b=none) E s1) E s:=by
 refine W.item i s _ E hi st fun T vals h' tk hP hT0 hT hm kk=>⟨.ref T,rfl,?_⟩;have hn:H T=none:=I.hok.fresh hT0;obtain⟨vs,hv,hl,hy⟩:=y T vals hn hP;refine W.go elts k pos i T { s with heap:=h',toks:=tk } _ E hm fun h'' st'' kk2=>?_;have k2:∀b o,b ∉ wr->s.heap.get? b=some o->h''.get? b=some o:=fun b o hb e=>kk2 b o hb (kk b o hb e);have hTup:OM h'' T vals:=by
  obtain⟨o,e1,c,m,d⟩:=hT;exact⟨o,kk2 T o (W.apart i T _ hm) e1,c,m,d⟩
 have hch:∀b∈wr,H b=none:=fun b hb=>(hf b (hwr b hb)).1;refine⟨.ref T,upd H T (.tup vs),?_,rfl,hy,nx _ st'',fun b hb=>?_⟩
 ·exact I.call' (s':={ s with heap:=h'',toks:=tk }) (ch:=wr) rfl (Un.laidX k2 hT0 hn) (HOk.laidX I.hok k2 hch hT0 ⟨hl,vals.toList,hv,by simpa using hTup⟩) I.bare fun b hb=>let f:=hf b (hwr b hb);⟨f.2.2.2.1,f.2.1,f.2.2.2.2.1,f.2.2.2.2.2⟩
 ·obtain⟨o,e1⟩:=ho b hb;rw[zk (Xi (Xq (XH e1) hT0))];exact(hf b hb).1
theorem zjE (I:Inv X pins σ H s)(hf:∀b∈fp,QF X pins H b)(hwr:∀b∈wr,b∈fp)(W:WalksT X.prog X.w X.A e FP wr n Pt Sn Mid)(st:Sn n s.heap) :
  Xg (Xk X.prog X.w) X.A (Sk (.ref e)) (fun r s1=>r=none/\Inv X pins σ H s1) E s :=
 W.done s _ E st fun h' tk kk=>⟨rfl,I.call' (s':={ s with heap:=h',toks:=tk }) (ch:=wr) rfl (Un.keptX kk) (HOk.keptX I.hok kk fun b hb=>(hf b (hwr b hb)).1) I.bare fun b hb=>let f:=hf b (hwr b hb);⟨f.2.2.2.1,f.2.1,f.2.2.2.2.1,f.2.2.2.2.2⟩⟩
end
theorem QK {h:Heap}{b:Addr}{o:Obj}{vs:Array X8}(e:h.get? b=some o)(d:o.data=.fields vs):∃o,h.get? b=some o/\∀v,o.data ≠ .cell v:=⟨o,e,fun v z=>by rw[d] at z;cases z⟩
def Ite (K:XT)(l:Addr):It:=⟨fun i H=>∃xs,SqL K H l xs/\i<xs.length,fun i H x H'=>∃T,x=.ref T/\H T=none/\∀xs,SqL K H l xs->∃v,xs[i]?=some v/\H'=upd H T (.tup [.int i,v]),fun i H=>∃xs,SqL K H l xs/\i=xs.length⟩
theorem zin {P:Xn}{w:WW}{K:XT}{elts:List Expr}{k:Nat}{pos:Pos}(e it l:Addr)(hei:e≠it)(hle:l≠e)(hli:l≠it) :
  Turn P w K (.Tuple elts k pos) (Ite K l) [e,it] e (fun i h=>(∃old,IsEnum h e it i old)/\h.IsListIter it l i) where
 mem:=by simp
 obj:=fun i h st b hb=>by
  obtain⟨⟨old,he⟩,o,e2,c,d⟩:=st;rcases XF.mp hb with rfl | hb
  ·exact QK he rfl
  ·have z:b=it:=by simpa using hb
   subst z;exact QK e2 d
 keep:=fun i h h' st kk=>by
  obtain⟨⟨old,he⟩,o,e2,r⟩:=st;exact⟨⟨old,kk e (by simp) _ he⟩,o,kk it (by simp) o e2,r⟩
 item:=by
  intro X hP hw hK hc i pins s σ H E I hf st hg;subst hP hw hK;obtain⟨xs,hq,hlt⟩:=hg;obtain⟨its,rv,p,hz⟩:=I.list hq;have hl:=rv.length;obtain⟨⟨old,he⟩,o2,e2,c2,d2⟩:=id st;refine zjD (wr:=[e,it]) (J:=Ite X.K l) (tn:=fun i h=>(∃old,IsEnum h e it i old)/\h.IsListIter it l i) I hf (fun b hb=>?_) (fun b hb=>hb) (WalksT.enumerate (I.ok.hd hc) e it l hei hle hli its.toArray) (by simp;lia) ⟨st.1,st.2,p.isList⟩ (fun T vals hn hp=>?_) fun h'' q=>⟨q.1,q.2.1⟩
  ·rcases XF.mp hb with rfl | hb
   ·exact⟨_,he⟩
   ·have z:b=it:=by simpa using hb
    subst z;exact⟨_,e2⟩
  ·obtain⟨t,x,hx,rfl⟩:=hp;have hx':its[i]?=some x:=by simpa using hx
   obtain⟨u,hu,ru⟩:=rv.get (i:=i) (x:=xs[i]) (by rw[XZ hlt]);rw[hu] at hx';cases hx';exact⟨[.int i,xs[i]],.cons ⟨t,rfl⟩ (.cons ru .nil),(by show 2<=Xx;decide),T,rfl,hn,fun ys hy=>⟨xs[i],by rw[I.list_inj hy hq,XZ hlt],rfl⟩⟩
 done:=by
  intro X hP hw hK hc i pins s σ H E I hf st hg;subst hP hw hK;obtain⟨xs,hq,rfl⟩:=hg;obtain⟨its,rv,p,hz⟩:=I.list hq;have hl:its.toArray.size=xs.length:=by simp[rv.length]
  refine zjE (fp:=[e,it]) (wr:=[e,it]) I hf (fun b hb=>hb) (WalksT.enumerate (I.ok.hd hc) e it l hei hle hli its.toArray) ?_;rw[hl];exact⟨st.1,st.2,p.isList⟩
 self:=fun A i s Q E st h=>by
  obtain⟨⟨old,he⟩,_⟩:=st;exact Tb he h
def zlO (x:Str):It:=⟨fun i _=>i<x.cps.size,fun i H v H'=>∃T c,v=.ref T/\H T=none/\x.cps[i]?=some c/\H'=upd H T (.tup [.int i,.str ⟨#[c]⟩]),fun i _=>i=x.cps.size⟩
theorem zbz {P:Xn}{w:WW}{K:XT}{elts:List Expr}{k:Nat}{pos:Pos}(e it:Addr)(x:Str)(t:Tok)(n:String)(hei:e≠it)
  (D:∀A:WM,A.handled=none->Draws P w A it [it] x.cps.size (fun i v=>∃c u,x.cps[i]?=some c/\v=.str ⟨#[c]⟩ u) (fun i h=>h.IsStrIter it n x t i)) :
  Turn P w K (.Tuple elts k pos) (zlO x) [e,it] e (fun i h=>(∃old,IsEnum h e it i old)/\h.IsStrIter it n x t i) where
 mem:=by simp
 obj:=fun i h st b hb=>by
  obtain⟨⟨old,he⟩,o,e2,c,d⟩:=st;rcases XF.mp hb with rfl | hb
  ·exact QK he rfl
  ·have z:b=it:=by simpa using hb
   subst z;exact QK e2 d
 keep:=fun i h h' st kk=>by
  obtain⟨⟨old,he⟩,o,e2,r⟩:=st;exact⟨⟨old,kk e (by simp) _ he⟩,o,kk it (by simp) o e2,r⟩
 item:=by
  intro X hP hw hK hc i pins s σ H E I hf st hg;subst hP hw hK;obtain⟨⟨old,he⟩,o2,e2,c2,d2⟩:=id st;refine zjD (wr:=[e,it]) (J:=zlO x) (tn:=fun i h=>(∃old,IsEnum h e it i old)/\h.IsStrIter it n x t i) I hf (fun b hb=>?_) (fun b hb=>hb) (WalksT.enumerateD (D X.A.in1 (I.ok.hd hc)) e hei (by simpa using hei) (by simp)) hg st (fun T vals hn hp=>?_) fun h'' q=>q
  ·rcases XF.mp hb with rfl | hb
   ·exact⟨_,he⟩
   ·have z:b=it:=by simpa using hb
    subst z;exact⟨_,e2⟩
  ·obtain⟨t',v,⟨c,u,hx,rfl⟩,rfl⟩:=hp;exact⟨[.int i,.str ⟨#[c]⟩],.cons ⟨t',rfl⟩ (.cons ⟨u,rfl⟩ .nil),(by show 2<=Xx;decide),T,c,rfl,hn,hx,rfl⟩
 done:=by
  intro X hP hw hK hc i pins s σ H E I hf st hg;subst hP hw hK;have z:i=x.cps.size:=hg;subst z;exact zjE (fp:=[e,it]) (wr:=[e,it]) I hf (fun b hb=>hb) (WalksT.enumerateD (D X.A.in1 (I.ok.hd hc)) e hei (by simpa using hei) (by simp)) st
 self:=fun A i s Q E st h=>by
  obtain⟨⟨old,he⟩,_⟩:=st;exact Tb he h
section
variable {X:Cx}{elts:List Expr}{k:Nat}{tpos:Pos}
def znX (K:XT)(ta:TA):TI:=fun σ H R=>ta σ H fun vs H1=>∃l,vs=[.ref l]/\(∃xs,SqL K H1 l xs)/\R (Ite K l) H1
theorem Zd {a:Expr}{ta:TA}{p pos:Pos}(hg:Gl X "enumerate")(hm:X.mg "enumerate"=none)(ha:PA X [a] ta)(hs:WH [a] X.env=[(false,eval a X.env)]:=by rfl):PI X (.Tuple elts k tpos) (.Call (.Name "enumerate" p) [a] [] pos) (znX X.K ta):=by
 intro pins s σ H R I h;refine Call_ (zao I hg hm boot_enumerate (VG (thn (ha pos pins s σ H _ I h) fun us s1 ⟨vs,H1,I1,r1,q1⟩=>?_) hs rfl));obtain⟨l,rfl,⟨xs,hq⟩,q⟩:=q1;obtain⟨u,rfl,ru⟩:=vals1 r1;cases ru;obtain⟨its,rv,pl,hz⟩:=I1.list hq;obtain⟨ol,hol,_⟩:=pl.isList;have hlt:=XH hol;refine call_enumerate_list pl.isList fun h' he hit hsz kk=>?_;have I2:Inv X pins σ H1 { s1 with heap:=h' }:=I1.kept (t':=s1.toks) kk;refine Tb he ?_;refine⟨s1.heap.objs.size+1,[s1.heap.objs.size+1,s1.heap.objs.size],_,_,H1,rfl,I2,zin (s1.heap.objs.size+1) s1.heap.objs.size l (Vs _) (Xi (WJ hlt)) (Xi hlt),⟨⟨_,he⟩,hit⟩,fun b hb=>?_,q⟩;have hb':s1.heap.objs.size<=b:=by
  rcases XF.mp hb with e | hb
  ·rw[e];exact V4 _
  ·have e:b=s1.heap.objs.size:=by simpa using hb
   rw[e];exact XU _
 exact I1.fpOk hb' (I1.hok.fresh hb')
def znY (ta:TA):TI:=fun σ H R=>ta σ H fun vs H1=>∃z,vs=[.str z]/\R (zlO z) H1
theorem zjF {a:Expr}{ta:TA}{p pos:Pos}(hg:Gl X "enumerate")(hm:X.mg "enumerate"=none)(ha:PA X [a] ta)(hs:WH [a] X.env=[(false,eval a X.env)]:=by rfl):PI X (.Tuple elts k tpos) (.Call (.Name "enumerate" p) [a] [] pos) (znY ta):=by
 intro pins s σ H R I h;refine Call_ (zao I hg hm boot_enumerate (VG (thn (ha pos pins s σ H _ I h) fun us s1 ⟨vs,H1,I1,r1,q1⟩=>?_) hs rfl));obtain⟨z,rfl,q⟩:=q1;obtain⟨u,rfl,t,rfl⟩:=vals1 r1;refine call_enumerate_str fun h' he hit hsz kk=>?_;have I2:Inv X pins σ H1 { s1 with heap:=h' }:=I1.kept (t':=s1.toks) kk;refine Tb he ?_;have fpk:∀b ∈ [s1.heap.objs.size+1,s1.heap.objs.size],QF X pins H1 b:=fun b hb=>by
  have hb':s1.heap.objs.size<=b:=by
   rcases XF.mp hb with e | hb
   ·rw[e];exact V4 _
   ·have e:b=s1.heap.objs.size:=by simpa using hb
    rw[e];exact XU _
  exact I1.fpOk hb' (I1.hok.fresh hb')
 unfold strIterType at hit;by_cases ha:z.cps.all (· < 128)=true
 ·rw[if_pos ha] at hit;exact⟨s1.heap.objs.size+1,[s1.heap.objs.size+1,s1.heap.objs.size],_,_,H1,rfl,I2,zbz (s1.heap.objs.size+1) s1.heap.objs.size z t "str_ascii_iterator" (Vs _) (fun A hA=>Draws.strAscii hA _ z t),⟨⟨_,he⟩,hit⟩,fpk,q⟩
 ·rw[if_neg ha] at hit;exact⟨s1.heap.objs.size+1,[s1.heap.objs.size+1,s1.heap.objs.size],_,_,H1,rfl,I2,zbz (s1.heap.objs.size+1) s1.heap.objs.size z t "str_iterator" (Vs _) (fun A hA=>Draws.strWide hA _ z t),⟨⟨_,he⟩,hit⟩,fpk,q⟩
theorem zdU:jR X (.type "int") (fun xs H Q=>∃x n,xs=[.str x]/\PK x=some n/\x.length<=640/\Q (.int n) H):=by
 intro pins s σ H xs us Q I r h;obtain⟨x,n,rfl,hn,hl,q⟩:=h;obtain⟨u,rfl,t,rfl⟩:=vals1 r;exact PySem.W.KIN.call_text hn hl ⟨.int n,H,I.tok _,⟨_,rfl⟩,q⟩
end
theorem Ze {K:XT}{l:Addr}{xs:List V}{g:TG}{tb:TS}{D:Ends}{σ:St}{H:Hp}(Pv:Nat->St->Hp->Prop)(h0:Pv 0 σ H)(hl:∀i σ H,i<=xs.length->Pv i σ H->SqL K H l xs)
  (hs:∀i x T σ H,xs[i]?=some x->H T=none->Pv i σ H->g (.ref T) σ (upd H T (.tup [.int i,x])) fun σ2 H2=>tb { D with nx:=Pv (i+1),ct:=Pv (i+1),bk:=D.nx } σ2 H2) (hd:∀ σ H,Pv xs.length σ H->D.nx σ H) :
  ∃W:Nat->Nat->St->Hp->Prop,(∃m,W 0 m σ H)/\∀i m σ H,W i m σ H ->
   ((Ite K l).stop i H/\D.nx σ H)\/((Ite K l).go i H/\∃N:St->Hp->Prop,(∀ σ' H',N σ' H'->∃m',m'<m/\W (i+1) m' σ' H')/\∀x H',(Ite K l).yld i H x H'->g x σ H' fun σ2 H2=>tb { D with nx:=N,ct:=N,bk:=D.nx } σ2 H2):=by
 refine⟨fun i m σ H=>m=xs.length-i/\i<=xs.length/\Pv i σ H,⟨xs.length,by simp,WZ _,h0⟩,?_⟩;rintro i m σ H ⟨rfl,hi,p⟩;have q:=hl i σ H hi p;by_cases hlt:i<xs.length
 ·refine .inr ⟨⟨xs,q,hlt⟩,Pv (i+1),fun σ' H' p'=>⟨xs.length-(i+1),by lia,rfl,hlt,p'⟩,fun x H' y=>?_⟩;obtain⟨T,rfl,hT,y⟩:=y;obtain⟨v,hv,rfl⟩:=y xs q;exact hs i v T σ H hv hT p
 ·have e:i=xs.length:=by lia
  subst e;exact .inl ⟨⟨xs,q,rfl⟩,hd σ H p⟩
theorem zgf {g:TG}{tc:TT}{te:TE}{Q:VK}{σ:St}{H:Hp}{D:Addr}{x:Str}(Pv:Nat->St->Hp->Prop)(h0:Pv 0 σ H)
  (hs:∀i c T σ H,x.cps[i]?=some c->H T=none->Pv i σ H->g (.ref T) σ (upd H T (.tup [.int i,.str ⟨#[c]⟩])) fun σ2 H3=>tc σ2 H3 fun b H4=>if b=true then te σ2 H4 fun y H5=>∃ys,H5 D=some (.lst ys)/\ys.length<Xx/\Pv (i+1) σ2 (upd H5 D (.lst (ys++[y]))) else Pv (i+1) σ2 H4)
  (hd:∀ σ H,Pv x.cps.size σ H->Q (.ref D) H):Jm (zlO x) g tc te Q D σ H:=by
 refine⟨fun i m σ H=>m=x.cps.size-i/\i<=x.cps.size/\Pv i σ H,⟨x.cps.size,by simp,WZ _,h0⟩,?_⟩;rintro i m σ H ⟨rfl,hi,p⟩;by_cases hlt:i<x.cps.size
 ·refine .inr ⟨hlt,Pv (i+1),fun σ' H' p'=>⟨x.cps.size-(i+1),by lia,rfl,hlt,p'⟩,fun v H' y=>?_⟩;obtain⟨T,c,rfl,hT,hc,rfl⟩:=y;exact hs i c T σ H hc hT p
 ·have e:i=x.cps.size:=by lia
  subst e;exact .inl ⟨rfl,hd σ H p⟩
def zap (look:Str->Option Addr):List (Str×TN)->List (Str×Addr)->List (Str×Addr)
 | [],acc=>acc
 | (n,k)::r,acc=>if k == .free then (match look n with
  | some c=>zap look r ((n,c)::acc)
  | none=>zap look r acc) else zap look r acc
theorem Zf {look:Str->Option Addr}:∀(names:List (Str×TN)) (acc:List (Str×Addr)) (p:Str×Addr),p∈zap look names acc->p∈acc\/look p.1=some p.2
 | [],acc,p,h=>.inl h
 | (n,k)::r,acc,p,h=>by
  unfold zap at h;split at h
  ·cases e:look n with
   | none =>
    rw[e] at h;exact Zf r acc p h
   | some c =>
    rw[e] at h;rcases Zf r _ p h with h | h
    ·rcases XF.mp h with h | h
     ·subst h;exact .inr e
     ·exact .inl h
    ·exact .inr h
  ·exact Zf r acc p h
theorem Zg {x n:Str}{c:Addr}{acc:List (Str×Addr)}(h:(acc.lookup x).isSome=true\/x=n):(SH x ((n,c)::acc)).isSome=true:=by
 rw[Vr];cases e:x==n with
 | true=>rfl
 | false =>
  rcases h with h | h
  ·exact h
  ·subst h;simp at e
theorem zbA {look:Str->Option Addr}{x:Str}(names:List (Str×TN))(acc:List (Str×Addr))(h:(acc.lookup x).isSome=true\/((x,NameKind.free)∈names/\(look x).isSome=true)):((zap look names acc).lookup x).isSome=true:=by
 induction names generalizing acc with
 | nil =>
  rcases h with h | h
  ·exact h
  ·cases h.1
 | cons y r ih =>
  obtain⟨n,k⟩:=y;unfold zap;split
  ·rename_i hk;cases e:look n with
   | none =>
    refine ih acc ?_;rcases h with h | ⟨h,h2⟩
    ·exact .inl h
    ·rcases XF.mp h with h | h
     ·cases h;rw[e] at h2;cases h2
     ·exact .inr ⟨h,h2⟩
   | some c =>
    refine ih _ ?_;rcases h with h | ⟨h,h2⟩
    ·exact .inl (Zg (.inl h))
    ·rcases XF.mp h with h | h
     ·cases h;exact .inl (Zg (.inr rfl))
     ·exact .inr ⟨h,h2⟩
  ·rename_i hk;refine ih acc ?_;rcases h with h | ⟨h,h2⟩
   ·exact .inl h
   ·rcases XF.mp h with h | h
    ·cases h;exact absurd rfl hk
    ·exact .inr ⟨h,h2⟩
theorem xP {scope:Ux}{env:Env}(h:∀y∈scope.names,y.2=.free->(env.cells.lookup y.1).isSome=true):O0 scope env=pure (zap (fun x=>env.cells.lookup x) scope.names []):=by
 have go:∀(names:List (Str×TN)) (acc:List (Str×Addr)),(∀y∈names,y.2=.free->(env.cells.lookup y.1).isSome=true) ->
   (forIn names acc fun x cs=>(match x with
    | (name,kind)=>if (kind == .free)=true then do let a <- cellOf env name;pure (V5 ((name,a)::cs)) else pure (V5 cs):Sem (ForInStep (List (Str×Addr)))))=(pure (zap (fun x=>env.cells.lookup x) names acc):Sem _):=by
  intro names;induction names with
  | nil=>intro acc _;rfl
  | cons y r ih =>
   intro acc hy;obtain⟨n,k⟩:=y;have hr:∀y∈r,y.2=.free->(env.cells.lookup y.1).isSome=true:=fun y hm=>hy y (XR _ hm);rw[List.forIn_cons];unfold zap;by_cases hk:(k==NameKind.free)=true
   ·have hk':k=.free:=by simpa using hk
    have hs:=hy (n,k) XW hk';obtain⟨c,hc⟩:=VM.mp hs;have hc':SH n env.cells=some c:=hc;have e1:cellOf env n=pure c:=by
     unfold cellOf;rw[hc']
    simp only[hk,if_true,e1,hc',pure_bind];exact ih _ hr
   ·simp only[hk,Wy,if_false,pure_bind];exact ih _ hr
 simp only[O0];exact Eq.trans (congrArg (fun m:Sem (List (Str×Addr))=>m >>= fun cs=>pure cs) (go scope.names [] h)) rfl
theorem yf {scope:Ux}{env:Env}{x:Str}{k:TN}(h:(x,k)∈(Uv scope env).names)(hk:k=.cell\/k=.free):(x,U9)∈scope.names\/(x,NameKind.free)∈scope.names:=by
 obtain⟨y,hy,e⟩:=XQ.mp h;obtain⟨n,k0⟩:=y;by_cases c:(k0==NameKind.free&&env.scope.kind == .function&&env.kindOf n==some .cell)=true
 ·have e':(if (k0==NameKind.free&&env.scope.kind == .function&&env.kindOf n==some .cell)=true then (n,U9) else (n,k0))=(x,k):=e;rw[if_pos c] at e';cases e';have c1:k0=.free:=by
   have:=(VW.mp (VW.mp c).1).1;simpa using this
  subst c1;exact .inr hy
 ·have e':(if (k0==NameKind.free&&env.scope.kind == .function&&env.kindOf n==some .cell)=true then (n,U9) else (n,k0))=(x,k):=e;rw[if_neg c] at e';cases e';rcases hk with rfl | rfl
  ·exact .inl hy
  ·exact .inr hy
theorem zdV {scope:Ux}{env:Env}{x:Str}(hk:env.scope.kind=.function)(ho:env.kindOf x=some .cell)(h:scope.names.lookup x=some .free):(Uv scope env).names.lookup x=some .cell:=by
 have go:∀names:List (Str×TN),names.lookup x=some .free->(names.map fun (n,k)=>if (k==NameKind.free&&env.scope.kind == .function&&env.kindOf n==some .cell)=true then (n,U9) else (n,k)).lookup x=some .cell:=by
  intro names;induction names with
  | nil=>intro h;cases h
  | cons y r ih =>
   obtain⟨n,k⟩:=y;intro h;show SH x ((if (k==NameKind.free&&env.scope.kind == .function&&env.kindOf n==some .cell)=true then (n,U9) else (n,k))::_)=_;rw[Vr] at h;cases e:x==n with
   | true =>
    rw[e] at h;have hk':k=.free:=Option.some.inj h;have hn:x=n:=by simpa using e
    subst hk' hn;rw[if_pos (by rw[hk,ho];rfl),Vr,beq_self_eq_true]
   | false =>
    rw[e] at h;by_cases c:(k==NameKind.free&&env.scope.kind == .function&&env.kindOf n==some .cell)=true
    ·rw[if_pos c,Vr,e];exact ih h
    ·rw[if_neg c,Vr,e];exact ih h
 exact go scope.names h
theorem zP.free {X:Cx}{N:List Str}{src:List (Option Nat)}{scope:Ux}{O:List (Str×TN)}{XN:List Str}(hO:X.env.scope.names=O)(hK:X.env.scope.kind=.function)(hC:∃n,X.env.cells=Sl n O [])(hX:X.N=XN)
  (kind:scope.kind=.function) (nocell:∀y∈scope.names,y.2 ≠ .cell) (names:∀y∈scope.names,y.2=.local->scope.names.lookup y.1=some .local) (fr:∀y∈scope.names,y.2=.free->O.lookup y.1=some .cell) (len:src.length=N.length)
  (pc:∀q∈N.zip src,q.2=none\/(∃j∈WC XN.length,q.2=some j/\XN[j]?=some q.1/\O.lookup q.1=some .cell/\scope.names.lookup q.1=some .free)):zP X N src scope (zap (fun x=>X.env.cells.lookup x) scope.names []):=by
 have hs:∀y∈scope.names,y.2=.free->(X.env.cells.lookup y.1).isSome=true:=fun y hy e=>by
  obtain⟨n,hn⟩:=hC;rw[hn];exact S6 O n [] (.inl (fr y hy e))
 refine⟨kind,nocell,names,xP hs,fun x c h=>?_,fun x h=>?_,len,fun i j x h1 h2=>?_⟩
 ·rcases Zf _ _ _ (WP h) with z | z
  ·cases z
  ·exact z
 ·refine VM.mp (zbA _ _ (.inr ?_));have hm:(x,U9)∈scope.names\/(x,NameKind.free)∈scope.names:=by
   rcases h with h | h
   ·exact yf (WP h) (.inl rfl)
   ·exact yf (WP h) (.inr rfl)
  rcases hm with hm | hm
  ·exact absurd rfl (nocell _ hm)
  ·exact⟨hm,hs _ hm rfl⟩
 ·have hm:(x,some j)∈N.zip src:=by
   refine X7 (i:=i) ?_;rw[T0];exact⟨h1,h2⟩
  rcases pc _ hm with z | ⟨j',_,e,e1,e2,e3⟩
  ·cases z
  ·cases e;have ko:X.env.kindOf x=some .cell:=by
    show X.env.scope.names.lookup x=some .cell;rw[hO];exact e2
   exact⟨by rw[hX];exact e1,.inl ko,.inl (zdV hK ko e3)⟩
open PySem PySem.Spec PyProof.Rows PySem.W
section
variable {α β:Type}{R:α->β->Prop}{us us':List α}{cs cs':List β}{i:Nat}{v:α}{c:β}
theorem zbB (h:Xj R us cs)(k:Xj R us' cs'):Xj R (us++us') (cs++cs'):=by
 induction h with
 | nil=>exact k
 | cons q _ ih=>exact .cons q ih
theorem Y0 (h:Xj R us cs)(e:us[i]?=some v):∃c,cs[i]?=some c/\R v c:=by
 induction h generalizing i with
 | nil=>cases e
 | cons q _ ih =>
  cases i with
  | zero =>
   cases e;exact⟨_,rfl,q⟩
  | succ i=>exact ih (i:=i) e
theorem zjG (h:Xj R us cs)(e:v∈us):∃c∈cs,R v c:=by
 induction h with
 | nil=>cases e
 | cons q _ ih =>
  rcases XF.mp e with rfl | e
  ·exact⟨_,XW,q⟩
  ·obtain⟨c,h,r⟩:=ih e;exact⟨c,XR _ h,r⟩
end
def yI (H:Hp):List V->List (Int×Int)->Prop:=Xj fun v p=>∃a,v=V.ref a/\H a=some (.tup [.int p.1,.int p.2])
def lt2 (p q:Int×Int):Bool:=if p.1=q.1 then decide (p.2<q.2) else decide (p.1<q.1)
structure zx (h:Heap)(v:X8)(p:Int×Int):Prop where
 ex:∃a o n t u,v=.ref a/\h.get? a=some o/\o.cls=.type "tuple"/\o.data=.seq #[.int p.1 t,.int p.2 u] n
section
variable {X:Cx}{pins:List (Addr×Obj)}{σ:St}{H:Hp}{s:X6}
theorem yI.pairs (I:Inv X pins σ H s){us:List V}{ps:List (Int×Int)}{its:List X8}(hp:yI H us ps)(r:Vals us its):Xj (zx s.heap) its ps:=by
 induction hp generalizing its with
 | nil =>
  cases r;exact .nil
 | cons q _ ih =>
  obtain⟨a,e,h⟩:=q;subst e;cases r with
  | cons r1 r2 =>
   cases r1;refine .cons ?_ (ih r2);obtain⟨items,rv,tp,_⟩:=I.tuple (SqT.of h);obtain⟨u1,u2,rfl,⟨t1,rfl⟩,⟨t2,rfl⟩⟩:=vals2 rv;obtain⟨ob,e1,c1,n,d1⟩:=tp;exact⟨a,ob,n,t1,t2,rfl,e1,c1,d1⟩
end
theorem ZJ {h h':Heap}(k:∀b o,h.get? b=some o->h'.get? b=some o):∀{its:List X8} {ps:List (Int×Int)},Xj (zx h) its ps->Xj (zx h') its ps
 | _,_,.nil=>.nil
 | _,_,.cons ⟨a,o,n,t,u,e,e1,r⟩ tl=>.cons ⟨a,o,n,t,u,e,k _ _ e1,r⟩ (ZJ k tl)
theorem ZK {h:Heap}:∀{its:List X8} {ps:List (Int×Int)},Xj (zx h) its ps->∃fs:List X8,KatTups h its fs/\fs.length=its.length/\∀v∈fs,∃x t,v=Vu x t
 | _,_,.nil=>⟨[],.nil,rfl,fun _ z=>nomatch z⟩
 | _,_,.cons ⟨a,o,n,t,u,e,e1,c,d⟩ tl=>by
  obtain⟨fs,k,l,q⟩:=ZK tl;subst e;refine⟨.int _ t::fs,KatTups.cons e1 c d rfl k,by simp[l],fun v hv=>?_⟩;rcases XF.mp hv with rfl | hv
  ·exact⟨_,t,rfl⟩
  ·exact q v hv
section
variable {prog:Xn}{w:WW}{A:WM}{E:X8->X6->Prop}{s:X6}
theorem zhl {v v':X8}{p q:Int×Int}{C:Bool->X6->Prop}(hv:zx s.heap v p)(hv':zx s.heap v' q)(h:C (lt2 p q) s):Xg (Xk prog w) A (keyLt' (tuples' true) v v') C E s:=by
 obtain⟨a,o,n,t,u,rfl,e1,c1,d1⟩:=hv;obtain⟨a',o',n',t',u',rfl,e1',c1',d1'⟩:=hv';refine kat_lt e1 d1 e1' d1' ?_;show KatLex prog w A true _ C [(Vu p.1 t,Vu q.1 t'),(Vu p.2 u,Vu q.2 u')] 0 s;unfold lt2 at h;refine kat_cons (SeqAt.EqAt.int_int _ _ _ _ prog w _ _ (kat_go (fun ee=>kat_yes ?_) fun ee=>kat_no ?_))
 ·have e:p.1=q.1:=by simpa using ee
  rw[if_pos e] at h;refine kat_cons (SeqAt.EqAt.int_int _ _ _ _ prog w _ _ (kat_go (fun e2=>kat_yes (kat_nil ?_)) fun e2=>kat_no ?_))
  ·have e3:p.2=q.2:=by simpa using e2
   have e4:decide (p.2<q.2)=false:=decide_eq_false (by lia);rw[e4] at h;exact h
  ·exact kat_one _ _ (lt_int h)
 ·have e:¬ p.1=q.1:=by simpa using ee
  rw[if_neg e] at h;exact oneLt_int h
end
section
variable {X:Cx}
end
section
variable {X:Cx}
theorem zeO:zpd X (zpm X.K):=by
 intro pins s σ H x y v u Q I rx ry h;obtain⟨p,xs,i,z,rfl,rfl,hq,he,q⟩:=h;cases rx;obtain⟨t,rfl⟩:=ry;obtain⟨its,r,pl,hz⟩:=I.list hq;obtain⟨j,h1,h2,h3,h4,h5⟩:=zbi he;obtain⟨w,ew,rw'⟩:=r.get h2;have hl:=r.length;have hn:=Yg;have fin:EP X pins σ Q w s:=⟨z,H,I,rw',q⟩;by_cases h0:0<=i
 ·have hj:i.toNat=j:=by
   rw[PU h0 h5] at h1;exact Option.some.inj h1
  exact wpAny_getItem_list pl.isList h0 (by lia) (by rw[hj];simpa using ew) fin
 ·have hj:(i+(its.toArray.size:Int)).toNat=j:=by
   rw[Rp (by lia) h4] at h1;rw[Xr,<- hl];exact Option.some.inj h1
  exact Rj pl.isList (by lia) (by rw[Xr]<;>lia) (by lia) (by rw[hj];simpa using ew) fin
theorem zeP:∀{ns:List Int} {its:List X8},Vals (ns.map V.int) its->Pm its ns
 | [],_,r=>by cases r;exact .nil
 | n::ns,_,r=>by
  cases r with
  | cons r1 r2 =>
   obtain⟨t,rfl⟩:=r1;exact .cons n t (zeP r2)
theorem zeQ (hc:X.calm=true):jR X (.builtin "sum") (fun xs H Q=>∃(l:Addr) (ns:List Int),xs=[.ref l]/\SqL X.K H l (ns.map V.int)/\Q (.int ns.sum) H):=by
 intro pins s σ H xs us Q I r h;obtain⟨l,ns,rfl,hq,q⟩:=h;obtain⟨u,rfl,ru⟩:=vals1 r;cases ru;obtain⟨its,rv,pl,hz⟩:=I.list hq;have hi:Pm its ns:=zeP rv;obtain⟨ys,ey⟩:=hi.allInts.items;refine sum_intListG (I.ok.hd hc) (xs:=ys) (ey ▸ pl.isList) fun h' tk t' hk=>?_;have f1:ns=ys.toList.map (·.1):=by
  rw[<- nums_intItems,<- ey];exact(show numsOf its.toArray.toList=ns from hi.numsOf).symm
 have f2:preSum (numAt ys) ys.size=ns.sum:=by
  rw[f1,preSum_eq,WE (by simp)]
 rw[f2];exact⟨.int _,H,I.kept hk,⟨_,rfl⟩,q⟩
theorem zio {bs:List Bool}{its:List X8}(r:Vals (bs.map V.bl) its){i:Nat}{v:X8}(e:its[i]?=some v):∃b,bs[i]?=some b/\v=.bool b:=by
 have hl:=r.length;rw[Y1] at hl;have hi:i<bs.length:=by
  have:=(X0.mp e).1;lia
 obtain⟨u,hu,ru⟩:=r.get (i:=i) (x:=.bl bs[i]) (by rw[XD,XZ hi];rfl);rw[hu] at e;cases e;exact⟨bs[i],XZ hi,ru⟩
theorem zbC (hc:X.calm=true):jR X (.builtin "any") (fun xs H Q=>∃(l:Addr) (bs:List Bool),xs=[.ref l]/\SqL X.K H l (bs.map V.bl)/\Q (.bl (bs.any id)) H):=by
 intro pins s σ H xs us Q I r h;obtain⟨l,bs,rfl,hq,q⟩:=h;obtain⟨u,rfl,ru⟩:=vals1 r;cases ru;obtain⟨its,rv,pl,hz⟩:=I.list hq;have hl:=pl.isList;have hlt:l<s.heap.objs.size:=let ⟨_,he,_⟩:=hl;XH he
 have hln:=rv.length;rw[Y1] at hln;refine call_any_walk (Te hl ?_);refine⟨s.heap.objs.size,[s.heap.objs.size,l],[s.heap.objs.size],its.toArray.size,_,_,fun i=>(bs[i]?).getD false,rfl,Walks.list (A:=X.A.in1) (I.ok.hd hc) _ l (Xi hlt) its.toArray,
  ⟨⟨_,W5 _ rfl,rfl,rfl⟩,hl.push _⟩,fun i v s' Q' E' hP hQ=>?_,fun h' tk hk=>?_⟩
 ·obtain⟨b,eb,rfl⟩:=zio rv (i:=i) (v:=v) (by simpa using hP);simp only[eb,T2] at hQ;exact VO hQ
 ·have e:((WC its.toArray.size).any fun i=>(bs[i]?).getD false)=bs.any id:=by
   rw[Xr,<- hln];exact LSm.range_any bs
  rw[e];exact⟨.bl _,H,I.kept (LSm.kept_iter hk),rfl,q⟩
end
mutual
inductive Rdn (N:Addr->Prop)(H:Hp):V->Wa->Prop
 | non:Rdn N H .non .none
 | bl (b:Bool):Rdn N H (.bl b) (.bool b)
 | int (i:Int):Rdn N H (.int i) (.int i)
 | str (x:Str):Rdn N H (.str x) (.str x)
 | lst {a:Addr} {xs:List V} {ds:List Wa}:N a->H a=some (.lst xs)->zw N H xs ds->Rdn N H (.ref a) (.list ds)
 | tup {a:Addr} {xs:List V} {ds:List Wa}:H a=some (.tup xs)->zw N H xs ds->Rdn N H (.ref a) (.tuple ds)
inductive zw (N:Addr->Prop)(H:Hp):List V->List Wa->Prop
 | nil:zw N H [] []
 | cons {x:V} {d:Wa} {xs:List V} {ds:List Wa}:Rdn N H x d->zw N H xs ds->zw N H (x::xs) (d::ds)
end
section
variable {K:XT}{N N':Addr->Prop}{H H':Hp}
theorem Rdn.rdv {v:V}{d:Wa}(h:Rdn N H v d):Rdv K H v d :=
 Rdn.rec (motive_1:=fun v d _=>Rdv K H v d) (motive_2:=fun vs ds _=>J7 K H vs ds) .non .bl .int .str (fun _ h _ t=>.lst (SqL.of h) t) (fun h _ t=>.tup (SqT.of h) t) .nil (fun _ _ a t=>.cons a t) h
theorem zw.rdv {vs:List V}{ds:List Wa}(h:zw N H vs ds):J7 K H vs ds :=
 zw.rec (motive_1:=fun v d _=>Rdv K H v d) (motive_2:=fun vs ds _=>J7 K H vs ds) .non .bl .int .str (fun _ h _ t=>.lst (SqL.of h) t) (fun h _ t=>.tup (SqT.of h) t) .nil (fun _ _ a t=>.cons a t) h
theorem Rdn.mono (s:zq H H')(i:∀a,N a->N' a){v:V}{d:Wa}(h:Rdn N H v d):Rdn N' H' v d :=
 Rdn.rec (motive_1:=fun v d _=>Rdn N' H' v d) (motive_2:=fun vs ds _=>zw N' H' vs ds) .non .bl .int .str (fun n h _ t=>.lst (i _ n) (s _ _ h) t) (fun h _ t=>.tup (s _ _ h) t) .nil (fun _ _ a t=>.cons a t) h
theorem zw.mono (s:zq H H')(i:∀a,N a->N' a){vs:List V}{ds:List Wa}(h:zw N H vs ds):zw N' H' vs ds :=
 zw.rec (motive_1:=fun v d _=>Rdn N' H' v d) (motive_2:=fun vs ds _=>zw N' H' vs ds) .non .bl .int .str (fun n h _ t=>.lst (i _ n) (s _ _ h) t) (fun h _ t=>.tup (s _ _ h) t) .nil (fun _ _ a t=>.cons a t) h
theorem zw.into {D:Addr}{o:HO}{old:List V}(hD:H D=some (.lst old))(i:∀a,N a->a≠D){vs:List V}{ds:List Wa}(h:zw N H vs ds):zw N (upd H D o) vs ds :=
 zw.rec (motive_1:=fun v d _=>Rdn N (upd H D o) v d) (motive_2:=fun vs ds _=>zw N (upd H D o) vs ds) .non .bl .int .str (fun n h _ t=>.lst n (by rw[zk (i _ n)];exact h) t) (fun h _ t=>.tup (by rw[zk (zcS h hD (by intro z;cases z))];exact h) t) .nil (fun _ _ a t=>.cons a t) h
theorem Rdn.keep (s:zq H H'){v:V}{d:Wa}(h:Rdn N H v d):Rdn N H' v d:=h.mono s fun _ n=>n
theorem zw.keep (s:zq H H'){vs:List V}{ds:List Wa}(h:zw N H vs ds):zw N H' vs ds:=h.mono s fun _ n=>n
theorem zw.append {vs ws:List V}{ds es:List Wa}(h:zw N H vs ds)(k:zw N H ws es):zw N H (vs++ws) (ds++es) :=
 zw.rec (motive_1:=fun _ _ _=>True) (motive_2:=fun vs ds _=>zw N H (vs++ws) (ds++es))
  trivial (fun _=>trivial) (fun _=>trivial) (fun _=>trivial) (fun _ _ _ _=>trivial) (fun _ _ _=>trivial) k (fun a _ _ t=>.cons a t) h
theorem zw.snoc {vs:List V}{ds:List Wa}{v:V}{d:Wa}(h:zw N H vs ds)(k:Rdn N H v d):zw N H (vs++[v]) (ds++[d]):=h.append (.cons k .nil)
theorem zw.paired {vs:List V}{ds:List Wa}(h:zw N H vs ds):Xj (Rdn N H) vs ds :=
 zw.rec (motive_1:=fun _ _ _=>True) (motive_2:=fun vs ds _=>Xj (Rdn N H) vs ds)
  trivial (fun _=>trivial) (fun _=>trivial) (fun _=>trivial) (fun _ _ _ _=>trivial) (fun _ _ _=>trivial) .nil (fun a _ _ t=>.cons a t) h
theorem zw.length {vs:List V}{ds:List Wa}(h:zw N H vs ds):vs.length=ds.length:=Paired.length h.paired
theorem zw.get {vs:List V}{ds:List Wa}{i:Nat}{v:V}(h:zw N H vs ds)(e:vs[i]?=some v):∃d,ds[i]?=some d/\Rdn N H v d:=Y0 h.paired e
end
section
variable {K:XT}{g:TG}{tc:TT}{te:TE}{Q:VK}{σ0:St}{H1:Hp}{D:Addr}
def zlP (N:Addr->Prop)(inv:St->Prop)(H:Hp)(o:Option Wa)(Y:St->V->Hp->Prop):Prop:=∀d y σ2 H5,o=some d->inv σ2->zq H H5->Rdn N H5 y d->Y σ2 y H5
def znZ (inv:St->Prop)(H:Hp)(o:Option Wa)(Z:St->Hp->Prop):Prop:=∀ σ2 H4,o=none->inv σ2->zq H H4->Z σ2 H4
theorem qk {a:Addr}{xs:List V}(N:Addr->Prop)(outs:List (Option Wa))(inv:St->Prop)(hD:H1 D=none)(hN:∀a,N a->a≠D)(h0:inv σ0)(hlen:outs.length=xs.length)(hz:xs.length<=100000)
  (hl:SqL K H1 a xs)
  (hs:∀(i:Nat) (x:V) (o:Option Wa) (σ:St) (H:Hp),xs[i]?=some x->outs[i]?=some o->zq H1 H->H D≠none->inv σ->∀Y Z,zlP N inv H o Y->znZ inv H o Z ->
   g x σ H fun σ2 H3=>tc σ2 H3 fun b H4=>if b=true then te σ2 H4 fun y H5=>Y σ2 y H5 else Z σ2 H4)
  (hd:∀ys H',zq H1 H'->H' D=some (.lst ys)->zw N H' ys (outs.filterMap id)->Q (.ref D) H'):Jm (Itl K a) g tc te Q D σ0 (upd H1 D (.lst [])):=by
 refine qB (K:=K) (a:=a) (xs:=xs) (fun i σ H'=>inv σ/\zq H1 H'/\∃ys,H' D=some (.lst ys)/\ys.length<=i/\zw N H' ys ((outs.take i).filterMap id)) ⟨h0,zd hD,[],zb,XU _,.nil⟩ (fun i σ H' _ ⟨_,s,_⟩=>s.seq hl) ?_ ?_
 ·rintro i x σ H hx ⟨hi,s,ys,hy,yl,hr⟩;have hil:i<xs.length:=(X0.mp hx).1;obtain⟨o,ho⟩:∃o,outs[i]?=some o:=⟨outs[i]'(by lia),XZ (by lia)⟩;have step:(outs.take (i+1)).filterMap id=(outs.take i).filterMap id++o.toList:=by
   rw[Xc,ho,List.filterMap_append];cases o<;>rfl
  refine hs i x o σ H hx ho s (by rw[hy];exact fun z=>nomatch z) hi _ _ (fun d y σ2 H5 e hi2 s5 hr5=>?_) (fun σ2 H4 e hi2 s4=>?_)
  ·subst e;refine⟨ys,s5 _ _ hy,XG yl (Xq hil (XX hz (by decide))),hi2,fun b ob e=>?_,ys++[y],zb,?_,?_⟩
   ·rw[zk (zj e hD)];exact s5 _ _ (s _ _ e)
   ·rw[X4];exact Pz yl 1
   ·rw[step];exact zw.into (s5 _ _ hy) hN (zw.snoc (hr.keep s5) hr5)
  ·subst e;refine⟨hi2,s.trans s4,ys,s4 _ _ hy,Ue yl,?_⟩;rw[step];simpa using hr.keep s4
 ·rintro σ H ⟨_,s,ys,hy,_,hr⟩;rw[<- hlen,XA] at hr;exact hd ys H s hy hr
theorem zgg {a:Addr}{xs:List V}(Pv:Nat->St->Hp->Prop){H:Hp}(h0:Pv 0 σ0 H)(hl:∀i σ H,i<=xs.length->Pv i σ H->SqL K H a xs)
  (hs:∀i x T σ H,xs[i]?=some x->H T=none->Pv i σ H->g (.ref T) σ (upd H T (.tup [.int i,x])) fun σ2 H3=>tc σ2 H3 fun b H4=>if b=true then te σ2 H4 fun y H5=>∃ys,H5 D=some (.lst ys)/\ys.length<Xx/\Pv (i+1) σ2 (upd H5 D (.lst (ys++[y]))) else Pv (i+1) σ2 H4)
  (hd:∀ σ H,Pv xs.length σ H->Q (.ref D) H):Jm (Ite K a) g tc te Q D σ0 H:=by
 refine⟨fun i m σ H=>m=xs.length-i/\i<=xs.length/\Pv i σ H,⟨xs.length,by simp,WZ _,h0⟩,?_⟩;rintro i m σ H ⟨rfl,hi,p⟩;have q:=hl i σ H hi p;by_cases hlt:i<xs.length
 ·refine .inr ⟨⟨xs,q,hlt⟩,Pv (i+1),fun σ' H' p'=>⟨xs.length-(i+1),by lia,rfl,hlt,p'⟩,fun x H' y=>?_⟩;obtain⟨T,rfl,hT,y⟩:=y;obtain⟨v,hv,rfl⟩:=y xs q;exact hs i v T σ H hv hT p
 ·have e:i=xs.length:=by lia
  subst e;exact .inl ⟨⟨xs,q,rfl⟩,hd σ H p⟩
theorem x6 {i:Nat}{v:V}{σ:St}{H:Hp}{A B:St->Hp->Prop}(h:A (σ.set i (some v)) H):JO i v σ H fun σ2 H3=>zjB σ2 H3 fun b H4=>if b=true then A σ2 H4 else B σ2 H4:=by
 show if true=true then A (σ.set i (some v)) H else B (σ.set i (some v)) H
 exact QI h
end
def zew:List X8:=[.type "ValueError",.type "Exception",.type "BaseException",.type "object"]
structure Fly (P:Xn)(w:WW)(outer:List Env)(H:Hp)(s:X6)(e C:Addr)(a0:X8)(B:Heap)(H':Hp)(s':X6):Prop where
 fly:Heap.FlyingW B outer e (.ref C) a0 s'.heap
 os:s'.os=s.os
 bare:SR s'.gens
 un:Un (frs outer) [] H H' s.heap s'.heap
 ok:HOk P w H' B
 kB:∀b o,s.heap.get? b=some o->H b=none->b ∉ frs outer->B.get? b=some o
 tB:∀b o,s.heap.get? b=some o->b ∉ frs outer->∃o',B.get? b=some o'
 new:s.heap.get? e=none
 free:H' e=none
def CXE (P:Xn)(w:WW):CXT:=fun outer H s E x s'=>∃(e C:Addr) (a0:X8) (B:Heap) (H':Hp),x=.ref e/\Fly P w outer H s e C a0 B H' s'/\E (.ref C) none H'
theorem zjH {P:Xn}{w:WW}{H:Hp}{h:Heap}{a:Addr}:∀{o:HO},jk P w H h a o->∃ob,h.get? a=some ob
 | .lst _,x=>by obtain⟨_,_,_,_,q⟩:=x;exact⟨_,q⟩
 | .tup _,x=>by obtain⟨_,_,_,ob,q,_⟩:=x;exact⟨ob,q⟩
 | .dK _,x=>by obtain⟨_,_,_,_,ob,_,_,q,_⟩:=x;exact⟨ob,q⟩
 | .dT _,x=>by obtain⟨_,_,_,_,ob,_,_,q,_⟩:=x;exact⟨ob,q⟩
 | .set _ _,x=>by obtain⟨ob,_,_,_,q,_⟩:=x;exact⟨ob,q⟩
 | .ins _ _ _,x=>by obtain⟨_,_,_,q,_⟩:=x;exact⟨_,q⟩
 | .own _,x=>x
 | .xd _,x=>by obtain⟨_,⟨ob,_,_,q,_⟩,_⟩:=x;exact⟨ob,q⟩
 | .met _ _,x=>⟨_,x⟩
 | .rng _ _,x=>by obtain⟨_,_,_,q⟩:=x;exact⟨_,q⟩
 | .frz _ _,x=>⟨_,x.1⟩
 | .tbl _,x=>⟨_,x⟩
 | .ext _,x=>x.2.1
section
variable {X:Cx}{pins:List (Addr×Obj)}{σ:St}{H H':Hp}{s s':X6}{e C:Addr}{a0:X8}{B h2:Heap}
theorem Inv.notLoc (I:Inv X pins σ H s){b:Addr}{o:Obj}(q:X.s₀.heap.get? b=some o):b≠X.env.locals:=fun z=>Wb _ (Xq (z ▸ XH q) I.ok.above)
theorem Inv.notStk (I:Inv X pins σ H s){b:Addr}{o:Obj}(q:X.s₀.heap.get? b=some o)(hb:b ∉ X.fs):b ∉ frs X.stack:=fun z=>by
 rcases XF.mp (I.stkSub b z) with r | r
 ·exact I.notLoc q r
 ·exact hb r
theorem Inv.flies (I:Inv X pins σ H s)(hex:X.ex=[])(F:Heap.FlyingW B X.outer e (.ref C) a0 h2)(up:s'.heap.UpToSlots h2)(os:s'.os=s.os)(bare:SR s'.gens)(un:Un (frs X.stack) [] H H' s.heap s'.heap)(ok:HOk X.prog X.w H' B)
  (kB:∀b o,s.heap.get? b=some o->H b=none->b ∉ frs X.stack->B.get? b=some o) (tB:∀b o,s.heap.get? b=some o->b ∉ frs X.stack->∃o',B.get? b=some o') (new:s.heap.get? e=none) (free:H' e=none) :
  Fly X.prog X.w X.outer X.H₀ X.s₀ e C a0 B H' { s' with heap:=h2 }:=by
 have nx:∀b,b ∉ X.ex:=fun b z=>by rw[hex] at z;cases z
 have keep:∀b o,X.s₀.heap.get? b=some o->X.H₀ b=none->b ∉ X.fs->B.get? b=some o:=fun b o q n hb =>
  kB b o (I.base.keep b o q n hb (nx b)) (I.base.free b o q n (nx b)) (I.notStk q hb)
 have there:∀b o,X.s₀.heap.get? b=some o->b ∉ X.fs->∃o',B.get? b=some o':=fun b o q hb=>by
  obtain⟨o',q'⟩:=I.base.there b o q (nx b);exact tB b o' q' (I.notStk q hb)
 have slot:∀b o,X.s₀.heap.get? b=some o->b∈X.fs->∃sl,h2.get? b=some { o with slots:=sl }:=fun b o q hb=>by
  obtain⟨_,o1,q1,nf⟩:=I.ok.funs.mem hb;rw[q] at q1;cases q1;obtain⟨sl,q2⟩:=I.base.slot b o q (I.ok.frf b hb) hb (nx b);obtain⟨sl2,q3⟩:=un.any q2 (I.base.free b o q (I.ok.frf b hb) (nx b)) (fun z=>nomatch z);obtain⟨sl3,q4⟩:=up b _ q3 nf;exact⟨sl3,q4⟩
 refine⟨F,os.trans I.os,bare,⟨fun b o q n hb _=>F.1 b o (keep b o q n hb),fun b o q _ hb _=>slot b o q hb,fun b o q n _=>?_,fun b o q _=>?_,fun b xs q=>un.tups b xs (I.base.tups b xs q),fun b o u q=>un.frzs b o u (I.base.frzs b o u q),fun b ps q=>?_⟩,ok,keep,there,?_,free⟩
 ·obtain⟨o',q'⟩:=I.base.there b o q (nx b);exact un.free b o' q' (I.base.free b o q n (nx b)) fun z=>nomatch z
 ·by_cases hb:b∈X.fs
  ·obtain⟨sl,r⟩:=slot b o q hb;exact⟨_,r⟩
  ·obtain⟨o',r⟩:=there b o q hb;exact⟨o',F.1 b o' r⟩
 ·obtain⟨m1,r1⟩:=I.base.tbls b ps q;obtain⟨m2,r2⟩:=un.tbls b _ r1;exact⟨m1++m2,by rw[r2,Array.append_assoc]⟩
 ·cases q:X.s₀.heap.get? e with
  | none=>rfl
  | some o =>
   obtain⟨o',q'⟩:=I.base.there e o q (nx e);rw[new] at q';cases q'
structure xQ (X:Cx)(E:XK):Prop where
 stk:X.stack=X.env::X.outer
 fr:X.env.frame=some X.env.locals
 ex:X.ex=[]
 xe:X.xe=fun x s'=>Xg (Xk X.prog X.w) X.A (leaving X.env x) (fun _ s''=>CXE X.prog X.w X.outer X.H₀ X.s₀ E x s'') (fun x' s''=>CXE X.prog X.w X.outer X.H₀ X.s₀ E x' s'') s'
theorem jM {P:Xn}{w:WW}{K:XT}{mg:Str->Option X8}{base:Heap}{N:List Str}{qual:Str}{scope:Ux}{f:Addr}{cd:X8}{A:WM}{outer:List Env}{s:X6}{H:Hp}{E:XK} :
  xQ (zeH (CXE P w) P w K mg base N qual scope f cd A outer s H E) E:=⟨rfl,rfl,rfl,rfl⟩
theorem zn0 {l:List Env}:∀env∈l,∀a,env.frame=some a->a∈frs l:=fun env he a hf=>Tx.mpr ⟨env,he,hf⟩
theorem xQ.made {E:XK}(L:xQ X E)(I:Inv X pins σ H s){h1:Heap}{vs:List X8}(hx:Heap.MadeExcOf s.heap h1 e (.ref C) vs)(hE:E (.ref C) none H):X.xe (.ref e) { s with heap:=h1 }:=by
 rw[L.xe];have hs:=I.stack;have nb:∀a o,H a=some o->a ∉ frs X.stack:=fun a o q z=>by
  rw[I.stkFree a z] at q;cases q
 have own:∀a b,H b=some (.own a)->b ∉ frs X.stack:=fun a b q=>nb b _ q;have fresh:H e=none:=by
  cases q:H e with
  | none=>rfl
  | some o =>
   obtain⟨o',q'⟩:∃o',s.heap.get? e=some o':=by
    exact zjH (I.hok e o q)
   rw[hx.new] at q';cases q'
 refine wpAny_leaves_madeW (base:=PySem.W.hideAll s.heap (frs X.stack)) (L:=X.env.locals) (by rw[I.ok.frames,L.stk]) L.fr (fun b o q=>PySem.W.of_hideAll _ q) (PySem.W.funFrames_hide (by rw[<- L.stk];exact hs) (by rw[<- L.stk];exact zn0)) hx fun h' t x1 x2 x3 x4=>?_;refine⟨e,C,_,_,H,rfl,I.flies (s':={ s with heap:=h1 }) L.ex x1 x4 rfl I.bare (Un.kept hx.keeps) ?_ (fun b o q _ hb=>TX _ q hb) (fun b o q hb=>⟨o,TX _ q hb⟩) hx.new fresh,hE⟩;exact fun a o q=>(I.hok a o q).stay (fun b u hb r=>TX _ r (by
  rcases hb with hb | hb
  ·rw[hb];exact nb a o q
  ·exact own a b hb)) (fun _ r=>r) fun _ _ r=>r
theorem xQ.passes {E:XK}(L:xQ X E):Passes (CXE X.prog X.w) X E:=by
 intro pins σ H s x s' I h;obtain⟨e,C,a0,B,H',rfl,F,hE⟩:=h;rw[L.xe];have ff:=F.fly;rw[L.stk] at ff;refine wpAny_leaves_onW (by rw[I.ok.frames,L.stk]) L.fr ff fun h2 x1 x2=>?_;exact⟨e,C,a0,B,H',rfl,I.flies L.ex x1 x2 F.os F.bare F.un F.ok F.kB F.tB F.new F.free,hE⟩
theorem xQ.own {E:XK}(L:xQ X E):PassesOwn (Xk X.prog X.w) X.A X.env X.xe:=by
 rw[L.xe];exact PassesOwn.leaving
end
structure Y4 (K:XT)(mg:Str->Option X8)(x:Str)(C:Addr):Prop where
 g:mg x=some (.ref C)
 q:Ui K C zew "ValueError.__new__"=true
structure zps (h:Heap)(C:Addr)(bm:List X8):Prop where
 ex:∃N nm qn bs hdct sn sub ab col dd k0 k1 k2 k3 k5 mN,h.get? C=some (excClassObj nm qn C N bs bm hdct sn sub ab col dd k0 k1 k2 k3 k5 "ValueError.__new__")/\h.Ns N mN/\mN "__init__"=none
 tl:OwnTail h zew bm
theorem zpt {K:XT}{h:Heap}{C:Addr}(kin:K.In h)(hq:Ui K C zew "ValueError.__new__"=true):∃bm,zps h C bm:=by
 unfold Ui at hq;split at hq
 ·rename_i dd cd sl look;split at hq
  ·rename_i C' bm k0 k1 k2 k3 n k5 em es;simp only[Wo,beq_iff_eq,WI] at hq;obtain⟨⟨⟨⟨⟨rfl,rfl⟩,nodel⟩,tailok⟩,nsok⟩,noinit⟩:=hq;obtain⟨nm,bs,mro,ns,qn,hd,sn,sub,ab,col,del⟩:=cd;dsimp only at em nodel nsok noinit;subst em nodel;have esl:sl=#[k0,k1,k2,k3,some (.builtin "ValueError.__new__"),k5]:=by
    obtain⟨l⟩:=sl;simp only at es;rw[es]
   subst esl;exact⟨bm,⟨ns,nm,qn,bs,hd,sn,sub,ab,col,dd,k0,k1,k2,k3,k5,_,kin _ _ look,.of_isNs (PySem.W.isNs_of_in kin nsok),PySem.W.nsMap_none_of_in kin nsok noinit⟩,PySem.W.tail_of_in kin tailok⟩
  ·cases hq
 ·cases hq
section
variable {X:Cx}
def zn1 (E:XK)(C:Addr)(t:TA):TS:=fun _ σ H=>t σ H fun vs H1=>vs.length<=Xx/\E (.ref C) none H1
theorem zbD {x:Str}{C:Addr}{np cpos pos:Pos}{e0:Expr}{rest:List Expr}{t:TA}{E:XK}(L:xQ X E)(O:Y4 X.K X.mg x C)(hg:Gl X x)(hc:X.calm=true)(ha:PA X (e0::rest) t)
  (he:WH (e0::rest) X.env=(false,eval e0 X.env)::WH rest X.env:=by rfl) (hp:(TY cpos (WH rest X.env)).any (·.1)=false:=by rfl) (hdb:(x==("__debug__":Str))=false:=by decide) :
  PS X (.Raise (some (.Call (.Name x np) (e0::rest) [] cpos)) none pos) (zn1 E C t):=by
 intro pins s σ H D I h;obtain⟨bm,⟨N,nm,qn,bs,hdct,sn,sub,ab,col,dd,k0,k1,k2,k3,k5,mN,hC,hN,hni⟩,T⟩:=zpt I.ok.mod.kin O.q;refine wpAny_Raise_call_subU (C:=C) (nm:=nm) (q:=qn) (N:=N) (bs:=bs) (bm:=bm) (hdct:=hdct) (sn:=sn) (sub:=sub) (ab:=ab) (col:=col) (dd:=dd) (k0:=k0) (k1:=k1) (k2:=k2) (k3:=k3) (k5:=k5)
  R8 (by decide) R8 (mN:=mN) (T.hasType PySem.F.excBase_ValueError.hasBase) (I.ok.hd hc) (by rw[he];show (false || (TY cpos (WH rest X.env)).any (·.1))=false;rw[hp];rfl) hni (zdL I hg O.g ⟨rfl,?_⟩ hdb)
 have a:=ha cpos pins s σ H _ I h;rw[he] at a ⊢;refine SG (thn a fun us s2 ⟨vs,H1,I1,r,hz,q⟩=>?_);exact⟨rfl,by rw[<- r.length];exact hz,I1.bk _ _ hC,hN.keeps I1.bk,T.keeps I1.bk,fun h' e hx=>L.made I1 hx q⟩
variable {pins:List (Addr×Obj)}{σ:St}{H:Hp}{s:X6}
end
theorem Fun.okX {P:Xn}{w:WW}{K:XT}{mg:Str->Option X8}{base:Heap}{x qual:Str}{st:Stmt}{f:Addr}{fd:Xz}{N ps:List Str}{k:Nat}{sp:Sp}(F:Fun K x qual st f fd)(S:zF N ps (zf st))(len:∀vs H Q E,sp vs H Q E->vs.length=ps.length)
  (hbody:∀(cdv:X8) (A:WM) (outer:List Env) (s:X6) (H:Hp) (vs:List V) (Q:VK) (E:XK),J6 k (A.deeper (Rs qual (zf st) s.heap.objs.size f cdv))->sp vs H Q E ->
   ∃t,PSs (zeH (CXE P w) P w K mg base N qual (zf st) f cdv A outer s H E) (yY st) t/\t { nx:=fun _ H'=>Q .non H',rt:=Q } (start N vs) H):qb P w K mg base (CXE P w) (k+1) f fd ps sp:=by
 obtain⟨oc,od,kV,doc,pm,an,cdv,ct,osl,rfl,lk,hcd⟩:=F.ex;exact zm5 lk hcd S len fun A outer s H vs Q E hr hsp=>hbody cdv A outer s H vs Q E hr hsp
section
variable {prog:Xn}{w:WW}{A:WM}{E:X8->X6->Prop}{K:XT}{e C:Addr}
end
section
variable {X:Cx}{tg iter elt:Expr}{ifs:List Expr}{scope:Ux}{pos:Pos}{N:List Str}{src:List (Option Nat)}{cl:List (Str×Addr)}{wi:TI}{g:TG}{tc:TT}{te:TE}
theorem JQ {i:Nat}{x:Str}{xpos spos:Pos}(hN:X.N.Nodup)(hix:X.N[i]?=some x)(hlx:X.env.scope.names.lookup x=some .local)(ok:zP X N src scope cl)(hcalm:X.calm=true)(hi:PI X tg iter wi)
  (hg:∀C fp pins s H,PG (qQ X N scope cl C fp pins s H) tg g) (hc:∀C fp pins s H,zjA (qQ X N scope cl C fp pins s H) ifs tc) (he:∀C fp pins s H,PE (qQ X N scope cl C fp pins s H) elt te)
  (hs:∀x,Td iter X.env x=pure x:=by intro _;rfl) (hsw:OQ (.ListComp elt [⟨tg,iter,ifs,0⟩] scope pos) (some (.Name x xpos)) spos.line X.env=pure true:=by rfl) :
  PS X (.Assign [.Name x xpos] (.ListComp elt [⟨tg,iter,ifs,0⟩] scope pos) spos) (znK (zjC wi src g tc te) (JO i)):=by
 intro pins s σ H D I h;rw[exec_Assign_Name_used _ _ _ _ hsw];refine ZB (Uh (ZB ?_));unfold evalThenUse;refine ZB (Wi (Q:=fun _ s''=>∃ σ' H',Inv X pins σ' H' s''/\D.nx σ' H') ?_ (fun _ s'' ⟨σ',H',I',q'⟩=>XS (XS ⟨σ',H',I',q'⟩)) fun _ _ z=>z);refine TL (use:=some (assign (.Name x xpos) X.env)) rfl hs ok.clos ok.kind ok.names (thn (hi pins s σ H _ I h) fun xv s1 h1=>thn h1 fun itv s2 h2=>?_);obtain⟨it,fp,tn,J,H2,e,I2,T,st2,f2,q2⟩:=h2;subst e;refine VN (PB ok.nocell (by intro y hy;simp at hy) (fun h₁ hns₁ hsb₁=>?_) ok.kind);dsimp only at hns₁ hsb₁ ⊢;generalize hP:s2.heap.push { cls:=.type "list",dict:=none,data:=.seq ([]:List X8).toArray }=P2 at hns₁ hsb₁ ⊢;have hC:P2.objs.size=s2.heap.objs.size+1:=by rw[<- hP,Vo]
 have k:∀b u,s2.heap.get? b=some u->h₁.get? b=some u:=fun b u e=>by
  have lt:=XH e;exact(hsb₁.2 b (by rw[hC];exact Xi (WJ lt))).trans (XY _ (hP ▸ XY _ e))
 have hD:h₁.get? s2.heap.objs.size=some { cls:=.type "list",data:=.seq #[] }:=(hsb₁.2 _ (by rw[hC];exact(Vs _).symm)).trans (XY _ (hP ▸ W5 _ rfl));have ho:∀b∈fp,∃o,s2.heap.get? b=some o:=fun b hb=>let ⟨o,e,_⟩:=T.obj 0 _ st2 b hb;⟨o,e⟩
 obtain⟨W,⟨m0,w0⟩,turn⟩:=q2 s2.heap.objs.size (I2.hok.fresh (XU _));have I0:=zby (tk:=s2.toks+([]:List (Str×X8)).length) ok I2 f2 ho hC k hD hns₁;have st0:tn 0 h₁:=T.keep 0 _ _ st2 fun b _ o e=>k b o e;have fr0:∀b∈fp,upd H2 s2.heap.objs.size (.lst []) b=none:=fun b hb=>by
  obtain⟨o,e⟩:=ho b hb;rw[zk (Xi (XH e))];exact(f2 b hb).1
 have stat:∀{H':Hp},(∀b∈fp,H' b=none)->∀b∈fp,QF (qQ X N scope cl P2.objs.size fp pins s2 H2) [] H' b:=fun {H'} hn b hb=>by
  obtain⟨o,e⟩:=ho b hb;have lt:=XH e;refine⟨hn b hb,?_,fun z=>(XF.mp (I2.stkSub b z)).elim (f2 b hb).2.1 (f2 b hb).2.2.1,.inl hb,fun x c z=>(f2 b hb).2.2.2.2.1 x c (ok.sub x c z),fun p hp=>?_⟩
  ·show b≠P2.objs.size;rw[hC];exact Xi (WJ lt)
  ·have hp':p∈X.pn++pins:=by
    have:p∈(X.pn++pins)++[]:=hp;simpa using this
   exact(f2 b hb).2.2.2.2.2 p hp'
 have loop:∀s₃:X6,s₃={ s2 with heap:=h₁,toks:=s2.toks+([]:List (Str×X8)).length } ->
   To (Xk X.prog X.w) X.A (.compLoop (.ListComp elt [⟨tg,iter,ifs,0⟩] scope pos) 0 (.ref it) (.ref s2.heap.objs.size) (Tn scope cl P2.objs.size X.env))
    (compPost (Xk X.prog X.w) X.A X.xe (some (assign (.Name x xpos) X.env)) (fun _ s''=>∃ σ' H',Inv X pins σ' H' s''/\D.nx σ' H') (.ref s2.heap.objs.size) P2.objs.size) s₃:=by
  rintro s₃ rfl;refine OS rfl (fun n s'=>∃i σ' H',Inv (qQ X N scope cl P2.objs.size fp pins s2 H2) [] σ' H' s'/\tn i s'.heap/\(∀b∈fp,H' b=none)/\W i n σ' H') ?_ m0 ⟨0,_,_,I0,st0,fr0,w0⟩;rintro n s3 ⟨i,σ3,H3,I3,st3,fr3,w3⟩;show Xg _ X.A ((compTurn (.ListComp elt [⟨tg,iter,ifs,0⟩] scope pos) 0 (.ref it) (.ref s2.heap.objs.size) (Tn scope cl P2.objs.size X.env)).onRaise (fun x=>do noteFrame x (Tn scope cl P2.objs.size X.env);QP x)) _ _ s3;refine OO ?_;rw[O7];rcases turn i n σ3 H3 w3 with ⟨stop,qn⟩ | ⟨go,N',hN,step⟩
  ·refine ZB (Uh (ZB (thn (T.done (qQ X N scope cl P2.objs.size fp pins s2 H2) rfl rfl rfl hcalm i [] s3 σ3 H3 _ I3 (stat fr3) st3 stop) fun r s4 ⟨hr,I4⟩=>?_)));subst hr;refine XS ?_;obtain⟨m,hm,_⟩:=I4.loc;have leC:s2.heap.objs.size<=P2.objs.size:=by rw[hC];exact V4 _
   have IX:Inv X pins σ H3 s4:=I2.call' (s':=s4) (ch:=fp) I4.os I4.base I4.hok I4.bare fun b hb=>⟨(f2 b hb).2.2.2.1,(f2 b hb).2.1,(f2 b hb).2.2.2.2.1,(f2 b hb).2.2.2.2.2⟩;have cellLt:∀y c,X.env.cells.lookup y=some c->c≠P2.objs.size:=fun y c e z=>by
    obtain⟨_,o,e1,_⟩:=I2.cell y c e;have:=XH e1;rw[z] at this;exact Wb _ (Xq this leC)
   have locNe:X.env.locals≠P2.objs.size:=fun z=>by
    have:=I2.lt;rw[z] at this;exact Wb _ (Xq this leC)
   refine wpAny_assign_Name (zcT IX hN hix (.inl hlx) (v:=.ref s2.heap.objs.size) rfl (fun s5 I5 ⟨a5,sb5,ha5⟩=>?_) (.inr hlx));have na:a5≠P2.objs.size:=by
    rcases ha5 with z | z
    ·rw[z];exact locNe
    ·exact cellLt _ _ z
   refine⟨m,hm.sameBut sb5 (Vd na),fun h' sb=>⟨_,H3,?_,qn⟩⟩;exact I5.turned (t':=s5.toks) (it:=P2.objs.size) (fun b o hb e=>(sb.2 b hb).trans e) I4.free (Vd locNe) (.inr (XX I2.sz leC)) cellLt fun p hp z=>by
    obtain⟨e1,_⟩:=I2.pin p hp;have:=XH e1;rw[z] at this;exact Wb _ (Xq this leC)
  ·refine ZB (Uh (ZB (thn (T.item (qQ X N scope cl P2.objs.size fp pins s2 H2) rfl rfl rfl hcalm i [] s3 σ3 H3 _ I3 (stat fr3) st3 go) fun r s4 ⟨u,hr,h4⟩=>?_)));subst hr;dsimp only;refine ZB (thn h4 fun _ s5 ⟨x,H5,I5,r5,y5,st5,fr5⟩=>?_);have I5':=I5.pinned (stat fr5) (T.obj _ _ st5);refine ZB (Wi (hg P2.objs.size fp pins s2 H2 _ s5 σ3 H5 x u _ I5' r5 (step x H5 y5)) (fun _ s6 ⟨σ6,H6,I6,q6⟩=>?_) fun _ _ z=>Wd z);have R3:∀{s7:X6} {σ7:St} {H7:Hp},Inv (qQ X N scope cl P2.objs.size fp pins s2 H2) ([]++Qg fp s5.heap) σ7 H7 s7->N' σ7 H7->∃m,m<n/\∃i σ' H',Inv (qQ X N scope cl P2.objs.size fp pins s2 H2) [] σ' H' s7/\tn i s7.heap/\(∀b∈fp,H' b=none)/\W i m σ' H':=fun {s7 σ7 H7} I7 n7=>by
    obtain⟨m',hm,w7⟩:=hN σ7 H7 n7;refine⟨m',hm,i+1,σ7,H7,I7.unpinned,T.keep _ _ _ st5 fun b hb o e=>(I7.pin (b,o) (Xy _ (Xy _ (jG hb e)))).1,fun b hb=>?_,w7⟩;obtain⟨o,e,d⟩:=T.obj _ _ st5 b hb;exact(I7.pin (b,o) (Xy _ (Xy _ (jG hb e)))).2.1
   refine ZB (Wi (hc P2.objs.size fp pins s2 H2 _ s6 σ6 H6 _ I6 q6) (fun b s7 ⟨H7,I7,q7⟩=>?_) fun _ _ z=>Wd z);cases b with
   | false =>
    rw[if_neg XV] at q7;exact XS ⟨rfl,R3 I7 q7⟩
   | true =>
    rw[if_pos rfl] at q7;refine ZB (ZB (Wi (he P2.objs.size fp pins s2 H2 _ s7 σ6 H7 _ I7 q7) (fun y s8 ⟨v8,H8,I8,r8,ys,hys,hlen,q8⟩=>?_) fun _ _ z=>Wd z));refine ZB (Wi (yd (X:=qQ X N scope cl P2.objs.size fp pins s2 H2) _ s8 σ6 H8 (.ref s2.heap.objs.size) [v8] (.ref s2.heap.objs.size) [y] (fun _ H9=>N' σ6 H9) I8 rfl (.cons r8 .nil) ⟨_,ys,v8,rfl,rfl,hys,hlen,q8⟩) (fun _ s9 ⟨v9,H9,I9,_,q9⟩=>?_) fun _ _ z=>Wd z);exact XS (XS ⟨rfl,R3 I9 q9⟩)
 exact S5 (loop _ rfl) (T.self _ 0 _ _ _ st0 (loop _ rfl))
end
theorem zP.byRfl {X:Cx}{N:List Str}{src:List (Option Nat)}{scope:Ux}(kind:scope.kind=.function)(nocell:∀y∈scope.names,y.2 ≠ .cell)(names:∀y∈scope.names,y.2=.local->scope.names.lookup y.1=some .local)
  (hs:(scope.names.all fun y=>y.2 != .free || (X.env.cells.lookup y.1).isSome)=true) (len:src.length=N.length)
  (pc:((N.zip src).all fun q=>match q.2 with | none=>true | some j=>X.N[j]?==some q.1&&X.env.kindOf q.1==some .cell&&(Uv scope X.env).names.lookup q.1==some .cell)=true):zP X N src scope (zap (fun x=>X.env.cells.lookup x) scope.names []):=by
 have hs':∀y∈scope.names,y.2=.free->(X.env.cells.lookup y.1).isSome=true:=fun y hy e=>by
  have z:=WG.mp hs y hy;rw[e] at z;simpa using z
 refine⟨kind,nocell,names,xP hs',fun x c h=>?_,fun x h=>?_,len,fun i j x h1 h2=>?_⟩
 ·rcases Zf _ _ _ (WP h) with z | z
  ·cases z
  ·exact z
 ·refine VM.mp (zbA _ _ (.inr ?_));have hm:(x,U9)∈scope.names\/(x,NameKind.free)∈scope.names:=by
   rcases h with h | h
   ·exact yf (WP h) (.inl rfl)
   ·exact yf (WP h) (.inr rfl)
  rcases hm with hm | hm
  ·exact absurd rfl (nocell _ hm)
  ·exact⟨hm,hs' _ hm rfl⟩
 ·have hm:(x,some j)∈N.zip src:=X7 (i:=i) (by rw[T0];exact⟨h1,h2⟩);have z:=WG.mp pc _ hm;simp only[Wo,beq_iff_eq] at z;exact⟨z.1.1,.inl z.1.2,.inl z.2⟩
structure JR (X:Cx)(N:List Str)(src:List (Option Nat))(scope:Ux)(cl:List (Str×Addr))(y:Str):Prop where
 kind:scope.kind=.function
 one:∀n acc,Sl n scope.names acc=(y,n)::acc
 push:∀h,pushCells h scope.names=h.push { cls:=.type "cell",data:=.cell none }
 names:∀y∈scope.names,y.2=.local->scope.names.lookup y.1=some .local
 clos:O0 scope X.env=pure cl
 sub:∀x c,cl.lookup x=some c->X.env.cells.lookup x=some c
 has:∀x,((Uv scope X.env).names.lookup x=some .cell\/(Uv scope X.env).names.lookup x=some .free)->x=y\/∃c,cl.lookup x=some c
 len:src.length=N.length
 pulls:∀(i j:Nat) (x:Str),N[i]?=some x->src[i]?=some (some j)->X.N[j]?=some x/\(X.env.kindOf x=some .cell\/X.env.kindOf x=some .free)/\((Uv scope X.env).names.lookup x=some .cell\/(Uv scope X.env).names.lookup x=some .free)
 pny:∀(i j:Nat) (x:Str),N[i]?=some x->src[i]?=some (some j)->x≠y
theorem JR.has1 {X:Cx}{N:List Str}{src:List (Option Nat)}{scope:Ux}{cl:List (Str×Addr)}{y:Str}{C:Addr}(ok:JR X N src scope cl y)(x:Str)(h:(Uv scope X.env).names.lookup x=some .cell\/(Uv scope X.env).names.lookup x=some .free):∃c,SH x ((y,C)::cl)=some c:=by
 rw[Vr];cases q:x==y with
 | true=>exact⟨_,rfl⟩
 | false =>
  rcases ok.has x h with z | z
  ·rw[z] at q;simp at q
  ·exact z
theorem JR.byRfl {X:Cx}{N:List Str}{src:List (Option Nat)}{scope:Ux}{y:Str}(kind:scope.kind=.function)(one:∀n acc,Sl n scope.names acc=(y,n)::acc)(push:∀h,pushCells h scope.names=h.push { cls:=.type "cell",data:=.cell none })
  (only:∀z∈scope.names,z.2=.cell->z.1=y) (names:∀y∈scope.names,y.2=.local->scope.names.lookup y.1=some .local)
  (hs:(scope.names.all fun y=>y.2 != .free || (X.env.cells.lookup y.1).isSome)=true) (len:src.length=N.length)
  (pc:((N.zip src).all fun q=>match q.2 with | none=>true | some j=>X.N[j]?==some q.1&&X.env.kindOf q.1==some .cell&&(Uv scope X.env).names.lookup q.1==some .cell&&q.1 != y)=true):JR X N src scope (zap (fun x=>X.env.cells.lookup x) scope.names []) y:=by
 have hs':∀y∈scope.names,y.2=.free->(X.env.cells.lookup y.1).isSome=true:=fun y hy e=>by
  have z:=WG.mp hs y hy;rw[e] at z;simpa using z
 have pk:∀(i j:Nat) (x:Str),N[i]?=some x->src[i]?=some (some j)->(X.N[j]?=some x/\X.env.kindOf x=some .cell/\(Uv scope X.env).names.lookup x=some .cell)/\x≠y:=fun i j x h1 h2=>by
  have hm:(x,some j)∈N.zip src:=X7 (i:=i) (by rw[T0];exact⟨h1,h2⟩);have z:=WG.mp pc _ hm;simp only[Wo,beq_iff_eq,bne_iff_ne] at z;exact⟨⟨z.1.1.1,z.1.1.2,z.1.2⟩,z.2⟩
 refine⟨kind,one,push,names,xP hs',fun x c h=>?_,fun x h=>?_,len,fun i j x h1 h2=>⟨(pk i j x h1 h2).1.1,.inl (pk i j x h1 h2).1.2.1,.inl (pk i j x h1 h2).1.2.2⟩,fun i j x h1 h2=>(pk i j x h1 h2).2⟩
 ·rcases Zf _ _ _ (WP h) with z | z
  ·cases z
  ·exact z
 ·have hm:(x,U9)∈scope.names\/(x,NameKind.free)∈scope.names:=by
   rcases h with h | h
   ·exact yf (WP h) (.inl rfl)
   ·exact yf (WP h) (.inr rfl)
  rcases hm with hm | hm
  ·exact .inl (only _ hm rfl)
  ·exact .inr (VM.mp (zbA _ _ (.inr ⟨hm,hs' _ hm rfl⟩)))
def j6 (X:Cx)(N:List Str)(scope:Ux)(cl:List (Str×Addr))(y:Str)(C:Addr)(fp:List Addr)(pins:List (Addr×Obj))(s:X6)(H:Hp):Cx :=
 { qQ X N scope ((y,C+1)::cl) C fp pins s H with fn:=fun x=>decide (x=y) }
theorem zlQ {M:Model}{A:WM}{E:X8->X6->Prop}{s:X6}{scope:Ux}{globals:Addr}{cl:List (Str×Addr)}{qual:Str}{env:Env}{y:Str}{Q:Env->X6->Prop}(one:∀n acc,Sl n scope.names acc=(y,n)::acc)(push:∀h,pushCells h scope.names=h.push { cls:=.type "cell",data:=.cell none })
  (hQ:Q (newEnv scope s.heap.objs.size globals ((y,s.heap.objs.size+1)::cl) qual none .none (some env) O2) { s with heap:=(s.heap.push { cls:=.type "dict",data:=.dict #[] }).push { cls:=.type "cell",data:=.cell none } }) :
  Xg M A (newFunctionEnv scope globals cl [] qual none .none (some env)) Q E s:=by
 simp only[newFunctionEnv,Option.isSome_some,if_true];refine ZB (wpAny_alloc ?_);refine ZB (wpAny_layCells _ (fun name kind cells=>by cases hkc:kind==U9<;>simp[hkc]) _ _ _ _ ?_);rw[push,one,show ({ s with heap:=s.heap.push { cls:=.type "dict",data:=.dict #[] } }:X6).heap.objs.size=s.heap.objs.size+1 from Vo ..];exact ZB (XS (XS hQ))
section
variable {X:Cx}{tg iter elt:Expr}{ifs:List Expr}{scope:Ux}{pos:Pos}{N:List Str}{src:List (Option Nat)}{cl:List (Str×Addr)}{wi:TI}{g:TG}{tc:TT}{te:TE}{y:Str}
theorem zeR {pins:List (Addr×Obj)}{σ:St}{H:Hp}{s:X6}{fp:List Addr}{h1:Heap}{C:Addr}{tk:Nat}(ok:JR X N src scope cl y)(I:Inv X pins σ H s)(hf:∀b∈fp,QF X pins H b)(ho:∀b∈fp,∃o,s.heap.get? b=some o)
  (hC:C=s.heap.objs.size+1) (k:∀b u,s.heap.get? b=some u->h1.get? b=some u) (hD:h1.get? s.heap.objs.size=some { cls:=.type "list",data:=.seq #[] }) {m:Str->Option X8} (hn:h1.Ns C m) (hcc:h1.IsCell (C+1) none) :
  Inv (j6 X N scope cl y C fp pins s H) [] (pull src σ) (upd H s.heap.objs.size (.lst [])) { s with heap:=h1,toks:=tk }:=by
 have lt:∀b o,s.heap.get? b=some o->b<s.heap.objs.size:=fun b o e=>XH e;have nC:∀b o,s.heap.get? b=some o->b≠C:=fun b o e=>by rw[hC];exact Xi (WJ (lt b o e))
 have nD:∀b o,s.heap.get? b=some o->b≠s.heap.objs.size:=fun b o e=>Xi (lt b o e);have fr:∀b,s.heap.objs.size<=b->H b=none:=fun b hb=>I.hok.fresh hb;have nst:∀b,b≠X.env.locals->b ∉ X.fs->b ∉ frs X.stack:=fun b h1 h2 z=>(XF.mp (I.stkSub b z)).elim h1 h2;have nC1:∀b o,s.heap.get? b=some o->b≠C+1:=fun b o e=>by rw[hC];exact Xi (WJ (WJ (lt b o e)))
 have own:∀x c,SH x ((y,C+1)::cl)=some c->(x=y/\c=C+1)\/(x≠y/\X.env.cells.lookup x=some c):=fun x c e=>by
  rw[Vr] at e;cases q:x==y with
  | true =>
   rw[q] at e;exact .inl ⟨by simpa using q,(Option.some.inj e).symm⟩
  | false =>
   rw[q] at e;exact .inr ⟨by simpa using q,ok.sub x c e⟩
 have oldc:∀x c,X.env.cells.lookup x=some c->c≠C+1:=fun x c e=>by
  obtain⟨_,o,e1,_⟩:=I.cell x c e;exact nC1 c o e1
 refine⟨⟨I.ok.mod,ok.kind,I.ok.glob,I.ok.blt,by rw[show (j6 X N scope cl y C fp pins s H).env.locals=C from rfl,hC];exact V4 _,?inj,ok.has1,?cab,I.ok.hd,I.ok.frames,.inl rfl,fun b hb=>?_,I.bs,XX I.ok.bsz I.sz,fun b o e hb=>?_,fun b hb hz=>?_,I.stack,I.stkFree⟩,
  rfl,I.bare,Un.laid k (XU _) (fr _ (XU _)),⟨m,hn,fun i x v e1 e2 e3=>?_⟩,fun x c e=>?_,?_,fun x c e=>?_,fun p hp=>?_,I.hok.laid k (XU _) ⟨WZ _,[],0,.nil,hD⟩,?_⟩
 case inj =>
  intro x x' c e1 e2
  rcases own x c e1 with ⟨a1,a2⟩ | ⟨a1,a2⟩
  ·rcases own x' c e2 with ⟨b1,b2⟩ | ⟨b1,b2⟩
   ·rw[a1,b1]
   ·exact absurd a2 (oldc x' c b2)
  ·rcases own x' c e2 with ⟨b1,b2⟩ | ⟨b1,b2⟩
   ·exact absurd b2 (oldc x c a2)
   ·exact I.ok.inj x x' c a2 b2
 case cab =>
  intro x c z e
  have zy:x=y:=of_decide_eq_true z
  rcases own x c e with ⟨_,a2⟩ | ⟨a1,_⟩
  ·rw[a2,hC];exact Ue (V4 _)
  ·exact absurd zy a1
 ·obtain⟨o,e⟩:=ho b hb;refine⟨nC b o e,fun x c z=>?_⟩;rcases own x c z with ⟨_,a2⟩ | ⟨_,a2⟩
  ·rw[a2];exact Vd (nC1 b o e)
  ·exact(hf b hb).2.2.2.2.1 x c a2
 ·rcases(hf b hb).2.2.2.1 with z | z
  ·exact I.ok.noex b o e z
  ·exact absurd (Xq (XH (I.ok.bs b o e).1) z) (Wb _)
 ·exact nst b (hf b hb).2.1 (hf b hb).2.2.1 hz
 ·have hi:i<src.length:=by
   have:=(X0.mp e2).1;unfold pull at this;rw[Y1] at this;exact this
  unfold pull at e2;rw[XD,XZ hi] at e2;cases q:src[i] with
  | none=>rw[q] at e2;cases e2
  | some j =>
   rw[q] at e2;have e2':(σ[j]?).getD none=some v:=Option.some.inj e2;have e4:σ[j]?=some (some v):=by
    cases z:σ[j]? with
    | none=>rw[z] at e2';cases e2'
    | some o=>rw[z] at e2';exact congrArg some e2'
   obtain⟨p1,p2,p3⟩:=ok.pulls i j x e1 (by rw[XZ hi,q]);obtain⟨m',hn',hl⟩:=I.loc;obtain⟨u,r,l⟩:=hl j x v p1 e4 (by
    rcases p2 with z | z
    ·exact .inr (.inl z)
    ·exact .inr (.inr z))
   refine⟨u,r,.inr ⟨p3,?_⟩⟩;obtain⟨c,hc⟩:=ok.has1 x p3;refine⟨c,hc,?_⟩;rcases l with ⟨z,_⟩ | ⟨_,c',hc',o,ho',hd'⟩
   ·rcases p2 with y | y<;>rw[z] at y<;>cases y
   ·rcases own x c hc with ⟨a1,_⟩ | ⟨_,a2⟩
    ·exact absurd a1 (ok.pny i j x e1 (by rw[XZ hi,q]))
    ·rw[a2] at hc';cases hc';exact⟨o,k _ o ho',hd'⟩
 ·rcases own x c e with ⟨_,a2⟩ | ⟨_,a2⟩
  ·rw[a2];exact⟨_,hcc⟩
  ·obtain⟨v,o,e1,e2⟩:=I.cell x c a2;exact⟨v,o,k c o e1,e2⟩
 ·show upd H s.heap.objs.size (.lst []) C=none;rw[hC,zk (Vs _)];exact fr _ (V4 _)
 ·show upd H s.heap.objs.size (.lst []) c=none;rcases own x c e with ⟨_,a2⟩ | ⟨_,a2⟩
  ·rw[a2,hC,zk (T4 (WJ (RG _)))];exact fr _ (Ue (V4 _))
  ·obtain⟨v,o,e1,e2⟩:=I.cell x c a2;rw[zk (nD c o e1)];exact I.zZ x c a2
 ·have hp':p∈X.pn++pins:=by
   have:p∈(X.pn++pins)++[]:=hp;simpa using this
  obtain⟨e1,e2,e3,e4,e5⟩:=I.pin p hp';refine⟨k _ _ e1,?_,nC _ _ e1,nst _ e3 e4,e5⟩;show upd H s.heap.objs.size (.lst []) p.1=none;rw[zk (nD _ _ e1)];exact e2
 ·unfold pull;rw[Y1];exact ok.len
theorem zeS {y:Str}(ok:JR X N src scope cl y)(hcalm:X.calm=true)(hi:PI X tg iter wi)
  (hg:∀C fp pins s H,PG (j6 X N scope cl y C fp pins s H) tg g) (hc:∀C fp pins s H,zjA (j6 X N scope cl y C fp pins s H) ifs tc) (he:∀C fp pins s H,PE (j6 X N scope cl y C fp pins s H) elt te)
  (hs:∀x,Td iter X.env x=pure x:=by intro _;rfl):PE X (.ListComp elt [⟨tg,iter,ifs,0⟩] scope pos) (zjC wi src g tc te):=by
 intro pins s σ H Q I h;rw[eval_ListComp];refine TL (use:=none) rfl hs ok.clos ok.kind ok.names (thn (hi pins s σ H _ I h) fun xv s1 h1=>thn h1 fun itv s2 h2=>?_);obtain⟨it,fp,tn,J,H2,e,I2,T,st2,f2,q2⟩:=h2;subst e;refine VN (zlQ ok.one ok.push ?_);generalize hP:s2.heap.push { cls:=.type "list",dict:=none,data:=.seq ([]:List X8).toArray }=P2;have hC:P2.objs.size=s2.heap.objs.size+1:=by rw[<- hP,Vo]
 have sz1:(P2.push { cls:=.type "dict",data:=.dict #[] }).objs.size=P2.objs.size+1:=Vo ..;generalize hh1:(P2.push { cls:=.type "dict",data:=.dict #[] }).push { cls:=.type "cell",data:=.cell none }=h₁;have hns₁:h₁.Ns P2.objs.size (fun _=>none):=by
  rw[<- hh1];exact(Heap.Ns.new P2 _).push _
 have hcc:h₁.IsCell (P2.objs.size+1) none:=by
  rw[<- hh1,<- sz1];exact⟨_,W5 _ rfl,rfl⟩
 have k:∀b u,s2.heap.get? b=some u->h₁.get? b=some u:=fun b u e=>by
  rw[<- hh1];exact XY _ (XY _ (hP ▸ XY _ e))
 have hD:h₁.get? s2.heap.objs.size=some { cls:=.type "list",data:=.seq #[] }:=by
  rw[<- hh1];exact XY _ (XY _ (hP ▸ W5 _ rfl))
 have ho:∀b∈fp,∃o,s2.heap.get? b=some o:=fun b hb=>let ⟨o,e,_⟩:=T.obj 0 _ st2 b hb;⟨o,e⟩
 obtain⟨W,⟨m0,w0⟩,turn⟩:=q2 s2.heap.objs.size (I2.hok.fresh (XU _));have I0:=zeR (tk:=s2.toks) ok I2 f2 ho hC k hD hns₁ hcc;have st0:tn 0 h₁:=T.keep 0 _ _ st2 fun b _ o e=>k b o e;have fr0:∀b∈fp,upd H2 s2.heap.objs.size (.lst []) b=none:=fun b hb=>by
  obtain⟨o,e⟩:=ho b hb;rw[zk (Xi (XH e))];exact(f2 b hb).1
 have stat:∀{H':Hp},(∀b∈fp,H' b=none)->∀b∈fp,QF (j6 X N scope cl y P2.objs.size fp pins s2 H2) [] H' b:=fun {H'} hn b hb=>by
  obtain⟨o,e⟩:=ho b hb;have lt:=XH e;refine⟨hn b hb,?_,fun z=>(XF.mp (I2.stkSub b z)).elim (f2 b hb).2.1 (f2 b hb).2.2.1,.inl hb,fun x c z=>?own,fun p hp=>?_⟩
  case own =>
   have z':SH x ((y,P2.objs.size+1)::cl)=some c:=z
   rw[Vr] at z'
   cases q:x==y with
   | true =>
    rw[q] at z';rw[<- Option.some.inj z',hC];exact T4 (WJ (WJ lt))
   | false =>
    rw[q] at z';exact(f2 b hb).2.2.2.2.1 x c (ok.sub x c z')
  ·show b≠P2.objs.size;rw[hC];exact Xi (WJ lt)
  ·have hp':p∈X.pn++pins:=by
    have:p∈(X.pn++pins)++[]:=hp;simpa using this
   exact(f2 b hb).2.2.2.2.2 p hp'
 have loop:∀s₃:X6,s₃={ s2 with heap:=h₁,toks:=s2.toks } ->
   To (Xk X.prog X.w) X.A (.compLoop (.ListComp elt [⟨tg,iter,ifs,0⟩] scope pos) 0 (.ref it) (.ref s2.heap.objs.size) (Tn scope ((y,P2.objs.size+1)::cl) P2.objs.size X.env))
    (compPost (Xk X.prog X.w) X.A X.xe none (EP X pins σ Q) (.ref s2.heap.objs.size) P2.objs.size) s₃:=by
  rintro s₃ rfl;refine OS rfl (fun n s'=>∃i σ' H',Inv (j6 X N scope cl y P2.objs.size fp pins s2 H2) [] σ' H' s'/\tn i s'.heap/\(∀b∈fp,H' b=none)/\W i n σ' H') ?_ m0 ⟨0,_,_,I0,st0,fr0,w0⟩;rintro n s3 ⟨i,σ3,H3,I3,st3,fr3,w3⟩;show Xg _ X.A ((compTurn (.ListComp elt [⟨tg,iter,ifs,0⟩] scope pos) 0 (.ref it) (.ref s2.heap.objs.size) (Tn scope ((y,P2.objs.size+1)::cl) P2.objs.size X.env)).onRaise (fun x=>do noteFrame x (Tn scope ((y,P2.objs.size+1)::cl) P2.objs.size X.env);QP x)) _ _ s3;refine OO ?_;rw[O7];rcases turn i n σ3 H3 w3 with ⟨stop,qn⟩ | ⟨go,N',hN,step⟩
  ·refine ZB (Uh (ZB (thn (T.done (j6 X N scope cl y P2.objs.size fp pins s2 H2) rfl rfl rfl hcalm i [] s3 σ3 H3 _ I3 (stat fr3) st3 stop) fun r s4 ⟨hr,I4⟩=>?_)));subst hr;refine XS ?_;obtain⟨m,hm,_⟩:=I4.loc;refine⟨m,hm,fun h' sb=>⟨.ref s2.heap.objs.size,H3,?_,rfl,qn⟩⟩;have un:Un (frs X.stack) fp H2 H3 s2.heap h':=Un.but I4.base (by show s2.heap.objs.size<=P2.objs.size;rw[hC];exact V4 _) sb;have hok:HOk X.prog X.w H3 h':=HOk.but I4.hok I4.free sb;exact I2.call' (s':={ s4 with heap:=h' }) (ch:=fp) I4.os un hok I4.bare fun b hb=>⟨(f2 b hb).2.2.2.1,(f2 b hb).2.1,(f2 b hb).2.2.2.2.1,(f2 b hb).2.2.2.2.2⟩
  ·refine ZB (Uh (ZB (thn (T.item (j6 X N scope cl y P2.objs.size fp pins s2 H2) rfl rfl rfl hcalm i [] s3 σ3 H3 _ I3 (stat fr3) st3 go) fun r s4 ⟨u,hr,h4⟩=>?_)));subst hr;dsimp only;refine ZB (thn h4 fun _ s5 ⟨x,H5,I5,r5,y5,st5,fr5⟩=>?_);have I5':=I5.pinned (stat fr5) (T.obj _ _ st5);refine ZB (Wi (hg P2.objs.size fp pins s2 H2 _ s5 σ3 H5 x u _ I5' r5 (step x H5 y5)) (fun _ s6 ⟨σ6,H6,I6,q6⟩=>?_) fun _ _ z=>Wd z);have R3:∀{s7:X6} {σ7:St} {H7:Hp},Inv (j6 X N scope cl y P2.objs.size fp pins s2 H2) ([]++Qg fp s5.heap) σ7 H7 s7->N' σ7 H7->∃m,m<n/\∃i σ' H',Inv (j6 X N scope cl y P2.objs.size fp pins s2 H2) [] σ' H' s7/\tn i s7.heap/\(∀b∈fp,H' b=none)/\W i m σ' H':=fun {s7 σ7 H7} I7 n7=>by
    obtain⟨m',hm,w7⟩:=hN σ7 H7 n7;refine⟨m',hm,i+1,σ7,H7,I7.unpinned,T.keep _ _ _ st5 fun b hb o e=>(I7.pin (b,o) (Xy _ (Xy _ (jG hb e)))).1,fun b hb=>?_,w7⟩;obtain⟨o,e,d⟩:=T.obj _ _ st5 b hb;exact(I7.pin (b,o) (Xy _ (Xy _ (jG hb e)))).2.1
   refine ZB (Wi (hc P2.objs.size fp pins s2 H2 _ s6 σ6 H6 _ I6 q6) (fun b s7 ⟨H7,I7,q7⟩=>?_) fun _ _ z=>Wd z);cases b with
   | false =>
    rw[if_neg XV] at q7;exact XS ⟨rfl,R3 I7 q7⟩
   | true =>
    rw[if_pos rfl] at q7;refine ZB (ZB (Wi (he P2.objs.size fp pins s2 H2 _ s7 σ6 H7 _ I7 q7) (fun yv s8 ⟨v8,H8,I8,r8,ys,hys,hlen,q8⟩=>?_) fun _ _ z=>Wd z));refine ZB (Wi (yd (X:=j6 X N scope cl y P2.objs.size fp pins s2 H2) _ s8 σ6 H8 (.ref s2.heap.objs.size) [v8] (.ref s2.heap.objs.size) [yv] (fun _ H9=>N' σ6 H9) I8 rfl (.cons r8 .nil) ⟨_,ys,v8,rfl,rfl,hys,hlen,q8⟩) (fun _ s9 ⟨v9,H9,I9,_,q9⟩=>?_) fun _ _ z=>Wd z);exact XS (XS ⟨rfl,R3 I9 q9⟩)
 exact S5 (loop _ rfl) (T.self _ 0 _ _ _ st0 (loop _ rfl))
end
section
variable {X:Cx}{K:XT}
theorem zc0 (hK:X.K=K)(hc:X.calm=true):jR X (.builtin "any") (fun xs H Q=>∃(l:Addr) (bs:List Bool),xs=[.ref l]/\SqL K H l (bs.map V.bl)/\Q (.bl (bs.any id)) H):=by
 subst hK;exact zbC hc
theorem zeT {tg l:Expr}{tl:TE}(hK:X.K=K)(hl:PE X l tl):PI X tg l (zm2 K tl):=by
 subst hK;exact zJ hl
end
def EF:XK:=fun _ _ _=>False
theorem zpu {X:Cx}:Passes (CXE X.prog X.w) X EF:=by
 intro pins σ H s x s' I h;obtain⟨e,C,a0,B,H',rfl,F,hE⟩:=h;exact hE.elim
section
variable {X:Cx}
end
theorem zc1:∀{ts:List Str} {its:List X8},Vals (ts.map V.str) its->StrsAre its ts
 | [],_,.nil=>.nil
 | t::_,_,.cons ⟨k,e⟩ h=>by
  subst e;exact .cons t k (zc1 h)
section
variable {X:Cx}
def rJoin (K:XT):V->List V->Hp->VK->Prop:=fun x xs H Q=>∃(z:Str) (l:Addr) (ts:List Str),x=.str z/\xs=[.ref l]/\SqL K H l (ts.map V.str)/\(ts.map (·.length)).sum+ts.length*z.length<=16777216/\Q (.str (OV z ts)) H
theorem zlR:MtR X "str.join" (rJoin X.K):=by
 intro pins s σ H x xs v us Q I rx rv h;obtain⟨z,l,ts,rfl,rfl,hl,hsz,q⟩:=h;obtain⟨tk,rfl⟩:=rx;obtain⟨u,rfl,r⟩:=rv.one;cases r;obtain⟨its,rv2,p,hz⟩:=I.list hl;refine join_list (ys:=ts) p.isList (by simpa using zc1 rv2) hsz fun t' k=>⟨.str (OV z ts),H,I.tok k,⟨t',?_⟩,q⟩;rw[show Txt.join z ts=OV z ts from StrLaws.glued_eq_join z ts]
end
theorem zgh {α:Type}(d:α)(xs:List α):((WC xs.length).map fun i=>xs.getD i d)=xs:=by
 refine List.ext_getElem (by simp) fun i h1 h2=>?_;simp[h2]
theorem zhm (p:Int×Int):lt2 p p=false:=by
 unfold lt2;rw[if_pos rfl,decide_eq_false (by lia)]
theorem zbj {p q:Int×Int}(h:p≠q):lt2 q p=!lt2 p q:=by
 unfold lt2;obtain⟨a,b⟩:=p;obtain⟨c,d⟩:=q;simp only;by_cases e:a=c
 ·subst e;rw[if_pos rfl,if_pos rfl];have hb:b≠d:=fun z=>h (by rw[z]);by_cases l:b<d
  ·rw[decide_eq_true l,decide_eq_false (by lia)];rfl
  ·rw[decide_eq_false l,decide_eq_true (by lia)];rfl
 ·rw[if_neg e,if_neg (fun z=>e z.symm)];by_cases l:a<c
  ·rw[decide_eq_true l,decide_eq_false (by lia)];rfl
  ·rw[decide_eq_false l,decide_eq_true (by lia)];rfl
theorem zgi {p q r:Int×Int}(h1:lt2 p q=true)(h2:lt2 q r=true):lt2 p r=true:=by
 unfold lt2 at *
 obtain⟨a,b⟩:=p;obtain⟨c,d⟩:=q;obtain⟨e,f⟩:=r;simp only at *
 by_cases e1:a=c
 ·subst e1;rw[if_pos rfl,decide_eq_true_eq] at h1;by_cases e2:a=e
  ·subst e2;rw[if_pos rfl,decide_eq_true_eq] at h2 ⊢;lia
  ·rw[if_neg e2] at h2 ⊢;exact h2
 ·rw[if_neg e1,decide_eq_true_eq] at h1;by_cases e2:c=e
  ·subst e2;rw[if_neg e1,decide_eq_true_eq];exact h1
  ·rw[if_neg e2,decide_eq_true_eq] at h2;rw[if_neg (by lia),decide_eq_true_eq];lia
def Up2 (ps:List (Int×Int)):Prop:=ps.Pairwise fun p q=>lt2 p q=true
section
variable {X:Cx}
end
end L2
namespace PySem.SeqAt
open L2 AutoSeq1 MeetsSeq MeetsSeq2 MeetsSeq3
def Qk (A:WM)(s:X6)(y x:X8)(b:Bool):Prop:=∀(prog:Xn) (w:WW) (E:X8->X6->Prop) (Q:X8->X6->Prop),Q (.bool b) s->Xg (Xk prog w) A (richCompare .Lt y x) Q E s
theorem Qk.int_int {A:WM}{s:X6}(a:Int)(t:Tok)(b:Int)(u:Tok):Qk A s (.int a t) (.int b u) (decide (a<b)):=fun prog w E Q h=>wpAny_lt_int h
theorem zgj (l b:Addr)(x y x2 y2:Int)(t u t2 u2:Tok)(n n2:Nat)(dd dd2:Option Addr)(sl sl2:Array (Option X8)) :
  Meets (UT.«tuple.__lt__» ⟨[.ref l,.ref b],[]⟩)
   (fun _ R s=>s.heap.get? l=some { cls:=.type "tuple",dict:=dd,data:=.seq #[.int x t,.int y u] n,slots:=sl }/\s.heap.get? b=some { cls:=.type "tuple",dict:=dd2,data:=.seq #[.int x2 t2,.int y2 u2] n2,slots:=sl2 } /\
    R (.ok (.ret (.bool (lt2 (x,y) (x2,y2))))) s) :=
 .of_wp fun prog w A R s h=>by
  obtain⟨hp1,g1,d1,tk1,os1⟩:=s;obtain⟨hL,hB,h⟩:=h;have fT:=sub_tuple_tuple;wp_walk using Wc hL,Wc hB;refine EqAt.int_int x t x2 t2 prog w _ _ ?_;unfold lt2 at h;by_cases e:x=x2
  ·have e':(x==x2)=true:=by simpa using e
   rw[e'];rw[if_pos e] at h;wp_walk;refine EqAt.int_int y u y2 u2 prog w _ _ ?_;by_cases e2:y=y2
   ·have e2':(y==y2)=true:=by simpa using e2
    rw[e2'];rw[decide_eq_false (by show ¬ y<y2;lia)] at h;wp_walk;exact⟨_,rfl,h⟩
   ·have e2':(y==y2)=false:=by simpa using e2
    rw[e2'];simp only[Bool.not_false,if_true];refine ZB (U2 (ZB (Qk.int_int y u y2 u2 prog w _ _ ?_)));wp_walk;exact⟨_,rfl,h⟩
  ·have e':(x==x2)=false:=by simpa using e
   rw[e'];rw[if_neg e] at h;simp only[Bool.not_false,if_true];refine ZB (U2 (ZB (Qk.int_int x t x2 t2 prog w _ _ ?_)));wp_walk;exact⟨_,rfl,h⟩
theorem Qk.pairs {A:WM}{s:X6}{v v':X8}{p q:Int×Int}(hv:zx s.heap v p)(hv':zx s.heap v' q)(hu:A.units<VP):Qk A s v v' (lt2 p q):=fun prog w E Q h=>by
 obtain⟨a,⟨cls,dd,data,sl⟩,n,t,u,rfl,e1,c1,d1⟩:=hv;obtain⟨a',⟨cls2,dd2,data2,sl2⟩,n',t',u',rfl,e1',c1',d1'⟩:=hv';simp only at c1 d1 c1' d1';subst c1 d1 c1' d1';exact richCompare_meets_room (op:=.Lt) ⟨_,e1,rfl⟩ ⟨_,e1',rfl⟩ F.slot_tuple_lt F.entry_tuple_lt (F.args_tuple_lt_2 _ _) (zgj a a' p.1 p.2 q.1 q.2 t u t' u' n n' dd dd2 sl sl2)
  ⟨e1,e1',show Value.bool (lt2 p q)≠Value.notImplemented/\Q (.bool (lt2 p q)) s from ⟨(fun x=>nomatch x),h⟩⟩ hu
theorem Y5 {h:Heap}{v:X8}{p:Int×Int}(hv:zx h v p):∃as,Reads h v (.tuple [.int p.1,.int p.2]) as:=by
 obtain⟨a,o,n,t,u,rfl,e1,c1,d1⟩:=hv;exact⟨_,.tuple e1 c1 d1 (.cons (.int _ _) (.cons (.int _ _) .nil))⟩
theorem ziq (p q:Int×Int):WL (.tuple [.int p.1,.int p.2]) (.tuple [.int q.1,.int q.2])=decide (p=q):=by
 obtain⟨a,b⟩:=p;obtain⟨c,d⟩:=q;show ((a==c)&&((b==d)&&true))=_;by_cases h1:a=c
 ·by_cases h2:b=d
  ·subst h1 h2;simp
  ·simp[h2]
 ·simp[h1]
end PySem.SeqAt
namespace L2
open PySem PySem.Spec PyProof.Rows PySem.W PySem.SeqAt
section
variable {X:Cx}{pins:List (Addr×Obj)}{σ:St}{H:Hp}{s:X6}
end
section
variable {X:Cx}
end
open PySem PySem.Spec PyProof.Rows
section
variable {κ:Type} [DecidableEq κ]
def jb (kvs:List (κ × V))(k:κ):Option V:=(kvs.find? fun kv=>decide (kv.1=k)).map (·.2)
def putK (kvs:List (κ × V))(k:κ)(v:V):List (κ × V) :=
 if (kvs.any fun kv=>decide (kv.1=k))=true then kvs.map (fun kv=>if kv.1=k then (kv.1,v) else kv) else kvs++[(k,v)]
theorem jt {p:κ × V}{r:List (κ × V)}{k:κ}(e:p.1=k):jb (p::r) k=some p.2:=by simp[jb,Um,e]
theorem ju {p:κ × V}{r:List (κ × V)}{k:κ}(e:¬ p.1=k):jb (p::r) k=jb r k:=by simp[jb,Um,e]
theorem QL (k:κ):∀kvs:List (κ × V),(kvs.any fun kv=>decide (kv.1=k))=(jb kvs k).isSome
 | []=>rfl
 | p::r=>by
  rw[SO];by_cases e:p.1=k
  ·simp only[jt e,decide_eq_true e,Bool.true_or,Option.isSome_some]
  ·rw[ju e,decide_eq_false e,Bool.false_or];exact QL k r
theorem zeU (k j:κ)(y:V):∀kvs:List (κ × V),jb (kvs.map fun kv=>if kv.1=k then (kv.1,y) else kv) j=(jb kvs j).map fun x=>if j=k then y else x
 | []=>rfl
 | p::r=>by
  have ih:=zeU k j y r;rw[XB];by_cases h:p.1=k
  ·rw[if_pos h];by_cases e:p.1=j
   ·rw[jt (p:=(p.1,y)) e,jt e,Ul,if_pos (e.symm.trans h)]
   ·rw[ju (p:=(p.1,y)) e,ju e,ih]
  ·rw[if_neg h];by_cases e:p.1=j
   ·rw[jt (p:=p) e,jt e,Ul,if_neg (fun z=>h (e.trans z))]
   ·rw[ju (p:=p) e,ju e,ih]
theorem zc2 (k j:κ)(y:V):∀kvs:List (κ × V),jb kvs k=none->jb (kvs++[(k,y)]) j=if j=k then some y else jb kvs j
 | [],_=>by
  by_cases e:k=j
  ·rw[if_pos e.symm];exact jt (p:=(k,y)) e
  ·rw[if_neg (fun z=>e z.symm)];exact ju (p:=(k,y)) e
 | p::r,hn=>by
  rw[RF];have hk:¬ p.1=k:=fun z=>by rw[jt z] at hn;cases hn
  rw[ju hk] at hn;have ih:=zc2 k j y r hn;by_cases e:p.1=j
  ·rw[jt e,jt e,if_neg (fun z=>hk (e.trans z))]
  ·rw[ju e,ju e,ih]
theorem zbE (kvs:List (κ × V))(k j:κ)(y:V):jb (putK kvs k y) j=if j=k then some y else jb kvs j:=by
 unfold putK;by_cases a:(kvs.any fun kv=>decide (kv.1=k))=true
 ·rw[if_pos a,zeU];rw[QL] at a;by_cases e:j=k
  ·obtain⟨x,hx⟩:=VM.mp a;rw[if_pos e,e,hx,Ul,if_pos rfl]
  ·rw[if_neg e];cases jb kvs j with
   | none=>rfl
   | some x=>rw[Ul,if_neg e]
 ·rw[if_neg a];refine zc2 k j y kvs ?_;rw[QL] at a;cases q:jb kvs k with
  | none=>rfl
  | some x=>rw[q] at a;exact(a rfl).elim
theorem xC (kvs:List (κ × V))(k:κ)(v:V):(putK kvs k v).length<=kvs.length+1:=by
 unfold putK;split
 ·rw[Y1];lia
 ·rw[X4,Xm,Vi];lia
theorem za8.isSome_eq {o:Option V}{u:Option X8}(r:za8 o u):o.isSome=u.isSome:=by
 cases o with
 | none=>cases u with
  | none=>rfl
  | some _=>exact(show False from r).elim
 | some _=>cases u with
  | none=>exact(show False from r).elim
  | some _=>rfl
theorem za8.getD {o:Option V}{u:Option X8}{d:V}{d':X8}(r:za8 o u)(rd:RelV d d'):RelV (o.getD d) (u.getD d'):=by
 cases o with
 | none=>cases u with
  | none=>exact rd
  | some _=>exact(show False from r).elim
 | some _=>cases u with
  | none=>exact(show False from r).elim
  | some _=>exact r
theorem KV.val {kvs:List (κ × V)}{vs:List (κ × X8)}(r:KV kvs vs)(k:κ):za8 (jb kvs k) (Pk vs k):=by
 unfold KV at r;induction r with
 | nil=>exact SS
 | @cons p q ps qs h t ih =>
  obtain⟨h1,h2⟩:=h;by_cases e:p.1=k
  ·have e':q.1=k:=h1.symm.trans e;have b:Pk (q::qs) k=some q.2:=by simp[Pk,Um,e']
   rw[jt e,b];exact h2
  ·have e':¬ q.1=k:=fun z=>e (h1.trans z);have b:Pk (q::qs) k=Pk qs k:=by simp[Pk,Um,e']
   rw[ju e,b];exact ih
theorem KV.any {kvs:List (κ × V)}{vs:List (κ × X8)}(r:KV kvs vs)(k:κ):(kvs.any fun kv=>decide (kv.1=k))=vs.any fun kv=>decide (kv.1=k):=by
 unfold KV at r;induction r with
 | nil=>rfl
 | cons h t ih=>rw[SO,SO,ih,h.1]
theorem KV.repl {kvs:List (κ × V)}{vs:List (κ × X8)}(r:KV kvs vs)(k:κ){y:V}{u:X8}(ry:RelV y u) :
  KV (kvs.map fun kv=>if kv.1=k then (kv.1,y) else kv) (vs.map fun kv=>if kv.1=k then (kv.1,u) else kv):=by
 unfold KV at r ⊢;induction r with
 | nil=>exact .nil
 | @cons p q ps qs h t ih =>
  rw[XB,XB];refine .cons ?_ ih;obtain⟨h1,h2⟩:=h;by_cases e:p.1=k
  ·rw[if_pos e,if_pos (h1.symm.trans e)];exact⟨h1,ry⟩
  ·rw[if_neg e,if_neg (fun z=>e (h1.trans z))];exact⟨h1,h2⟩
theorem KV.put {kvs:List (κ × V)}{vs:List (κ × X8)}(r:KV kvs vs)(k:κ){y:V}{u:X8}(ry:RelV y u):KV (putK kvs k y) (stored vs k u):=by
 unfold putK stored;rw[r.any k];by_cases e:(vs.any fun kv=>decide (kv.1=k))=true
 ·rw[if_pos e,if_pos e];exact r.repl k ry
 ·rw[if_neg e,if_neg e];exact Paired.snoc r ⟨rfl,ry⟩
theorem KV.length {kvs:List (κ × V)}{vs:List (κ × X8)}(r:KV kvs vs):kvs.length=vs.length:=Paired.length r
end
theorem zc3 {P:Xn}{w:WW}{k:Key}{u:X8}(r:RelV (kV k) u):(zQ P w).is k u=true:=by
 cases k with
 | inl i=>obtain⟨t,e⟩:=(show ∃t,u=Vu i t from r);subst e;exact zex P w i t
 | inr x=>obtain⟨t,e⟩:=(show ∃t,u=Value.str x t from r);subst e;exact zey P w x t
theorem zc4 {P:Xn}{w:WW}:∀{ks:List Key} {us:List X8},Vals (ks.map kV) us->ItemsAre (zQ P w) ks us
 | [],_,r=>by rw[Ro] at r;cases r;exact .nil
 | k::ks,_,r=>by
  rw[XB] at r;cases r with
  | cons h t=>exact .cons (zc3 h) (zc4 t)
abbrev KT (H:Hp):List (List Key×V)->List (List Key×Addr×X8)->Prop:=Xj fun p q=>p.1=q.1/\H q.2.1=some (.tup (p.1.map kV))/\RelV p.2 q.2.2
theorem KT.val {H:Hp}{kvs:List (List Key×V)}{xs:List (List Key×Addr×X8)}(r:KT H kvs xs)(k:List Key):za8 (jb kvs k) ((Pc xs k).map (·.2)):=by
 induction r with
 | nil=>exact SS
 | @cons p q ps qs h t ih =>
  obtain⟨h1,_,h2⟩:=h;by_cases e:p.1=k
  ·have e':q.1=k:=h1.symm.trans e;have b:Pc (q::qs) k=some q.2:=by simp[Pc,Um,e']
   rw[jt e,b];exact h2
  ·have e':¬ q.1=k:=fun z=>e (h1.trans z);have b:Pc (q::qs) k=Pc qs k:=by simp[Pc,Um,e']
   rw[ju e,b];exact ih
theorem KT.repl {H:Hp}{kvs:List (List Key×V)}{xs:List (List Key×Addr×X8)}(r:KT H kvs xs)(k:List Key){y:V}{u:X8}(ry:RelV y u) :
  KT H (kvs.map fun kv=>if kv.1=k then (kv.1,y) else kv) (xs.map (putAt k u)):=by
 induction r with
 | nil=>exact .nil
 | @cons p q ps qs h t ih =>
  rw[XB,XB];refine .cons ?_ ih;obtain⟨h1,h2,h3⟩:=h;unfold putAt;by_cases e:p.1=k
  ·rw[if_pos e,if_pos (h1.symm.trans e)];exact⟨h1,h2,ry⟩
  ·rw[if_neg e,if_neg (fun z=>e (h1.trans z))];exact⟨h1,h2,h3⟩
theorem KT.put {H:Hp}{kvs:List (List Key×V)}{xs:List (List Key×Addr×X8)}(r:KT H kvs xs)(k:List Key){b:Addr}{y:V}{u:X8}(hb:H b=some (.tup (k.map kV)))(ry:RelV y u) :
  KT H (putK kvs k y) (UF xs k b u):=by
 have e:(kvs.any fun kv=>decide (kv.1=k))=(Pc xs k).isSome:=by
  rw[QL,(r.val k).isSome_eq,Option.isSome_map]
 unfold putK UF;rw[e];by_cases q:(Pc xs k).isSome=true
 ·rw[if_pos q,if_pos q];exact r.repl k ry
 ·rw[if_neg q,if_neg q];exact Paired.snoc r ⟨rfl,hb,ry⟩
theorem KT.keeps {H H':Hp}{kvs:List (List Key×V)}{xs:List (List Key×Addr×X8)}(r:KT H kvs xs)(ht:∀b ys,H b=some (.tup ys)->H' b=some (.tup ys)):KT H' kvs xs :=
 Paired.mapP r fun _ _ z=>⟨z.1,ht _ _ z.2.1,z.2.2⟩
section
variable {P:Xn}{w:WW}{H:Hp}{h:Heap}{a:Addr}
theorem zm6 {u:HO}(ok:HOk P w H h)(e:Rd H a u):jk P w H h a u:=e.ok ok
theorem zc5 {kvs:List (Key×V)}(ok:HOk P w H h)(e:Rd H a (.dK kvs)):kvs.length<=Xx/\(a==Vt)=false/\∃vs,KV kvs vs/\h.DictOf (zQ P w) a vs :=
 show jk P w H h a (.dK kvs) from zm6 ok e
theorem zm7 {kvs:List (Key×V)}(ok:HOk P w H h)(e:H a=some (.dK kvs)):kvs.length<=Xx/\(a==Vt)=false/\∃vs,KV kvs vs/\h.DictOf (zQ P w) a vs:=zc5 ok (.inl e)
theorem zaq {ks:List Key}(ok:HOk P w H h)(e:H a=some (.tup (ks.map kV))):(VY (zQ P w)).is h ks a:=by
 obtain⟨_,its,r,o,h1,h2,n,h3⟩:=(show jk P w H h a (.tup (ks.map kV)) from ok a _ e);exact⟨o,its.toArray,n,h1,h2,h3,by simpa using zc4 r⟩
theorem zc6 {kvs:List (List Key×V)}(ok:HOk P w H h)(e:Rd H a (.dT kvs)):kvs.length<=Xx/\(a==Vt)=false /\
  ∃xs,KT H kvs xs/\h.DictOfH (VY (zQ P w)) a xs:=by
 obtain⟨z,y,xs,r,o,es,ep,h1,h2,h3,h4,h5⟩:=(show jk P w H h a (.dT kvs) from zm6 ok e);refine⟨z,y,xs,r,o,es,ep,h1,h2,h3,h4,fun x hx=>?_,h5⟩;have all:∀{l:List (List Key×V)} {m:List (List Key×Addr×X8)},KT H l m->∀x∈m,(VY (zQ P w)).is h x.1 x.2.1:=by
  intro l m q;induction q with
  | nil=>intro x hx;exact nomatch hx
  | @cons p q ps qs hq t ih =>
   intro x hx;rcases XF.mp hx with e | hx
   ·subst e;exact zaq ok (by rw[<- hq.1];exact hq.2.1)
   ·exact ih x hx
 exact all r x hx
theorem zjI {kvs:List (List Key×V)}(ok:HOk P w H h)(e:H a=some (.dT kvs)):kvs.length<=Xx/\(a==Vt)=false /\
  ∃xs,KT H kvs xs/\h.DictOfH (VY (zQ P w)) a xs:=zc6 ok (.inl e)
end
def YX (H:Hp)(a:Addr)(y:V)(r:Option V):Prop :=
 (∃kvs k,Rd H a (.dK kvs)/\y=kV k/\r=jb kvs k)\/∃kvs k b,Rd H a (.dT kvs)/\y=.ref b/\H b=some (.tup (k.map kV))/\r=jb kvs k
def zjJ (H:Hp)(a:Addr)(y v:V)(H':Hp):Prop :=
 (∃kvs k,H a=some (.dK kvs)/\y=kV k/\kvs.length<Xx/\H'=upd H a (.dK (putK kvs k v))) \/
 ∃kvs k b,H a=some (.dT kvs)/\y=.ref b/\H b=some (.tup (k.map kV))/\kvs.length<Xx/\H'=upd H a (.dT (putK kvs k v))
theorem YX.k {H:Hp}{a:Addr}{kvs:List (Key×V)}{k:Key}(e:H a=some (.dK kvs)):YX H a (kV k) (jb kvs k):=.inl ⟨kvs,k,.inl e,rfl,rfl⟩
theorem YX.t {H:Hp}{a b:Addr}{kvs:List (List Key×V)}{k:List Key}(e:H a=some (.dT kvs))(eb:H b=some (.tup (k.map kV))):YX H a (.ref b) (jb kvs k):=.inr ⟨kvs,k,b,.inl e,rfl,eb,rfl⟩
theorem zjJ.t {H:Hp}{a b:Addr}{kvs:List (List Key×V)}{k:List Key}{v:V}(e:H a=some (.dT kvs))(eb:H b=some (.tup (k.map kV)))(hl:kvs.length<Xx) :
  zjJ H a (.ref b) v (upd H a (.dT (putK kvs k v))):=.inr ⟨kvs,k,b,e,rfl,eb,hl,rfl⟩
section
variable {X:Cx}{pins:List (Addr×Obj)}{σ:St}{H:Hp}{s:X6}{a:Addr}{y v:V}{u r:X8}{o:Option V}{A:WM}{E:X8->X6->Prop}
theorem Inv.big (I:Inv X pins σ H s):Vt<s.heap.objs.size:=by
 have h:XC<s.heap.objs.size:=(I.mod.glob.keeps I.bk).lt;exact Ss (by decide) h
theorem zir {Q:X8->X6->Prop}(hu:A.units+1<VP)(I:Inv X pins σ H s)(g:YX H a y (some v))(ry:RelV y u)(h:∀w' s',Inv X pins σ H s'->RelV v w'->Q w' s') :
  Xg (Xk X.prog X.w) A (Po (.ref a) u) Q E s:=by
 rcases g with ⟨kvs,k,e,ey,l⟩ | ⟨kvs,k,b,e,ey,eb,l⟩
 ·subst ey;obtain⟨z,hd,vs,rel,dd⟩:=zc5 I.hok e;obtain⟨w',hw,rw'⟩:=za8.some_of (v:=v) (o:=Pk vs k) (by rw[l];exact rel.val k);exact wpAny_getItem_of (zc3 ry) dd.mapOf hw (h w' _ (I.tok _) rw')
 ·subst ey;cases (show u=WB b from ry);obtain⟨z,hd,xs,rel,dd⟩:=zc6 I.hok e;obtain⟨w',hw,rw'⟩:=za8.some_of (v:=v) (o:=(Pc xs k).map (·.2)) (by rw[l];exact rel.val k);obtain⟨p,hp,hp2⟩:=Vc.mp hw;refine wpAny_getItem_heap (Tw hu) (zaq I.hok eb) dd hp ?_;rw[hp2];exact h w' _ (I.tok _) rw'
theorem zlS {Q:X8->X6->Prop}(hu:A.units+1<VP)(I:Inv X pins σ H s)(g:YX H a y o)(ry:RelV y u)(h:∀s',Inv X pins σ H s'->Q (.bool (!o.isSome)) s') :
  Xg (Xk X.prog X.w) A (Wh .NotIn u (.ref a)) Q E s:=by
 rcases g with ⟨kvs,k,e,ey,l⟩ | ⟨kvs,k,b,e,ey,eb,l⟩
 ·subst ey;obtain⟨z,hd,vs,rel,dd⟩:=zc5 I.hok e;refine wpAny_notIn_of (zc3 ry) hd dd.mapOf ?_;rw[<- (rel.val k).isSome_eq,<- l];exact h _ (I.tok _)
 ·subst ey;cases (show u=WB b from ry);obtain⟨z,hd,xs,rel,dd⟩:=zc6 I.hok e;refine wpAny_notIn_heap (Tw hu) (zaq I.hok eb) hd dd ?_;have q:=(rel.val k).isSome_eq;rw[Option.isSome_map] at q;rw[<- q,<- l];exact h _ (I.tok _)
theorem zbk {h':Heap}{t':Nat}{ob:HO}(I:Inv X pins σ H s)(mu:Mut (H a))(hs:V2 a s.heap h')(he:∃q,h'.get? a=some q)(new:jk X.prog X.w (upd H a ob) h' a ob) :
  Inv X pins σ (upd H a ob) { s with heap:=h',toks:=t' } :=
 I.write (x:=a) (e:=a) mu (.inl rfl) (fun b q hb z=>(hs.2 b hb).trans z) he new
theorem zjK {P:Xn}{w:WW}{H':Hp}{h':Heap}{kvs:List (Key×V)}{vs:List (Key×X8)}(z:kvs.length<=Xx)(hd:(a==Vt)=false)(rel:KV kvs vs)(dd:h'.DictOf (zQ P w) a vs) :
  jk P w H' h' a (.dK kvs):=⟨z,hd,vs,rel,dd⟩
theorem zis {H':Hp}{Q:Unit->X6->Prop}(hu:A.units+1<VP)(I:Inv X pins σ H s)(g:zjJ H a y v H')(ry:RelV y u)(rv:RelV v r)(h:∀s',Inv X pins σ H' s'->Q () s') :
  Xg (Xk X.prog X.w) A (setItem (.ref a) u r) Q E s:=by
 rcases g with ⟨kvs,k,e,ey,l,eH⟩ | ⟨kvs,k,b,e,ey,eb,l,eH⟩
 ·subst ey eH;obtain⟨z,hd,vs,rel,dd⟩:=zm7 I.hok e;have hz:vs.length<=Xx:=by rw[<- rel.length];exact z
  have hl:(putK kvs k v).length<=Xx:=by have:=xC kvs k v;lia
  refine wpAny_setItem_pairs (hsz:=hz) (zc3 ry) dd fun h' dd' hs=>h _ ?_;have he:∃q,h'.get? a=some q:=let ⟨q,_,_,hq,_⟩:=dd';⟨q,hq⟩
  exact zbk I (by rw[e];exact SS) hs he (zjK hl hd (rel.put k rv) dd')
 ·subst ey eH;cases (show u=WB b from ry);obtain⟨z,hd,xs,rel,dd⟩:=zjI I.hok e;have hz:xs.length<=Xx:=by rw[<- Paired.length rel];exact z
  have hl:(putK kvs k v).length<=Xx:=by have:=xC kvs k v;lia
  refine wpAny_setItem_heap (hsz:=hz) (Tw hu) (zaq I.hok eb) dd fun h' dd' hs=>h _ ?_;obtain⟨q,es,ep,hq,h2,h3,h4,_,h5⟩:=dd';refine zbk I (by rw[e];exact SS) hs ⟨q,hq⟩ ⟨hl,hd,_,(rel.put k eb rv).keeps fun c ys ec=>?_,q,es,ep,hq,h2,h3,h4,h5⟩;rw[zk (zcS ec e (fun z=>nomatch z))];exact ec
end
section
variable {X:Cx}{pins:List (Addr×Obj)}{σ:St}{H:Hp}{s:X6}{a:Addr}{kvs:List (Key×V)}{k:Key}{u:X8}{A:WM}{E:X8->X6->Prop}
end
def zpv (i:Expr):Prop:=∀ov iv,PQ i false ov iv=operate [ov,iv] (Po ov iv)
theorem zlT {prog:Xn}{w:WW}{A:WM}{E:X8->X6->Prop}{s:X6}{env:Env}{value slice:Expr}{pos:Pos}{T id:String}{Q:X8->X6->Prop}
  (hl:Rr (.type T) "__getitem__"=pure (some (.builtin id))) (hs:zpv slice)
  (h:Xg (Xk prog w) A (eval value env) (fun o s₁=>Xg (Xk prog w) A (eval slice env) (fun i s₂=>s₂.TypeIs o T/\Xg (Xk prog w) A (Po o i) Q E s₂) E s₁) E s) :
  Xg (Xk prog w) A (eval (.Subscript value slice pos) env) Q E s:=by
 refine Subscript_ (Wi h (fun o s₁ h₁=>Wi h₁ (fun i s₂ h₂=>?_) fun _ _ x=>x) fun _ _ x=>x);obtain⟨hT,h₂⟩:=h₂;unfold Pa;refine ZB ?_;rw[getitemInPython_of_ne hT.not_modules];refine ZB (TH hT hl ?_);have fin:Xg (Xk prog w) A (PQ slice false o i) (fun r s₃=>Xg (Xk prog w) A (letTemporaryGo value o r >>= fun _=>pure r) Q E s₃) E s₂:=by
  rw[hs o i];exact wpAny_operating (Wi h₂ (fun r s₃ h₃=>ZB (wpAny_letTemporaryGo (XS h₃))) fun _ _ x=>x)
 first
  | exact XS (ZB fin)
  | exact ZB (XS (ZB fin))
  | exact ZB fin
theorem zeV {X:Cx}{pins:List (Addr×Obj)}{σ:St}{H:Hp}{s:X6}{a:Addr}{y:V}{o:Option V}(I:Inv X pins σ H s)(g:YX H a y o):s.TypeIs (.ref a) "dict":=by
 rcases g with ⟨kvs,k,e,_,_⟩ | ⟨kvs,k,b,e,_,_,_⟩
 ·obtain⟨_,_,vs,_,dd⟩:=zc5 I.hok e;exact dd.typeIs
 ·obtain⟨_,_,xs,_,dd⟩:=zc6 I.hok e;exact dd.typeIs
def zpw (td ty:TE):TE:=fun σ H Q=>td σ H fun x H1=>ty σ H1 fun y H2=>∃a v,x=.ref a/\YX H2 a y (some v)/\Q v H2
def zlU (ty td:TE):TE:=fun σ H Q=>ty σ H fun y H1=>td σ H1 fun x H2=>∃a o,x=.ref a/\YX H2 a y o/\Q (.bl (!o.isSome)) H2
def zpx (td ty tv:TE):TS:=fun D σ H=>tv σ H fun v H1=>td σ H1 fun x H2=>ty σ H2 fun y H3=>∃a H4,x=.ref a/\zjJ H3 a y v H4/\D.nx σ H4
section
variable {X:Cx}{o i e value:Expr}{pos pos' tpos:Pos}{td ty tv:TE}
theorem zlV (hu:X.A.units+1<VP)(ho:PE X o td)(hi:PE X i ty)(hs:zpv i):PE X (.Subscript o i pos) (zpw td ty):=by
 intro pins s σ H Q I h;refine zlT PySem.F.slot_dict_getitem.lookup hs (thn (ho pins s σ H _ I h) fun u s1 ⟨x,H1,I1,rx,q1⟩=>thn (hi pins s1 σ H1 _ I1 q1) fun iv s2 ⟨y,H2,I2,ry,a,v,ex,g,q2⟩=>?_);subst ex;obtain rfl:u=WB a:=rx;exact⟨zeV I2 g,zir hu I2 g ry fun w' s3 I3 rw'=>⟨v,H2,I3,rw',q2⟩⟩
theorem zit (hu:X.A.units+1<VP)(hi:PE X i ty)(ho:PE X o td):PC X .NotIn i o (zlU ty td):=by
 intro pins s σ H Q I h;refine thn (hi pins s σ H _ I h) fun iv s1 ⟨y,H1,I1,ry,q1⟩=>thn (ho pins s1 σ H1 _ I1 q1) fun u s2 ⟨x,H2,I2,rx,a,ov,ex,g,q2⟩=>?_;subst ex;obtain rfl:u=WB a:=rx;exact zlS hu I2 g ry fun s3 I3=>⟨.bl (!ov.isSome),H2,I3,rfl,q2⟩
theorem zlW (hu:X.A.units+1<VP)(ho:PE X o td)(hi:PE X i ty)(hv:PE X value tv)(hs:OQ value (some (.Subscript o i pos')) pos.line X.env=pure false) :
  PS X (.Assign [.Subscript o i pos'] value pos) (zpx td ty tv):=by
 intro pins s σ H D I h;refine wpAny_Assign_Subscript (thn (hv pins s σ H _ I h) fun r s1 ⟨v,H1,I1,rv,q1⟩=>thn (ho pins s1 σ H1 _ I1 q1) fun u s2 ⟨x,H2,I2,rx,q2⟩=>thn (hi pins s2 σ H2 _ I2 q2) fun iv s3 ⟨y,H3,I3,ry,a,H4,ex,g,q3⟩=>?_) hs;subst ex;obtain rfl:u=WB a:=rx;exact zis hu I3 g ry rv fun s4 I4=>⟨σ,H4,I4,q3⟩
end
theorem zjL {P:Xn}{w:WW}{H:Hp}(h:Heap)(hb:Vt<h.objs.size):jk P w H (h.push { cls:=.type "dict",data:=.dict #[] }) h.objs.size (.dK []) :=
 ⟨WZ _,beq_eq_false_iff_ne.mpr (Vd (Xi hb)),[],.nil,Heap.DictOf.new h⟩
theorem zjM {P:Xn}{w:WW}{H:Hp}(h:Heap)(hb:Vt<h.objs.size):jk P w H (h.push { cls:=.type "dict",data:=.dict #[] }) h.objs.size (.dT []) :=
 ⟨WZ _,beq_eq_false_iff_ne.mpr (Vd (Xi hb)),[],.nil,_,#[],0,W5 _ rfl,⟨rfl,rfl,rfl⟩,rfl,rfl,VA⟩
def zn2:TE:=fun _ H Q=>∀p,H p=none->Q (.ref p) (upd H p (.dT []))
section
variable {X:Cx}{pos:Pos}
theorem zjN:PE X (.Dict [] [] pos) zn2:=fun pins s σ H Q I h =>
 wpAny_Dict_empty ⟨.ref s.heap.objs.size,_,I.laid (a:=s.heap.objs.size) (o:=.dT []) (t':=s.toks) (fun _ _ q=>XY _ q) (XU _) (zjM s.heap I.big),rfl,h _ (I.hok.fresh (XU _))⟩
end
def zgk:List (TE×TE)->St->Hp->(List (V×V)->Hp->Prop)->Prop
 | [],_,H,Q=>Q [] H
 | (tk,tv)::r,σ,H,Q=>tk σ H fun x H1=>tv σ H1 fun y H2=>zgk r σ H2 fun ps H3=>Q ((x,y)::ps) H3
abbrev VV:List (V×V)->List (X8×X8)->Prop:=Xj fun p q=>RelV p.1 q.1/\RelV p.2 q.2
def PPs (X:Cx)(pos:Pos)(keys:List (Option Expr))(values:List Expr)(trs:List (TE×TE)):Prop :=
 ∀(pins:List (Addr×Obj)) (s:X6) (σ:St) (H:Hp) (Q:List (V×V)->Hp->Prop),Inv X pins σ H s->zgk trs σ H Q ->
  Xg (Xk X.prog X.w) X.A (evalPairs (pairTrees keys values X.env pos)) (fun vs s'=>∃ps H',Inv X pins σ H' s'/\VV ps vs/\Q ps H') X.xe s
theorem zlX {X:Cx}{pos:Pos}:PPs X pos [] [] []:=fun pins s σ H Q I h=>pairTrees_nil_walk ⟨[],H,I,.nil,h⟩
theorem zeW {X:Cx}{pos:Pos}{k v:Expr}{ks:List (Option Expr)}{vs:List Expr}{tk tv:TE}{trs:List (TE×TE)}(hk:PE X k tk)(hv:PE X v tv)(hr:PPs X pos ks vs trs) :
  PPs X pos (some k::ks) (v::vs) ((tk,tv)::trs):=fun pins s σ H Q I h =>
 pairTrees_cons_walk (thn (hk pins s σ H _ I h) fun u s1 ⟨x,H1,I1,rx,q1⟩=>thn (hv pins s1 σ H1 _ I1 q1) fun w2 s2 ⟨y,H2,I2,ry,q2⟩ =>
  thn (hr pins s2 σ H2 _ I2 q2) fun ws s3 ⟨ps,H3,I3,rel,q3⟩=>⟨(x,y)::ps,H3,I3,.cons ⟨rx,ry⟩ rel,q3⟩)
def ZL (kvs more:List (Key×V)):List (Key×V):=more.foldl (fun acc kv=>putK acc kv.1 kv.2) kvs
theorem KV.merge:∀{more:List (Key×V)} {rs:List (Key×X8)} {kvs:List (Key×V)} {vs:List (Key×X8)},KV more rs->KV kvs vs->KV (ZL kvs more) (merged vs rs):=by
 intro more rs kvs vs r;unfold KV at r;induction r generalizing kvs vs with
 | nil=>intro q;exact q
 | @cons p q ps qs h t ih =>
  intro r0;have e:KV (putK kvs p.1 p.2) (stored vs q.1 q.2):=by
   have:=r0.put p.1 h.2;rw[<- h.1];exact this
  exact ih e
theorem Y6:∀(more kvs:List (Key×V)),(ZL kvs more).length<=kvs.length+more.length
 | [],kvs=>by show kvs.length<=kvs.length+0;lia
 | p::r,kvs=>by
  have h1:=Y6 r (putK kvs p.1 p.2);have h2:=xC kvs p.1 p.2;show (ZL (putK kvs p.1 p.2) r).length<=_;rw[Xm];lia
theorem zbF {P:Xn}{w:WW}:∀{kvs:List (Key×V)} {ws:List (X8×X8)},VV (kvs.map fun kv=>(kV kv.1,kv.2)) ws->∃rs,Carries (zQ P w) ws rs/\KV kvs rs
 | [],_,r=>by rw[Ro] at r;cases r;exact⟨[],SS,.nil⟩
 | p::kvs,_,r=>by
  rw[XB] at r;cases r with
  | @cons a b as bs h t =>
   obtain⟨rs,c,q⟩:=zbF (P:=P) (w:=w) t;obtain⟨b1,b2⟩:=b;exact⟨(p.1,b2)::rs,⟨zc3 h.1,rfl,c⟩,.cons ⟨rfl,h.2⟩ q⟩
def zpy (trs:List (TE×TE)):TE:=fun σ H Q=>∀p,H p=none->zgk trs σ (upd H p (.dK [])) fun ps H2=>H2 p=some (.dK [])/\∃kvs:List (Key×V),ps=kvs.map (fun kv=>(kV kv.1,kv.2))/\kvs.length<=15/\Q (.ref p) (upd H2 p (.dK (ZL [] kvs)))
theorem zlY {X:Cx}{pos:Pos}{keys:List (Option Expr)}{values:List Expr}{trs:List (TE×TE)}(h:PPs X pos keys values trs)(hall:keys.all (·.isSome)=true)(hl:keys.length=values.length)(h0:keys ≠ [])
  (h15:keys.length<=15):PE X (.Dict keys values pos) (zpy trs):=by
 intro pins s σ H Q I q;have hn:=I.hok.fresh (XU s.heap.objs.size);have I1:=I.laid (a:=s.heap.objs.size) (o:=.dK []) (h':=s.heap.push { cls:=.type "dict",data:=.dict #[] }) (t':=s.toks) (fun _ _ q=>XY _ q) (XU _) (zjL s.heap I.big);refine wpAny_Dict_walk (knd:=zQ X.prog X.w) hall hl h0 h15 (thn (h pins _ σ _ _ I1 (q _ hn)) fun ws s2 ⟨ps,H2,I2,rel,e,kvs,ep,lk,q2⟩=>?_);subst ep;obtain⟨rs,c,rk⟩:=zbF (P:=X.prog) (w:=X.w) rel;obtain⟨z,hd,vs0,r0,dd⟩:=zm7 I2.hok e;cases r0;refine⟨rs,c,dd,fun h' dd' hs=>⟨.ref s.heap.objs.size,_,?_,rfl,q2⟩⟩;have hz:(ZL [] kvs).length<=Xx:=by
  have h1:=Y6 kvs [];rw[Vi] at h1;rw[T8];lia
 have he:∃q,h'.get? s.heap.objs.size=some q:=let ⟨q,_,_,hq,_⟩:=dd';⟨q,hq⟩
 exact zbk I2 (by rw[e];exact SS) hs he (zjK hz hd (rk.merge .nil) dd')
structure M2 (X:Cx)(o:Expr)(m:Str)(apos:Pos)(e f:Expr)(cpos:Pos):Prop where
 base:O8 o m X.env (eval o X.env)=eval o X.env
 few:((TY cpos (WH [e,f] X.env)).all (fun x=>!x.1)&&(backToKw cpos (OP [] X.env)).all (fun x=>x.1.isSome)
  && decide (([e,f]:List Expr).length+([]:List Pn).length+(if ([]:List Pn).isEmpty then 0 else 1)<30))=true
 line:(apos.endLine==cpos.line)=true
 trees:TY cpos (WH [e,f] X.env)=[(false,eval e X.env),(false,eval f X.env)]
def IsD (H:Hp)(a:Addr):Prop:=(∃kvs,Rd H a (.dK kvs))\/∃kvs,Rd H a (.dT kvs)
theorem zn3 {X:Cx}{pins:List (Addr×Obj)}{σ:St}{H:Hp}{s:X6}{a:Addr}(I:Inv X pins σ H s)(d:IsD H a) :
  s.TypeIs (.ref a) "dict"/\(∀b,WB a=.ref b->∃ob,s.heap.get? b=some ob/\ob.dict=none)/\(a==Vt)=false:=by
 rcases d with ⟨kvs,e⟩ | ⟨kvs,e⟩
 ·obtain⟨_,hd,vs,_,dd⟩:=zc5 I.hok e;refine⟨dd.typeIs,fun b q=>?_,hd⟩;cases q;obtain⟨ob,_,_,h1,h2,_⟩:=dd;exact⟨ob,h1,h2.2.1⟩
 ·obtain⟨_,hd,xs,_,dd⟩:=zc6 I.hok e;refine⟨dd.typeIs,fun b q=>?_,hd⟩;cases q;obtain⟨ob,_,_,h1,h2,_⟩:=dd;exact⟨ob,h1,h2.2.1⟩
section
variable {X:Cx}{pins:List (Addr×Obj)}{σ:St}{H:Hp}{s:X6}{a:Addr}{y d:V}{u r:X8}{o:Option V}{A:WM}{E:X8->X6->Prop}
theorem zn4 {Q:X8->X6->Prop}(hu:A.units+1<VP)(I:Inv X pins σ H s)(g:YX H a y o)(ry:RelV y u)(rd:RelV d r)(h:∀w' s',Inv X pins σ H s'->RelV (o.getD d) w'->Q w' s') :
  Xg (Xk X.prog X.w) A (call (.builtin "dict.get") [.ref a,u,r]) Q E s:=by
 rcases g with ⟨kvs,k,e,ey,l⟩ | ⟨kvs,k,b,e,ey,eb,l⟩
 ·subst ey;obtain⟨z,hd,vs,rel,dd⟩:=zc5 I.hok e;refine call_meetsIn SY dd.typeIs Rh (Ry _ _ _) (meets_dict_get_default (zQ X.prog X.w) a (zc3 ry) hd r) ⟨_,dd.mapOf,h _ _ (I.tok _) ?_⟩;rw[l];exact(rel.val k).getD rd
 ·subst ey;cases (show u=WB b from ry);obtain⟨z,hd,xs,rel,dd⟩:=zc6 I.hok e;refine call_meetsIn SY dd.typeIs Rh (Ry _ _ _) (meetsH_dict_get_default (VY (zQ X.prog X.w)) a b hd r) ⟨Tw hu,k,xs,zaq I.hok eb,dd,h _ _ (I.tok _) ?_⟩;rw[l];exact(rel.val k).getD rd
end
def zn5 (td ty tx:TE):TE:=fun σ H Q=>td σ H fun x H1=>∃a,x=.ref a/\IsD H1 a/\ty σ H1 fun y H2=>tx σ H2 fun z H3=>∃o,YX H3 a y o/\Q (o.getD z) H3
section
variable {X:Cx}{o e f:Expr}{apos cpos:Pos}{td ty tx:TE}
theorem zeX (hu:X.A.units+1<VP)(ho:PE X o td)(he:PE X e ty)(hf:PE X f tx)(m:M2 X o "get" apos e f cpos):PE X (.Call (.Attribute o "get" apos) [e,f] [] cpos) (zn5 td ty tx):=by
 intro pins s σ H Q I h;refine wpAny_Call_method m.base m.few m.line Rx SY PySem.F.type_dict_get (thn (ho pins s σ H _ I h) fun u s1 ⟨x,H1,I1,rx,a,ex,d,q1⟩=>?_);subst ex;obtain rfl:u=WB a:=rx;obtain⟨t1,t2,_⟩:=zn3 I1 d;refine⟨t1,t2,?_⟩;rw[m.trees];refine Ri rfl (SG (Sf (thn (he pins s1 σ H1 _ I1 q1) fun iv s2 ⟨y,H2,I2,ry,q2⟩ =>
  Sf (thn (hf pins s2 σ H2 _ I2 q2) fun fv s3 ⟨z,H3,I3,rz,ov,g,q3⟩=>Calls.spliced_nil ?_))))
 exact zn4 hu I3 g ry rz fun w' s4 I4 rw'=>⟨_,H3,I4,rw',q3⟩
end
section
variable {X:Cx}{pins:List (Addr×Obj)}{σ:St}{H:Hp}{s:X6}{a:Addr}{kvs:List (Key×V)}{A:WM}{E:X8->X6->Prop}
end
section
variable {X:Cx}{pins:List (Addr×Obj)}{σ:St}{H:Hp}{s:X6}{a:Addr}{y:V}{u:X8}{A:WM}{E:X8->X6->Prop}
end
theorem ziu:Rr (.type "list") "keys"=pure none:=by rw[TF,UY];kernel_rfl
theorem ziv:Rr (.type "list") "__getattr__"=pure none:=by rw[TF,UY];kernel_rfl
theorem zbG:isSubtype (.type "AttributeError") (.type "AttributeError")=pure true:=by rw[PJ];kernel_rfl
theorem zjO (args:List X8):ownMembersOf (.type "AttributeError") args=#[unsetMember,unsetMember]:=rfl
theorem zgl:((Manifest.find? "AttributeError").elim false fun t=>t.mro.contains "StopIteration" || t.mro.contains "SystemExit")=false:=by decide +kernel
section
variable {prog:Xn}{w:WW}{A:WM}{E:X8->X6->Prop}{h:Heap}{g:Array SJ}{d:Drawn}{t:Nat}{os:OsState}{a:Addr}{its:Array X8}{n:Nat}
theorem zjP {tk:Tok}{Q:Fin->X6->Prop}(hx:h.get? a=some { cls:=.type "list",dict:=none,data:=.seq its n,slots:=#[] })(hh:A.handled=none)
  (he:∀h' t' e,(∀b o',h.get? b=some o'->h'.get? b=some o')->(⟨h',g,d,t',os⟩:X6).TypeIs (.ref e) "AttributeError"->E (.ref e) ⟨h',g,d,t',os⟩) :
  Xg (Xk prog w) A (UT.«object.__getattribute__» ⟨[.ref a,.str "keys" tk],[]⟩) Q E ⟨h,g,d,t,os⟩:=by
 have hT:(⟨h,g,d,t,os⟩:X6).TypeIs (.ref a) "list":=⟨_,hx,rfl⟩;have f4:=ziu;have f5:=zbG;repeat (any_goals (first | assumption | wp_step))
 unfold raiseAttrError;refine ZB (wpAny_mkStr (ZB ?_) (by decide +kernel));unfold newExc newTuple;refine ZB (VN ?_);refine ZB (m:=Sh _ _) (ON (a:=T9) (by simp only[Sh,zgl];rfl) ?_);rw[zjO];refine VN ?_;refine ZB (wpAny_mkText ?_);refine ZB ?_;unfold noteAttr lacksNameAndObj;repeat (any_goals (first | assumption | wp_step))
 unfold raiseNew;refine ZB (wpAny_handled ?_);rw[hh];refine ZB (XS (wpAny_throw ?_));dsimp only;refine he _ _ _ (fun b o' hb=>?_) ?_
 ·rw[(Wt ..).2 b (Xi ?_)]
  ·exact XY _ (XY _ hb)
  ·rw[Vo];exact WJ (XH hb)
 ·refine⟨_,Wl _ (W5 _ rfl) rfl,rfl⟩
theorem zlZ {tk:Tok}{R:Result->X6->Prop}(hx:h.get? a=some { cls:=.type "list",dict:=none,data:=.seq its n,slots:=#[] })(hh:A.handled=none)
  (he:∀h' t' e,(∀b o',h.get? b=some o'->h'.get? b=some o')->(⟨h',g,d,t',os⟩:X6).TypeIs (.ref e) "AttributeError"->R (.error (.ref e)) ⟨h',g,d,t',os⟩) :
  To (Xk prog w) A (.call (.builtin "list.__getattribute__") ⟨[.ref a,.str "keys" tk],[]⟩) R ⟨h,g,d,t,os⟩ :=
 Py PySem.F.slot_list_getattribute.plain PySem.F.entry_list_ga (PySem.F.slot_list_getattribute.check _ _ _ _ _ _ _ _ (show (⟨h,g,d,t,os⟩:X6).TypeIs (.ref a) "list" from ⟨_,hx,rfl⟩) (PySem.F.args_list_getattribute_2 _ _) (zjP hx (by simp[hh]) he))
theorem zpz {tk:Tok}{Q:X8->X6->Prop}(hx:h.get? a=some { cls:=.type "list",dict:=none,data:=.seq its n,slots:=#[] })(hh:A.handled=none)
  (he:∀h' t' e,(∀b o',h.get? b=some o'->h'.get? b=some o')->(⟨h',g,d,t',os⟩:X6).TypeIs (.ref e) "AttributeError"->E (.ref e) ⟨h',g,d,t',os⟩) :
  Xg (Xk prog w) A (getAttrBy (.ref a) (.str "keys" tk) false) Q E ⟨h,g,d,t,os⟩:=by
 have hT:(⟨h,g,d,t,os⟩:X6).TypeIs (.ref a) "list":=⟨_,hx,rfl⟩;have f2:=PySem.F.slot_list_getattribute.lookup;have f3:=PySem.F.slot_list_getattribute.bind (.ref a);have f4:=ziv;have f5:=zbG;repeat (any_goals (first | assumption | wp_step))
 refine zlZ hx (by simp[hh]) fun h' t' e kp hE=>?_;repeat (any_goals (first | assumption | wp_step))
 exact he _ _ _ kp hE
theorem zl0 {Q:Option X8->X6->Prop}(hx:h.get? a=some { cls:=.type "list",dict:=none,data:=.seq its n,slots:=#[] })(hh:A.handled=none)
  (hq:∀h' t',(∀b o',h.get? b=some o'->h'.get? b=some o')->Q none ⟨h',g,d,t',os⟩) :
  Xg (Xk prog w) A (getAttr? (.ref a) "keys") Q E ⟨h,g,d,t,os⟩:=by
 have f5:=zbG;unfold getAttr? getAttrBy?;refine ZB (wpAny_mkText (ZB (RW ?_)));refine zpz (t:=t+1) hx hh fun h' t' e kp hE=>?_;repeat (any_goals (first | assumption | wp_step))
 exact hq _ _ kp
theorem QM:OI table "dict.update.loop"=some UT.«dict.update.loop»:=entryFor_of_tree (by kernel_rfl)
theorem x8:plainId "dict.update.loop"=true:=by decide +kernel
end
section
variable {prog:Xn}{w:WW}{A:WM}{R:Result->X6->Prop}{I:Addr}{fp wr:List Addr}{G:Array SJ->Array SJ->Prop}{n:Nat}{P:Nat->X8->Prop}{St:Nat->X6->Prop}
abbrev KQ:=List Key×Addr×X8
def putAll (ks:List KQ):List KQ:=ks.foldl (fun acc q=>UF acc q.1 q.2.1 q.2.2) []
theorem putAll_snoc (ks:List KQ)(q:KQ):putAll (ks++[q])=UF (putAll ks) q.1 q.2.1 q.2.2:=by
 unfold putAll;rw[UP];rfl
theorem zaS (xs:List KQ)(k:List Key)(a:Addr)(v:X8):(UF xs k a v).length<=xs.length+1:=by
 unfold UF;split
 ·rw[Y1];lia
 ·rw[X4];exact XU _
theorem zbH (ks:List KQ):(putAll ks).length<=ks.length:=by
 suffices h:∀(ks acc:List KQ),(ks.foldl (fun acc q=>UF acc q.1 q.2.1 q.2.2) acc).length<=acc.length+ks.length by
  have:=h ks [];simpa[putAll] using this
 intro ks;induction ks with
 | nil=>intro acc;exact XU _
 | cons q r ih =>
  intro acc;have h1:=ih (UF acc q.1 q.2.1 q.2.2);have h2:=zaS acc q.1 q.2.1 q.2.2;rw[VT,Xm];lia
theorem zdW {A:WM}{E:X8->X6->Prop}{s:X6}{ta:Addr}{x y:X8}{Q:List X8->X6->Prop}(h:OM s.heap ta #[x,y])(q:Q [x,y] s):Xg (Xk prog w) A (Rf (.ref ta)) Q E s:=by
 obtain⟨o,h1,h2,n,h3⟩:=h;have hT:s.TypeIs (.ref ta) "tuple":=⟨o,h1,h2⟩;unfold Rf;repeat (any_goals (first | assumption | wp_step))
 rw[h3];exact XS (XS q)
end
section
variable {prog:Xn}{w:WW}{A:WM}{R:Result->X6->Prop}{I:Addr}{fp wr:List Addr}{G:Array SJ->Array SJ->Prop}{n:Nat}{P:Nat->X8->Prop}{St:Nat->X6->Prop}
theorem zaT (T:List Key->Addr->Prop):∀(js acc:List KQ),(∀x∈acc,T x.1 x.2.1)->(∀x∈js,T x.1 x.2.1)->∀x∈js.foldl (fun acc q=>UF acc q.1 q.2.1 q.2.2) acc,T x.1 x.2.1
 | [],_,ha,_=>ha
 | q::r,acc,ha,hj=>by
  rw[VT];refine zaT T r _ (fun x hx=>?_) fun x hx=>hj x (XR _ hx);unfold UF at hx;split at hx
  ·obtain⟨y,hy,rfl⟩:=XQ.mp hx;have:=ha y hy;unfold putAt;split
   ·exact this
   ·exact this
  ·rcases XO.mp hx with hx | hx
   ·exact ha x hx
   ·have e:x=(q.1,q.2.1,q.2.2):=by simpa using hx
    subst e;exact hj q XW
theorem zgm {h0:Heap}(W:WalksS prog w A.in1 I fp wr G n P St)(D:Addr)(hDf:D ∉ fp)(hD0:h0.get? D=none)(hw0:∀b∈wr,h0.get? b=none)(ks:List KQ)(hlen:ks.length=n)(hb:n<=Xx)(hu:A.units+1<VP)
  (hks:∀q∈ks,(VY (zQ prog w)).is h0 q.1 q.2.1) (hP:∀i v,P i v->∃ta q,v=.ref ta/\ks[i]?=some q/\OM h0 ta #[.ref q.2.1,q.2.2]) :
  ∀(k i:Nat) (s:X6),n-i=k->i<=n->St i s->(∀b o,h0.get? b=some o->s.heap.get? b=some o)->s.heap.DictOfH (VY (zQ prog w)) D (putAll (ks.take i)) ->
   (∀s',Moved (D::wr) G s s'->s'.heap.DictOfH (VY (zQ prog w)) D (putAll ks)->R (.ok (.ret .none)) s') ->
   To (Xk prog w) A (.builtin "dict.update.loop" ⟨[.ref D,.ref I,Ug (i:Int),.none],[]⟩) R s:=by
 have hDw:D ∉ wr:=fun h=>hDf (W.sub _ h);have more:∀b∈wr,b∈D::wr:=fun b hb=>XR _ hb;have tup_up:∀{h:Heap} {ta:Addr} {xs:Array X8},(∀b o,h0.get? b=some o->h.get? b=some o)->OM h0 ta xs->OM h ta xs:=fun kp ⟨o,h1,h2,m,h3⟩=>⟨o,kp _ _ h1,h2,m,h3⟩;have key_up:∀{h:Heap} {ka:Addr} {q:List Key},(∀b o,h0.get? b=some o->h.get? b=some o)->(VY (zQ prog w)).is h0 q ka->(VY (zQ prog w)).is h q ka:=fun kp ⟨o,xs,m,h1,h2⟩=>⟨o,xs,m,kp _ _ h1,h2⟩;have dict_to:∀{s s':X6} {xs:List KQ},Moved wr G s s'->(∀b o,h0.get? b=some o->s'.heap.get? b=some o)->(∀x∈xs,(VY (zQ prog w)).is h0 x.1 x.2.1)->s.heap.DictOfH (VY (zQ prog w)) D xs->s'.heap.DictOfH (VY (zQ prog w)) D xs :=
  fun hm kp hk ⟨o,es,ep,e1,e2,e3,e4,_,e6⟩=>⟨o,es,ep,hm.heap D _ hDw e1,e2,e3,e4,fun x hx=>key_up kp (hk x hx),e6⟩
 have keep_to:∀{s s':X6},Moved wr G s s'->(∀b o,h0.get? b=some o->s.heap.get? b=some o)->∀b o,h0.get? b=some o->s'.heap.get? b=some o:=fun hm kp b o e =>
  hm.heap b o (fun hb=>by
   rw[hw0 b hb] at e;cases e) (kp b o e)
 have keys0:∀i,∀x∈putAll (ks.take i),(VY (zQ prog w)).is h0 x.1 x.2.1:=fun i=>zaT (fun a b=>(VY (zQ prog w)).is h0 a b) _ [] (fun x hx=>nomatch hx) fun x hx=>hks x (V9 hx);intro k;induction k with
 | zero =>
  intro i s hk hi hst kp hS hR;have hin:i=n:=by lia
  subst hin;refine VL QM ?_;rw[V8 x8 _];show Xg _ A.in1 (Sk (.ref I) >>= _) _ _ s;refine ZB (W.done s _ _ hst fun s' hm=>?_);show Xg _ A.in1 (RQ D [] >>= fun _=>ret T9) _ _ s';refine ZB (XS (XS (hR s' (hm.mono more) ?_)));have:=dict_to hm (keep_to hm kp) (keys0 _) hS;rw[<- hlen,XA] at this;exact this
 | succ k ih =>
  intro i s hk hi hst kp hS hR;have hlt:i<n:=by lia
  refine VL QM ?_;rw[V8 x8 _];show Xg _ A.in1 (Sk (.ref I) >>= _) _ _ s;refine ZB (W.item i s _ _ hlt hst fun v s' hPv hst' hm=>?_);obtain⟨ta,q,rfl,hq,ht⟩:=hP i v hPv;have kp':=keep_to hm kp;have hS':=dict_to hm kp' (keys0 _) hS;have l1:=zbH (ks.take i);have l2:(ks.take i).length<=n:=by
   rw[XM];lia
  have tk:ks.take (i+1)=ks.take i++[q]:=by
   rw[Xc,hq];rfl
  refine ZB (VU (ZB (wpAny_tryCatch (zdW (tup_up kp' ht) ?_))));refine VU (wpAny_dictSet_heap (show A.in1.units<VP from hu) (key_up kp' (hks q (X7 hq))) hS' (fun h' hd' hs'=>?_) (by lia));have kp2:∀b o,h0.get? b=some o->h'.get? b=some o:=fun b o e=>by
   rw[hs'.2 b (fun z=>by
    rw[z,hD0] at e;cases e)]
   exact kp' b o e
  have d2:h'.DictOfH (VY (zQ prog w)) D (putAll (ks.take (i+1))):=by
   rw[tk,putAll_snoc];exact hd'
  refine XS ⟨UK x8 _,?_⟩;show To _ A (.builtin "dict.update.loop" ⟨[.ref D,.ref I,Ug ((i:Int)+1),.none],[]⟩) R _;rw[show ((i:Int)+1)=((i+1:Nat):Int) by lia];refine ih (i+1) _ (by lia) hlt (W.frame _ s' _ _ hst' (U7 _ _) fun b hb o e=>?_) kp2 d2 fun s'' hm'' hS''=>?_
  ·rw[hs'.2 b (fun z=>hDf (by rw[<- z];exact hb))];exact e
  ·refine hR s'' (Moved.trans W.gtrans ((hm.mono more).then_heap (U7 _ _) fun b o hb e=>?_) hm'') hS'';rw[hs'.2 b (fun z=>hb (by rw[z];exact XW))];exact e
end
def zpA (H:Hp)(v:V)(kv:List Key×V):Prop:=∃a b,v=V.ref a/\H a=some (.tup [.ref b,kv.2])/\H b=some (.tup (kv.1.map kV))
def yg (H:Hp):List V->List (List Key×V)->Prop:=Xj (zpA H)
theorem yg.mono {H H':Hp}(s:zq H H'){vs:List V}{kvs:List (List Key×V)}(hp:yg H vs kvs):yg H' vs kvs:=by
 induction hp with
 | nil=>exact .nil
 | cons q _ ih =>
  obtain⟨a,b,e,h1,h2⟩:=q;exact .cons ⟨a,b,e,s _ _ h1,s _ _ h2⟩ ih
def zeY (kvs:List (List Key×V)):List (List Key×V):=kvs.foldl (fun acc kv=>putK acc kv.1 kv.2) []
theorem KT.puts {H:Hp}{kvs:List (List Key×V)}{ks:List KQ}{acc:List (List Key×V)}{xs:List KQ}(hp:KT H kvs ks)(r:KT H acc xs):KT H (kvs.foldl (fun acc kv=>putK acc kv.1 kv.2) acc) (ks.foldl (fun acc q=>UF acc q.1 q.2.1 q.2.2) xs):=by
 induction hp generalizing acc xs with
 | nil=>exact r
 | cons q _ ih =>
  obtain⟨h1,h2,h3⟩:=q;rw[VT,VT];refine ih ?_;rw[<- h1];exact r.put _ h2 h3
theorem zl1 {P:Xn}{w:WW}{H:Hp}{h:Heap}(ok:HOk P w H h){kvs:List (List Key×V)}{ks:List KQ}(hp:KT H kvs ks):∀x∈ks,(VY (zQ P w)).is h x.1 x.2.1:=by
 induction hp with
 | nil=>exact fun x hx=>nomatch hx
 | cons q _ ih =>
  intro x hx;rcases XF.mp hx with e | hx
  ·subst e;exact zaq ok (by rw[<- q.1];exact q.2.1)
  ·exact ih x hx
theorem zl2 {P:Xn}{w:WW}{H:Hp}{h:Heap}(ok:HOk P w H h){vs:List V}{kvs:List (List Key×V)}{its:List X8}(hp:yg H vs kvs)(hv:Vals vs its):∃ks:List KQ,KT H kvs ks/\ks.length=its.length/\(∀(i:Nat) (v:X8),its[i]?=some v->∃(ta:Addr) (q:KQ),v=WB ta/\ks[i]?=some q/\OM h ta #[.ref q.2.1,q.2.2]):=by
 induction hp generalizing its with
 | nil =>
  cases hv;exact⟨[],.nil,rfl,fun i v e=>by simp at e⟩
 | @cons x kv xs ys q _ ih =>
  obtain⟨a,b,e,h1,h2⟩:=q;cases hv with
  | cons rv rs =>
  obtain⟨ks,k1,k2,k3⟩:=ih rs;subst e;cases rv;obtain⟨_,xs,r,tp⟩:=(show jk P w H h a (.tup [.ref b,kv.2]) from ok a _ h1);obtain⟨u,u2,rfl,ru,ru2⟩:=vals2 r;cases ru;refine⟨(kv.1,b,u2)::ks,.cons ⟨rfl,h2,ru2⟩ k1,by rw[Xm,Xm,k2],fun i v e=>?_⟩;cases i with
  | zero =>
   have e':WB a=v:=by simpa using e
   exact⟨a,_,e'.symm,rfl,tp⟩
  | succ i =>
   obtain⟨ta,q,h1,h2,h3⟩:=k3 i v (by simpa using e);exact⟨ta,q,h1,by simpa using h2,h3⟩
section
variable {X:Cx}
set_option maxHeartbeats 8000000 in
theorem Yc (hu:X.A.units+64<VP)(hh:X.A.handled=none):jR X (.type "dict") (fun xs H Q=>∃l us kvs,xs=[.ref l]/\H l=some (.lst us)/\yg H us kvs/\∀d,H d=none->Q (.ref d) (upd H d (.dT (zeY kvs)))):=by
 intro pins s σ H xs us' Q I r h;obtain⟨l,us,kvs,rfl,hl,hp,q⟩:=h;obtain⟨u,rfl,ru⟩:=vals1 r;cases ru;obtain⟨hz,its,n,rv,e⟩:=(show jk X.prog X.w H s.heap l (.lst us) from I.hok l _ hl);obtain⟨ks,hkt,hkl,hraw⟩:=zl2 I.hok hp rv;have big:=I.big;have hil:its.length<=Xx:=by
  rw[<- rv.length];exact hz
 have hks:=zl1 I.hok hkt;refine callType_codes (Q₁:=fun obj s₁=>obj=.ref s.heap.objs.size/\s₁={ s with heap:=s.heap.push { cls:=.type "dict",data:=.dict #[] } }) PySem.F.kt_called_dict (PySem.F.kt_typeCall_dict_1 _) PySem.F.entry_dict_init (kt_code_dict_new _ ⟨rfl,rfl⟩) ?_;rintro obj s₁ ⟨rfl,rfl⟩;have hnew:(s.heap.push { cls:=.type "dict",data:=.dict #[] }).DictOfH (VY (zQ X.prog X.w)) s.heap.objs.size []:=Heap.DictOfH.new s.heap;have e1:(s.heap.push { cls:=.type "dict",data:=.dict #[] }).get? l=some { cls:=.type "list",dict:=none,data:=.seq its.toArray n,slots:=#[] }:=XY _ e;refine⟨hnew.typeIs,PySem.F.args_dict_init_2 _ _,?_⟩;unfold UT.«dict.__init__»;refine ZB ?_;unfold RP;refine ZB (P8 hnew.typeIs ?_);show Xg _ _ (pure (s.heap.objs.size,[WB l])) _ _ _;refine XS ?_;show Xg _ _ (Uy "dict.__init__" s.heap.objs.size (.ref l) [] .none) _ _ _;unfold Uy;have hT:SN { s with heap:=s.heap.push { cls:=.type "dict",data:=.dict #[] } } (.ref l) "list":=⟨_,e1,rfl⟩;refine ZB (Sr hT ?_);rw[if_pos (by decide)];refine ZB (zl0 e1 (by simp[hh]) fun h2 t2 kp=>?_);rw[if_pos (show (none:Option X8).isNone=true from rfl)];have kp0:∀b o',s.heap.get? b=some o'->h2.get? b=some o':=fun b o' z=>kp b o' (XY _ z);have hl2:h2.IsList l its.toArray:=⟨_,kp _ _ e1,rfl,n,rfl⟩;refine ZB (U2 (ZB (Te hl2 ?_)));have hls:l<s.heap.objs.size:=XH e;have hDl:s.heap.objs.size<h2.objs.size:=by
  obtain⟨o,_,_,ho,_⟩:=hnew;exact XH (kp _ _ ho)
 have hneI:l≠h2.objs.size:=Xi (Ss hls hDl);have hDf:s.heap.objs.size ∉ [h2.objs.size,l]:=by
  simp only[XF,RE,or_false,not_or];exact⟨Xi hDl,T4 hls⟩
 refine XS ⟨UK x8 _,?_⟩;have hd2:(h2.push { cls:=.type "list_iterator",data:=.fields #[.ref l,.int 0 0] }).DictOfH (VY (zQ X.prog X.w)) s.heap.objs.size []:=by
  obtain⟨o,es,ep,ho,h3,h4,h5,_,h6⟩:=hnew;exact⟨o,es,ep,XY _ (kp _ _ ho),h3,h4,h5,(fun x hx=>nomatch hx),h6⟩
 refine zgm (h0:=s.heap) ((Walks.list (by simp[hh]) h2.objs.size l hneI its.toArray).toS) s.heap.objs.size hDf (UN (XU _)) (fun b hb=>?_) ks (by rw[hkl];simp) (by simpa using hil) (by show X.A.units+1+1<VP;lia) hks (fun i v hv=>hraw i v (by rw[<- hv];simp)) _ 0 _ rfl (WZ _)
  ⟨⟨_,W5 _ rfl,rfl,rfl⟩,hl2.push _⟩ (fun b o z=>XY _ (kp0 b o z)) hd2 ?_
 ·have e:b=h2.objs.size:=by simpa using hb
  rw[e];exact UN (Tk hDl)
 ·intro s' hm hS';obtain⟨h',g',d',tk',os'⟩:=s';have eg:g'=s.gens:=hm.gens;have ed:d'=s.drawn:=hm.drawn;have eo:os'=s.os:=hm.os;subst eg;subst ed;subst eo;have kp3:∀b o',s.heap.get? b=some o'->h'.get? b=some o':=fun b o' z=>by
   have lt:=XH z;refine hm.heap b o' (fun hb=>?_) (XY _ (kp0 b o' z));rcases XF.mp hb with e | hb
   ·exact Wb _ (e ▸ lt)
   ·have e:b=h2.objs.size:=by simpa using hb
    rw[e] at lt;exact Wb _ (Ss lt hDl)
  obtain⟨o,es,ep,ho,h3,h4,h5,_,h6⟩:=hS';have hkk:KT H (zeY kvs) (putAll ks):=KT.puts hkt .nil;have hfresh:H s.heap.objs.size=none:=I.hok.fresh (XU _);refine⟨rfl,.ref s.heap.objs.size,_,I.laid (a:=s.heap.objs.size) (o:=.dT (zeY kvs)) (t':=tk') kp3 (XU _) ⟨?_,beq_eq_false_iff_ne.mpr (Vd (Xi big)),_,KT.keeps hkk fun b ys hb=>?_,o,es,ep,ho,h3,h4,h5,h6⟩,rfl,q _ hfresh⟩
  ·rw[Paired.length hkk];exact XX (zbH ks) (by rw[hkl];exact hil)
  ·rw[zk (zj hb hfresh)];exact hb
end
theorem u1 {A:PySem.Around}(h:A.units+64<PySem.cLine):A.units+1<PySem.cLine:=by lia
section
variable {K:XT}{g:TG}{tc:TT}{te:TE}{Q:VK}{σ0:St}{D:Addr}
end
theorem yg.into {H:Hp}(z:Addr)(o:HO){old:List V}(hz:H z=some (.lst old)):∀{vs:List V} {kvs:List (List Key×V)},yg H vs kvs->yg (upd H z o) vs kvs
 | _,_,.nil=>.nil
 | _,_,.cons ⟨a,b,e,h1,h2⟩ t=>.cons ⟨a,b,e,by rw[zk (zcS h1 hz (by intro y;cases y))];exact h1,by rw[zk (zcS h2 hz (by intro y;cases y))];exact h2⟩ (yg.into z o hz t)
theorem yg.snoc {H:Hp}{vs:List V}{kvs:List (List Key×V)}{v:V}{kv:List Key×V}(h:yg H vs kvs)(x:zpA H v kv):yg H (vs++[v]) (kvs++[kv]):=Paired.snoc h x
theorem yg.length {H:Hp}{vs:List V}{kvs:List (List Key×V)}(h:yg H vs kvs):vs.length=kvs.length:=Paired.length h
section
variable {prog:Xn}{w:WW}{A:WM}{E:X8->X6->Prop}{s:X6}{d o a:Addr}{xs ys:List KQ}{k:List Key}{v:X8}
abbrev tk2 (prog:Xn)(w:WW):HeapKind prog w (List Key):=VY (zQ prog w)
theorem zgn {Q:Unit->X6->Prop}(hu:A.units<VP)(hkey:(tk2 prog w).is s.heap k a)(hm:s.heap.DictOfH (tk2 prog w) d xs)(hsz:xs.length<=Xx)
  (hQ:∀h',h'.DictOfH (tk2 prog w) d (UF xs k a v)->V2 d s.heap h'->Q () { s with heap:=h' }):Xg (Xk prog w) A (O6 d (.ref a) ((tk2 prog w).hash k) v) Q E s:=by
 obtain⟨ob,es,ep,ho,hc,hd,he,his,hn⟩:=hm;unfold O6;refine VU (ZB (wpAny_dictFind_heap (knd:=tk2 prog w) hu hkey ho hd he his hn (fun hno=>?_) fun j p hj=>?_))
 ·have hnot:=not_mem_keys_of_get hno;have en:=atKey_none_of_get hno;refine ZB (U2 (wpAny_updateDictKeys (hz:=by have e:=size_of_entries he;lia) ho hd (hQ _ ⟨_,_,ep+1,Wl _ ho (Sy (T7 hd _)),hc.mapDictKeys _,T7 hd _,?_,?_,?_⟩ (Wt ..))))
  ·rw[PP en];simp[he,TC]
  ·rw[PP en];intro x hx;rcases XO.mp hx with hx | hx
   ·exact(tk2 prog w).keeps (his x hx) ho hd (Wt ..)
   ·have e:x=(k,a,v):=by simpa using hx
    subst e;exact(tk2 prog w).keeps hkey ho hd (Wt ..)
  ·rw[PP en,Xs,WN];refine⟨hn,by simp,fun x hx y hy e=>hnot ?_⟩;have e2:y=k:=by simpa using hy
   rw[<- e2,<- e];exact hx
 ·have es1:=storedH_old (atKey_of_get hn hj) a v;refine ZB (U2 (ZB (wpAny_updateDict ho hd (wpAny_point (hQ _ ⟨_,_,ep,Wl _ ho (Sy (Obj.data_mapDict hd _)),hc.mapDict _,Obj.data_mapDict hd _,?_,?_,?_⟩ (Wt ..))))))
  ·rw[es1];have z:=modify_map_putAt (TC (tk2 prog w)) (fun e:RK=>{ e with val:=v }) k v (fun _ _=>rfl) hn hj;rw[<- he] at z;obtain⟨l⟩:=es;simpa using z
  ·rw[es1];intro x hx;obtain⟨y,hy,rfl⟩:=XQ.mp hx;unfold putAt;split<;>exact(tk2 prog w).keeps (his y hy) ho hd (Wt ..)
  ·rw[es1,keys_map_putAt];exact hn
def HN (prog:Xn)(w:WW)(ys:List KQ):Prop:=(ys.map fun q=>(tk2 prog w).hash q.1).Nodup
theorem zgo:Rr (.type "tuple") "__eq__"=pure (some (.builtin "tuple.__eq__")):=by rw[TF,UY];kernel_rfl
theorem zeZ {Q:Bool->X6->Prop}(hkey:(tk2 prog w).is s.heap k a)(q:Q false s):Xg (Xk prog w) A (Px (.ref a)) Q E s:=by
 obtain⟨ob,its,n,h1,h2,_⟩:=hkey;have hT:s.TypeIs (.ref a) "tuple":=⟨ob,h1,h2⟩;unfold Px;refine ZB (TH hT zgo (XS ?_));rw[show (some (Value.builtin "tuple.__eq__")==some (Value.builtin "object.__eq__"))=false by decide +kernel];exact q
theorem ziw {ys:List KQ}{es:Array RK}(he:es.toList=ys.map (TC (tk2 prog w)))(hN:HN prog w ys)(x:Int):¬ (es.filter (fun e=>e.hash==x)).size>1:=by
 have h1:(es.filter (fun e=>e.hash==x)).size=(es.toList.filter (fun e=>e.hash==x)).length:=by
  rw[<- Pi,X5]
 rw[h1,he];unfold HN at hN;clear h1 he;induction ys with
 | nil=>simp
 | cons q r ih =>
  rw[XB,Wg] at hN;rw[XB,WD];split
  ·rename_i hq;have e1:(tk2 prog w).hash q.1=x:=by simpa[TC] using hq
   have:(r.map (TC (tk2 prog w))).filter (fun e=>e.hash==x)=[]:=by
    rw[We];intro e hm hx;obtain⟨y,hy,rfl⟩:=XQ.mp hm;have e2:(tk2 prog w).hash y.1=x:=by simpa[TC] using hx
    exact hN.1 (XQ.mpr ⟨y,hy,by rw[e1,e2]⟩)
   rw[this];simp
  ·exact ih hN.2
theorem zix {id:String}{ob:Obj}{es:Array RK}{ep:Nat}{Q:Array RK->X6->Prop}(ho:s.heap.get? d=some ob)(hd:ob.data=.dict es ep)(he:es.toList=ys.map (TC (tk2 prog w)))(hk:∀x∈ys,(tk2 prog w).is s.heap x.1 x.2.1)(hN:HN prog w ys)(h:Q es s) :
  Xg (Xk prog w) A (SA id d) Q E s:=by
 unfold SA;refine ZB (Ud ho hd (ZB ?_));rw[<- Sd];refine T1 _ (fun rest _ s'=>s'=s/\∀e∈rest,e∈es.toList) _ ?_ ?_ _ _ ⟨rfl,fun e he=>he⟩
 ·rintro x rest b s' ⟨rfl,hr⟩;have hx:=hr x XW;rw[he] at hx;obtain⟨y,hy,rfl⟩:=XQ.mp hx;refine ZB (zeZ (hk y hy) ?_);rw[if_pos (show (!false)=true from rfl),if_neg (ziw he hN _)];exact XS ⟨rfl,fun e he=>hr e (XR _ he)⟩
 ·rintro b s' ⟨rfl,_⟩;exact XS h
def Jo (xs ys:List KQ):List KQ:=ys.foldl (fun acc q=>UF acc q.1 q.2.1 q.2.2) xs
theorem ze0 (xs ys:List KQ)(q:KQ):Jo xs (ys++[q])=UF (Jo xs ys) q.1 q.2.1 q.2.2:=by
 unfold Jo;rw[UP];rfl
theorem zbI (xs:List KQ):∀ys:List KQ,∀acc:List KQ,(Jo acc ys).length<=acc.length+ys.length
 | [],acc=>XU _
 | q::r,acc=>by
  have h1:=zbI xs r (UF acc q.1 q.2.1 q.2.2);have h2:=zaS acc q.1 q.2.1 q.2.2;rw[Xm];show (Jo (UF acc q.1 q.2.1 q.2.2) r).length<=_;lia
theorem QN:∀(ys acc:List KQ),((acc++ys).map (·.1)).Nodup->Jo acc ys=acc++ys
 | [],acc,_=>(W9 acc).symm
 | q::r,acc,h=>by
  have hno:Pc acc q.1=none:=by
   unfold Pc;rw[List.find?_eq_none.mpr]
   ·rfl
   ·intro x hx hk;rw[Xs,XB,WN] at h;exact h.2.2 x.1 (XQ.mpr ⟨x,hx,rfl⟩) q.1 XW (of_decide_eq_true hk)
  show Jo (UF acc q.1 q.2.1 q.2.2) r=_;rw[PP hno,show ((q.1,q.2.1,q.2.2):KQ)=q from rfl,QN r (acc++[q]) (by simpa using h)];simp
theorem zl3 {nm:String}{Q:Unit->X6->Prop}(hu:A.units<VP)(hdo:d≠o)(hoS:(o==Vt)=false)(hd:s.heap.DictOfH (tk2 prog w) d xs)(ho:s.heap.DictOfH (tk2 prog w) o ys)(hN:HN prog w ys)(hsz:xs.length+ys.length<=Xx)
  (hQ:∀h',h'.DictOfH (tk2 prog w) d (Jo xs ys)->V2 d s.heap h'->Q () { s with heap:=h' }):Xg (Xk prog w) A (Re nm d o) Q E s:=by
 obtain⟨od,esd,epd,hod,hcd,hdd,hed,hkd,hnd⟩:=id hd;obtain⟨oo,eso,epo,hoo,hco,hdo',heo,hko,hno⟩:=id ho;have hlen:ys.length=eso.size:=(size_of_entries heo).symm;unfold Re;rw[if_neg (show ¬ (d==o)=true by simpa using hdo)];unfold Builtin.Dict.showsAll;rw[if_neg (show ¬ (o==Vt)=true by rw[hoS];exact XV)];refine ZB (XS (ZB (Ud hoo hdo' ?_)));have loop:Xg (Xk prog w) A (do
   let epoch <- dictEpoch o
   let l <- dictEntries o
   forIn [:l.size] OZ fun i (_:PUnit)=>(do
     let l' <- dictEntries o
     match l'[i]? with
      | some e=>do
       holding [e.key,e.val] (O6 d e.key e.hash e.val)
       let ep' <- dictEpoch o
       if (ep' != epoch)=true then do
         (PN (toString nm++toString ":source-changed-during-callback"):Sem PUnit)
         pure (V5 OZ)
        else pure (V5 OZ)
      | _=>do
       (PN "internal:dict-merge":Sem PUnit)
       pure (V5 OZ):Sem (ForInStep PUnit))
   pure ()) Q E s:=by
  refine ZB (wpAny_dictEpoch hoo hdo' (ZB (Ud hoo hdo' (ZB ?_))));rw[Std.Legacy.Range.forIn_eq_forIn_range'];simp only[Std.Legacy.Range.size,Nat.sub_zero,Sc,Nat.div_one];refine T1 _ (fun rest _ s'=>∃h' i,s'={ s with heap:=h' }/\rest=List.range' i (eso.size-i)/\i<=eso.size/\h'.DictOfH (tk2 prog w) d (Jo xs (ys.take i))/\V2 d s.heap h') _ ?_ ?_ _ _ ⟨s.heap,0,rfl,by simp,WZ _,hd,Heap.SameBut.refl _ _⟩
  ·rintro x rest b s' ⟨h',i,rfl,hr,hi,hd',hs'⟩;have hlt:i<eso.size:=by
    rcases Uu i eso.size with h | h
    ·exact h
    ·rw[Nat.sub_eq_zero_of_le h] at hr;simp at hr
   obtain⟨rfl,hrest⟩:x=i/\rest=List.range' (i+1) (eso.size-(i+1)):=by
    rw[show eso.size-i=(eso.size-(i+1))+1 by lia,List.range'_succ] at hr;injection hr with h1 h2
    exact⟨h1,h2⟩
   have hoo':h'.get? o=some oo:=(hs'.2 o (Vd hdo)).trans hoo;obtain⟨q,hq⟩:∃q,ys[x]?=some q:=⟨_,XZ (by lia)⟩;refine ZB (Ud hoo' hdo' ?_);rw[entry_at heo x,hq];have hkq:=hko q (X7 hq);have hkq':(tk2 prog w).is h' q.1 q.2.1:=(tk2 prog w).keeps hkq hod hdd hs';have l1:=zbI xs (ys.take x) xs;have l2:(ys.take x).length<=ys.length:=by
    rw[XM];lia
   refine ZB (VU (zgn (s:={ s with heap:=h' }) hu hkq' hd' (by lia) fun h'' hd'' hs''=>?_));have hoo'':h''.get? o=some oo:=(hs''.2 o (Vd hdo)).trans hoo';refine ZB (wpAny_dictEpoch hoo'' hdo' ?_);rw[if_neg (by simp)];refine XS ⟨h'',x+1,rfl,hrest,hlt,?_,hs'.trans hs''⟩;rw[Xc,hq];show h''.DictOfH (tk2 prog w) d (Jo xs (ys.take x++[q]));rw[ze0];exact hd''
  ·rintro b s' ⟨h',i,rfl,hr,hi,hd',hs'⟩;have hin:i=eso.size:=by
    rcases Uu i eso.size with h | h
    ·rw[show eso.size-i=(eso.size-(i+1))+1 by lia,List.range'_succ] at hr;exact nomatch hr
    ·exact Nat.le_antisymm hi h
   rw[hin,<- hlen,XA] at hd';exact XS (hQ h' hd' hs')
 dsimp only;split
 ·refine ZB (Ud hod hdd ?_);split
  ·rename_i ze1;have hx0:xs=[]:=by
    have h0:esd=#[]:=Array.isEmpty_iff.mp ze1;rw[h0] at hed;exact Ph.mp hed.symm
   subst hx0;rw[QN ys [] (by simpa using hno)] at hQ;refine ZB (zix hoo hdo' heo hko hN ?_);split
   ·refine ZB (wpAny_updateDictKeysTo hod hdd (XS (hQ _ ⟨_,_,epd+1,Wl _ hod (Sy (T7 hdd _)),hcd.mapDictKeys _,T7 hdd _,heo,fun x hx=>(tk2 prog w).keeps (hko x hx) hod hdd (Wt ..),hno⟩ (Wt ..))) (by
     simp only[Vi,VC] at hsz;lia))
   ·rename_i hne;have h0:eso=#[]:=Array.isEmpty_iff.mp (by simpa using hne);have hy0:ys=[]:=by
     rw[h0] at heo;exact Ph.mp heo.symm
    subst hy0;exact XS (hQ _ hd (Heap.SameBut.refl _ _))
  ·exact loop
 ·exact loop
end
def HH (i j:Nat):Int:=reduceHash (Builtin.Tuple.tupleHashOf [hashInt (i:Int),hashInt (j:Int)])
theorem JS (prog:Xn)(w:WW)(i j:Nat):(tk2 prog w).hash [.inl ((i:Nat):Int),.inl ((j:Nat):Int)]=HH i j:=by
 show tupleKeyHash (zQ prog w) [.inl ((i:Nat):Int),.inl ((j:Nat):Int)]=HH i j;unfold tupleKeyHash HH;rw[XB,XB,Ro];have e:∀n:Nat,(zQ prog w).hash (.inl ((n:Nat):Int))=hashInt ((n:Nat):Int):=fun n=>by
  show znA w (.inl ((n:Nat):Int))=_;unfold znA;with_reducible rfl
 rw[e,e]
theorem zn6:(WC 64).all fun n=>(WC 64).all fun m=>decide (HH (n/8) (n%8)=HH (m/8) (m%8))==decide (n=m):=by decide +kernel
theorem ze2 {i j i' j':Nat}(h1:i<8)(h2:j<8)(h3:i'<8)(h4:j'<8)(e:HH i j=HH i' j'):i=i'/\j=j':=by
 have h:=zn6;rw[WG] at h;have a:=h (8*i+j) (Wz.mpr (by lia));rw[WG] at a;have b:=a (8*i'+j') (Wz.mpr (by lia));rw[show (8*i+j)/8=i by lia,show (8*i+j)%8=j by lia,show (8*i'+j')/8=i' by lia,show (8*i'+j')%8=j' by lia,decide_eq_true e] at b;have c:decide (8*i+j=8*i'+j')=true:=by simpa using b
 have d:=of_decide_eq_true c;lia
def Small (ks:List (List Key)):Prop:=∀k∈ks,∃i j:Nat,i<8/\j<8/\k=[.inl ((i:Nat):Int),.inl ((j:Nat):Int)]
theorem zm8 {prog:Xn}{w:WW}:∀{ys:List KQ},Small (ys.map (·.1))->(ys.map (·.1)).Nodup->HN prog w ys
 | [],_,_=>VA
 | q::r,hs,hn=>by
  rw[XB,Wg] at hn;unfold HN;rw[XB,Wg];refine⟨fun hm=>?_,zm8 (fun k hk=>hs k (XR _ hk)) hn.2⟩;obtain⟨y,hy,e⟩:=XQ.mp hm;obtain⟨i,j,h1,h2,e1⟩:=hs q.1 XW;obtain⟨i',j',h3,h4,e2⟩:=hs y.1 (XR _ (XQ.mpr ⟨y,hy,rfl⟩));rw[e1,e2,JS,JS] at e;obtain⟨a,b⟩:=ze2 h3 h4 h1 h2 e;refine hn.1 (XQ.mpr ⟨y,hy,?_⟩);rw[e1,e2,a,b]
theorem KT.keys {H:Hp}:∀{kvs:List (List Key×V)} {xs:List KQ},KT H kvs xs->xs.map (·.1)=kvs.map (·.1)
 | _,_,.nil=>rfl
 | _,_,.cons ⟨h1,_,_⟩ t=>by rw[XB,XB,KT.keys t,h1]
theorem zjQ {P:Xn}{w:WW}{H:Hp}{kvs:List (List Key×V)}{xs:List KQ}(r:KT H kvs xs)(hs:Small (kvs.map (·.1)))(hn:(xs.map (·.1)).Nodup):HN P w xs:=zm8 (by rw[r.keys];exact hs) hn
def Ql (kvs more:List (List Key×V)):List (List Key×V):=more.foldl (fun acc kv=>putK acc kv.1 kv.2) kvs
theorem zbJ:∀(more kvs:List (List Key×V)),(Ql kvs more).length<=kvs.length+more.length
 | [],kvs=>XU _
 | kv::r,kvs=>by
  have h1:=zbJ r (putK kvs kv.1 kv.2);have h2:=xC kvs kv.1 kv.2;show (Ql (putK kvs kv.1 kv.2) r).length<=_;rw[Xm];lia
section
variable {X:Cx}
end
section
variable {X:Cx}
theorem zgp (hu:X.A.units+64<VP):MtR X "dict.update" (fun x vs H Q=>∃d o kvs more,x=.ref d/\vs=[.ref o]/\d≠o/\H d=some (.dT kvs)/\H o=some (.dT more)/\Small (more.map (·.1))/\kvs.length+more.length<=Xx/\Q .non (upd H d (.dT (Ql kvs more)))):=by
 intro pins s σ H x vs v us Q I rx rv h;obtain⟨d,o,kvs,more,rfl,rfl,hdo,hd,ho,hsm,hsz,q⟩:=h;cases rx;obtain⟨u,rfl,ru⟩:=vals1 rv;cases ru;obtain⟨hz,hS,ks,hkt,dd⟩:=zjI I.hok hd;obtain⟨hz2,hS2,ks2,hkt2,dd2⟩:=zjI I.hok ho;have hN:HN X.prog X.w ks2:=by
  obtain⟨_,_,_,_,_,_,_,_,hn⟩:=dd2;exact zjQ hkt2 hsm hn
 refine U6 RO dd.typeIs PySem.F.entry_dict_update ?_ (PySem.F.args_dict_update_2 _ _);unfold UT.«dict.update»;refine ZB ?_;unfold RP;refine ZB (P8 dd.typeIs ?_);show Xg _ _ (pure (d,[WB o])) _ _ s;refine XS ?_;show Xg _ _ (Uy "dict.update" d (.ref o) [] .none) _ _ s;unfold Uy;refine ZB (Sr dd2.typeIs ?_);rw[if_neg (by decide)];refine ZB ?_;unfold Builtin.Dict.merge;refine ZB ?_;unfold Builtin.Dict.readDirectly;refine ZB (RD dd2.typeIs isSubtype_dict_dict ?_);simp only[Bool.not_true,Wy,if_false];refine ZB (TH dd2.typeIs PySem.F.slot_dict_iter.lookup (XS ?_));simp only[beq_self_eq_true,if_true];refine ZB (XS ?_);have l1:ks.length=kvs.length:=(Paired.length hkt).symm;have l2:ks2.length=more.length:=(Paired.length hkt2).symm;refine zl3 (by show X.A.units+1<VP;lia) hdo hS2 dd dd2 hN (by lia) fun h' hd' hs'=>?_;show Xg _ _ (RQ d [] >>= _) _ _ _;refine ZB (XS (XS ⟨_,rfl,?_⟩));obtain⟨ob,es,ep,hob,h3,h4,h5,_,h6⟩:=hd';have hkk:KT H (Ql kvs more) (Jo ks ks2):=KT.puts hkt2 hkt;have hl:=zbJ more kvs;refine⟨.non,_,zbk (t':=s.toks) (ob:=.dT (Ql kvs more)) I (by rw[hd];exact SS) hs' ⟨ob,hob⟩ ⟨by lia,hS,_,hkk.keeps fun c ys ec=>?_,ob,es,ep,hob,h3,h4,h5,h6⟩,rfl,q⟩;rw[zk (zcS ec hd (fun z=>nomatch z))];exact ec
end
section
variable {prog:Xn}{w:WW}{A:WM}{E:X8->X6->Prop}{s:X6}{a b:Addr}{H:Hp}{kvs:List (List Key×V)}{ka kb:List KQ}
end
section
variable {X:Cx}
end
section
variable {prog:Xn}{w:WW}{A:WM}{E:X8->X6->Prop}{s:X6}{d it:Addr}{od:Obj}{es:Array RK}{ep i:Nat}
end
section
variable {X:Cx}{tg:Expr}
end
section
variable {X:Cx}
theorem vals3 {x y z:V}{us:List X8}(r:Vals [x,y,z] us):∃u v w',us=[u,v,w']/\RelV x u/\RelV y v/\RelV z w':=by
 cases r with
 | cons r1 r2 =>
  obtain⟨v,w',rfl,h1,h2⟩:=vals2 r2;exact⟨_,v,w',rfl,r1,h1,h2⟩
def mx3 (i j k:Int):Int:=if j>i then (if k>j then k else j) else (if k>i then k else i)
def mn3 (i j k:Int):Int:=if j<i then (if k<j then k else j) else (if k<i then k else i)
theorem ziy (hc:X.calm=true):jR X (.builtin "max") (fun xs H Q=>∃i j k,xs=[.int i,.int j,.int k]/\Q (.int (mx3 i j k)) H):=by
 intro pins s σ H xs us Q I r h;obtain⟨i,j,k,rfl,q⟩:=h;obtain⟨u,v,w',rfl,⟨t,rfl⟩,⟨t',rfl⟩,⟨t'',rfl⟩⟩:=vals3 r;refine max_three_ints (I.ok.hd hc) fun h' tk kp=>⟨_,H,I.kept kp,?_,q⟩;unfold mx3;split<;>split<;>exact⟨_,rfl⟩
theorem ziz (hc:X.calm=true):jR X (.builtin "min") (fun xs H Q=>∃i j k,xs=[.int i,.int j,.int k]/\Q (.int (mn3 i j k)) H):=by
 intro pins s σ H xs us Q I r h;obtain⟨i,j,k,rfl,q⟩:=h;obtain⟨u,v,w',rfl,⟨t,rfl⟩,⟨t',rfl⟩,⟨t'',rfl⟩⟩:=vals3 r;refine min_three_ints (I.ok.hd hc) fun h' tk kp=>⟨_,H,I.kept kp,?_,q⟩;unfold mn3;split<;>split<;>exact⟨_,rfl⟩
end
section
variable {X:Cx}
theorem ziA (hu:X.A.units+64<VP):OpR X (Wh .In) (fun x y H Q=>∃d ds,Rdv X.K H x d/\Rdv X.K H y (.tuple ds)/\d.canLay0=true/\UQ ds=true/\d.depth<=60/\Q (.bl (ds.any fun z=>WL z d)) H):=by
 intro pins s σ H x y v u Q I rx ry h;obtain⟨d,ds,hx,hy,c1,c2,c3,q⟩:=h;obtain⟨as,ra⟩:=hx.reads I rx;obtain⟨bs,rb⟩:=hy.reads I ry;exact SeqAt.in_tuple_reads rb ra c2 c1 (by lia) ⟨.bl _,H,I,rfl,q⟩
end
open PySem
namespace ST
def run (mask i:Nat):List Nat:=(WC (VJ mask i+1-i)).map (i + ·)
def walk (mask:Nat):Nat->Nat->Nat->List Nat
 | 0,_,_=>[]
 | f+1,i,p=>run mask i++walk mask f (Vq mask i p).1 (Vq mask i p).2
theorem zl4 (mask i:Nat):1<=(run mask i).length/\(run mask i).length<=10:=by
 unfold run VJ;rw[Y1,WU];split<;>lia
theorem zbK (mask:Nat):∀f i p,(walk mask f i p).length<=10*f
 | 0,_,_=>XU _
 | f+1,i,p=>by
  rw[walk,X4];have:=(zl4 mask i).2;have:=zbK mask f (Vq mask i p).1 (Vq mask i p).2;lia
def steps (t:Ww):Nat->Sg->Sg
 | 0,p=>p
 | n+1,p=>steps t n (t.advance p)
theorem zar (t:Ww):∀n m p,steps t (n+m) p=steps t m (steps t n p)
 | 0,m,p=>by rw[VC];rfl
 | n+1,m,p=>by
  rw[show n+1+m=(n+m)+1 from by lia];exact zar t n m (t.advance p)
theorem zas (t:Ww)(i pt:Nat)(dm:Option Nat):∀(d r j:Nat),d<=r->steps t d { j:=j,more:=r,i:=i,perturb:=pt,dummy:=dm }={ j:=j+d,more:=r-d,i:=i,perturb:=pt,dummy:=dm }
 | 0,r,j,_=>rfl
 | d+1,r,j,h=>by
  have e:t.advance { j:=j,more:=r,i:=i,perturb:=pt,dummy:=dm }={ j:=j+1,more:=r-1,i:=i,perturb:=pt,dummy:=dm }:=by
   unfold RC;rw[if_pos (by show r>0;lia)]
  show steps t d (t.advance _)=_;rw[e,zas t i pt dm d (r-1) (j+1) (by lia)];congr 1<;>lia
def YJ (mask i pt:Nat)(dm:Option Nat):Sg:={ j:=i,more:=VJ mask i-i,i:=i,perturb:=pt,dummy:=dm }
theorem zat (mask i:Nat):i<=VJ mask i:=by
 unfold VJ;split<;>lia
theorem zgq (t:Ww)(i pt:Nat)(dm:Option Nat):steps t (run t.mask i).length (YJ t.mask i pt dm)=YJ t.mask (Vq t.mask i pt).1 (Vq t.mask i pt).2 dm:=by
 have hl:(run t.mask i).length=(VJ t.mask i-i)+1:=by
  unfold run;rw[Y1,WU];have:=zat t.mask i;lia
 rw[hl,zar];unfold YJ;rw[zas t i pt dm _ _ _ (XU _),Tj];rw[steps,steps];unfold RC;rw[if_neg (by show ¬ 0>0;lia)]
theorem Jp (t:Ww):∀(f i pt:Nat) (dm:Option Nat) (n:Nat) (j:Nat),(walk t.mask f i pt)[n]?=some j->(steps t n (YJ t.mask i pt dm)).j=j
 | 0,_,_,_,_,_,h=>by simp[walk] at h
 | f+1,i,pt,dm,n,j,h=>by
  rw[walk] at h;by_cases hn:n<(run t.mask i).length
  ·rw[VS hn] at h;unfold run at h;rw[XD,VQ (by unfold run at hn;simpa using hn)] at h;have hl:(run t.mask i).length=(VJ t.mask i-i)+1:=by
    unfold run;rw[Y1,WU];have:=zat t.mask i;lia
   unfold YJ;rw[zas t i pt dm n _ _ (by lia)];exact Option.some.inj h
  ·rw[Vy (by lia)] at h;have e:n=(run t.mask i).length+(n-(run t.mask i).length):=by lia
   rw[e,zar,zgq];exact Jp t f _ _ dm _ j h
theorem zdX (t:Ww)(VD:Nat->Int)(h:Int):∀(n F:Nat) (p:Sg),(∀k,k<n->∃i,t.slot (steps t k p).j=.live i/\(VD i==h)=false)->n<=F->Uc t VD h F p=Uc t VD h (F-n) (steps t n p)
 | 0,F,p,_,_=>rfl
 | n+1,F,p,hk,hF=>by
  obtain⟨F',rfl⟩:∃F',F=F'+1:=⟨F-1,by lia⟩;obtain⟨i,h1,h2⟩:=hk 0 (by lia);have h1':t.slot p.j=.live i:=h1;rw[Uc,h1'];show (if (VD i==h)=true then _ else _)=_;rw[if_neg (by rw[h2];decide),zdX t VD h n F' (t.advance p) (fun k hk'=>hk (k+1) (by lia)) (by lia),Nat.add_sub_add_right];rfl
def Up (xs:Array Nat):Prop:=∀i j,i<j->j<xs.size->xs.getD i 0<xs.getD j 0
theorem zjR {xs:Array Nat}(U:Up xs)(j:Nat):∀(f lo hi:Nat),hi-lo<=f->lo<=hi->hi<=xs.size->(∀i,i<lo->xs.getD i 0<j)->(∀i,hi<=i->i<xs.size->j<=xs.getD i 0) ->
  Vz xs j f lo hi<=xs.size/\(∀i,i<Vz xs j f lo hi->xs.getD i 0<j)/\(∀i,Vz xs j f lo hi<=i->i<xs.size->j<=xs.getD i 0):=by
 intro f;induction f with
 | zero =>
  intro lo hi hf hl hs h1 h2;have:lo=hi:=by lia
  subst this;exact⟨hs,h1,h2⟩
 | succ f ih =>
  intro lo hi hf hl hs h1 h2;by_cases hlt:lo<hi
  ·have hm:(lo+hi)/2<hi:=by lia
   have hm2:lo<=(lo+hi)/2:=by lia
   have hms:(lo+hi)/2<xs.size:=by lia
   have e:xs.getD ((lo+hi)/2) j=xs.getD ((lo+hi)/2) 0:=by
    simp[Array.getD,hms]
   have e2:Vz xs j (f+1) lo hi=if xs.getD ((lo+hi)/2) 0<j then Vz xs j f ((lo+hi)/2+1) hi else Vz xs j f lo ((lo+hi)/2):=by
    rw[Vz,if_pos hlt];show (if xs.getD ((lo+hi)/2) j<j then _ else _)=_;rw[e]
   by_cases hx:xs.getD ((lo+hi)/2) 0<j
   ·rw[e2,if_pos hx];refine ih ((lo+hi)/2+1) hi (by lia) (by lia) hs (fun i hi'=>?_) h2;by_cases he:i=(lo+hi)/2
    ·rw[he];exact hx
    ·exact Ss (U i ((lo+hi)/2) (by lia) hms) hx
   ·rw[e2,if_neg hx];refine ih lo ((lo+hi)/2) (by lia) (by lia) (by lia) h1 (fun i hi' hi2=>?_);by_cases he:i=(lo+hi)/2
    ·rw[he];lia
    ·have:=U ((lo+hi)/2) i (by lia) hi2;lia
  ·rw[Vz,if_neg hlt];have:lo=hi:=by lia
   subst this;exact⟨hs,h1,h2⟩
theorem Zh {xs:Array Nat}(U:Up xs)(j:Nat):Xw xs j<=xs.size/\(∀i,i<Xw xs j->xs.getD i 0<j)/\(∀i,Xw xs j<=i->i<xs.size->j<=xs.getD i 0) :=
 zjR U j xs.size 0 xs.size (by lia) (WZ _) (XU _) (fun _ h=>absurd h (TD _)) (fun i h1 h2=>absurd h2 (by lia))
theorem Jq {xs:Array Nat}{i:Nat}(h:i<xs.size):xs[i]?=some (xs.getD i 0):=by
 simp[Array.getD,h]
theorem Zi {t:Ww}(U:Up t.place){i:Nat}(hi:i<t.place.size):t.slot (t.place.getD i 0)=.live i:=by
 have b:=Zh U (t.place.getD i 0);have e:Xw t.place (t.place.getD i 0)=i:=by
  rcases R0 (Xw t.place (t.place.getD i 0)) i with h | h | h
  ·have h1:=b.2.2 _ (XU _) (by lia);have h2:=U _ i h hi;lia
  ·exact h
  ·have:=b.2.1 i h;lia
 unfold SetTable.slot;simp only[e,Jq hi];rw[if_pos (by simp)]
theorem slot_of {t:Ww}(U:Up t.place)(hd:t.dummies=#[])(j:Nat):(∃i,i<t.place.size/\t.place.getD i 0=j/\t.slot j=.live i)\/(t.slot j=.empty/\∀i,i<t.place.size->t.place.getD i 0≠j):=by
 by_cases h:∃i,i<t.place.size/\t.place.getD i 0=j
 ·obtain⟨i,hi,rfl⟩:=h;exact .inl ⟨i,hi,rfl,Zi U hi⟩
 ·have hn:∀i,i<t.place.size->t.place.getD i 0≠j:=fun i hi e=>h ⟨i,hi,e⟩;refine .inr ⟨?_,hn⟩;unfold SetTable.slot;have h1:¬ ((t.place[Xw t.place j]?==some j)=true):=fun z=>by
   have z':t.place[Xw t.place j]?=some j:=by simpa using z
   have hl:Xw t.place j<t.place.size:=by
    rcases Uu (Xw t.place j) t.place.size with q | q
    ·exact q
    ·rw[WK q] at z';cases z'
   rw[Jq hl] at z';exact hn _ hl (Option.some.inj z')
  simp only[];rw[if_neg h1,hd];rfl
def Reach (t:Ww)(h:Int)(j:Nat):Prop:=∃n:Nat,(walk t.mask (W4 t.mask) (XJ h%(t.mask+1)) (XJ h))[n]?=some j/\∀k:Nat,k<n->∀j',(walk t.mask (W4 t.mask) (XJ h%(t.mask+1)) (XJ h))[k]?=some j'->∃i,i<t.place.size/\t.place.getD i 0=j'
theorem QO (t:Ww)(h:Int):t.probeStart h=YJ t.mask (XJ h%(t.mask+1)) (XJ h) none:=rfl
theorem ze3 (t:Ww):∀n p,(steps t n p).dummy=p.dummy
 | 0,_=>rfl
 | n+1,p=>by
  rw[steps,ze3 t n];unfold RC;split<;>rfl
theorem ze4 {t:Ww}(U:Up t.place)(VD:Nat->Int){h:Int}{i:Nat}(hi:i<t.place.size)(eh:VD i=h)(one:∀i',i'<t.place.size->VD i'=h->i'=i)(R:Reach t h (t.place.getD i 0)):∃nx,t.probe VD h (t.probeStart h)=some (.candidate (t.place.getD i 0) i nx):=by
 obtain⟨n,hn,hk⟩:=R;have hlen:=(X0.mp hn).1;have wl:=zbK t.mask (W4 t.mask) (XJ h%(t.mask+1)) (XJ h);have key:∀m:Nat,m<=n->(∀k,k<m->∃i',t.slot (steps t k (t.probeStart h)).j=.live i'/\(VD i'==h)=false)\/∃m',m'<m/\(∀k,k<m'->∃i',t.slot (steps t k (t.probeStart h)).j=.live i'/\(VD i'==h)=false)/\t.slot (steps t m' (t.probeStart h)).j=.live i/\(steps t m' (t.probeStart h)).j=t.place.getD i 0:=fun m=>by
  induction m with
  | zero=>exact fun _=>.inl fun k hk=>absurd hk (TD _)
  | succ m ih =>
   intro hm;rcases ih (by lia) with h1 | ⟨m',a,b⟩
   ·have hw:∃j',(walk t.mask (W4 t.mask) (XJ h%(t.mask+1)) (XJ h))[m]?=some j':=⟨_,XZ (by lia)⟩;obtain⟨j',hj'⟩:=hw;obtain⟨i',hi',ei'⟩:=hk m (by lia) j' hj';have ej:(steps t m (t.probeStart h)).j=j':=by
     rw[QO];exact Jp t _ _ _ none m j' hj'
    have sl:t.slot (steps t m (t.probeStart h)).j=.live i':=by
     rw[ej,<- ei'];exact Zi U hi'
    by_cases he:VD i'=h
    ·have:=one i' hi' he;subst this;exact .inr ⟨m,by lia,h1,sl,by rw[ej,ei']⟩
    ·refine .inl fun k hk'=>?_;by_cases hkm:k=m
     ·subst hkm;exact⟨i',sl,by simpa using he⟩
     ·exact h1 k (by lia)
   ·exact .inr ⟨m',by lia,b⟩
 have fin:∀m:Nat,m<10*W4 t.mask->(∀k,k<m->∃i',t.slot (steps t k (t.probeStart h)).j=.live i'/\(VD i'==h)=false)->t.slot (steps t m (t.probeStart h)).j=.live i->(steps t m (t.probeStart h)).j=t.place.getD i 0->∃nx,t.probe VD h (t.probeStart h)=some (.candidate (t.place.getD i 0) i nx):=fun m hm hp sl ej=>by
  unfold SetTable.probe;rw[zdX t VD h m _ _ hp (by lia)];obtain⟨F',hF⟩:∃F',10*W4 t.mask-m=F'+1:=⟨10*W4 t.mask-m-1,by lia⟩;rw[hF,Uc,sl];simp only[];rw[if_pos (by simpa using eh),ej];exact⟨_,rfl⟩
 rcases key n (XU _) with h1 | ⟨m',a,b,c,d⟩
 ·have ej:(steps t n (t.probeStart h)).j=t.place.getD i 0:=by
   rw[QO];exact Jp t _ _ _ none n _ hn
  exact fin n (by lia) h1 (by rw[ej];exact Zi U hi) ej
 ·exact fin m' (by lia) b c d
theorem zdY {t:Ww}(U:Up t.place)(hd:t.dummies=#[])(VD:Nat->Int){h:Int}(no:∀i,i<t.place.size->VD i≠h){e:Nat}(he:∀i,i<t.place.size->t.place.getD i 0≠e)(hw:e∈walk t.mask (W4 t.mask) (XJ h%(t.mask+1)) (XJ h)) :
  ∃j,t.probe VD h (t.probeStart h)=some (.empty j none)/\t.slot j=.empty/\Reach t h j/\j∈walk t.mask (W4 t.mask) (XJ h%(t.mask+1)) (XJ h):=by
 obtain⟨N,hN⟩:=P7.mp hw;have hlen:=(X0.mp hN).1;have wl:=zbK t.mask (W4 t.mask) (XJ h%(t.mask+1)) (XJ h);have key:∀m:Nat,m<=N+1->(∀k:Nat,k<m->∀j',(walk t.mask (W4 t.mask) (XJ h%(t.mask+1)) (XJ h))[k]?=some j'->∃i,i<t.place.size/\t.place.getD i 0=j')\/∃m' j:Nat,m'<m/\(walk t.mask (W4 t.mask) (XJ h%(t.mask+1)) (XJ h))[m']?=some j/\t.slot j=.empty/\(∀k:Nat,k<m'->∀j',(walk t.mask (W4 t.mask) (XJ h%(t.mask+1)) (XJ h))[k]?=some j'->∃i,i<t.place.size/\t.place.getD i 0=j'):=fun m=>by
  induction m with
  | zero=>exact fun _=>.inl fun k hk=>absurd hk (TD _)
  | succ m ih =>
   intro hm;rcases ih (by lia) with h1 | ⟨m',j,a,b⟩
   ·obtain⟨j',hj'⟩:∃j',(walk t.mask (W4 t.mask) (XJ h%(t.mask+1)) (XJ h))[m]?=some j':=⟨_,XZ (by lia)⟩;rcases slot_of U hd j' with ⟨i,hi,ei,_⟩ | ⟨se,_⟩
    ·refine .inl fun k hk' j2 hj2=>?_;by_cases hkm:k=m
     ·subst hkm;rw[hj'] at hj2;exact⟨i,hi,by rw[ei];exact Option.some.inj hj2⟩
     ·exact h1 k (by lia) j2 hj2
    ·exact .inr ⟨m,j',by lia,hj',se,h1⟩
   ·exact .inr ⟨m',j,by lia,b⟩
 rcases key (N+1) (XU _) with h1 | ⟨m',j,a,b,c,d⟩
 ·obtain⟨i,hi,ei⟩:=h1 N (by lia) e hN;exact absurd ei (he i hi)
 ·refine⟨j,?_,c,⟨m',b,d⟩,X7 b⟩;have ej:(steps t m' (t.probeStart h)).j=j:=by
   rw[QO];exact Jp t _ _ _ none m' j b
  have hp:∀k,k<m'->∃i',t.slot (steps t k (t.probeStart h)).j=.live i'/\(VD i'==h)=false:=fun k hk=>by
   obtain⟨j',hj'⟩:∃j',(walk t.mask (W4 t.mask) (XJ h%(t.mask+1)) (XJ h))[k]?=some j':=⟨_,XZ (by lia)⟩;obtain⟨i,hi,ei⟩:=d k hk j' hj';refine⟨i,?_,by simpa using no i hi⟩;have:(steps t k (t.probeStart h)).j=j':=by
    rw[QO];exact Jp t _ _ _ none k j' hj'
   rw[this,<- ei];exact Zi U hi
  unfold SetTable.probe;rw[zdX t VD h m' _ _ hp (by lia)];obtain⟨F',hF⟩:∃F',10*W4 t.mask-m'=F'+1:=⟨10*W4 t.mask-m'-1,by lia⟩;rw[hF,Uc,ej,c];simp only[ze3];rfl
def orb (m:Nat):Nat->Nat->Nat
 | 0,i=>i
 | n+1,i=>orb m n ((i*5+1)%m)
def ziB (m:Nat):Nat->Nat->List Nat
 | 0,_=>[]
 | n+1,i=>i::ziB m n ((i*5+1)%m)
theorem zbL (m:Nat):∀(n i e:Nat),e∈ziB m n i->∃k,k<n/\orb m k i=e
 | 0,_,_,h=>nomatch h
 | n+1,i,e,h=>by
  rcases XF.mp h with rfl | h
  ·exact⟨0,Ti _,rfl⟩
  ·obtain⟨k,hk,q⟩:=zbL m n _ e h;exact⟨k+1,by lia,q⟩
theorem zbl (m:Nat):∀a b i,orb m (a+b) i=orb m b (orb m a i)
 | 0,b,i=>by rw[VC];rfl
 | a+1,b,i=>by
  rw[show a+1+b=(a+b)+1 from by lia];exact zbl m a b _
theorem full {m:Nat}(h1:∀e,e<m->e∈ziB m m 0)(h2:orb m m 0=0){i e:Nat}(hi:i<m)(he:e<m):∃k,k<m+1/\orb m k i=e:=by
 obtain⟨a,ha,ea⟩:=zbL m m 0 i (h1 i hi);obtain⟨b,hb,eb⟩:=zbL m m 0 e (h1 e he);rcases Uu b a with q | q
 ·refine⟨m-a+b,by lia,?_⟩;rw[<- ea,<- zbl,show a+(m-a+b)=m+b from by lia,zbl,h2,eb]
 ·refine⟨b-a,by lia,?_⟩;rw[<- ea,<- zbl,show a+(b-a)=b from by lia,eb]
theorem zm9:(∀e,e<8->e∈ziB 8 8 0)/\orb 8 8 0=0:=by decide +kernel
theorem zjS:(∀e,e<32->e∈ziB 32 32 0)/\orb 32 32 0=0:=by decide +kernel
theorem zhn:(∀e,e<128->e∈ziB 128 128 0)/\orb 128 128 0=0:=by decide +kernel
def Zj (mask:Nat):Nat->Nat->Nat->Nat×Nat
 | 0,i,p=>(i,p)
 | n+1,i,p=>Zj mask n (Vq mask i p).1 (Vq mask i p).2
theorem zc7 (mask:Nat):∀a b i p,Zj mask (a+b) i p=Zj mask b (Zj mask a i p).1 (Zj mask a i p).2
 | 0,b,i,p=>by rw[VC];rfl
 | a+1,b,i,p=>by
  rw[show a+1+b=(a+b)+1 from by lia];exact zc7 mask a b _ _
theorem zho (mask:Nat):∀n i p,(Zj mask n i p).2=p/32^n
 | 0,i,p=>by rw[Nat.pow_zero,Nat.div_one];rfl
 | n+1,i,p=>by
  rw[Zj,zho mask n];show p/32/32^n=_;rw[Nat.div_div_eq_div_mul,Ut,OT]
theorem ze5 (mask:Nat):∀n i p,i<mask+1->(Zj mask n i p).1<mask+1
 | 0,i,p,h=>h
 | n+1,i,p,h=>ze5 mask n _ _ (Sj _ (Ti _))
theorem zc8 (mask:Nat):∀n i,(Zj mask n i 0).1=orb (mask+1) n i
 | 0,_=>rfl
 | n+1,i=>by
  have e1:(Vq mask i 0).1=(i*5+1)%(mask+1):=rfl;have e2:(Vq mask i 0).2=0:=rfl;rw[Zj,e1,e2];exact zc8 mask n _
theorem head_mem (mask:Nat):∀(f n i p:Nat),n<f->(Zj mask n i p).1∈walk mask f i p
 | 0,_,_,_,h=>absurd h (TD _)
 | f+1,0,i,p,_=>by
  rw[walk];refine W6 _ ?_;unfold run;refine XQ.mpr ⟨0,Wz.mpr ?_,by rfl⟩;have:=zat mask i;lia
 | f+1,n+1,i,p,h=>by
  rw[walk];exact Xy _ (head_mem mask f n _ _ (by lia))
theorem ze6 {mask:Nat}(hm:mask=7\/mask=31\/mask=127)(h:Int){e:Nat}(he:e<mask+1):e∈walk mask (W4 mask) (XJ h%(mask+1)) (XJ h):=by
 have hb:XJ h<2^64:=by
  unfold XJ;have h1:=UV h (show (2^64:Int)≠0 by decide);have h2:=Us h (show (0:Int)<2^64 by decide);lia
 have hp:(Zj mask 13 (XJ h%(mask+1)) (XJ h)).2=0:=by
  rw[zho];exact Nat.div_eq_of_lt (Ss hb (by decide))
 have hi:=ze5 mask 13 (XJ h%(mask+1)) (XJ h) (Sj _ (Ti _));obtain⟨k,hk,ek⟩:∃k,k<mask+1+1/\orb (mask+1) k (Zj mask 13 (XJ h%(mask+1)) (XJ h)).1=e:=by
  rcases hm with rfl | rfl | rfl
  ·exact full zm9.1 zm9.2 hi he
  ·exact full zjS.1 zjS.2 hi he
  ·exact full zhn.1 zhn.2 hi he
 have hh:=head_mem mask (W4 mask) (13+k) (XJ h%(mask+1)) (XJ h) (by unfold W4;lia);rw[zc7,hp,zc8,ek] at hh;exact hh
theorem Yj {α:Type}(xs:Array α){p:Nat}(x:α):(Xf xs p x).toList=xs.toList.take p++x::xs.toList.drop p:=by
 unfold Xf;simp;rw[WE (by rw[U8,X5];lia)]
theorem zjT {α:Type}(xs:Array α){p:Nat}(hp:p<=xs.size)(x:α)(i:Nat):(Xf xs p x)[i]?=if i<p then xs[i]? else if i=p then some x else xs[i-1]?:=by
 have hl:(xs.toList.take p).length=p:=by
  rw[XM,X5];lia
 rw[<- Xv,Yj];by_cases h1:i<p
 ·rw[if_pos h1,VS (by lia),RR h1,Xv]
 ·rw[if_neg h1,Vy (by lia),hl];by_cases h2:i=p
  ·rw[if_pos h2,h2,Tj];rfl
  ·rw[if_neg h2,show i-p=(i-p-1)+1 from by lia,Rw,Tv,Xv];congr 1;lia
theorem jv {α:Type}(xs:Array α){p:Nat}(hp:p<=xs.size)(x:α):(Xf xs p x).size=xs.size+1:=by
 rw[<- X5,Yj,X4,Xm,XM,U8,X5];lia
theorem Zk (xs:Array Nat){p:Nat}(hp:p<=xs.size)(x i:Nat)(hi:i<xs.size+1):(Xf xs p x).getD i 0=if i<p then xs.getD i 0 else if i=p then x else xs.getD (i-1) 0:=by
 have h:=zjT xs hp x i;rw[Jq (by rw[jv xs hp x];exact hi)] at h;by_cases h1:i<p
 ·rw[if_pos h1] at h ⊢;rw[Jq (by lia)] at h;exact Option.some.inj h
 ·rw[if_neg h1] at h ⊢;by_cases h2:i=p
  ·rw[if_pos h2] at h ⊢;exact Option.some.inj h
  ·rw[if_neg h2] at h ⊢;rw[Jq (by lia)] at h;exact Option.some.inj h
theorem zjU {t:Ww}(U:Up t.place)(hd:t.dummies=#[]){j:Nat}(he:∀i,i<t.place.size->t.place.getD i 0≠j):(t.put j).2=Xw t.place j/\(t.put j).1={ t with place:=Xf t.place (Xw t.place j) j }/\Up (Xf t.place (Xw t.place j) j):=by
 have b:=Zh U j;refine⟨rfl,?_,fun a c hac hc=>?_⟩
 ·unfold SetTable.put;simp only[hd];rfl
 ·rw[jv _ b.1] at hc;rw[Zk _ b.1 _ _ (by lia),Zk _ b.1 _ _ hc];have lo:∀i,i<Xw t.place j->t.place.getD i 0<j:=b.2.1;have hi:∀i,Xw t.place j<=i->i<t.place.size->j<t.place.getD i 0:=fun i h1 h2=>by
   have:=b.2.2 i h1 h2;have:=he i h2;lia
  by_cases a1:a<Xw t.place j
  ·rw[if_pos a1];by_cases c1:c<Xw t.place j
   ·rw[if_pos c1];exact U a c hac (by lia)
   ·rw[if_neg c1];by_cases c2:c=Xw t.place j
    ·rw[if_pos c2];exact lo a a1
    ·rw[if_neg c2];have h1:=lo a a1;have h2:=hi (c-1) (by lia) (by lia);lia
  ·have c1:¬ c<Xw t.place j:=by lia
   have c2:¬ c=Xw t.place j:=by lia
   rw[if_neg a1,if_neg c1,if_neg c2];by_cases a2:a=Xw t.place j
   ·rw[if_pos a2];exact hi (c-1) (by lia) (by lia)
   ·rw[if_neg a2];exact U (a-1) (c-1) (by lia) (by lia)
theorem Reach.more {t t':Ww}(hm:t'.mask=t.mask)(hp:∀i,i<t.place.size->∃i',i'<t'.place.size/\t'.place.getD i' 0=t.place.getD i 0){h:Int}{j:Nat}(R:Reach t h j):Reach t' h j:=by
 obtain⟨n,h1,h2⟩:=R;unfold Reach;rw[hm];refine⟨n,h1,fun k hk j' hj'=>?_⟩;obtain⟨i,hi,ei⟩:=h2 k hk j' hj';obtain⟨i',hi',ei'⟩:=hp i hi;exact⟨i',hi',ei'.trans ei⟩
theorem zjV {t:Ww}(U:Up t.place)(j:Nat):∀i,i<t.place.size->∃i',i'<(Xf t.place (Xw t.place j) j).size/\(Xf t.place (Xw t.place j) j).getD i' 0=t.place.getD i 0:=fun i hi=>by
 have b:=Zh U j;by_cases h:i<Xw t.place j
 ·refine⟨i,by rw[jv _ b.1];lia,?_⟩;rw[Zk _ b.1 _ _ (by lia),if_pos h]
 ·refine⟨i+1,by rw[jv _ b.1];lia,?_⟩;rw[Zk _ b.1 _ _ (by lia),if_neg (by lia),if_neg (by lia),Sc]
theorem zhp (mask:Nat)(owner:Array (Option Nat)):∀(f i p:Nat),SetTable.layClean.free mask owner f i p=(walk mask f i p).find? fun j=>(owner.getD j (some 0)).isNone
 | 0,_,_=>rfl
 | f+1,i,p=>by
  rw[SetTable.layClean.free,walk,List.find?_append];unfold run;rw[List.find?_map];have e:((fun j=>(owner.getD j (some 0)).isNone)∘fun x=>i+x)=fun k=>(owner.getD (i+k) (some 0)).isNone:=rfl;rw[e];cases h:(WC (VJ mask i+1-i)).find? fun k=>(owner.getD (i+k) (some 0)).isNone with
  | some k=>rfl
  | none =>
   simp only[Option.map_none,Option.none_or];exact zhp mask owner f _ _
structure Own (mask:Nat)(hs:List Int)(owner:Array (Option Nat))(k:Nat):Prop where
 sz:owner.size=mask+1
 few:(owner.toList.countP fun o=>o.isNone)+k=mask+1
 at_:∀i,i<k->∃j:Nat,owner[j]?=some (some i)/\∃n:Nat,(walk mask (W4 mask) (XJ (hs.getD i 0)%(mask+1)) (XJ (hs.getD i 0)))[n]?=some j/\∀m:Nat,m<n->∀j':Nat,(walk mask (W4 mask) (XJ (hs.getD i 0)%(mask+1)) (XJ (hs.getD i 0)))[m]?=some j'->∃o,owner[j']?=some (some o)
 lt:∀j i:Nat,owner[j]?=some (some i)->i<k
 inj:∀j j' i:Nat,owner[j]?=some (some i)->owner[j']?=some (some i)->j=j'
theorem Own.nil (mask:Nat)(hs:List Int):Own mask hs (Array.replicate (mask+1) none) 0:=by
 refine⟨by simp,by rw[Array.toList_replicate,List.countP_replicate];rfl,fun i h=>absurd h (TD _),fun j i h=>?_,fun j j' i h=>?_⟩
 ·rw[RN] at h;split at h<;>cases h
 ·rw[RN] at h;split at h<;>cases h
theorem count_set {l:List (Option Nat)}:∀{j:Nat} (k:Nat),l[j]?=some none->(l.set j (some k)).countP (fun o=>o.isNone)+1=l.countP fun o=>o.isNone:=by
 induction l with
 | nil=>exact fun _ h=>by simp at h
 | cons o r ih =>
  intro j k h;cases j with
  | zero =>
   have:o=none:=by simpa using h
   subst this;simp[Wn]
  | succ j =>
   have:=ih k (by simpa using h);rw[List.set_cons_succ,Wn,Wn];lia
theorem ziC {l:List (Option Nat)}(h:0<l.countP fun o=>o.isNone):∃j:Nat,l[j]?=some none:=by
 obtain⟨o,ho,hn⟩:=Pg.mp h;obtain⟨j,hj⟩:=P7.mp ho;refine⟨j,?_⟩;rw[hj];cases o with
 | none=>rfl
 | some _=>cases hn
theorem getD_none {owner:Array (Option Nat)}{j:Nat}:(owner.getD j (some 0)).isNone=true↔owner[j]?=some none:=by
 by_cases h:j<owner.size
 ·have e:owner[j]?=some (owner.getD j (some 0)):=by simp[Array.getD,h]
  rw[e];cases owner.getD j (some 0)<;>simp
 ·have e:owner.getD j (some 0)=some 0:=by simp[Array.getD,h]
  rw[e,WK (by lia)];simp
theorem zdZ (mask:Nat):∀(f i p:Nat),i<mask+1->∀j∈walk mask f i p,j<mask+1
 | 0,_,_,_,_,h=>nomatch h
 | f+1,i,p,hi,j,h=>by
  rw[walk] at h;rcases XO.mp h with h | h
  ·unfold run at h;obtain⟨k,hk,rfl⟩:=XQ.mp h;have hk':=Wz.mp hk;have:VJ mask i<=mask:=by
    unfold VJ;split<;>lia
   lia
  ·exact zdZ mask f _ _ (Sj _ (Ti _)) j h
theorem Own.step {mask:Nat}(hm:mask=7\/mask=31\/mask=127){hs:List Int}{owner:Array (Option Nat)}{k:Nat}(O:Own mask hs owner k)(hk:k<mask+1):∃j,SetTable.layClean.free mask owner (W4 mask) (XJ (hs.getD k 0)%(mask+1)) (XJ (hs.getD k 0))=some j/\Own mask hs (owner.setIfInBounds j (some k)) (k+1):=by
 obtain⟨e,he⟩:=ziC (l:=owner.toList) (by have:=O.few;lia);rw[Xv] at he;have hel:e<owner.size:=by
  rcases Uu e owner.size with q | q
  ·exact q
  ·rw[WK q] at he;cases he
 have hw:=ze6 hm (hs.getD k 0) (e:=e) (by have:=O.sz;lia);rw[zhp];cases hf:(walk mask (W4 mask) (XJ (hs.getD k 0)%(mask+1)) (XJ (hs.getD k 0))).find? fun j=>(owner.getD j (some 0)).isNone with
 | none =>
  have:=List.find?_eq_none.mp hf e hw;exact absurd (getD_none.mpr he) this
 | some j =>
  refine⟨j,rfl,?_⟩;have hj:owner[j]?=some none:=getD_none.mp (List.find?_some (p:=fun j=>(owner.getD j (some 0)).isNone) hf);have hjl:j<owner.size:=by
   rcases Uu j owner.size with q | q
   ·exact q
   ·rw[WK q] at hj;cases hj
  have get:∀i:Nat,(owner.setIfInBounds j (some k))[i]?=if j=i then some (some k) else owner[i]?:=fun i=>by
   rw[Uj];by_cases h:j=i
   ·rw[if_pos h,if_pos h];simp[hjl]
   ·rw[if_neg h,if_neg h]
  have keep:∀(i o:Nat),owner[i]?=some (some o)->(owner.setIfInBounds j (some k))[i]?=some (some o):=fun i o h=>by
   rw[get,if_neg (fun z=>by rw[<- z,hj] at h;cases h)];exact h
  refine⟨by rw[TK];exact O.sz,?_,fun i hi=>?_,fun j' i h=>?_,fun j1 j2 i h1 h2=>?_⟩
  ·rw[R7];have:=count_set (l:=owner.toList) (j:=j) k (by rw[Xv];exact hj);have:=O.few;lia
  ·by_cases hik:i=k
   ·subst hik;refine⟨j,by rw[get,if_pos rfl],?_⟩;obtain⟨_,as,bs,hab,hn⟩:=List.find?_eq_some_iff_append.mp hf;refine⟨as.length,by rw[hab];simp,fun m hm' j' hj'=>?_⟩;rw[hab,VS hm'] at hj';have hmem:=X7 hj';have hnn:=hn j' hmem;have hjw:j'∈walk mask (W4 mask) (XJ (hs.getD i 0)%(mask+1)) (XJ (hs.getD i 0)):=by
     rw[hab];exact W6 _ hmem
    cases ho:owner[j']? with
    | none =>
     have:=zdZ mask (W4 mask) _ _ (Sj _ (Ti _)) j' hjw;rw[Vx.mpr ⟨by rw[O.sz];exact this,rfl⟩] at ho;cases ho
    | some o =>
     cases o with
     | none =>
      rw[getD_none.mpr ho] at hnn;cases hnn
     | some o=>exact⟨o,keep j' o ho⟩
   ·obtain⟨j0,a,n,b,c⟩:=O.at_ i (by lia);refine⟨j0,keep _ _ a,n,b,fun m hm' j' hj'=>?_⟩;obtain⟨o,ho⟩:=c m hm' j' hj';exact⟨o,keep _ _ ho⟩
  ·rw[get] at h;split at h
   ·have:k=i:=by simpa using h
    lia
   ·have:=O.lt j' i h;lia
  ·rw[get] at h1 h2;split at h1<;>split at h2
   ·lia
   ·have:k=i:=by simpa using h1
    have:=O.lt j2 i h2;lia
   ·have:k=i:=by simpa using h2
    have:=O.lt j1 i h1;lia
   ·exact O.inj j1 j2 i h1 h2
theorem ze7 {mask:Nat}(hm:mask=7\/mask=31\/mask=127)(hs:List Int)(hl:hs.length<=mask+1):∀(l done:List Int) (owner:Array (Option Nat)),hs=done++l->Own mask hs owner done.length ->
  ∃owner',l.foldl (fun (acc:Option (Array (Option Nat)×Nat)) h=>do
   let (owner,k) <- acc
   let j <- SetTable.layClean.free mask owner (W4 mask) (XJ h%(mask+1)) (XJ h)
   pure (owner.setIfInBounds j (some k),k+1)) (some (owner,done.length))=some (owner',hs.length)/\Own mask hs owner' hs.length
 | [],done,owner,e,O=>by
  rw[W9] at e;subst e;exact⟨owner,rfl,O⟩
 | h::r,done,owner,e,O=>by
  have hd:hs.getD done.length 0=h:=by
   rw[e];simp[List.getD]
  have hlen:done.length<mask+1:=by
   have:hs.length=done.length+(r.length+1):=by rw[e,X4,Xm]
   lia
  obtain⟨j,hj,O'⟩:=O.step hm hlen;rw[hd] at hj;obtain⟨owner',h1,h2⟩:=ze7 hm hs hl r (done++[h]) (owner.setIfInBounds j (some done.length)) (by rw[e,WX];rfl) (by rw[X4];exact O');refine⟨owner',?_,h2⟩;rw[X4] at h1;rw[VT];have e1:(do
   let (owner,k) <- (some (owner,done.length):Option (Array (Option Nat)×Nat))
   let j <- SetTable.layClean.free mask owner (W4 mask) (XJ h%(mask+1)) (XJ h)
   pure (owner.setIfInBounds j (some k),k+1))=some (owner.setIfInBounds j (some done.length),done.length+1):=by
   show (SetTable.layClean.free mask owner (W4 mask) (XJ h%(mask+1)) (XJ h)).bind _=_;rw[hj];rfl
  rw[e1];exact h1
theorem zn7 {mask:Nat}(hm:mask=7\/mask=31\/mask=127)(hashes:Array Int)(hl:hashes.size<=mask+1):∃owner,SetTable.layClean mask hashes=some owner/\Own mask hashes.toList owner hashes.size:=by
 obtain⟨owner,h1,h2⟩:=ze7 hm hashes.toList (by rw[X5];exact hl) hashes.toList [] _ rfl (Own.nil mask _);rw[X5] at h1 h2;refine⟨owner,?_,h2⟩;unfold SetTable.layClean;rw[<- Array.foldl_toList];exact congrArg (Option.map (·.1)) h1
def qI (mask:Nat)(owner:Array (Option Nat)):List (Nat×Nat):=(WC (mask+1)).filterMap fun j=>(owner.getD j none).map (j,·)
theorem Jr {mask:Nat}{owner:Array (Option Nat)}(sz:owner.size=mask+1){j i:Nat}:(j,i)∈qI mask owner↔owner[j]?=some (some i):=by
 unfold qI;rw[Tx];constructor
 ·rintro⟨a,ha,h⟩;have hl:a<owner.size:=by rw[sz];exact Wz.mp ha
  have e:owner[a]?=some (owner.getD a none):=by simp[Array.getD,hl]
  cases ho:owner.getD a none with
  | none =>
   rw[ho] at h;cases h
  | some b =>
   rw[ho] at h;have hb:(a,b)=(j,i):=Option.some.inj h;cases hb;rw[e,ho]
 ·intro h;have hl:j<owner.size:=by
   rcases Uu j owner.size with q | q
   ·exact q
   ·rw[WK q] at h;cases h
  have e:owner[j]?=some (owner.getD j none):=by simp[Array.getD,hl]
  refine⟨j,Wz.mpr (by rw[<- sz];exact hl),?_⟩;rw[e] at h;rw[Option.some.inj h];rfl
theorem zhq (mask:Nat)(owner:Array (Option Nat)):(qI mask owner).Pairwise fun a b=>a.1<b.1:=by
 unfold qI;rw[List.pairwise_filterMap];refine List.pairwise_lt_range.imp fun {a b} hab x hx y hy=>?_;cases h1:owner.getD a none with
 | none=>rw[h1] at hx;cases hx
 | some p =>
  cases h2:owner.getD b none with
  | none=>rw[h2] at hy;cases hy
  | some q =>
   rw[h1] at hx;rw[h2] at hy;have e1:(a,p)=x:=Option.some.inj hx;have e2:(b,q)=y:=Option.some.inj hy;rw[<- e1,<- e2];exact hab
theorem ziD {mask:Nat}{hs:List Int}{owner:Array (Option Nat)}{k:Nat}(O:Own mask hs owner k):((qI mask owner).map (·.2)).Perm (WC k):=by
 have nd:((qI mask owner).map (·.2)).Nodup:=by
  refine Wm.mpr ((zhq mask owner).imp_of_mem fun {a b} ha hb hab e=>?_);obtain⟨a1,a2⟩:=a;obtain⟨b1,b2⟩:=b;have e':a2=b2:=e;subst e';have:=O.inj a1 b1 a2 ((Jr O.sz).mp ha) ((Jr O.sz).mp hb);have hab':a1<b1:=hab;lia
 refine(W2 nd List.nodup_range).mpr fun i=>?_;rw[Wz,XQ];constructor
 ·rintro⟨⟨j,i'⟩,hm,rfl⟩;exact O.lt j _ ((Jr O.sz).mp hm)
 ·intro hi;obtain⟨j,hj,_⟩:=O.at_ i hi;exact⟨(j,i),(Jr O.sz).mpr hj,rfl⟩
theorem zl5 {mask:Nat}(hm:mask=7\/mask=31\/mask=127)(finger moves:Nat)(led plain:Bool)(hashes:Array Int)(hl:hashes.size<=mask+1):∃place order,SetTable.laid mask finger moves led plain hashes=some ({ mask:=mask,place:=place,dummies:=#[],finger:=finger,led:=led,moves:=moves,plain:=plain },order) /\
  Up place/\place.size=hashes.size/\order.size=hashes.size/\order.toList.Perm (WC hashes.size)/\(∀i,i<place.size->place.getD i 0<mask+1) /\
  ∀i,i<place.size->Reach { mask:=mask,place:=place,dummies:=#[],finger:=finger,led:=led,moves:=moves,plain:=plain } (hashes.toList.getD (order.getD i 0) 0) (place.getD i 0):=by
 obtain⟨owner,h1,O⟩:=zn7 hm hashes hl;have perm:=ziD O;have up:=zhq mask owner;have ll:(qI mask owner).length=hashes.size:=by
  have:=perm.length_eq;rw[Y1,WU] at this;exact this
 have pg:∀i (h:i<(qI mask owner).length),((qI mask owner).map (·.1)).toArray.getD i 0=((qI mask owner)[i]).1:=fun i h=>by
  simp[Array.getD,h]
 have og:∀i (h:i<(qI mask owner).length),((qI mask owner).map (·.2)).toArray.getD i 0=((qI mask owner)[i]).2:=fun i h=>by
  simp[Array.getD,h]
 refine⟨((qI mask owner).map (·.1)).toArray,((qI mask owner).map (·.2)).toArray,?_,fun i j hij hj=>?_,by simp[ll],by simp[ll],perm,fun i hi=>?_,fun i hi=>?_⟩
 ·unfold SetTable.laid;rw[h1];rfl
 ·have hj':j<(qI mask owner).length:=by simpa using hj
  rw[pg i (by lia),pg j hj'];exact Vw.mp up i j (by lia) hj' hij
 ·have hi':i<(qI mask owner).length:=by simpa using hi
  rw[pg i hi'];have hmem:=U5 hi';have:=(Jr O.sz (j:=(qI mask owner)[i].1) (i:=(qI mask owner)[i].2)).mp hmem;rw[<- O.sz];rcases Uu (qI mask owner)[i].1 owner.size with q | q
  ·exact q
  ·rw[WK q] at this;cases this
 ·have hi':i<(qI mask owner).length:=by simpa using hi
  rw[pg i hi',og i hi'];have hmem:=U5 hi';have ho:=(Jr O.sz (j:=(qI mask owner)[i].1) (i:=(qI mask owner)[i].2)).mp hmem;obtain⟨j0,a,n,b,c⟩:=O.at_ _ (O.lt _ _ ho);have ej:=O.inj _ _ _ a ho;rw[ej] at b;refine⟨n,b,fun k hk j' hj'=>?_⟩;obtain⟨o,hoo⟩:=c k hk j' hj';obtain⟨x,hx,ex⟩:=TW ((Jr O.sz).mpr hoo);refine⟨x,by simpa using hx,?_⟩;show ((qI mask owner).map (·.1)).toArray.getD x 0=j';rw[pg x hx,ex]
structure Good (t:Ww)(hs:Array Int):Prop where
 mask:t.mask=7\/t.mask=31\/t.mask=127
 sz:t.place.size=hs.size
 dum:t.dummies=#[]
 up:Up t.place
 le:∀i,i<t.place.size->t.place.getD i 0<t.mask+1
 room:t.place.size*5<t.mask*3
 reach:∀i,i<t.place.size->Reach t (hs.toList.getD i 0) (t.place.getD i 0)
theorem Good.free {t:Ww}{hs:Array Int}(G:Good t hs):∃e,e<t.mask+1/\∀i,i<t.place.size->t.place.getD i 0≠e:=by
 refine Wv fun hn=>?_;have all:∀e,e<t.mask+1->∃i,i<t.place.size/\t.place.getD i 0=e:=fun e he=>Wv fun h2=>hn ⟨e,he,fun i hi z=>h2 ⟨i,hi,z⟩⟩;have hr:=G.room;have id_:∀e,e<t.mask+1->∃i,i<t.place.size/\e<=i:=fun e=>by
  induction e with
  | zero=>exact fun h=>let ⟨i,hi,_⟩:=all 0 h;⟨i,hi,WZ _⟩
  | succ e ih =>
   intro h;obtain⟨i,hi,hei⟩:=all (e+1) h;obtain⟨i0,hi0,hei0⟩:=all e (by lia);have cnt:∀d,d<=e+1->∃i,i<t.place.size/\t.place.getD i 0=d/\d<=i:=fun d=>by
    induction d with
    | zero=>exact fun _=>let ⟨i,hi,he⟩:=all 0 (by lia);⟨i,hi,he,WZ _⟩
    | succ d ihd =>
     intro hd;obtain⟨a,ha,ea,la⟩:=ihd (by lia);obtain⟨b,hb,eb⟩:=all (d+1) (by lia);have:a<b:=by
      rcases R0 a b with q | q | q
      ·exact q
      ·subst q;lia
      ·have:=G.up b a q ha;lia
     exact⟨b,hb,eb,by lia⟩
   obtain⟨x,hx,_,lx⟩:=cnt (e+1) (XU _);exact⟨x,hx,lx⟩
 obtain⟨i,hi,le⟩:=id_ t.mask (by lia);lia
theorem Good.found {t:Ww}{hs:Array Int}(G:Good t hs)(VD:Nat->Int)(hh:∀i,i<hs.size->VD i=hs.toList.getD i 0)(nd:hs.toList.Nodup){i:Nat}(hi:i<hs.size):∃nx,t.probe VD (hs.toList.getD i 0) (t.probeStart (hs.toList.getD i 0))=some (.candidate (t.place.getD i 0) i nx):=by
 have gd:∀k (h:k<hs.size),hs.toList.getD k 0=hs.toList[k]'(by rw[X5];exact h):=fun k h=>by
  rw[Xo,XZ (by rw[X5];exact h)];rfl
 refine ze4 G.up VD (by rw[G.sz];exact hi) (hh i hi) (fun i' hi' e=>?_) (G.reach i (by rw[G.sz];exact hi));rw[G.sz] at hi';rw[hh i' hi',gd i' hi',gd i hi] at e;exact(List.getElem_inj nd).mp e
theorem Good.missed {t:Ww}{hs:Array Int}(G:Good t hs)(VD:Nat->Int)(hh:∀i,i<hs.size->VD i=hs.toList.getD i 0){h:Int}(no:h ∉ hs.toList):∃j,t.probe VD h (t.probeStart h)=some (.empty j none)/\j<t.mask+1/\(∀i,i<t.place.size->t.place.getD i 0≠j)/\Reach t h j:=by
 obtain⟨e,he,hn⟩:=G.free;have no':∀i,i<t.place.size->VD i≠h:=fun i hi z=>by
  rw[G.sz] at hi;rw[hh i hi,Xo,XZ (by rw[X5];exact hi)] at z;have z':hs.toList[i]'(by rw[X5];exact hi)=h:=z;exact no (z' ▸ U5 _)
 obtain⟨j,h1,h2,h3,h4⟩:=zdY G.up G.dum VD (h:=h) no' hn (ze6 G.mask h he);refine⟨j,h1,zdZ _ _ _ _ (Sj _ (Ti _)) j h4,fun i hi z=>?_,h3⟩;rw[<- z,Zi G.up hi] at h2;cases h2
theorem Good.put {t:Ww}{hs:Array Int}(G:Good t hs){h:Int}{j:Nat}(hj:j<t.mask+1)(he:∀i,i<t.place.size->t.place.getD i 0≠j)(R:Reach t h j)(room:(t.place.size+1)*5<t.mask*3):Good (t.put j).1 (Xf hs (t.put j).2 h):=by
 obtain⟨e2,e1,U⟩:=zjU G.up G.dum he;have b:=Zh G.up j;rw[e2,e1];have bs:Xw t.place j<=hs.size:=by rw[<- G.sz];exact b.1
 have hget:∀i,(Xf hs (Xw t.place j) h).toList.getD i 0=if i<Xw t.place j then hs.toList.getD i 0 else if i=Xw t.place j then h else hs.toList.getD (i-1) 0:=fun i=>by
  rw[Xo,Xv,zjT hs bs];split
  ·rw[Xo,Xv]
  ·split
   ·rfl
   ·rw[Xo,Xv]
 have more:∀{h':Int} {j':Nat},Reach t h' j'->Reach { t with place:=Xf t.place (Xw t.place j) j } h' j':=fun R'=>Reach.more (t:=t) (t':={ t with place:=Xf t.place (Xw t.place j) j }) rfl (zjV G.up j) R';refine⟨G.mask,?_,G.dum,U,fun i hi=>?_,?_,fun i hi=>?_⟩
 ·show (Xf t.place _ j).size=_;rw[jv _ b.1,jv _ bs,G.sz]
 ·have hi':i<t.place.size+1:=by
   have:=hi;rw[show ({ t with place:=Xf t.place (Xw t.place j) j }:Ww).place=Xf t.place (Xw t.place j) j from rfl,jv _ b.1] at this;exact this
  show (Xf t.place _ j).getD i 0<t.mask+1;rw[Zk _ b.1 _ _ hi'];split
  ·exact G.le i (by lia)
  ·split
   ·exact hj
   ·exact G.le (i-1) (by lia)
 ·show (Xf t.place _ j).size*5<t.mask*3;rw[jv _ b.1];exact room
 ·have hi':i<t.place.size+1:=by
   have:=hi;rw[show ({ t with place:=Xf t.place (Xw t.place j) j }:Ww).place=Xf t.place (Xw t.place j) j from rfl,jv _ b.1] at this;exact this
  show Reach _ _ ((Xf t.place _ j).getD i 0);rw[hget,Zk _ b.1 _ _ hi'];by_cases h1:i<Xw t.place j
  ·rw[if_pos h1,if_pos h1];exact more (G.reach i (by lia))
  ·rw[if_neg h1,if_neg h1];by_cases h2:i=Xw t.place j
   ·rw[if_pos h2,if_pos h2];exact more R
   ·rw[if_neg h2,if_neg h2];exact more (G.reach (i-1) (by lia))
theorem zgr (t:Ww)(hs:Array Int)(hn:hs.size=5\/hs.size=19):∃t' order,t.relaid hs (UB hs.size)=some (t',order)/\order.size=hs.size/\order.toList.Perm (WC hs.size)/\t'.led=t.led/\t'.plain=t.plain/\t'.place.size=hs.size/\Good t' (order.map fun i=>hs.toList.getD i 0):=by
 have key:∀mask,(mask=7\/mask=31\/mask=127)->hs.size<=mask+1->hs.size*5<mask*3->Tu (UB hs.size)-1=mask->∃t' order,t.relaid hs (UB hs.size)=some (t',order)/\order.size=hs.size/\order.toList.Perm (WC hs.size)/\t'.led=t.led/\t'.plain=t.plain/\t'.place.size=hs.size/\Good t' (order.map fun i=>hs.toList.getD i 0):=fun mask hm hl hr em=>by
  obtain⟨place,order,h1,h2,h3,h4,h5,h6,h7⟩:=zl5 hm t.finger (t.movedTo mask) t.led t.plain hs hl;refine⟨{ mask:=mask,place:=place,dummies:=#[],finger:=t.finger,led:=t.led,moves:=t.movedTo mask,plain:=t.plain },order,?_,h4,h5,rfl,rfl,h3,hm,?_,rfl,h2,h6,?_,fun i hi=>?_⟩
  ·unfold SetTable.relaid;rw[em];exact h1
  ·show place.size=_;rw[Vn,h3,h4]
  ·show place.size*5<mask*3;rw[h3];exact hr
  ·have hi':i<order.size:=by
    have:i<place.size:=hi;lia
   have e:(order.map fun i=>hs.toList.getD i 0).toList.getD i 0=hs.toList.getD (order.getD i 0) 0:=by
    rw[Xo,Xv,Array.getElem?_map,Jq hi'];rfl
   rw[e];exact h7 i hi
 rcases hn with e | e
 ·exact key 31 (.inr (.inl rfl)) (by lia) (by lia) (by rw[e];decide +kernel)
 ·exact key 127 (.inr (.inr rfl)) (by lia) (by lia) (by rw[e];decide +kernel)
end ST
namespace ST
def qv (es:Array (Int×X8))(ep:Nat)(t:Ww):Obj:={ cls:=.type "set",dict:=none,data:=.set es ep t }
def kP (p:Int×Int):List Key:=[.inl p.1,.inl p.2]
def InB (p:Int×Int):Prop:=(0<=p.1/\p.1<8)/\(0<=p.2/\p.2<8)
def hP (prog:Xn)(w:WW)(p:Int×Int):Int:=(tk2 prog w).hash (kP p)
section
variable {prog:Xn}{w:WW}{A:WM}{E:X8->X6->Prop}{s:X6}{a:Addr}{es:Array (Int×X8)}{ep:Nat}{t:Ww}
theorem zn8 {p q:Int×Int}(hp:InB p)(hq:InB q)(e:hP prog w p=hP prog w q):p=q:=by
 obtain⟨p1,p2⟩:=p;obtain⟨q1,q2⟩:=q;obtain⟨⟨a1,a2⟩,a3,a4⟩:=hp;obtain⟨⟨b1,b2⟩,b3,b4⟩:=hq;simp only at a1 a2 a3 a4 b1 b2 b3 b4;obtain⟨i,rfl⟩:∃i:Nat,p1=i:=⟨p1.toNat,by lia⟩;obtain⟨j,rfl⟩:∃i:Nat,p2=i:=⟨p2.toNat,by lia⟩;obtain⟨k,rfl⟩:∃i:Nat,q1=i:=⟨q1.toNat,by lia⟩;obtain⟨l,rfl⟩:∃i:Nat,q2=i:=⟨q2.toNat,by lia⟩;unfold hP kP at e;rw[JS,JS] at e;obtain⟨c,d⟩:=ze2 (by lia) (by lia) (by lia) (by lia) e;rw[c,d]
theorem Js {h:Heap}{x:Addr}{p:Int×Int}(h1:zx h (.ref x) p):(tk2 prog w).is h (kP p) x:=by
 obtain⟨b,o,n,t,u,e,e1,e2,e3⟩:=h1;cases e;exact⟨o,#[.int p.1 t,.int p.2 u],n,e1,e2,e3,.cons (zan p.1 t) (.cons (zan p.2 u) .nil)⟩
theorem Good.fits {hs:Array Int}(G:Good t hs):t.fits hs.size=true:=by
 have h1:=G.sz;have h2:=G.room;unfold SetTable.fits O5;rw[G.dum,h1];simp;lia
theorem Good.odd {hs:Array Int}(G:Good t hs):t.gaveWay=false:=by
 unfold SetTable.gaveWay;rcases G.mask with e | e | e<;>rw[e]<;>rfl
theorem xD {Q:Array (Int×X8)×Nat×Ww->X6->Prop}(ho:s.heap.get? a=some (qv es ep t))(G:Good t (es.map (·.1)))(q:Q (es,ep,t) s):Xg (Xk prog w) A (setState a) Q E s:=by
 refine Ta ho rfl ?_ q;have:=G.fits;rwa [Vn] at this
theorem zd0 (i:Nat)(hi:i<(es.map (·.1)).size):(es[i]?.map (·.1)).getD 0=(es.map (·.1)).toList.getD i 0:=by
 rw[Xo,Xv,Array.getElem?_map]
theorem zcE {n:Nat}{h:Int}{x:X8}{Q:SetFound->X6->Prop}(ho:s.heap.get? a=some (qv es ep t))(G:Good t (es.map (·.1)))(no:h ∉ (es.map (·.1)).toList)
  (hQ:∀j,j<t.mask+1->(∀i,i<t.place.size->t.place.getD i 0≠j)->Reach t h j->Q (.free j false) s):Xg (Xk prog w) A (RU a x h true (n+1) none) Q E s:=by
 obtain⟨j,e,h1,h2,h3⟩:=G.missed (fun i=>(es[i]?.map (·.1)).getD 0) zd0 no;rw[RU];refine ZB (xD ho G ?_);dsimp only;rw[G.odd,if_neg XV];generalize hm:t.probe _ h _=m;have em:m=some (.empty j none):=hm.symm.trans e;subst em;exact XS (hQ j h1 h2 h3)
theorem zc9 {d:Nat}{x:Addr}{p:Int×Int}{Q:Bool->X6->Prop}(hx:zx s.heap (.ref x) p)(q:Q false s):Xg (Xk prog w) A (S9 8 (.ref x)) Q E s:=by
 obtain⟨b,o,n,t,u,e,e1,e2,e3⟩:=hx;cases e;have hT:s.TypeIs (.ref x) "tuple":=⟨o,e1,e2⟩;unfold S9;refine ZB (Sr hT ?_);dsimp only;rw[if_pos (by decide)];refine ZB (XS ?_);rw[if_neg (by decide)];refine ZB (wpAny_seqItems e1 e3 ?_);dsimp only;refine ZB ?_;rw[<- Sd];refine T1 _ (fun rest r s'=>r.1=none/\s'=s/\∀v∈rest,∃i t,v=Vu i t) _ ?_ ?_ _ _ ⟨rfl,rfl,fun v hv=>?_⟩
 ·rintro v rest r s' ⟨hr,rfl,hall⟩;obtain⟨i,t,rfl⟩:=hall v XW;rw[show S9 7 (Vu i t)=pure false by unfold S9;rfl];refine ZB (XS ?_);rw[if_neg XV];exact XS ⟨rfl,rfl,fun u hu'=>hall u (XR _ hu')⟩
 ·rintro⟨r1,r2⟩ s' ⟨hr,rfl,_⟩;simp only at hr;subst hr;exact XS q
 ·simp at hv;rcases hv with rfl | rfl
  ·exact⟨_,_,rfl⟩
  ·exact⟨_,_,rfl⟩
theorem zjW {x:Addr}{p:Int×Int}{l:List X8}{Q:Bool->X6->Prop}(hx:zx s.heap (.ref x) p)(hl:∀v∈l,∃b q,v=.ref b/\zx s.heap (.ref b) q)(q:Q false s):Xg (Xk prog w) A (searchCouldBeSeen (.ref x) l) Q E s:=by
 unfold searchCouldBeSeen;refine ZB ?_;refine T1 _ (fun rest r s'=>r.1=none/\s'=s/\∀v∈rest,∃b q,v=.ref b/\zx s.heap (.ref b) q) _ ?_ ?_ _ _ ⟨rfl,rfl,hl⟩
 ·rintro v rest r s' ⟨hr,rfl,hall⟩;obtain⟨b,q',rfl,hb⟩:=hall v XW;dsimp only;split
  ·exact XS ⟨rfl,rfl,fun u hu'=>hall u (XR _ hu')⟩
  ·refine ZB ((tk2 prog w).quiet (Js hx) ?_);rw[if_neg (by decide)];refine ZB ((tk2 prog w).quiet (Js hb) ?_);rw[if_neg (by decide)];refine ZB (zc9 (d:=0) hx ?_);rw[if_neg XV];refine ZB (zc9 (d:=0) hb ?_);rw[if_neg XV];exact XS ⟨rfl,rfl,fun u hu'=>hall u (XR _ hu')⟩
 ·rintro⟨r1,r2⟩ s' ⟨hr,rfl,_⟩;simp only at hr;subst hr;exact XS q
theorem zjX {x:Addr}{p:Int×Int}{Q:Bool->X6->Prop}(hx:zx s.heap (.ref x) p)(q:Q true s):Xg (Xk prog w) A (PM 8 (.ref x)) Q E s:=by
 obtain⟨b,o,n,t,u,e,e1,e2,e3⟩:=hx;cases e;have hT:s.TypeIs (.ref x) "tuple":=⟨o,e1,e2⟩;unfold PM;refine ZB (TH hT PySem.F.slot_tuple_hash.lookup ?_);dsimp only;refine ZB (wpAny_seqItems e1 e3 ?_);dsimp only[Option.getD];refine ZB ?_;rw[<- Sd];refine T1 _ (fun rest r s'=>r.1=none/\s'=s/\∀v∈rest,∃i t,v=Vu i t) _ ?_ ?_ _ _ ⟨rfl,rfl,fun v hv=>?_⟩
 ·rintro v rest r s' ⟨hr,rfl,hall⟩;obtain⟨i,t,rfl⟩:=hall v XW;rw[show PM 7 (Vu i t)=pure true by unfold PM;rfl];refine ZB (XS ?_);rw[if_neg (by decide)];exact XS ⟨rfl,rfl,fun u hu'=>hall u (XR _ hu')⟩
 ·rintro⟨r1,r2⟩ s' ⟨hr,rfl,_⟩;simp only at hr;subst hr;exact XS q
 ·simp at hv;rcases hv with rfl | rfl
  ·exact⟨_,_,rfl⟩
  ·exact⟨_,_,rfl⟩
theorem zd1 {n:Nat}{h:Int}{x b:Addr}{p:Int×Int}{i:Nat}{Q:SetFound->X6->Prop}(hu:A.units<VP)(ho:s.heap.get? a=some (qv es ep t))(G:Good t (es.map (·.1)))(nd:(es.map (·.1)).toList.Nodup)
  (all:∀e∈es.toList,∃b q,e.2=WB b/\zx s.heap (.ref b) q) (hi:es[i]?=some (h,.ref b)) (hx:zx s.heap (.ref x) p) (hb:zx s.heap (.ref b) p)
  (hQ:Q (.there none) s):Xg (Xk prog w) A (RU a (.ref x) h true (n+1) none) Q E s:=by
 have hlt:i<(es.map (·.1)).size:=by
  rw[Vn];exact(Vx.mp hi).1
 have eh:(es.map (·.1)).toList.getD i 0=h:=by
  rw[<- zd0 i hlt,hi];rfl
 obtain⟨nx,e⟩:=G.found (fun i=>(es[i]?.map (·.1)).getD 0) zd0 nd hlt;rw[eh] at e;rw[RU];refine ZB (xD ho G ?_);dsimp only;rw[G.odd,if_neg XV];generalize hm:t.probe _ h _=m;have em:m=some (.candidate (t.place.getD i 0) i nx):=hm.symm.trans e;subst em;dsimp only;have seen:∀v∈(es.filter (·.1==h)).toList.map (·.2),∃b q,v=WB b/\zx s.heap (.ref b) q:=fun v hv=>by
  obtain⟨e,he,rfl⟩:=XQ.mp hv;rw[Pi] at he;exact all e (X9.mp he).1
 rw[hi];cases hl:t.led with
 | true =>
  rw[if_neg (by decide)];refine ZB (VU ((tk2 prog w).eqBool hu (Js hb) (Js hx) ?_));refine ZB (xD ho G ?_);dsimp only;rw[decide_eq_true rfl,if_pos (by decide)];exact XS hQ
 | false =>
  rw[if_pos (by decide)];refine ZB (zjW hx seen ?_);rw[if_neg XV];refine ZB (VU ((tk2 prog w).eqBool hu (Js hb) (Js hx) ?_));refine ZB (xD ho G ?_);dsimp only;rw[decide_eq_true rfl,if_pos (by decide)];exact XS hQ
end
end ST
namespace ST
def zbM (f:Int×Int->Int)(q:Addr×(Int×Int)):Int×X8:=(f q.2,WB q.1)
structure zcF (f:Int×Int->Int)(led:Bool)(h:Heap)(a:Addr)(ks:List (Addr×(Int×Int))):Prop where
 ex:∃es ep t,h.get? a=some (qv es ep t)/\es.toList=ks.map (zbM f)/\Good t (es.map (·.1))/\t.led=led/\t.plain=true
 nd:(ks.map (·.2)).Nodup
 cells:∀q∈ks,zx h (.ref q.1) q.2
 inb:∀q∈ks,InB q.2
theorem zx.up {h h':Heap}{x:Addr}{p:Int×Int}(H:zx h (.ref x) p){a:Addr}(hs:V2 a h h'){o:Obj}(ho:h.get? a=some o)(hc:o.cls=.type "set"):zx h' (.ref x) p:=by
 obtain⟨b,o',n,t,u,e,e1,e2,e3⟩:=H;cases e;refine⟨x,o',n,t,u,rfl,?_,e2,e3⟩;rw[hs.2 x fun z=>?_]
 ·exact e1
 ·subst z;rw[ho] at e1;cases e1;rw[hc] at e2;exact absurd e2 (by decide)
section
variable {prog:Xn}{w:WW}{A:WM}{E:X8->X6->Prop}{s:X6}{a:Addr}{es:Array (Int×X8)}{ep:Nat}{t:Ww}{ks:List (Addr×(Int×Int))}{f:Int×Int->Int}{led:Bool}
theorem ZM (he:es.toList=ks.map (zbM f)):(es.map (·.1)).toList=ks.map fun q=>f q.2:=by
 rw[U4,he,Ws];rfl
theorem ziE (inj:∀p q,InB p->InB q->f p=f q->p=q)(nd:(ks.map (·.2)).Nodup)(inb:∀q∈ks,InB q.2):(ks.map fun q=>f q.2).Nodup:=by
 rw[W7,Wm] at nd ⊢;refine nd.imp_of_mem fun {x y} hx hy h e=>h (inj _ _ (inb x hx) (inb y hy) e)
theorem ze8 {es':Array (Int×X8)}{t':Ww}{Q:Unit->X6->Prop}(ho:s.heap.get? a=some (qv es ep t))(hz:es'.size<=64)
  (q:∀h',V2 a s.heap h'->h'.get? a=some (qv es' (ep+1) t')->Q () { s with heap:=h' }):Xg (Xk prog w) A (storeSet a es' t') Q E s:=by
 refine wpAny_storeSet_of (o:=qv es ep t) ho rfl (q _ (Wt ..) ?_) (XX hz (by rw[T8];decide));have:=Wl (Obj.putSet es' t') ho (by rw[putSet_of es' t' (o:=qv es ep t) rfl];rfl);rw[putSet_of es' t' (o:=qv es ep t) rfl] at this;exact this
theorem ze9 {α:Type}(d:α)(xs:Array α):∀(l:List Nat),(∀i∈l,i<xs.size)->l.filterMap (fun i=>xs[i]?)=l.map fun i=>xs.toList.getD i d
 | [],_=>rfl
 | i::l,h=>by
  have hi:=h i XW;rw[Vh,XB,Vv hi];dsimp only;rw[ze9 d xs l fun j hj=>h j (XR _ hj)];congr 1;rw[Xo,Xv,Vv hi];rfl
theorem zd2 {n:Nat}(hn:n=5\/n=19):¬ Tu (UB n)>Xx:=by
 rw[T8];rcases hn with rfl | rfl
 ·rw[show Tu (UB 5)=32 by decide +kernel];lia
 ·rw[show Tu (UB 19)=128 by decide +kernel];lia
theorem zjY {Q:Unit->X6->Prop}(ho:s.heap.get? a=some (qv es ep t))(hf:t.fits es.size=true)(hn:es.size=5\/es.size=19)(he:es.toList=ks.map (zbM f))
  (q:∀(h':Heap) (es':Array (Int×X8)) (t':Ww) (ks':List (Addr×(Int×Int))),V2 a s.heap h'->h'.get? a=some (qv es' (ep+1) t')->es'.toList=ks'.map (zbM f)->ks'.Perm ks->Good t' (es'.map (·.1))->t'.led=t.led->t'.plain=t.plain->Q () { s with heap:=h' }):Xg (Xk prog w) A (setRelay a (UB es.size)) Q E s:=by
 have hsz:(es.map (·.1)).size=es.size:=Vn ..;obtain⟨t',order,e1,e2,e3,e4,e5,e6,e7⟩:=zgr t (es.map (·.1)) (by rw[hsz];exact hn);rw[hsz] at e1 e2 e3 e6;have hlt:∀i∈order.toList,i<es.size:=fun i hi=>Wz.mp (e3.mem_iff.mp hi);have hkl:ks.length=es.size:=by
  rw[<- X5,he,Y1]
 have d0:Addr×(Int×Int):=(0,(0,0));have el:(order.filterMap (es[·]?)).toList=(order.toList.map fun i=>ks.getD i d0).map (zbM f):=by
  rw[Array.toList_filterMap,ze9 (zbM f d0) es order.toList hlt,Ws];refine Xb fun i hi=>?_;have h1:=hlt i hi;show es.toList.getD i _=zbM f (ks.getD i d0);rw[he,Xo,XD,Xo,XZ (by lia),Ul,T2,T2]
 have es_:(order.filterMap (es[·]?)).size=es.size:=by
  rw[<- X5,el,Y1,Y1,X5,e2]
 unfold setRelay;refine ZB (Ta (o:=qv es ep t) ho rfl hf ?_);dsimp only;rw[if_neg (zd2 hn),e1];refine ZB ?_;show Xg (Xk prog w) A (do
  let es':=order.filterMap (es[·]?)
  if es'.size != es.size then PN "internal:set-table-lost-an-element"
  pure (es',t')) _ _ _
 dsimp only;rw[es_,if_neg (by simp)];refine XS ?_;dsimp only;refine ze8 ho (by rw[es_];lia) fun h' h1 h2=>q h' _ t' _ h1 h2 el ?_ ?_ e4 e5
 ·have:=e3.map fun i=>ks.getD i d0;rw[<- hkl,zgh] at this;exact this
 ·have eh:(order.filterMap (es[·]?)).map (·.1)=order.map fun i=>(es.map (·.1)).toList.getD i 0:=by
   apply Array.toList_inj.mp;rw[ZM el,U4,Ws];refine Xb fun i hi=>?_;have h1:=hlt i hi;show f (ks.getD i d0).2=_;rw[ZM he,Xo,Xo,XD,XZ (by lia),Ul,T2,T2]
  rw[eh];exact e7
theorem zjZ {n:Nat}{x:Addr}{p:Int×Int}{Q:Bool->X6->Prop}(inj:∀p q,InB p->InB q->f p=f q->p=q)(hu:A.units<VP)(S:zcF f led s.heap a ks)(hx:zx s.heap (.ref x) p)(hb:InB p)(hn:p ∉ ks.map (·.2)->ks.length<63)
  (q:∀(b:Bool) (h':Heap) (ks':List (Addr×(Int×Int))),V2 a s.heap h'->zcF f led h' a ks'->(∀c,c∈ks'.map (·.2)↔c∈ks.map (·.2)\/c=p)->(∀c∈ks',c∈ks\/c=(x,p))->Q b { s with heap:=h' }) :
  Xg (Xk prog w) A (setAddHashedIn a (.ref x) (f p) (n+1)) Q E s:=by
 obtain⟨⟨es,ep,t,ho,he,G,hl,hp⟩,nd,hc,inb⟩:=S;have hkl:ks.length=es.size:=by
  rw[<- X5,he,Y1]
 generalize hh:f p=h;rw[setAddHashedIn];refine ZB (xD ho G ?_);dsimp only;rw[show byScan (.ref x) es=false by simp[byScan,Value.scannable],if_neg XV];by_cases hm:p∈ks.map (·.2)
 ·obtain⟨⟨b,p'⟩,hk,e⟩:=XQ.mp hm;simp only at e;subst e;obtain⟨i,hi,ei⟩:=TW hk;have eg:es[i]?=some (h,.ref b):=by
   rw[<- Xv,he,XD,XZ hi,ei,<- hh];rfl
  unfold setSearch;refine ZB (zd1 (n:=99999) hu ho G (by rw[ZM he];exact ziE inj nd inb) (fun e hm'=>?_) eg hx (hc _ hk) ?_)
  ·rw[he] at hm';obtain⟨c,h1,rfl⟩:=XQ.mp hm';exact⟨c.1,c.2,rfl,hc c h1⟩
  ·refine XS (q false s.heap ks (Heap.SameBut.refl _ _) ⟨⟨es,ep,t,ho,he,G,hl,hp⟩,nd,hc,inb⟩ (fun c=>⟨.inl,fun z=>z.elim id fun z=>z ▸ hm⟩) fun c h1=>.inl h1)
 ·have hlen:=hn hm;have no:h ∉ (es.map (·.1)).toList:=fun z=>by
   rw[ZM he,<- hh] at z;obtain⟨c,h1,h2⟩:=XQ.mp z;exact hm (XQ.mpr ⟨c,h1,inj _ _ (inb c h1) hb h2⟩)
  unfold setSearch;refine ZB (zcE (n:=99999) ho G no fun j h1 h2 h3=>?_);dsimp only;refine ZB (xD ho G ?_);obtain⟨f1,f2,f3⟩:=zjU G.up G.dum h2;have hsz:t.place.size=es.size:=by rw[G.sz,Vn]
  have bs:Xw t.place j<=es.size:=by
   rw[<- hsz];exact(Zh G.up j).1
  generalize hpos:Xw t.place j=pos at f1 f2 f3 bs;have ep1:(t.put j).1.plain=true:=by rw[f2];exact hp
  have el1:(t.put j).1.led=led:=by rw[f2];exact hl
  have hks:∃ks1,ks1=ks.take pos++(x,p)::ks.drop pos:=⟨_,rfl⟩;obtain⟨ks1,hks⟩:=hks;have he1:(Xf es pos (h,WB x)).toList=ks1.map (zbM f):=by
   rw[Yj,he,hks,Xs,XB,O4,List.map_drop];simp only[zbM,hh]
  have hsz1:(Xf es pos (h,WB x)).size=es.size+1:=jv _ bs _;have pm:ks1.Perm ((x,p)::ks):=by
   rw[hks];refine List.perm_middle.trans (List.Perm.cons _ ?_);rw[WT]
  have fits1:(t.put j).1.fits (Xf es pos (h,WB x)).size=true:=by
   have hr:=G.room;have bp:pos<=t.place.size:=by rw[hsz];exact bs
   rw[hsz1,f2];unfold SetTable.fits O5;simp only[G.dum,jv _ bp,hsz];rcases G.mask with e | e | e<;>simp[e]<;>rw[hsz,e] at hr<;>lia
  have fin:∀(h':Heap) (ks':List (Addr×(Int×Int))) (es':Array (Int×X8)) (ep':Nat) (t':Ww),V2 a s.heap h'->h'.get? a=some (qv es' ep' t')->es'.toList=ks'.map (zbM f)->ks'.Perm ((x,p)::ks)->Good t' (es'.map (·.1))->t'.led=led->t'.plain=true->Q true { s with heap:=h' }:=by
   intro h' ks' es' ep' t' hs hg hel hpm hG hle hpl;have mem:∀c,c∈ks'↔c=(x,p)\/c∈ks:=fun c=>by rw[hpm.mem_iff,XF]
   refine q true h' ks' hs ⟨⟨es',ep',t',hg,hel,hG,hle,hpl⟩,?_,fun c hc'=>?_,fun c hc'=>?_⟩ (fun c=>?_) fun c hc'=>(mem c).mp hc' |>.symm
   ·rw[(hpm.map (·.2)).nodup_iff,XB,Wg];exact⟨hm,nd⟩
   ·rcases(mem c).mp hc' with rfl | z
    ·exact zx.up hx hs ho rfl
    ·exact zx.up (hc c z) hs ho rfl
   ·rcases(mem c).mp hc' with rfl | z
    ·exact hb
    ·exact inb c z
   ·rw[(hpm.map (·.2)).mem_iff,XB,XF];exact Or.comm
  have eT:t.put j=((t.put j).1,pos):=by rw[<- f1]
  have fl:(t.put j).1.tooFull=decide ((es.size+1)*5 >= t.mask*3):=by
   have bp:pos<=t.place.size:=by rw[hsz];exact bs
   rw[f2];unfold SetTable.tooFull O5;simp only[G.dum,jv _ bp,hsz];rfl
  have gd:¬ (es.size+1)*5 >= t.mask*3->Good (t.put j).1 ((Xf es pos (h,WB x)).map (·.1)):=fun hr=>by
   have:=G.put (h:=h) h1 h2 h3 (by rw[hsz];lia);rw[f1] at this;have e:(Xf es pos (h,WB x)).map (·.1)=Xf (es.map (·.1)) pos h:=by
    apply Array.toList_inj.mp;rw[U4,Yj,Yj,U4,Xs,XB,O4,List.map_drop]
   rw[e];exact this
  have hroom:=G.room;have hmask:=G.mask;rw[hsz] at hroom;dsimp only;rw[eT];dsimp only;generalize t.put j=T at ep1 el1 fits1 fl gd;obtain⟨t1,p1⟩:=T;dsimp only at ep1 el1 fits1 fl gd ⊢;rw[ep1,if_pos rfl];refine ZB (zjX hx ?_);rw[if_pos rfl];refine ZB (ze8 ho (by rw[hsz1];lia) fun h' hs hg=>?_);by_cases full:(es.size+1)*5 >= t.mask*3
  ·rw[fl,decide_eq_true full,if_pos (by decide)];rw[<- hsz1];refine ZB (zjY (s:={ s with heap:=h' }) hg fits1 (by rw[hsz1];rcases hmask with e | e | e<;>rw[e] at full hroom<;>lia) he1 fun h2' es' t' ks' hs' hg' hel hpm hG hle hpl=>?_);exact XS (fin h2' ks' es' _ t' (hs.trans hs') hg' hel (hpm.trans pm) hG (hle.trans el1) (hpl.trans ep1))
  ·rw[fl,decide_eq_false full,if_neg (by decide)];exact XS (fin h' ks1 _ _ t1 hs hg he1 pm (gd full) el1 ep1)
theorem zj0 {x:Addr}{p:Int×Int}{Q:Bool->X6->Prop}(hu:A.units<VP)(S:zcF (hP prog w) led s.heap a ks)(hx:zx s.heap (.ref x) p)(hb:InB p)(hn:p ∉ ks.map (·.2)->ks.length<63)
  (q:∀(b:Bool) (h':Heap) (ks':List (Addr×(Int×Int))),V2 a s.heap h'->zcF (hP prog w) led h' a ks'->(∀c,c∈ks'.map (·.2)↔c∈ks.map (·.2)\/c=p)->(∀c∈ks',c∈ks\/c=(x,p))->Q b { s with heap:=h',toks:=s.toks+3 }) :
  Xg (Xk prog w) A (setAdd a (.ref x)) Q E s:=by
 unfold setAdd;refine VU (ZB ((tk2 prog w).pyHash hu (Js hx) ?_));show Xg (Xk prog w) A (setAddHashed a (.ref x) (hP prog w p)) Q E { s with toks:=s.toks+3 };unfold setAddHashed;refine VU ?_;exact zjZ (n:=99999) (s:={ s with toks:=s.toks+3 }) (fun p q h1 h2 h3=>zn8 h1 h2 h3) hu S hx hb hn q
end
end ST
namespace ST
theorem zhr {α:Type}(next:Nat->Nat):∀(fuel k:Nat) (left:List α) (out:Array α),left.length=fuel->(pickOrder.go next fuel k left out).toList.Perm (out.toList++left)
 | 0,k,left,out,h=>by
  rw[Wj.mp h,W9];exact List.Perm.refl _
 | fuel+1,k,left,out,h=>by
  have hl:next k%left.length<left.length:=Sj _ (by lia)
  rw[pickOrder.go,XZ hl];dsimp only;refine(zhr next fuel (k+1) _ _ (by rw[List.length_eraseIdx_of_lt hl];lia)).trans ?_;rw[S8,WX];refine SX _ ?_;have e:left=left.take (next k%left.length)++left[next k%left.length]::left.drop (next k%left.length+1):=by
   rw[<- WA hl,WT]
  rw[List.eraseIdx_eq_take_drop_succ];have e2:=@List.perm_middle _ left[next k%left.length] (left.take (next k%left.length)) (left.drop (next k%left.length+1));rw[<- e] at e2;exact e2.symm
theorem ziF {α:Type}(next:Nat->Nat)(xs:Array α):(RJ next xs).toList.Perm xs.toList:=by
 have h:=zhr next xs.size 0 xs.toList #[] (by simp)
 rw[show (#[]:Array α).toList++xs.toList=xs.toList from rfl] at h;exact h
theorem yh:Slot "set_iterator" "__next__" "set_iterator.__next__" :=
 .of (owner:="set_iterator") (n:="__next__") (by rw[TF,UY];kernel_rfl) (by decide +kernel) (by decide +kernel) (by decide +kernel) (.inl (by decide +kernel)) (by rw[PJ];kernel_rfl)
theorem QS:OI table "set_iterator.__next__"=some UT.«set_iterator.__next__»:=entryFor_of_tree (by kernel_rfl)
theorem zbN:Manifest.owners.lookup (String.ofList ['r','o','t','a','r','e','t','i','_','t','e','s'].reverse)=some Manifest.sig_set_iterator:=by kernel_rfl
theorem zaU (a:X8):argsOk "set_iterator.__next__" ⟨[a],[]⟩:=by
 unfold argsOk;rw[signature?_of (id:="set_iterator.__next__") (n:=['_','_','t','x','e','n','_','_']) (o:=['r','o','t','a','r','e','t','i','_','t','e','s']) (by kernel_rfl) zbN];kernel_rfl
theorem zd3:OI table "set.__iter__"=some UT.«frozenset.__iter__»:=entryFor_alias (id':="frozenset.__iter__") (by kernel_rfl) rfl (by decide +kernel) (by kernel_rfl)
def zbO (slot i:Nat)(a:Addr)(n ep:Nat):Obj:={ cls:=.type "set_iterator",data:=.fields #[Ug slot,Ug i,.ref a,Ug n,Ug ep] }
def slotAt (byText:Bool)(t:Ww)(i:Nat):Nat:=if byText then 0 else if i=0 then 0 else t.place.getD (i-1) 0+1
def Zl (w:WW)(a:Addr)(ep:Nat)(es:Array (Int×X8)):Array (Int×X8):=if w.params.followText "set-order" then RJ (w.params.setOrder a ep) es else es
theorem QT (w:WW)(a:Addr)(ep:Nat)(es:Array (Int×X8)):(Zl w a ep es).toList.Perm es.toList:=by
 unfold Zl;split
 ·exact ziF _ _
 ·exact List.Perm.refl _
section
variable {prog:Xn}{w:WW}{A:WM}{E:X8->X6->Prop}{s:X6}{a:Addr}{es:Array (Int×X8)}{ep:Nat}{t:Ww}
theorem zd4 {Q:Bool->X6->Prop}(q:Q (w.params.followText "set-order") s):Xg (Xk prog w) A setsByText Q E s:=by
 unfold setsByText;exact ZB (RB (XS q))
theorem below_at {t:Ww}(U:Up t.place){i:Nat}(hi:i<=t.place.size):Xw t.place (slotAt false t i)=i:=by
 obtain⟨b1,b2,b3⟩:=Zh U (slotAt false t i);unfold slotAt at *
 simp only[Wy,if_false] at *
 by_cases h0:i=0
 ·subst h0;rw[if_pos rfl] at *
  rcases Nat.eq_zero_or_pos (Xw t.place 0) with e | e
  ·exact e
  ·have:=b2 0 e;lia
 ·rw[if_neg h0] at *
  rcases R0 (Xw t.place (t.place.getD (i-1) 0+1)) i with e | e | e
  ·have:=b3 (i-1) (by lia) (by lia);lia
  ·exact e
  ·have h1:=b2 i e;have h2:=U (i-1) i (by lia) (by lia);lia
theorem zhs {i:Nat}{Q:Option (X8×Nat)->X6->Prop}(ho:s.heap.get? a=some (qv es ep t))(G:Good t (es.map (·.1)))(hl:t.led=!w.params.followText "set-order")(hp:t.plain=true)(hi:i<=es.size)
  (q1:∀v,(Zl w a ep es)[i]?.map (·.2)=some v->Q (some (v,slotAt (w.params.followText "set-order") t (i+1))) s) (q2:i=es.size->Q none s) :
  Xg (Xk prog w) A (setNext a (slotAt (w.params.followText "set-order") t i) i ep) Q E s:=by
 have hsz:t.place.size=es.size:=by rw[G.sz,Vn]
 have hos:(Zl w a ep es).size=es.size:=by
  rw[<- X5,(QT w a ep es).length_eq,X5]
 unfold setNext;refine ZB (xD ho G ?_);dsimp only;refine ZB (zd4 ?_);cases hb:w.params.followText "set-order" with
 | true =>
  rw[if_pos rfl];rw[hb] at q1;rw[if_neg (by simp)];unfold setWalk;refine ZB (ZB (xD ho G ?_));dsimp only;refine ZB (zd4 ?_);rw[hb,if_pos rfl];refine ZB (RB (XS (XS ?_)));have eo:Zl w a ep es=RJ (w.params.setOrder a ep) es:=by
   unfold Zl;rw[hb,if_pos rfl]
  rw[eo] at q1 hos;show Q (Option.map _ (RJ (w.params.setOrder a ep) es)[i]?) s;by_cases h:i<es.size
  ·have e:(RJ (w.params.setOrder a ep) es)[i]?=some (RJ (w.params.setOrder a ep) es)[i]:=Vv (by lia);rw[e] at q1 ⊢;exact q1 _ rfl
  ·rw[WK (by lia)];exact q2 (by lia)
 | false =>
  rw[if_neg XV];rw[hb] at q1 hl;have eo:Zl w a ep es=es:=by
   unfold Zl;rw[hb,if_neg XV]
  rw[eo] at q1;split
  ·rename_i h;exact absurd h (by show ¬ ((!t.plain&&decide (es.size>1))=true);rw[hp];exact XV)
  refine ZB ?_;show Xg _ _ (if (!t.led && !es.isEmpty)=true then PN "set:maker-not-led" else pure ()) _ _ _;rw[hl,if_neg (by simp)];refine XS ?_;rw[below_at G.up (by lia)];by_cases h:i<es.size
  ·have e:es[i]?=some es[i]:=Vv h;have e2:t.place[i]?=some (t.place.getD i 0):=Jq (by lia);rw[e] at q1 ⊢;rw[e2];refine XS (q1 _ rfl)
  ·rw[WK (by lia)];exact XS (q2 (by lia))
end
end ST
namespace ST
theorem zda:Slot "set_iterator" "__iter__" "set_iterator.__iter__" :=
 .of (owner:="set_iterator") (n:="__iter__") (by rw[TF,UY];kernel_rfl) (by decide +kernel) (by decide +kernel) (by decide +kernel) (.inl (by decide +kernel)) (by rw[PJ];kernel_rfl)
theorem zgs:OI table "set_iterator.__iter__"=some UT.«dict_keyiterator.__iter__»:=entryFor_alias (id':="dict_keyiterator.__iter__") (by kernel_rfl) rfl (by decide +kernel) (by kernel_rfl)
theorem ziG (a:X8):argsOk "set_iterator.__iter__" ⟨[a],[]⟩:=by
 unfold argsOk;rw[signature?_of (id:="set_iterator.__iter__") (n:=['_','_','r','e','t','i','_','_']) (o:=['r','o','t','a','r','e','t','i','_','t','e','s']) (by kernel_rfl) zbN];kernel_rfl
section
variable {prog:Xn}{w:WW}{A:WM}{E:X8->X6->Prop}{s:X6}{a I:Addr}{es:Array (Int×X8)}{ep:Nat}{t:Ww}
theorem zgt {slot i a n ep:Nat}(x y:Nat):SM (·.setIfInBounds 1 (Ug y)) (SM (·.setIfInBounds 0 (Ug x)) (zbO slot i a n ep))=zbO x y a n ep:=rfl
theorem zl6 {i:Nat}{Q:Option X8->X6->Prop}(hI:s.heap.get? I=some (zbO (slotAt (w.params.followText "set-order") t i) i a es.size ep))(ho:s.heap.get? a=some (qv es ep t))(G:Good t (es.map (·.1)))(hl:t.led=!w.params.followText "set-order")(hp:t.plain=true)(hi:i<es.size)
  (q:∀v h',(Zl w a ep es)[i]?.map (·.2)=some v->h'.get? I=some (zbO (slotAt (w.params.followText "set-order") t (i+1)) (i+1) a es.size ep)->V2 I s.heap h'->Q (some v) { s with heap:=h' }) :
  Xg (Xk prog w) A (Sk (.ref I)) Q E s:=by
 have hT:s.TypeIs (.ref I) "set_iterator":=⟨_,hI,rfl⟩;unfold Sk;refine ZB (RW (Rv (name:=Str.ofString "__next__") hT yh (U6 yh hT QS ?_ (zaU _))));unfold UT.«set_iterator.__next__»;refine ZB (XS ?_);refine ZB (wpAny_fieldsOf hI rfl ?_);dsimp only[Ug];refine ZB (Sx (o:=qv es ep t) ho rfl ?_ ?_)
 ·have:=G.fits;rwa [Vn] at this
 rw[if_neg (by simp)];show Xg _ _ (setNext a (slotAt (w.params.followText "set-order") t i) i ep >>= _) _ _ _;refine ZB (zhs ho G hl hp (Tk hi) (fun v hv=>?_) fun z=>absurd z (by lia));dsimp only;refine ZB (PH hI rfl (by simp[zbO]) ?_);have h1:=Wl (SM (·.setIfInBounds 0 (Ug ((slotAt (w.params.followText "set-order") t (i+1):Nat):Int)))) hI rfl;refine ZB (PH h1 rfl (by simp[zbO,SM]) ?_);have h2:=Wl (SM (·.setIfInBounds 1 (Ug ((i:Int)+1)))) h1 rfl;refine XS ⟨_,rfl,XS (q v _ hv ?_ ((Wt ..).trans (Wt ..)))⟩;rw[show ((i:Int)+1)=((i+1:Nat):Int) by lia] at h2 ⊢;rw[zgt] at h2;exact h2
theorem zn9 {Q:Option X8->X6->Prop}(hh:A.handled=none)(hI:s.heap.get? I=some (zbO (slotAt (w.params.followText "set-order") t es.size) es.size a es.size ep))(ho:s.heap.get? a=some (qv es ep t))(G:Good t (es.map (·.1)))(hl:t.led=!w.params.followText "set-order")(hp:t.plain=true)
  (q:∀h',Heap.ExtBut I s.heap h'->Q none { s with heap:=h' }):Xg (Xk prog w) A (Sk (.ref I)) Q E s:=by
 have hT:s.TypeIs (.ref I) "set_iterator":=⟨_,hI,rfl⟩;unfold Sk;refine ZB (RW (Rv (name:=Str.ofString "__next__") hT yh (U6 yh hT QS ?_ (zaU _))));unfold UT.«set_iterator.__next__»;refine ZB (XS ?_);refine ZB (wpAny_fieldsOf hI rfl ?_);dsimp only[Ug];refine ZB (Sx (o:=qv es ep t) ho rfl ?_ ?_)
 ·have:=G.fits;rwa [Vn] at this
 rw[if_neg (by simp)];show Xg _ _ (setNext a (slotAt (w.params.followText "set-order") t es.size) es.size ep >>= _) _ _ _;refine ZB (zhs ho G hl hp (XU _) (fun v hv=>?_) fun _=>?_)
 ·have hos:(Zl w a ep es).size=es.size:=by
   rw[<- X5,(QT w a ep es).length_eq,X5]
  rw[WK (by lia)] at hv;cases hv
 dsimp only;refine ZB (PH hI rfl (by simp[zbO]) ?_);refine ZB ?_;simp only[newExc,newTuple];refine ZB (VN ?_ (by size_fits));refine ZB (m:=Sh _ _) (ON (a:=T9) (by first | rfl | (simp only[Sh];rfl)) ?_);refine VN ?_ (by size_fits);simp only[raiseNew];refine ZB (wpAny_handled ?_);rw[show A.in1.handled=none from hh];refine ZB (XS (wpAny_throw ?_));refine ZB (RD (T:="StopIteration") (b:=true) ⟨_,W5 _ rfl,rfl⟩ isSubtype_stop ?_);exact XS (q _ (((Wt ..).extBut.push _).push _))
theorem zl7 {slot i n:Nat}{Q:X8->X6->Prop}(hI:s.heap.get? I=some (zbO slot i a n ep))(q:Q (.ref I) s):Xg (Xk prog w) A (pyIter (.ref I)) Q E s:=by
 have hT:s.TypeIs (.ref I) "set_iterator":=⟨_,hI,rfl⟩;refine wpAny_pyIter_slot hT zda (U6 zda hT zgs ?_ (ziG _));exact XS ⟨_,rfl,"set_iterator",_,hT,yh.lookup,q⟩
theorem walks (hh:A.handled=none)(hne:a≠I)(G:Good t (es.map (·.1)))(hl:t.led=!w.params.followText "set-order")(hp:t.plain=true) :
  Walks prog w A I [I,a] [I] es.size (fun i v=>(Zl w a ep es)[i]?.map (·.2)=some v) (fun i h=>h.get? I=some (zbO (slotAt (w.params.followText "set-order") t i) i a es.size ep)/\h.get? a=some (qv es ep t)) where
 sub:=fun b hb=>by simp at hb;simp[hb]
 frame:=fun _ _ _ st hk=>⟨hk I (by simp) _ st.1,hk a (by simp) _ st.2⟩
 item:=fun i s Q E hi st hQ=>zl6 st.1 st.2 G hl hp hi fun v h' hv h1 hs=>hQ v h' s.toks hv ⟨h1,(hs.2 a hne).trans st.2⟩ fun b o hb e=>(hs.2 b fun z=>hb (by simp[z])).trans e
 done:=fun s Q E st hQ=>zn9 hh st.1 st.2 G hl hp fun h' he=>hQ h' s.toks fun b o hb e=>he b o (fun z=>hb (by simp[z])) e
 self:=fun _ _ _ _ st hQ=>zl7 st.1 hQ
theorem zfa:splitId "set.__len__"=some ("set","__len__"):=by decide +kernel
theorem zfb {Q:List X8->X6->Prop}(hh:A.handled=none)(ho:s.heap.get? a=some (qv es ep t))(G:Good t (es.map (·.1)))(hl:t.led=!w.params.followText "set-order")(hp:t.plain=true)(hn:es.size<=64)
  (q:∀vs h' tk,vs.Perm (es.toList.map (·.2))->(∀b o,s.heap.get? b=some o->h'.get? b=some o)->s.heap.objs.size<=h'.objs.size->Q vs { s with heap:=h',toks:=tk }):Xg (Xk prog w) A (collect (.ref a)) Q E s:=by
 have hlt:a<s.heap.objs.size:=XH ho;unfold collect;refine ZB (wpAny_runValue (VL PySem.F.entry_proto_collect ?_));rw[V8 PySem.F.plain_proto_collect _];show Xg _ A.in1 (newList [] >>= fun l=>R3 (.builtin "list.__iadd__" ⟨[l,.ref a],[]⟩)) _ _ s;refine ZB (VN ?_);refine XS ⟨UK Ru _,VL PySem.F.entry_list_iadd ?_⟩;rw[V8 Ru _];show Xg _ A.in1 (Sm (.ref s.heap.objs.size) (.ref a) (.ref s.heap.objs.size)) _ _ _;generalize hL:(s.heap.push { cls:=.type "list",data:=.seq ([]:List X8).toArray })=h1;have ho1:h1.get? a=some (qv es ep t):=by rw[<- hL];exact XY _ ho
 have hS1:h1.get? s.heap.objs.size=some { cls:=.type "list",data:=.seq #[] }:=by rw[<- hL];exact W5 _ rfl
 have kp1:∀b o,s.heap.get? b=some o->h1.get? b=some o:=fun b o e=>by rw[<- hL];exact XY _ e
 have z1:h1.objs.size=s.heap.objs.size+1:=by rw[<- hL];exact Vo ..
 have hT:SN { s with heap:=h1 } (.ref a) "set":=⟨_,ho1,rfl⟩;have h1':RM (.ref s.heap.objs.size) (.ref a)=false:=by
  simp[RM];exact T4 hlt
 unfold Sm;refine ZB (Sr hT ?_);rw[if_neg (by rw[h1'];decide)];have hf:t.fits es.size=true:=by
  have:=G.fits;rwa [Vn] at this
 refine ZB (wpAny_pyIter_slot hT P6 (U6 P6 hT zd3 ?_ (PySem.F.args_set_iter_1 _)));unfold UT.«frozenset.__iter__» Builtin.Frozenset.slot0 slotArgs;simp only[List.isEmpty_nil,Bool.not_true,Wy,↓reduceIte,bind_assoc,Vi,bne_self_eq_false];unfold Builtin.Frozenset.addrOf Builtin.Frozenset.sizeOf;refine ZB (XS ?_);dsimp only;refine ZB (XS ?_);refine ZB (ZB (Sx (s:={ s with heap:=h1 }) (o:=qv es ep t) ho1 rfl hf (XS ?_)));unfold setDrawn;refine ZB (ZB (Ta (s:={ s with heap:=h1 }) (o:=qv es ep t) ho1 rfl hf ?_));dsimp only;refine ZB (zd4 (XS ?_));split
 ·rename_i h;exact absurd h (by show ¬ ((!w.params.followText "set-order" && (!t.plain&&decide (es.size>1)))=true);rw[hp];simp)
 refine ZB (XS ?_);unfold setEpoch;refine ZB (ZB (Ta (s:={ s with heap:=h1 }) (o:=qv es ep t) ho1 rfl hf (XS ?_)));unfold newFields;refine ZB (VN ?_);generalize hI:h1.push { cls:=.type "set_iterator",data:=.fields (List.toArray [Ug 0,Ug 0,WB a,Ug ((es.size:Nat):Int),Ug ((ep:Nat):Int)]) }=h2;have ho2:h2.get? a=some (qv es ep t):=by rw[<- hI];exact XY _ ho1
 have hS2:h2.get? s.heap.objs.size=some { cls:=.type "list",data:=.seq #[] }:=by rw[<- hI];exact XY _ hS1
 have kp2:∀b o,s.heap.get? b=some o->h2.get? b=some o:=fun b o e=>by rw[<- hI];exact XY _ (kp1 b o e)
 have hI2:h2.get? h1.objs.size=some (zbO 0 0 a es.size ep):=by rw[<- hI];exact W5 _ rfl
 have hTI:SN { s with heap:=h2 } (.ref h1.objs.size) "set_iterator":=⟨_,hI2,rfl⟩;have hT2:SN { s with heap:=h2 } (.ref a) "set":=⟨_,ho2,rfl⟩;refine XS ⟨_,rfl,"set_iterator",_,hTI,yh.lookup,?_⟩;refine ZB (VU ?_);unfold Builtin.List.listLengthHint;refine ZB (TH hT2 PySem.F.slot_set_len.lookup ?_);dsimp only;rw[zfa];dsimp only;refine ZB (RD (b:=true) hT2 sub_set_self ?_);rw[if_neg (by decide)];show Xg _ _ (typeOf (WB a) >>= _) _ _ _;refine ZB (Sr hT2 ?_);show Xg _ _ (pure false) _ _ _;refine XS ?_;show Xg _ A.in1 (rule "list.extend.makes-room" >>= fun _=>Builtin.List.listTouch (.ref s.heap.objs.size) >>= fun _=>R3 (.builtin "list.extend.loop" ⟨[.ref s.heap.objs.size,.ref h1.objs.size,.ref s.heap.objs.size],[]⟩)) _ _ _;refine ZB (U2 (ZB ?_));show Xg _ A.in1 (updateSeq s.heap.objs.size (·.push .none) >>= fun _=>updateSeq s.heap.objs.size (·.pop)) _ _ _;refine ZB (wpAny_updateSeq hS2 rfl ?_);have hS3:=Wl (Vj (·.push T9)) hS2 rfl;refine wpAny_updateSeq hS3 rfl ?_;have hS4:=Wl (Vj (·.pop)) hS3 rfl;have oth:∀b o,b≠s.heap.objs.size->h2.get? b=some o->((h2.update s.heap.objs.size (Vj (·.push T9))).update s.heap.objs.size (Vj (·.pop))).get? b=some o :=
  fun b o hb e=>(Uq _ _ (Vd hb)).trans ((Uq _ _ (Vd hb)).trans e)
 generalize (h2.update s.heap.objs.size (Vj (·.push T9))).update s.heap.objs.size (Vj (·.pop))=h4 at hS4 oth;have hne:a≠h1.objs.size:=by
  rw[z1];exact Xi (WJ hlt)
 have hSf:s.heap.objs.size ∉ [h1.objs.size,a]:=by
  rw[z1];simp only[XF,RE,or_false,not_or];exact⟨Xi (RG _),T4 hlt⟩
 have sl0:slotAt (w.params.followText "set-order") t 0=0:=by
  unfold slotAt;split<;>rfl
 have hos:(Zl w a ep es).size=es.size:=by
  rw[<- X5,(QT w a ep es).length_eq,X5]
 refine XS ⟨UK PySem.F.plain_extend_loop _,codeAny_extend_loopS ((walks (A:=A.in1) (prog:=prog) (ep:=ep) hh hne G hl hp).toS) (XX hn (by rw[T8];decide)) _ hSf _ es.size 0 _ _ _ rfl (WZ _)
  ⟨by rw[sl0];exact oth _ _ (by rw[z1];exact Vs _) hI2,oth _ _ (Xi hlt) ho2⟩ hS4 (ItemsOf.nil _) fun s' acc' c' hm hS' hacc=>?_⟩
 show Xg _ A (load s.heap.objs.size >>= _) _ _ s';refine ZB (wpAny_load hS' ?_);obtain⟨h',g',d',tk',os'⟩:=s';have eg:g'=s.gens:=hm.gens;have ed:d'=s.drawn:=hm.drawn;have eo:os'=s.os:=hm.os;subst eg;subst ed;subst eo;refine XS (q _ _ _ ?_ (fun b o e=>?_) (Tk (XH hS')))
 ·have e:acc'.toList=(Zl w a ep es).toList.map (·.2):=by
   refine S7 fun i=>?_;rw[Xv,XD,Xv];by_cases hi:i<es.size
   ·have hi':i<acc'.size:=by rw[hacc.1];exact hi
    have e1:acc'[i]?=some acc'[i]:=Vv hi';rw[e1];exact(hacc.2 i _ e1).symm
   ·rw[WK (by rw[hacc.1];lia),WK (by lia)];rfl
  rw[e];exact(QT w a ep es).map _
 ·have hb:b<s.heap.objs.size:=XH e;refine hm.heap b o (fun z=>?_) (oth b o (Xi hb) (kp2 b o e));rcases XF.mp z with z | z
  ·exact Wb _ (z ▸ hb)
  ·have z':b=h1.objs.size:=by simpa using z
   rw[z',z1] at hb;exact absurd hb (Nat.not_lt.mpr (V4 _))
end
end ST
open PySem PySem.Spec PyProof.Rows PySem.W
namespace ST
def zfc (prog:Xn)(w:WW)(d:Addr)(ks:List (Addr×(Int×Int))):HO:=.ext fun h=>∃es ep t,h.get? d=some (qv es ep t)/\es.toList=ks.map (zbM (hP prog w))/\Good t (es.map (·.1))/\t.led=(!w.params.followText "set-order")/\t.plain=true
section
variable {prog:Xn}{w:WW}{A:WM}{R:Result->X6->Prop}{I:Addr}{fp wr:List Addr}{G:Array SJ->Array SJ->Prop}{n:Nat}{P:Nat->X8->Prop}{St:Nat->X6->Prop}{led:Bool}
theorem zj1 {h0:Heap}(W:WalksS prog w A.in1 I fp wr G n P St)(D:Addr)(hDf:D ∉ fp)(hD0:h0.get? D=none)(hw0:∀b∈wr,h0.get? b=none)(ps:List (Int×Int))(hlen:ps.length=n)(hu:A.units+1<VP)
  (T:Addr->Int×Int->Prop) (hT:∀x p,T x p->zx h0 (.ref x) p) (hP':∀i v,P i v->∃x p,v=.ref x/\ps[i]?=some p/\T x p) (hb:∀p∈ps,InB p) (few:∀l:List (Int×Int),l.Nodup->(∀c∈l,c∈ps)->l.length<=63) :
  ∀(k i:Nat) (s:X6) (ks:List (Addr×(Int×Int))),n-i=k->i<=n->St i s->(∀b o,h0.get? b=some o->s.heap.get? b=some o)->zcF (hP prog w) led s.heap D ks->(∀c,c∈ks.map (·.2)↔c∈ps.take i)->(∀q∈ks,T q.1 q.2) ->
   (∀s' ks',Moved (D::wr) G s s'->zcF (hP prog w) led s'.heap D ks'->(∀c,c∈ks'.map (·.2)↔c∈ps)->(∀q∈ks',T q.1 q.2)->R (.ok (.ret .none)) s') ->
   To (Xk prog w) A (.builtin "set.update.loop" ⟨[.ref D,.ref I],[]⟩) R s:=by
 have hDw:D ∉ wr:=fun h=>hDf (W.sub _ h);have more:∀b∈wr,b∈D::wr:=fun b hb=>XR _ hb;have pair_up:∀{h:Heap} {x:Addr} {p:Int×Int},(∀b o,h0.get? b=some o->h.get? b=some o)->T x p->zx h (.ref x) p:=fun kp hx=>by
  obtain⟨b,o,m,t,u,e,e1,e2,e3⟩:=hT _ _ hx;exact⟨b,o,m,t,u,e,kp _ _ e1,e2,e3⟩
 have keep_to:∀{s s':X6},Moved wr G s s'->(∀b o,h0.get? b=some o->s.heap.get? b=some o)->∀b o,h0.get? b=some o->s'.heap.get? b=some o:=fun hm kp b o e =>
  hm.heap b o (fun hb=>by
   rw[hw0 b hb] at e;cases e) (kp b o e)
 have set_to:∀{s s':X6} {ks:List (Addr×(Int×Int))},Moved wr G s s'->(∀b o,h0.get? b=some o->s'.heap.get? b=some o)->(∀q∈ks,T q.1 q.2)->zcF (hP prog w) led s.heap D ks->zcF (hP prog w) led s'.heap D ks :=
  fun hm kp hk ⟨⟨es,ep,t,e1,e2⟩,e3,_,e5⟩=>⟨⟨es,ep,t,hm.heap D _ hDw e1,e2⟩,e3,fun q hq=>pair_up kp (hk q hq),e5⟩
 intro k;induction k with
 | zero =>
  intro i s ks hk hi hst kp hS hm' hTk hR;have hin:i=n:=by lia
  subst hin;refine VL TQ ?_;rw[V8 Ve _];show Xg _ A.in1 (Sk (.ref I) >>= _) _ _ s;refine ZB (W.done s _ _ hst fun s' hm=>?_);refine XS (hR s' ks (hm.mono more) (set_to hm (keep_to hm kp) hTk hS) (fun c=>?_) hTk);rw[hm' c,<- hlen,XA]
 | succ k ih =>
  intro i s ks hk hi hst kp hS hm' hTk hR;have hlt:i<n:=by lia
  refine VL TQ ?_;rw[V8 Ve _];show Xg _ A.in1 (Sk (.ref I) >>= _) _ _ s;refine ZB (W.item i s _ _ hlt hst fun v s' hPv hst' hm=>?_);obtain⟨x,p,rfl,hq,hx⟩:=hP' i v hPv;have kp':=keep_to hm kp;have hS':=set_to hm kp' hTk hS;have hpm:p∈ps:=X7 hq;have tk:ps.take (i+1)=ps.take i++[p]:=by
   rw[Xc,hq];rfl
  refine ZB (VU (zj0 (show A.in1.units<VP from hu) hS' (pair_up kp' hx) (hb p hpm) (fun hno=>?_) fun b h' ks' hs' hS2 hmem zpB=>?_))
  ·have:=few (p::ks.map (·.2)) (Wg.mpr ⟨hno,hS'.nd⟩) fun c hc=>by
    rcases XF.mp hc with rfl | hc
    ·exact hpm
    ·exact V9 ((hm' c).mp hc)
   rw[Xm,Y1] at this;lia
  have kp2:∀b o,h0.get? b=some o->h'.get? b=some o:=fun b o e=>by
   rw[hs'.2 b (fun z=>by
    rw[z,hD0] at e;cases e)]
   exact kp' b o e
  refine XS ⟨UK Ve _,?_⟩;refine ih (i+1) _ ks' (by lia) hlt (W.frame _ s' _ _ hst' (U7 _ _) fun b hb o e=>?_) kp2 hS2 (fun c=>?_) (fun q hq'=>?_) fun s'' ks'' hm'' hS'' hc'' hT''=>?_
  ·rw[hs'.2 b (fun z=>hDf (by rw[<- z];exact hb))];exact e
  ·rw[hmem c,hm' c,tk,XO,VH]
  ·rcases zpB q hq' with z | z
   ·exact hTk q z
   ·rw[z];exact hx
  ·refine hR s'' ks'' (Moved.trans W.gtrans ((hm.mono more).then_heap (U7 _ _) fun b o hb e=>?_) hm'') hS'' hc'' hT'';rw[hs'.2 b (fun z=>hb (by rw[z];exact XW))];exact e
end
section
variable {prog:Xn}{w:WW}{A:WM}{E:X8->X6->Prop}{s:X6}
theorem zl8 (a:X8){Q₁:X8->X6->Prop}(h:Q₁ (.ref s.heap.objs.size) { s with heap:=s.heap.push (qv #[] 0 (.fresh 0 0 (!w.params.followText "set-order"))) }) :
  To (Xk prog w) A (.call (.builtin "set.__new__") ⟨[.type "set",a],[]⟩) (wants Q₁ E) s:=by
 refine codeAny_of_tree ?_;show Xg _ A.in1 (do checkBuiltinCall "set.__new__" ⟨[.type "set",a],[]⟩;R3 (.builtin "set.__new__" ⟨[.type "set",a],[]⟩)) _ _ s;refine ZB (ON (PySem.F.newCall_set_1 a) (XS ⟨UK P1 _,VL PySem.F.entry_set_new ?_⟩));rw[V8 P1 _];unfold UT.«set.__new__» Builtin.Frozenset.newClass;have hsub:=sub_set_self;obtain⟨hp,g,d,tk,os⟩:=s;dsimp only;wp_walk;refine RB (XS ?_);dsimp only;simp only[newObj];refine ZB (wpAny_alloc (XS ?_));exact XS h
theorem zgu (led:Bool):Good (.fresh 0 0 led) #[]:=⟨.inl rfl,rfl,rfl,fun i j _ h=>absurd h (by simp[SetTable.fresh]),fun i h=>absurd h (by simp[SetTable.fresh]),by simp[SetTable.fresh],fun i h=>absurd h (by simp[SetTable.fresh])⟩
end
end ST
namespace ST
section
variable {prog:Xn}{w:WW}{A:WM}{E:X8->X6->Prop}{s:X6}
set_option maxHeartbeats 8000000 in
theorem zj2 {l:Addr}{its:Array X8}{ps:List (Int×Int)}{T:Addr->Int×Int->Prop}{Q:X8->X6->Prop}(hh:A.handled=none)(hu:A.units+64<VP)(hl:s.heap.IsList l its)(hlen:ps.length=its.size)
  (hT:∀x p,T x p->zx s.heap (.ref x) p) (hP':∀(i:Nat) (v:X8),its[i]?=some v->∃x p,v=WB x/\ps[i]?=some p/\T x p) (hb:∀p∈ps,InB p) (few:∀l:List (Int×Int),l.Nodup->(∀c∈l,c∈ps)->l.length<=63)
  (h:∀(h':Heap) (tk:Nat) (ks:List (Addr×(Int×Int))),(∀b o,s.heap.get? b=some o->h'.get? b=some o)->zcF (hP prog w) (!w.params.followText "set-order") h' s.heap.objs.size ks->(∀c,c∈ks.map (·.2)↔c∈ps)->(∀q∈ks,T q.1 q.2)->Q (.ref s.heap.objs.size) { s with heap:=h',toks:=tk }) :
  Xg (Xk prog w) A (call (.type "set") [.ref l]) Q E s:=by
 obtain⟨c,tl,hmro⟩:=PySem.F.called_set.mro;have hmade:=PySem.F.called_set.made;have hsub:=PySem.F.called_set.sub;refine wpAny_call (codeAny_of_tree ?_);show Xg _ _ (callAny (.type "set") _) _ _ _;refine XS ⟨Code.quiet_builtin _ (by decide +kernel),VL PySem.F.entry_type_call ?_⟩;rw[Around.under_plain (weight_type_call_type "set" [.ref l] []) rfl];have h1:=PySem.F.called_set.notType;have h2:=PySem.F.called_set.canCreate;have hct:=PySem.F.typeCall_set_1 (.ref l);repeat (any_goals (first | assumption | wp_step))
 refine Su (zl8 (.ref l) (E:=E) (Q₁:=fun obj s₁=>obj=.ref s.heap.objs.size/\s₁={ s with heap:=s.heap.push (qv #[] 0 (.fresh 0 0 (!w.params.followText "set-order"))) }) ⟨rfl,rfl⟩) fun r s₁ hr=>?_;cases r with
 | error e=>exact hr
 | ok fl =>
  cases fl with
  | ret obj =>
   obtain⟨rfl,rfl⟩:=hr;generalize hled:(!w.params.followText "set-order")=led at h ⊢;have hS:(s.heap.push (qv #[] 0 (.fresh 0 0 led))).get? s.heap.objs.size=some (qv #[] 0 (.fresh 0 0 led)):=W5 _ rfl;have hTy:SN { s with heap:=s.heap.push (qv #[] 0 (.fresh 0 0 led)) } (.ref s.heap.objs.size) "set":=⟨_,hS,rfl⟩;have hli:=PySem.F.called_set.init.lookup;have hbi:=PySem.F.called_set.init.bind (.ref s.heap.objs.size);repeat (any_goals (first | assumption | wp_step))
   refine Su (Py (R:=wants (fun r s₂=>r=.none/\∃h' tk ks,s₂={ s with heap:=h',toks:=tk }/\zcF (hP prog w) led h' s.heap.objs.size ks/\(∀c,c∈ks.map (·.2)↔c∈ps)/\(∀q∈ks,T q.1 q.2) /\
     (∀b o,s.heap.get? b=some o->h'.get? b=some o)) E) PySem.F.called_set.init.plain PySem.F.entry_set_init (check_set_init_1 hTy ?_)) fun r₂ s₂ hr₂=>?_
   ·obtain⟨ol,hol,hcl,nl,hdl⟩:=hl;obtain⟨ocls,odict,odata,oslots⟩:=ol;simp only at hcl hdl;subst hcl;subst hdl;have hol':(s.heap.push (qv #[] 0 (.fresh 0 0 led))).get? l=some { cls:=.type "list",dict:=odict,data:=.seq its nl,slots:=oslots }:=XY _ hol;have hsls:=PySem.F.sub_list_set;have hslf:=PySem.F.sub_list_frozenset;have hne:(Value.type "list" == Value.type "dict")=false:=by decide
    have hl1:(s.heap.push (qv #[] 0 (.fresh 0 0 led))).IsList l its:=⟨_,hol',rfl,nl,rfl⟩;unfold UT.«set.__init__» noKeywords Builtin.Frozenset.updateFrom;generalize hG:s.heap.push (qv #[] 0 (.fresh 0 0 led))=G at hS hTy hol' hl1 ⊢;unfold qv at hS;generalize hPI:pyIter=PI;wp_walk;subst hPI;subst hG;refine Te hl1 ?_;refine ZB (wpAny_runValue ?_);have hlS:l<s.heap.objs.size:=XH hol;have zS:(s.heap.push (qv #[] 0 (.fresh 0 0 led))).objs.size=s.heap.objs.size+1:=Vo ..;have hneI:l≠(s.heap.push (qv #[] 0 (.fresh 0 0 led))).objs.size:=by
     rw[zS];exact Xi (WJ hlS)
    have hSf:s.heap.objs.size ∉ [(s.heap.push (qv #[] 0 (.fresh 0 0 led))).objs.size,l]:=by
     rw[zS];simp only[XF,RE,or_false,not_or];exact⟨Xi (RG _),T4 hlS⟩
    refine zj1 (h0:=s.heap) (led:=led) ((Walks.list (by simp[hh]) (s.heap.push (qv #[] 0 (.fresh 0 0 led))).objs.size l hneI its).toS) s.heap.objs.size hSf (UN (XU _)) (fun b hb=>?_) ps hlen (by show A.units+1+1+1<VP;lia) T hT hP' hb few (its.size-0) 0 _ [] rfl (WZ _)
     ⟨⟨_,W5 _ rfl,rfl,rfl⟩,(hl1.push _)⟩ (fun b o z=>XY _ (XY _ z)) ⟨⟨#[],0,.fresh 0 0 led,XY _ hS,rfl,(by rw[Array.map_empty];exact zgu led),rfl,rfl⟩,VA,(fun q z=>nomatch z),(fun q z=>nomatch z)⟩ (fun c=>by simp) (fun q z=>nomatch z) ?_
    ·have e:b=(s.heap.push (qv #[] 0 (.fresh 0 0 led))).objs.size:=by simpa using hb
     rw[e,zS];exact UN (V4 _)
    ·intro s' ks hm hS' hm' hT';obtain⟨h',g',d',tk',os'⟩:=s';have eg:g'=s.gens:=hm.gens;have ed:d'=s.drawn:=hm.drawn;have eo:os'=s.os:=hm.os;subst eg;subst ed;subst eo;show Xg _ _ _ _ _ _;refine XS ?_;show Xg _ _ (ret T9) _ _ _;refine XS ⟨rfl,h',tk',ks,rfl,hS',hm',hT',fun b o e=>?_⟩;have lt:=XH e;refine hm.heap b o (fun z=>?_) (XY _ (XY _ e));rcases XF.mp z with z | z
     ·exact Wb _ (z ▸ lt)
     ·have z':b=(s.heap.push (qv #[] 0 (.fresh 0 0 led))).objs.size:=by simpa using z
      rw[z',zS] at lt;exact absurd lt (Nat.not_lt.mpr (V4 _))
   ·cases r₂ with
    | error e=>exact hr₂
    | ok fl₂ =>
     cases fl₂ with
     | ret r =>
      obtain⟨rfl,h',tk,ks,rfl,hS',hm',hT',hk'⟩:=hr₂;repeat (any_goals (first | assumption | wp_step))
      exact h _ _ _ hk' hS' hm' hT'
     | _=>exact hr₂.elim
  | _=>exact hr.elim
end
end ST
namespace ST
theorem zbP {α β:Type}(f:α->β){l l':List β}(h:l.Perm l'):∀ks:List α,l'=ks.map f->∃js:List α,js.Perm ks/\l=js.map f:=by
 induction h with
 | nil=>exact fun ks e=>⟨ks,List.Perm.refl _,e⟩
 | cons x h ih =>
  intro ks e;cases ks with
  | nil=>simp at e
  | cons k ks =>
   rw[XB] at e;injection e with e1 e2
   obtain⟨js,h1,h2⟩:=ih ks e2;exact⟨k::js,h1.cons k,by rw[XB,e1,h2]⟩
 | swap x y l =>
  intro ks e;match ks,e with
  | [],e=>simp at e
  | [k],e=>simp at e
  | k1::k2::ks,e =>
   rw[XB,XB] at e;injection e with e1 e2
   injection e2 with e2 e3
   exact⟨k2::k1::ks,List.Perm.swap k1 k2 ks,by rw[XB,XB,e1,e2,e3]⟩
 | trans h1 h2 ih1 ih2 =>
  intro ks e;obtain⟨js,a,b⟩:=ih2 ks e;obtain⟨is,c,d⟩:=ih1 js b;exact⟨is,c.trans a,d⟩
section
variable {X:Cx}
theorem ziH (hu:X.A.units+64<VP)(hh:X.A.handled=none):jR X (.type "set") (fun xs H Q=>∃l us ps,xs=[.ref l]/\SqL X.K H l us/\yI H us ps/\(∀p∈ps,InB p)/\(∀l:List (Int×Int),l.Nodup->(∀c∈l,c∈ps)->l.length<=63) /\
  ∀d ks,H d=none->(∀q∈ks,H q.1=some (.tup [.int q.2.1,.int q.2.2]))->(ks.map (·.2)).Nodup->(∀c,c∈ks.map (·.2)↔c∈ps)->Q (.ref d) (upd H d (zfc X.prog X.w d ks))):=by
 intro pins s σ H xs us' Q I r h;obtain⟨l,us,ps,rfl,hq,ht,hb,few,q⟩:=h;obtain⟨u,rfl,ru⟩:=vals1 r;cases ru;obtain⟨its,rv,pl,hz⟩:=I.list hq;have hp:=yI.pairs I ht rv;have hlp:its.length=ps.length:=Paired.length hp;have tw:∀{us:List V} {ps:List (Int×Int)} {its:List X8},yI H us ps->Vals us its->∀(i:Nat) (v:X8),its[i]?=some v->∃x p,v=WB x/\ps[i]?=some p/\H x=some (.tup [.int p.1,.int p.2]):=by
  intro us ps its h1;induction h1 generalizing its with
  | nil =>
   intro r i v e;cases r;simp at e
  | cons a t ih =>
   intro r i v e;obtain⟨x,rfl,hx⟩:=a;cases r with
   | cons r1 r2 =>
    cases r1;cases i with
    | zero =>
     simp at e;exact⟨x,_,e.symm,rfl,hx⟩
    | succ i =>
     obtain⟨y,p,h1,h2,h3⟩:=ih r2 i v (by simpa using e);exact⟨y,p,h1,by simpa using h2,h3⟩
 refine zj2 (T:=fun x p=>H x=some (.tup [.int p.1,.int p.2])) hh hu pl.isList (by simp[hlp]) (fun x p hx=>?_) (fun i v e=>tw ht rv i v (by simpa using e)) hb few fun h' tk ks kk hS hm hT=>?_
 ·obtain⟨items,rv',tp,_⟩:=I.tuple (SqT.of hx);obtain⟨u1,u2,rfl,⟨t1,rfl⟩,⟨t2,rfl⟩⟩:=vals2 rv';obtain⟨ob,e1,c1,n,d1⟩:=tp;exact⟨x,ob,n,t1,t2,rfl,e1,c1,d1⟩
 ·have hD:H s.heap.objs.size=none:=I.hok.fresh (XU _);obtain⟨es,ep,t,ho,rest⟩:=hS.ex;refine⟨.ref s.heap.objs.size,upd H s.heap.objs.size (zfc X.prog X.w s.heap.objs.size ks),I.laid (t':=tk) kk (XU _) ⟨⟨es,ep,t,ho,rest⟩,⟨_,ho⟩,fun h1 h2 ⟨es,ep,t,ho,rest⟩ k=>⟨es,ep,t,k _ ho,rest⟩⟩,rfl,q _ _ hD hT hS.nd hm⟩
end
end ST
namespace GS
section
variable {prog:Xn}{w:WW}{A:WM}{E:X8->X6->Prop}{s:X6}{rk:Xd->Int}{κ:Ub}{a0:Array Xd}
def Rk (rk:Xd->Int)(xs:Array Xd)(i:Nat):Int:=match xs[i]? with
 | some p=>rk p
 | none=>0
theorem Jt {xs ys:Array Xd}{i j:Nat}(h:xs[i]?=ys[j]?):Rk rk xs i=Rk rk ys j:=by
 unfold Rk;rw[h]
def Up (rk:Xd->Int)(xs:Array Xd)(lo hi:Nat):Prop:=∀i j,lo<=i->i<=j->j<hi->Rk rk xs i<=Rk rk xs j
def Tells (prog:Xn)(w:WW)(A:WM)(s:X6)(κ:Ub)(rk:Xd->Int)(a0:Array Xd):Prop :=
 ∀x∈a0.toList,∀y∈a0.toList,∀C:Bool->X6->Prop,C (decide (rk x<rk y)) s->Xg (Xk prog w) A (keyLt' κ x.1 y.1) C (fun _ _=>False) s
structure Ok (κ:Ub)(a0:Array Xd)(st:WS):Prop where
 perm:(Xp st).Perm a0
 kind:kindOf st=κ
 good:Tl st=none
theorem Ok.size {st:WS}(h:Ok κ a0 st):(Xp st).size=a0.size:=h.perm.size_eq
theorem Ok.at {st:WS}(h:Ok κ a0 st){i:Nat}(hi:i<a0.size):∃x,(Xp st)[i]?=some x/\x∈a0.toList/\Rk rk (Xp st) i=rk x:=by
 have hi':i<(Xp st).size:=by rw[h.size];exact hi
 have e:(Xp st)[i]?=some (Xp st)[i]:=getElem?_pos _ i hi';refine⟨(Xp st)[i],e,(UZ.mp h.perm).mem_iff.mp (by simp),?_⟩;unfold Rk;rw[e]
theorem zj3 {st:WS}{x y:Xd}{Q:Option Bool->WS->Prop}(T:Tells prog w A s κ rk a0)(hk:kindOf st=κ)(hx:x∈a0.toList)(hy:y∈a0.toList)(h:Q (some (decide (rk x<rk y))) st):wpS (Xk prog w) A E s (lt' x y) Q st:=by
 rw[lt'_eq];refine XI (SQ ?_);rw[hk];refine XI (RL (RW (Wi (T x hx y hy (fun b s'=>s'=s/\b=decide (rk x<rk y)) ⟨rfl,rfl⟩) (fun b s' hb=>⟨hb.1,?_⟩) fun _ _ hF=>hF.elim)));rw[hb.2];exact Xu h
theorem qR {st:WS}{xs:Array Xd}{i:Nat}{x:Xd}{Q:Xd->WS->Prop}(e:xs[i]?=some x)(h:Q x st):wpS (Xk prog w) A E s (elem' xs i) Q st:=by
 rw[elem'_eq,e];exact Xu h
theorem zbQ {st:WS}{i j:Nat}{Q:Option Bool->WS->Prop}(T:Tells prog w A s κ rk a0)(O:Ok κ a0 st)(hi:i<a0.size)(hj:j<a0.size)(h:Q (some (decide (Rk rk (Xp st) i<Rk rk (Xp st) j))) st):wpS (Xk prog w) A E s (ltAt' i j) Q st:=by
 obtain⟨x,e1,m1,r1⟩:=O.at (rk:=rk) hi;obtain⟨y,e2,m2,r2⟩:=O.at (rk:=rk) hj;rw[r1,r2] at h;rw[ltAt'_eq];refine XI (SQ ?_);exact XI (qR e1 (XI (qR e2 (zj3 T O.kind m1 m2 h))))
structure Step (κ:Ub)(a0:Array Xd)(lo:Nat)(st st':WS):Prop where
 ok:Ok κ a0 st'
 pend:WR st'=WR st
 low:∀i:Nat,i<lo->(Xp st')[i]?=(Xp st)[i]?
theorem Step.refl {lo:Nat}{st:WS}(O:Ok κ a0 st):Step κ a0 lo st st:=⟨O,rfl,fun _ _=>rfl⟩
theorem zau {xs:Array Xd}{i j:Nat}(hj:j<=xs.size)(k:Nat):Rk rk (mirror xs i j ((j-i)/2)) k=if i<=k/\k<j then Rk rk xs (i+j-1-k) else Rk rk xs k:=by
 have e:=Pf (i:=i) hj k;by_cases h1:i<=k/\k<j
 ·rw[if_pos h1] at e ⊢;exact Jt e
 ·rw[if_neg h1] at e ⊢;exact Jt e
theorem jI {xs:Array Xd}{i j:Nat}(hj:j<=xs.size)(heq:∀k,i<=k->k<j->Rk rk xs k=Rk rk xs (j-1))(k:Nat):Rk rk (mirror xs i j ((j-i)/2)) k=Rk rk xs k:=by
 rw[zau hj];split
 ·rw[heq _ (by lia) (by lia),heq k (by lia) (by lia)]
 ·rfl
theorem Step.mirror {lo i j:Nat}{st st':WS}(x:Step κ a0 lo st st')(hi:lo<=i)(hj:j<=a0.size):Step κ a0 lo st (setArr st' (mirror (Xp st') i j ((j-i)/2))):=by
 refine⟨⟨(mirror_perm _ _ _ _).trans x.ok.perm,x.ok.kind,x.ok.good⟩,x.pend,fun k hk=>?_⟩;show (PyProof.Rows.mirror (Xp st') i j ((j-i)/2))[k]?=_;rw[Pf (by rw[x.ok.size];exact hj),if_neg (by lia)];exact x.low k hk
theorem zht {st:WS}{i j:Nat}{Q:Unit->WS->Prop}(h:Q () (setArr st (mirror (Xp st) i j ((j-i)/2)))):wpS (Xk prog w) A E s (SL i j) Q st:=by
 rw[reverseSlice'_eq];exact Tz h
def up1 (lo a nrem:Nat):StateT WS Sem AscSt :=
 forIn [a:nrem] ((none,a):AscSt) fun _ c=>do
  let x <- ltAt' (lo+c.snd) (lo+c.snd-1)
  match x with
  | some b=>if b=true then pure (ForInStep.done (none,c.snd)) else pure (V5 (none,c.snd+1))
  | _=>pure (ForInStep.done (some none,c.snd))
def zj4 (lo n nrem:Nat):StateT WS Sem (Option Nat):=do
 SL lo (lo+n)
 let c <- up1 lo n nrem
 match c.fst with
 | some r=>pure r
 | none=>pure (some c.snd)
def zhu (lo n nrem:Nat):StateT WS Sem DescSt :=
 forIn [n:nrem] ((none,n,0):DescSt) fun _ c=>do
  let x <- ltAt' (lo+c.snd.fst) (lo+c.snd.fst-1)
  match x with
  | some b =>
   if b=true then
    if c.snd.snd>0 then do
     SL (lo+c.snd.fst-(c.snd.snd+1)) (lo+c.snd.fst)
     pure (V5 (none,c.snd.fst+1,0))
    else pure (V5 (none,c.snd.fst+1,0))
   else do
    let x <- ltAt' (lo+c.snd.fst-1) (lo+c.snd.fst)
    match x with
    | some b =>
     if b=true then pure (ForInStep.done (none,c.snd.fst,c.snd.snd))
     else pure (V5 (none,c.snd.fst+1,c.snd.snd+1))
    | _=>pure (ForInStep.done (some none,c.snd.fst,c.snd.snd))
  | _=>pure (ForInStep.done (some none,c.snd.fst,c.snd.snd))
def part2 (lo n nrem:Nat):StateT WS Sem (Option Nat):=do
 liftM (rule "list.sort.descending-run")
 let c <- zhu lo (n+1) nrem
 match c.fst with
 | some r=>pure r
 | none =>
  if c.snd.snd>0 then do
   SL (lo+c.snd.fst-(c.snd.snd+1)) (lo+c.snd.fst)
   zj4 lo c.snd.fst nrem
  else zj4 lo c.snd.fst nrem
theorem run_eq (lo nrem:Nat):countRun' lo nrem=(do
  let c <- up1 lo 1 nrem
  match c.fst with
  | some r=>pure r
  | none =>
   if (c.snd==nrem)=true then pure (some c.snd)
   else if c.snd>1 then do
    let x <- ltAt' lo (lo+c.snd-1)
    match x with
    | some b=>if b=true then pure (some c.snd) else do
      SL lo (lo+c.snd)
      part2 lo c.snd nrem
    | _=>pure none
   else part2 lo c.snd nrem):=by
 rw[countRun'_eq];unfold part2 zj4 zhu up1;refine bind_congr fun c=>?_;obtain⟨r,n⟩:=c;cases r with
 | some r=>rfl
 | none =>
  dsimp only;split
  ·rfl
  ·split
   ·refine bind_congr fun x=>?_;cases x with
    | none=>rfl
    | some b =>
     dsimp only;split
     ·rfl
     ·refine bind_congr fun _=>bind_congr fun _=>bind_congr fun c2=>?_;obtain⟨r2,n2,q2⟩:=c2;cases r2 with
      | some r2=>rfl
      | none =>
       dsimp only;split
       ·refine bind_congr fun _=>bind_congr fun _=>bind_congr fun c3=>?_;obtain⟨r3,n3⟩:=c3;cases r3<;>rfl
       ·refine bind_congr fun _=>bind_congr fun c3=>?_;obtain⟨r3,n3⟩:=c3;cases r3<;>rfl
   ·refine bind_congr fun _=>bind_congr fun c2=>?_;obtain⟨r2,n2,q2⟩:=c2;cases r2 with
    | some r2=>rfl
    | none =>
     dsimp only;split
     ·refine bind_congr fun _=>bind_congr fun _=>bind_congr fun c3=>?_;obtain⟨r3,n3⟩:=c3;cases r3<;>rfl
     ·refine bind_congr fun _=>bind_congr fun c3=>?_;obtain⟨r3,n3⟩:=c3;cases r3<;>rfl
end
end GS
namespace GS
section
variable {prog:Xn}{w:WW}{A:WM}{E:X8->X6->Prop}{s:X6}{rk:Xd->Int}{κ:Ub}{a0:Array Xd}
def Down (rk:Xd->Int)(xs:Array Xd)(lo n:Nat):Prop:=∀i j,i<=j->j<n->Rk rk xs (lo+j)<=Rk rk xs (lo+i)
theorem zna {st:WS}{lo a nrem:Nat}{Q:AscSt->WS->Prop}(T:Tells prog w A s κ rk a0)(O:Ok κ a0 st)(hn:lo+nrem<=a0.size)(ha:1<=a)(han:a<=nrem)(hs:Up rk (Xp st) lo (lo+a))
  (h:∀n,a<=n->n<=nrem->Up rk (Xp st) lo (lo+n)->(n=nrem\/Rk rk (Xp st) (lo+n)<Rk rk (Xp st) (lo+n-1))->Q (none,n) st):wpS (Xk prog w) A E s (up1 lo a nrem) Q st:=by
 unfold up1;refine V7 (I:=fun x c st'=>st'=st/\c=(none,x)/\Up rk (Xp st) lo (lo+x)) ?step ?fin ⟨rfl,rfl,hs⟩
 case fin =>
  rintro c st' ⟨rfl,rfl,hs'⟩
  rw[show max a nrem=nrem by lia] at hs' ⊢
  exact h nrem han (XU _) hs' (.inl rfl)
 case step =>
  rintro x c st' hax hxn ⟨rfl,rfl,hs'⟩
  dsimp only
  refine XI (zbQ T O (by lia) (by lia) ?_)
  by_cases hless:Rk rk (Xp st') (lo+x)<Rk rk (Xp st') (lo+x-1)
  ·simp only[hless,decide_true,if_true];exact Xu (h x hax (by lia) hs' (.inr hless))
  ·simp only[hless,decide_false,Wy,if_false];refine Xu ⟨rfl,rfl,fun i j hi hij hj=>?_⟩;by_cases hjx:j<lo+x
   ·exact hs' i j hi hij hjx
   ·obtain rfl:j=lo+x:=by lia
    by_cases hi':i=lo+x
    ·subst hi';exact Va _
    ·exact VB (hs' i (lo+x-1) hi (by lia) (by lia)) (OY.mp hless)
theorem zj5 {st0 st:WS}{lo n nrem:Nat}{Q:Option Nat->WS->Prop}(T:Tells prog w A s κ rk a0)(S:Step κ a0 lo st0 st)(hn:lo+nrem<=a0.size)(h1:1<=n)(hnn:n<=nrem)(hs:Down rk (Xp st) lo n)
  (h:∀m st',Step κ a0 lo st0 st'->1<=m->m<=nrem->Up rk (Xp st') lo (lo+m)->Q (some m) st'):wpS (Xk prog w) A E s (zj4 lo n nrem) Q st:=by
 unfold zj4;refine XI (zht ?_);have S':=S.mirror (i:=lo) (j:=lo+n) (XU _) (by lia);refine XI (zna T S'.ok hn h1 hnn ?_ fun m hm1 hm2 hsm _=>Xu (h m _ S' (by lia) hm2 hsm));intro i j hi hij hj;have hsz:lo+n<=(Xp st).size:=by
  rw[S.ok.size];lia
 show Rk rk (mirror (Xp st) lo (lo+n) ((lo+n-lo)/2)) i<=Rk rk (mirror (Xp st) lo (lo+n) ((lo+n-lo)/2)) j;rw[zau hsz,zau hsz,if_pos (by lia),if_pos (by lia)];have:=hs (lo+n-1-j) (lo+n-1-i) (by lia) (by lia);rw[show lo+(lo+n-1-j)=lo+(lo+n)-1-j by lia,show lo+(lo+n-1-i)=lo+(lo+n)-1-i by lia] at this;exact this
theorem zl9 {st0 st:WS}{lo n nrem:Nat}{Q:DescSt->WS->Prop}(T:Tells prog w A s κ rk a0)(S:Step κ a0 lo st0 st)(hn:lo+nrem<=a0.size)(h1:1<=n)(hnn:n<=nrem)(hs:Down rk (Xp st) lo n)
  (h:∀m q st',Step κ a0 lo st0 st'->n<=m->m<=nrem->Down rk (Xp st') lo m->q+1<=m->(∀i,m-(q+1)<=i->i<m->Rk rk (Xp st') (lo+i)=Rk rk (Xp st') (lo+(m-1)))->Q (none,m,q) st'):wpS (Xk prog w) A E s (zhu lo n nrem) Q st:=by
 unfold zhu;refine V7 (I:=fun x c st'=>∃q,c=(none,x,q)/\Step κ a0 lo st0 st'/\Down rk (Xp st') lo x/\q+1<=x /\
   (∀i,x-(q+1)<=i->i<x->Rk rk (Xp st') (lo+i)=Rk rk (Xp st') (lo+(x-1)))) ?step ?fin ⟨0,rfl,S,hs,by lia,fun i h1 h2=>by congr 1;lia⟩
 case fin =>
  rintro c st' ⟨q,rfl,S',hs',hq,he⟩
  rw[show max n nrem=nrem by lia] at hs' hq he ⊢
  exact h nrem q st' S' hnn (XU _) hs' hq he
 case step =>
  rintro x c st' hax hxn ⟨q,rfl,S',hs',hq,he⟩
  dsimp only
  have hsz:lo+x<=(Xp st').size:=by
   rw[S'.ok.size];lia
  refine XI (zbQ T S'.ok (by lia) (by lia) ?_)
  by_cases hless:Rk rk (Xp st') (lo+x)<Rk rk (Xp st') (lo+x-1)
  ·simp only[hless,decide_true,if_true];have step1:∀xs:Array Xd,(∀k,Rk rk xs k=Rk rk (Xp st') k)->Down rk xs lo (x+1):=by
    intro xs hk i j hij hj;rw[hk,hk];by_cases hjx:j<x
    ·exact hs' i j hij hjx
    ·obtain rfl:j=x:=by lia
     by_cases hi':i=j
     ·subst hi';exact Va _
     ·have a1:=hs' i (j-1) (by lia) (by lia);rw[show lo+(j-1)=lo+j-1 by lia] at a1;exact VB (V6 hless) a1
   by_cases hq0:q>0
   ·rw[if_pos hq0];refine XI (zht (Xu ⟨0,rfl,S'.mirror (by lia) (by lia),step1 _ (jI hsz fun k k1 k2=>?_),by lia,fun i h1 h2=>by congr 1;lia⟩));have a1:=he (k-lo) (by lia) (by lia);rw[show lo+(k-lo)=k by lia,show lo+(x-1)=lo+x-1 by lia] at a1;exact a1
   ·rw[if_neg hq0];exact Xu ⟨0,rfl,S',step1 _ (fun _=>rfl),by lia,fun i h1 h2=>by congr 1;lia⟩
  ·simp only[hless,decide_false,Wy,if_false];refine XI (zbQ T S'.ok (by lia) (by lia) ?_);by_cases hmore:Rk rk (Xp st') (lo+x-1)<Rk rk (Xp st') (lo+x)
   ·simp only[hmore,decide_true,if_true];exact Xu (h x q st' S' hax (by lia) hs' hq he)
   ·simp only[hmore,decide_false,Wy,if_false];have heqx:Rk rk (Xp st') (lo+x)=Rk rk (Xp st') (lo+(x-1)):=by
     rw[show lo+(x-1)=lo+x-1 by lia];lia
    refine Xu ⟨q+1,rfl,S',fun i j hij hj=>?_,by lia,fun i h1 h2=>?_⟩
    ·by_cases hjx:j<x
     ·exact hs' i j hij hjx
     ·obtain rfl:j=x:=by lia
      by_cases hi':i=j
      ·subst hi';exact Va _
      ·rw[heqx];exact hs' i (j-1) (by lia) (by lia)
    ·rw[show x+1-1=x by lia];by_cases hix:i=x
     ·subst hix;rfl
     ·rw[heqx];exact he i (by lia) (by lia)
theorem zhv {st0 st:WS}{lo n nrem:Nat}{Q:Option Nat->WS->Prop}(T:Tells prog w A s κ rk a0)(S:Step κ a0 lo st0 st)(hn:lo+nrem<=a0.size)(hnn:n+1<=nrem)(hs:Down rk (Xp st) lo (n+1))
  (h:∀m st',Step κ a0 lo st0 st'->1<=m->m<=nrem->Up rk (Xp st') lo (lo+m)->Q (some m) st'):wpS (Xk prog w) A E s (part2 lo n nrem) Q st:=by
 unfold part2;refine XI (RL (U2 ⟨rfl,?_⟩));refine XI (zl9 T S hn (by lia) hnn hs fun m q st' S' hm1 hm2 hs' hq he=>?_);dsimp only;have hsz:lo+m<=(Xp st').size:=by
  rw[S'.ok.size];lia
 by_cases hq0:q>0
 ·rw[if_pos hq0];refine XI (zht (zj5 T (S'.mirror (by lia) (by lia)) hn (by lia) hm2 ?_ h));intro i j hij hj;show Rk rk (mirror (Xp st') _ _ _) (lo+j)<=Rk rk (mirror (Xp st') _ _ _) (lo+i);have same:∀k,lo+m-(q+1)<=k->k<lo+m->Rk rk (Xp st') k=Rk rk (Xp st') (lo+m-1):=fun k k1 k2=>by
   have a1:=he (k-lo) (by lia) (by lia);rw[show lo+(k-lo)=k by lia,show lo+(m-1)=lo+m-1 by lia] at a1;exact a1
  rw[jI hsz same,jI hsz same];exact hs' i j hij hj
 ·rw[if_neg hq0];exact zj5 T S' hn (by lia) hm2 hs' h
theorem zpC {st:WS}{lo nrem:Nat}{Q:Option Nat->WS->Prop}(T:Tells prog w A s κ rk a0)(O:Ok κ a0 st)(hn:lo+nrem<=a0.size)(h1:1<=nrem)
  (h:∀m st',Step κ a0 lo st st'->1<=m->m<=nrem->Up rk (Xp st') lo (lo+m)->Q (some m) st'):wpS (Xk prog w) A E s (countRun' lo nrem) Q st:=by
 have S:=Step.refl (lo:=lo) O;rw[run_eq];refine XI (zna T O hn (XU 1) h1 (fun i j hi hij hj=>by
  obtain rfl:i=j:=by lia
  exact Va _) fun n hn1 hn2 hsn hor=>?_)
 dsimp only;by_cases hnn:n=nrem
 ·rw[if_pos (by simpa using hnn)];exact Xu (h n st S hn1 hn2 hsn)
 ·rw[if_neg (by simpa using hnn)];have hlt:Rk rk (Xp st) (lo+n)<Rk rk (Xp st) (lo+n-1):=hor.resolve_left hnn;have hsz:lo+n<=(Xp st).size:=by
   rw[O.size];lia
  by_cases hgt:n>1
  ·rw[if_pos hgt];refine XI (zbQ T O (by lia) (by lia) ?_);by_cases hrose:Rk rk (Xp st) lo<Rk rk (Xp st) (lo+n-1)
   ·simp only[hrose,decide_true,if_true];exact Xu (h n st S hn1 hn2 hsn)
   ·simp only[hrose,decide_false,Wy,if_false];have hall:∀k,lo<=k->k<lo+n->Rk rk (Xp st) k=Rk rk (Xp st) (lo+n-1):=by
     intro k k1 k2;have a1:=hsn lo k (XU _) k1 k2;have a2:=hsn k (lo+n-1) k1 (by lia) (by lia);lia
    refine XI (zht (zhv T (S.mirror (XU _) (by lia)) hn (by lia) ?_ h));intro i j hij hj;show Rk rk (mirror (Xp st) _ _ _) (lo+j)<=Rk rk (mirror (Xp st) _ _ _) (lo+i);rw[jI hsz hall,jI hsz hall];by_cases hjn:j<n
    ·rw[hall (lo+i) (by lia) (by lia),hall (lo+j) (by lia) (by lia)];exact Va _
    ·obtain rfl:j=n:=by lia
     by_cases hi':i=j
     ·subst hi';exact Va _
     ·rw[hall (lo+i) (by lia) (by lia)];exact V6 hlt
  ·rw[if_neg hgt];obtain rfl:n=1:=by lia
   refine zhv T S hn (by lia) ?_ h;intro i j hij hj;by_cases hi':i=j
   ·subst hi';exact Va _
   ·obtain rfl:i=0:=by lia
    obtain rfl:j=1:=by lia
    rw[Sc] at hlt;exact V6 hlt
theorem zdb {xs:Array Xd}{src d:Nat}(hs:src<xs.size)(hd:d<=src)(k:Nat):Rk rk (bubble xs src d) k=if k=src-d then Rk rk xs src else if src-d<k/\k<=src then Rk rk xs (k-1) else Rk rk xs k:=by
 have e:=getElem?_bubble hs d hd k;by_cases h1:k=src-d
 ·rw[if_pos h1] at e ⊢;exact Jt e
 ·rw[if_neg h1] at e ⊢;by_cases h2:src-d<k/\k<=src
  ·rw[if_pos h2] at e ⊢;exact Jt e
  ·rw[if_neg h2] at e ⊢;exact Jt e
theorem zpD {st:WS}{lo n ok:Nat}{Q:Bool->WS->Prop}(T:Tells prog w A s κ rk a0)(O:Ok κ a0 st)(hn:lo+n<=a0.size)(hok:ok<=n)(hs:Up rk (Xp st) lo (lo+ok))
  (h:∀st',Step κ a0 lo st st'->Up rk (Xp st') lo (lo+n)->Q true st'):wpS (Xk prog w) A E s (binarySort' lo n ok) Q st:=by
 rw[binarySort'_eq];refine XI (UC (V7 (I:=fun k c st'=>c=(none,())/\Step κ a0 lo st st'/\Up rk (Xp st') lo (lo+min k n))
  (Q:=fun c st'=>c=(none,())/\Step κ a0 lo st st'/\Up rk (Xp st') lo (lo+n)) ?step ?fin ?init) ?post)
 case post =>
  rintro c st' ⟨rfl,S',hs'⟩
  exact Xu (h st' S' hs')
 case init =>
  refine⟨rfl,Step.refl O,fun i j hi hij hj=>?_⟩
  by_cases h1:ok=0
  ·obtain rfl:i=j:=by lia
   exact Va _
  ·exact hs i j hi hij (by lia)
 case fin =>
  rintro c st' ⟨hc,S',hs'⟩
  refine⟨hc,S',?_⟩
  rwa [show min (max (max ok 1) n) n=n by lia] at hs'
 case step =>
  rintro k c st' hak hkn ⟨rfl,S',hs'⟩
  rw[show min k n=k by lia] at hs'
  have O':=S'.ok
  have hk:lo+k<a0.size:=by lia
  refine XI (UC (V7 (I:=fun x c st''=>st''=st'/\∃l r,c=(none,l,r)/\l<=r/\r<=k/\r-l<=k-x /\
    (∀i,i<l->Rk rk (Xp st') (lo+i)<=Rk rk (Xp st') (lo+k))/\(∀i,r<=i->i<k->Rk rk (Xp st') (lo+k)<Rk rk (Xp st') (lo+i)))
   (Q:=fun c st''=>st''=st'/\∃l r,c=(none,l,r)/\l<=k /\
    (∀i,i<l->Rk rk (Xp st') (lo+i)<=Rk rk (Xp st') (lo+k))/\(∀i,l<=i->i<k->Rk rk (Xp st') (lo+k)<Rk rk (Xp st') (lo+i))) ?istep ?ifin ?iinit) ?ipost)
  case iinit=>exact⟨rfl,0,k,rfl,by lia,by lia,by lia,fun i hi=>by lia,fun i h1 h2=>by lia⟩
  case ifin =>
   rintro c st'' ⟨rfl,l,r,rfl,hlr,hrk,hm,hlo,hhi⟩
   obtain rfl:l=r:=by lia
   exact⟨rfl,l,l,rfl,hrk,hlo,hhi⟩
  case istep =>
   rintro x c st'' _ hxk ⟨rfl,l,r,rfl,hlr,hrk,hm,hlo,hhi⟩
   dsimp only
   by_cases hge:l >= r
   ·rw[if_pos hge];obtain rfl:l=r:=by lia
    exact Xu ⟨rfl,l,l,rfl,hrk,hlo,hhi⟩
   ·rw[if_neg hge];refine XI (zbQ T O' hk (by lia) ?_);by_cases hless:Rk rk (Xp st'') (lo+k)<Rk rk (Xp st'') (lo+(l+r)/2)
    ·simp only[hless,decide_true,if_true];refine Xu ⟨rfl,l,(l+r)/2,rfl,by lia,by lia,by lia,hlo,fun i h1 h2=>?_⟩;exact Int.lt_of_lt_of_le hless (hs' _ _ (by lia) (by lia) (by lia))
    ·simp only[hless,decide_false,Wy,if_false];refine Xu ⟨rfl,(l+r)/2+1,r,rfl,by lia,by lia,by lia,fun i h1=>?_,hhi⟩;exact VB (hs' (lo+i) (lo+(l+r)/2) (by lia) (by lia) (by lia)) (OY.mp hless)
  case ipost =>
   rintro c st'' ⟨rfl,l,r,rfl,hlk,hlo,hhi⟩
   show wpS _ _ _ _ (do moveDown' (lo+k) (lo+l);pure (V5 (none,()))) _ _
   rw[moveDown'_eq]
   have hks:lo+k<(Xp st'').size:=by
    rw[O'.size];exact hk
   refine XI (Tz (Xu ⟨rfl,⟨⟨(bubble_perm _ _ _).trans O'.perm,O'.kind,O'.good⟩,S'.pend,fun i hi=>?_⟩,?_⟩))
   ·show (bubble (Xp st'') (lo+k) (lo+k-(lo+l)))[i]?=_;rw[getElem?_bubble hks _ (by lia),if_neg (by lia),if_neg (by lia)];exact S'.low i hi
   ·rw[show min (k+1) n=k+1 by lia];intro i j hi hij hj;show Rk rk (bubble (Xp st'') (lo+k) (lo+k-(lo+l))) i<=Rk rk (bubble (Xp st'') (lo+k) (lo+k-(lo+l))) j;rw[zdb hks (by lia),zdb hks (by lia),show lo+k-(lo+k-(lo+l))=lo+l by lia];have up:∀a b,lo<=a->a<=b->b<lo+k->Rk rk (Xp st'') a<=Rk rk (Xp st'') b:=hs';have low:∀a,lo<=a->a<lo+l->Rk rk (Xp st'') a<=Rk rk (Xp st'') (lo+k):=fun a a1 a2=>by
     have:=hlo (a-lo) (by lia);rwa [show lo+(a-lo)=a by lia] at this
    have high:∀a,lo+l<=a->a<lo+k->Rk rk (Xp st'') (lo+k)<Rk rk (Xp st'') a:=fun a a1 a2=>by
     have:=hhi (a-lo) (by lia) (by lia);rwa [show lo+(a-lo)=a by lia] at this
    repeat' split
    all_goals first
     | (exfalso;lia)
     | exact Va _
     | exact low _ (by lia) (by lia)
     | exact V6 (high _ (by lia) (by lia))
     | exact up _ _ (by lia) (by lia) (by lia)
end
end GS
namespace GS
def gallop':Bool->Xd->Array Xd->Nat->Nat->Nat->StateT WS Sem (Option Nat):=sortPriv% PySem.Builtin.gallop
def mergeLo':Array Xd->Array Xd->StateT WS Sem (Array Xd):=sortPriv% PySem.Builtin.mergeLo
def mergeHi':Array Xd->Array Xd->StateT WS Sem (Array Xd):=sortPriv% PySem.Builtin.mergeHi
section
variable {prog:Xn}{w:WW}{A:WM}{E:X8->X6->Prop}{s:X6}{rk:Xd->Int}{κ:Ub}{a0:Array Xd}
def bey (rk:Xd->Int)(left:Bool)(key x:Xd):Bool:=if left then decide (rk x<rk key) else !decide (rk key<rk x)
theorem zfd {st:WS}{left:Bool}{key:Xd}{arr:Array Xd}{base n hint:Nat}{Q:Option Nat->WS->Prop}(T:Tells prog w A s κ rk a0)(hk:kindOf st=κ)(hkey:key∈a0.toList)(b:Nat->Bool)
  (he:∀i,i<n->∃x,arr[base+i]?=some x/\x∈a0.toList/\b i=bey rk left key x) (mono:∀i j,i<=j->j<n->b j=true->b i=true) (hh:hint<n)
  (h:∀k,k<=n->(∀i,i<k->b i=true)->(∀i,k<=i->i<n->b i=false)->Q (some k) st):wpS (Xk prog w) A E s (gallop' left key arr base n hint) Q st:=by
 have one:∀{i:Nat} {Q':Option Bool->WS->Prop},i<n->Q' (some (b i)) st->wpS (Xk prog w) A E s (do
   let x <- elem' arr (base+i)
   if left=true then lt' x key
    else do
     let r <- lt' key x
     pure (Option.map (fun x=>!x) r)) Q' st:=by
  intro i Q' hi hq;obtain⟨x,e1,e2,e3⟩:=he i hi;refine XI (qR e1 ?_);unfold bey at e3;cases left with
  | true =>
   rw[if_pos rfl] at e3 ⊢;rw[e3] at hq;exact zj3 T hk e2 hkey hq
  | false =>
   rw[if_neg XV] at e3 ⊢;rw[e3] at hq;exact XI (zj3 T hk hkey e2 (Xu hq))
 have last:∀{f:Nat->Option (Option Nat)×Nat×Nat->StateT WS Sem (ForInStep (Option (Option Nat)×Nat×Nat))} {g:Option (Option Nat)×Nat×Nat->StateT WS Sem (Option Nat)},
   (∀x l r (R:ForInStep (Option (Option Nat)×Nat×Nat)->WS->Prop),l >= r->R (.done (none,l,r)) st->wpS (Xk prog w) A E s (f x (none,l,r)) R st) ->
   (∀x l r (R:ForInStep (Option (Option Nat)×Nat×Nat)->WS->Prop),l<r->r<=n->R (.yield (if b (l+(r-l)/2)=true then (none,l+(r-l)/2+1,r) else (none,l,l+(r-l)/2))) st->wpS (Xk prog w) A E s (f x (none,l,r)) R st) ->
   (∀l r,Q (some r) st->wpS (Xk prog w) A E s (g (none,l,r)) Q st) ->
   ∀(lo hi:Nat),lo<=hi->hi<=n->(∀i,i<lo->b i=true)->(∀i,hi<=i->i<n->b i=false)->wpS (Xk prog w) A E s (forIn [:n] ((none,lo,hi):Option (Option Nat)×Nat×Nat) f >>= g) Q st:=by
  intro f g f1 f2 g1 lo hi h1 h2 h3 h4;refine XI (UC (V7 (I:=fun x c st'=>st'=st/\∃l r,c=(none,l,r)/\l<=r/\r<=n/\r-l<=n-x/\(∀i,i<l->b i=true)/\(∀i,r<=i->i<n->b i=false))
   (Q:=fun c st'=>st'=st/\∃l,c=(none,l,l)/\l<=n/\(∀i,i<l->b i=true)/\(∀i,l<=i->i<n->b i=false)) ?step ?fin ⟨rfl,lo,hi,rfl,h1,h2,by lia,h3,h4⟩) ?post)
  case fin =>
   rintro c st' ⟨rfl,l,r,rfl,a1,a2,a3,a4,a5⟩
   obtain rfl:l=r:=by lia
   exact⟨rfl,l,rfl,a2,a4,a5⟩
  case post =>
   rintro c st' ⟨rfl,l,rfl,a2,a4,a5⟩
   exact g1 l l (h l a2 a4 a5)
  case step =>
   rintro x c st' _ hx ⟨rfl,l,r,rfl,a1,a2,a3,a4,a5⟩
   by_cases hge:l >= r
   ·obtain rfl:l=r:=by lia
    exact f1 x l l _ hge ⟨rfl,l,rfl,a2,a4,a5⟩
   ·refine f2 x l r _ (by lia) a2 ?_;cases hb:b (l+(r-l)/2) with
    | true =>
     rw[if_pos rfl];exact⟨rfl,l+(r-l)/2+1,r,rfl,by lia,a2,by lia,fun i hi=>mono i _ (by lia) (by lia) hb,a5⟩
    | false =>
     rw[if_neg XV];refine⟨rfl,l,l+(r-l)/2,rfl,by lia,by lia,by lia,a4,fun i i1 i2=>?_⟩;cases hbi:b i with
     | false=>rfl
     | true =>
      have:=mono _ i i1 i2 hbi;rw[hb] at this;cases this
 refine XI (one hh ?_);dsimp only;cases hb:b hint with
 | true =>
  rw[if_pos rfl];refine XI (UC (V7 (I:=fun x c st'=>st'=st/\∃l o,c=(none,l,o)/\l<o/\hint+l<n/\b (hint+l)=true/\x+1<=o)
   (Q:=fun c st'=>st'=st/\∃l o,c=(none,l,o)/\l<o/\hint+l<n/\b (hint+l)=true/\(o >= n-hint\/(hint+o<n/\b (hint+o)=false))) ?step ?fin ⟨rfl,0,1,rfl,by lia,hh,hb,by lia⟩) ?post)
  case fin =>
   rintro c st' ⟨rfl,l,o,rfl,a1,a2,a3,a4⟩
   exact⟨rfl,l,o,rfl,a1,a2,a3,.inl (by lia)⟩
  case step =>
   rintro x c st' _ hx ⟨rfl,l,o,rfl,a1,a2,a3,a4⟩
   dsimp only
   by_cases hge:o >= n-hint
   ·rw[if_pos hge];exact Xu ⟨rfl,l,o,rfl,a1,a2,a3,.inl hge⟩
   ·rw[if_neg hge];refine XI (one (by lia) ?_);dsimp only;cases hbo:b (hint+o) with
    | false =>
     rw[if_pos (by decide)];exact Xu ⟨rfl,l,o,rfl,a1,a2,a3,.inr ⟨by lia,hbo⟩⟩
    | true =>
     rw[if_neg (by decide)];exact Xu ⟨rfl,o,2*o+1,rfl,by lia,by lia,hbo,by lia⟩
  case post =>
   rintro c st' ⟨rfl,l,o,rfl,a1,a2,a3,a4⟩
   refine last (fun x l r R hge hR=>?_) (fun x l r R hlt hr hR=>?_) (fun l r hq=>Xu hq) (hint+l+1) (hint+min o (n-hint)) (by lia) (by lia) (fun i hi=>mono i (hint+l) (by lia) a2 a3) fun i i1 i2=>?_
   ·dsimp only;rw[if_pos hge];exact Xu hR
   ·dsimp only;rw[if_neg (by lia)];refine XI (one (by lia) ?_);dsimp only;cases hbm:b (l+(r-l)/2) with
    | true =>
     rw[hbm,if_pos rfl] at hR;rw[if_pos rfl];exact Xu hR
    | false =>
     rw[hbm,if_neg XV] at hR;rw[if_neg XV];exact Xu hR
   ·rcases a4 with a4 | ⟨a4,a5⟩
    ·lia
    ·cases hbi:b i with
     | false=>rfl
     | true =>
      have:=mono _ i (show hint+o<=i by lia) i2 hbi;rw[a5] at this;cases this
 | false =>
  rw[if_neg XV];refine XI (UC (V7 (I:=fun x c st'=>st'=st/\∃l o,c=(none,l,o)/\l<o/\l<=hint/\b (hint-l)=false/\x+1<=o)
   (Q:=fun c st'=>st'=st/\∃l o,c=(none,l,o)/\l<o/\l<=hint/\b (hint-l)=false/\(o >= hint+1\/(o<=hint/\b (hint-o)=true))) ?step ?fin ⟨rfl,0,1,rfl,by lia,by lia,hb,by lia⟩) ?post)
  case fin =>
   rintro c st' ⟨rfl,l,o,rfl,a1,a2,a3,a4⟩
   exact⟨rfl,l,o,rfl,a1,a2,a3,.inl (by lia)⟩
  case step =>
   rintro x c st' _ hx ⟨rfl,l,o,rfl,a1,a2,a3,a4⟩
   dsimp only
   by_cases hge:o >= hint+1
   ·rw[if_pos hge];exact Xu ⟨rfl,l,o,rfl,a1,a2,a3,.inl hge⟩
   ·rw[if_neg hge];refine XI (one (by lia) ?_);dsimp only;cases hbo:b (hint-o) with
    | true =>
     rw[if_pos rfl];exact Xu ⟨rfl,l,o,rfl,a1,a2,a3,.inr ⟨by lia,hbo⟩⟩
    | false =>
     rw[if_neg (by decide)];exact Xu ⟨rfl,o,2*o+1,rfl,by lia,by lia,hbo,by lia⟩
  case post =>
   rintro c st' ⟨rfl,l,o,rfl,a1,a2,a3,a4⟩
   refine last (fun x l r R hge hR=>?_) (fun x l r R hlt hr hR=>?_) (fun l r hq=>Xu hq) (hint+1-min o (hint+1)) (hint-l) (by lia) (by lia) (fun i hi=>?_) fun i i1 i2=>?_
   ·dsimp only;rw[if_pos hge];exact Xu hR
   ·dsimp only;rw[if_neg (by lia)];refine XI (one (by lia) ?_);dsimp only;cases hbm:b (l+(r-l)/2) with
    | true =>
     rw[hbm,if_pos rfl] at hR;rw[if_pos rfl];exact Xu hR
    | false =>
     rw[hbm,if_neg XV] at hR;rw[if_neg XV];exact Xu hR
   ·rcases a4 with a4 | ⟨a4,a5⟩
    ·lia
    ·exact mono i (hint-o) (by lia) (by lia) a5
   ·cases hbi:b i with
    | false=>rfl
    | true =>
     have:=mono _ i i1 i2 hbi;rw[a3] at this;cases this
end
end GS
namespace GS
structure MI (rk:Xd->Int)(aL bL:List Xd)(ia ib:Nat)(oL:List Xd):Prop where
 perm:oL.Perm (aL.take ia++bL.take ib)
 srt:oL.Pairwise fun x y=>rk x<=rk y
 la:∀x∈oL,∀y∈aL.drop ia,rk x<=rk y
 lb:∀x∈oL,∀y∈bL.drop ib,rk x<=rk y
section
variable {rk:Xd->Int}{aL bL oL:List Xd}{ia ib:Nat}
theorem MI.swap (M:MI rk aL bL ia ib oL):MI rk bL aL ib ia oL:=⟨M.perm.trans SW,M.srt,M.lb,M.la⟩
theorem ziI (l:List Xd)(i k:Nat):l.take (i+k)=l.take i++(l.drop i).take k:=by
 rw[List.take_add]
theorem MI.takeA (M:MI rk aL bL ia ib oL)(sa:aL.Pairwise fun x y=>rk x<=rk y)(k:Nat)(h:∀x∈(aL.drop ia).take k,∀y∈bL.drop ib,rk x<=rk y):MI rk aL bL (ia+k) ib (oL++(aL.drop ia).take k):=by
 have sd:(aL.drop ia).Pairwise fun x y=>rk x<=rk y:=sa.sublist (RZ _ _);have e2:(aL.drop ia).drop k=aL.drop (ia+k):=PF;refine⟨?_,?_,fun x hx y hy=>?_,fun x hx y hy=>?_⟩
 ·rw[ziI,WX];refine(M.perm.append_right _).trans ?_;rw[WX];exact SX _ SW
 ·rw[T6];exact⟨M.srt,sd.sublist (Tc _ _),fun x hx y hy=>M.la x hx y (V9 hy)⟩
 ·rw[<- e2] at hy;rcases XO.mp hx with hx | hx
  ·exact M.la x hx y (Pw hy)
  ·have:=sd;rw[<- WT k (aL.drop ia),T6] at this;exact this.2.2 x hx y hy
 ·rcases XO.mp hx with hx | hx
  ·exact M.lb x hx y hy
  ·exact h x hx y hy
theorem MI.takeB (M:MI rk aL bL ia ib oL)(sb:bL.Pairwise fun x y=>rk x<=rk y)(k:Nat)(h:∀x∈(bL.drop ib).take k,∀y∈aL.drop ia,rk x<=rk y):MI rk aL bL ia (ib+k) (oL++(bL.drop ib).take k):=(M.swap.takeA sb k h).swap
def Mg (rk:Xd->Int)(aL bL oL:List Xd):Prop:=oL.Perm (aL++bL)/\oL.Pairwise fun x y=>rk x<=rk y
theorem MI.all (M:MI rk aL bL ia ib oL)(ha:aL.length<=ia)(hb:bL.length<=ib):Mg rk aL bL oL:=by
 have:=M.perm;rw[WE ha,WE hb] at this;exact⟨this,M.srt⟩
theorem MI.doneB (M:MI rk aL bL ia ib oL)(sa:aL.Pairwise fun x y=>rk x<=rk y)(hb:bL.length<=ib):Mg rk aL bL (oL++aL.drop ia):=by
 have:=M.takeA sa (aL.drop ia).length (fun x _ y hy=>by
  rw[S4 hb] at hy;cases hy)
 rw[XA] at this;exact this.all (by rw[U8];lia) hb
theorem MI.lastA (M:MI rk aL bL ia ib oL)(sa:aL.Pairwise fun x y=>rk x<=rk y)(sb:bL.Pairwise fun x y=>rk x<=rk y)(h:∀x∈bL,∀y∈aL.drop ia,rk x<=rk y):Mg rk aL bL (oL++bL.drop ib++aL.drop ia):=by
 have M2:=M.takeB sb (bL.drop ib).length (fun x hx y hy=>h x (Pw (V9 hx)) y hy);rw[XA] at M2;exact M2.doneB sa (by rw[U8];lia)
theorem ext_toList (a:Array Xd)(i j:Nat)(hj:i<=j):(a.extract i j).toList=(a.toList.drop i).take (j-i):=by
 rw[Pu,R6]
theorem QU (a:Array Xd)(i:Nat):(a.extract i a.size).toList=a.toList.drop i:=by
 rw[Pu,R6,WE];rw[U8,X5];exact XU _
theorem zj6 {a:Array Xd}{i:Nat}{x:Xd}(h:a[i]?=some x):(a.toList.drop i).take 1=[x]:=by
 have hi:i<a.toList.length:=by
  rw[X5];exact(Vx.mp h).1
 rw[WA hi,UE,List.take_zero];have:a.toList[i]?=some x:=by rw[Xv];exact h
 rw[XZ hi] at this;rw[Option.some.inj this]
end
section
variable {prog:Xn}{w:WW}{A:WM}{E:X8->X6->Prop}{s:X6}{rk:Xd->Int}{κ:Ub}{a0:Array Xd}
structure Kept (st st':WS):Prop where
 arr:Xp st'=Xp st
 kind:kindOf st'=kindOf st
 pend:WR st'=WR st
 bad:Tl st'=Tl st
def setG':Nat->StateT WS Sem Unit:=sortPriv% PySem.Builtin.setMinGallop
theorem Kept.refl (st:WS):Kept st st:=⟨rfl,rfl,rfl,rfl⟩
theorem zd5 {st0 st:WS}{g:Nat}{Q:Unit->WS->Prop}(k:Kept st0 st)(h:∀st',Kept st0 st'->Q () st'):wpS (Xk prog w) A E s (setG' g) Q st:=by
 have e:setG' g=modify fun c=>SortSt.mk' (kindOf c) (Xp c) (WR c) g (Tl c):=rfl;rw[e];exact Tz (h _ ⟨k.arr,k.kind,k.pend,k.bad⟩)
theorem qw {α:Type}{c:Prop} [Decidable c]{x y:StateT WS Sem α}{Q:α->WS->Prop}{st:WS}(h1:c->wpS (Xk prog w) A E s x Q st)(h2:¬ c->wpS (Xk prog w) A E s y Q st):wpS (Xk prog w) A E s (if c then x else y) Q st:=by
 by_cases hc:c
 ·rw[if_pos hc];exact h1 hc
 ·rw[if_neg hc];exact h2 hc
theorem jc {a:Array Xd}{i:Nat}(h:i<a.size):∃x,a[i]?=some x/\x∈a.toList:=⟨a[i],getElem?_pos a i h,by simp⟩
theorem JT {a:Array Xd}(sa:a.toList.Pairwise fun x y=>rk x<=rk y){i:Nat}{x:Xd}(e:a[i]?=some x):∀y∈a.toList.drop i,rk x<=rk y:=by
 have hi:i<a.toList.length:=by
  rw[X5];exact(Vx.mp e).1
 have e':a.toList[i]?=some x:=by rw[Xv];exact e
 rw[XZ hi] at e';have ex:=Option.some.inj e';have sd:=sa.sublist (RZ i a.toList);rw[WA hi,ex,Sb] at sd;rw[WA hi,ex];intro y hy;rcases XF.mp hy with rfl | hy
 ·exact Va _
 ·exact sd.1 y hy
theorem Yk {a b out:Array Xd}{ia ib:Nat}(M:MI rk a.toList b.toList ia ib out.toList)(sa:a.toList.Pairwise fun x y=>rk x<=rk y)(hb:b.size<=ib):Mg rk a.toList b.toList (out++a.extract ia a.size++b.extract ib b.size).toList:=by
 rw[WO,WO,QU,QU,S4 (as:=b.toList) (by rw[X5];exact hb),W9];exact M.doneB sa (by rw[X5];exact hb)
theorem Yl {a b out:Array Xd}{ia ib:Nat}(M:MI rk a.toList b.toList ia ib out.toList)(sa:a.toList.Pairwise fun x y=>rk x<=rk y)(sb:b.toList.Pairwise fun x y=>rk x<=rk y)(hl:∀x∈b.toList,∀y,a[a.size-1]?=some y->rk x<=rk y)(ha:ia+1=a.size):Mg rk a.toList b.toList (out++b.extract ib b.size++a.extract ia a.size).toList:=by
 rw[WO,WO,QU,QU];refine M.lastA sa sb fun x hx y hy=>?_;have hi:ia<a.toList.length:=by rw[X5];lia
 rw[WA hi,S4 (by rw[X5];lia)] at hy;have ey:y=a.toList[ia]:=by simpa using hy
 refine hl x hx y ?_;rw[show a.size-1=ia by lia,<- Xv,XZ hi,ey]
theorem ziJ (out:Array Xd)(x:Xd):(out.push x).toList=out.toList++[x]:=S8 ..
theorem MI.oneB {a b out:Array Xd}{ia ib:Nat}{x:Xd}(M:MI rk a.toList b.toList ia ib out.toList)(sb:b.toList.Pairwise fun x y=>rk x<=rk y)(e:b[ib]?=some x)(h:∀y∈a.toList.drop ia,rk x<=rk y):MI rk a.toList b.toList ia (ib+1) (out.push x).toList:=by
 rw[ziJ,<- zj6 e];refine M.takeB sb 1 fun z hz y hy=>?_;rw[zj6 e] at hz;have ez:z=x:=by simpa using hz
 rw[ez];exact h y hy
theorem MI.oneA {a b out:Array Xd}{ia ib:Nat}{x:Xd}(M:MI rk a.toList b.toList ia ib out.toList)(sa:a.toList.Pairwise fun x y=>rk x<=rk y)(e:a[ia]?=some x)(h:∀y∈b.toList.drop ib,rk x<=rk y):MI rk a.toList b.toList (ia+1) ib (out.push x).toList:=(MI.oneB M.swap sa e h).swap
theorem MI.someA {a b out:Array Xd}{ia ib k:Nat}{y:Xd}(M:MI rk a.toList b.toList ia ib out.toList)(sa:a.toList.Pairwise fun x y=>rk x<=rk y)(sb:b.toList.Pairwise fun x y=>rk x<=rk y)(e:b[ib]?=some y)(h:∀i x,i<k->a[ia+i]?=some x->rk x<=rk y):MI rk a.toList b.toList (ia+k) ib (out++a.extract ia (ia+k)).toList:=by
 rw[WO,ext_toList _ _ _ (U7 _ _),Rt];refine M.takeA sa k fun x hx z hz=>VB ?_ (JT sb e z hz);obtain⟨i,hi,ex⟩:=TW hx;have hik:i<k:=by
  rw[XM] at hi;lia
 refine h i x hik ?_;have:((a.toList.drop ia).take k)[i]?=some x:=by rw[XZ hi,ex]
 rw[List.getElem?_take,if_pos hik,Tv,Xv] at this;exact this
theorem MI.someB {a b out:Array Xd}{ia ib k:Nat}{y:Xd}(M:MI rk a.toList b.toList ia ib out.toList)(sa:a.toList.Pairwise fun x y=>rk x<=rk y)(sb:b.toList.Pairwise fun x y=>rk x<=rk y)(e:a[ia]?=some y)(h:∀i x,i<k->b[ib+i]?=some x->rk x<=rk y):MI rk a.toList b.toList ia (ib+k) (out++b.extract ib (ib+k)).toList:=(MI.someA M.swap sb sa e h).swap
end
end GS
namespace GS
section
variable {prog:Xn}{w:WW}{A:WM}{E:X8->X6->Prop}{s:X6}{rk:Xd->Int}{κ:Ub}{a0:Array Xd}
theorem zav {st:WS}{key:Xd}{a:Array Xd}{base n hint:Nat}{Q:Option Nat->WS->Prop}(T:Tells prog w A s κ rk a0)(hk:kindOf st=κ)(hkey:key∈a0.toList)(ma:∀x∈a.toList,x∈a0.toList)(up:∀i j x y,base<=i->i<=j->j<base+n->a[i]?=some x->a[j]?=some y->rk x<=rk y)(hn:base+n<=a.size)(hh:hint<n)
  (h:∀k,k<=n->(∀i x,i<k->a[base+i]?=some x->rk x<=rk key)->(∀i x,k<=i->i<n->a[base+i]?=some x->rk key<rk x)->Q (some k) st):wpS (Xk prog w) A E s (gallop' false key a base n hint) Q st:=by
 have he:∀i,i<n->∃x,a[base+i]?=some x/\x∈a.toList:=fun i hi=>jc (by lia);refine zfd T hk hkey (fun i=>match a[base+i]? with | some x=>bey rk false key x | none=>false) (fun i hi=>?_) (fun i j hij hj hb=>?_) hh fun k hk1 h1 h2=>h k hk1 (fun i x hi e=>?_) fun i x hi1 hi2 e=>?_
 ·obtain⟨x,e,m⟩:=he i hi;refine⟨x,e,ma x m,?_⟩;try dsimp only
  rw[e]
 ·obtain⟨x,ex,_⟩:=he i (by lia);obtain⟨y,ey,_⟩:=he j hj;try dsimp only at hb ⊢
  rw[ey] at hb;rw[ex];have:=up (base+i) (base+j) x y (by lia) (by lia) (by lia) ex ey;unfold bey at hb ⊢;simp only[Wy,if_false,WI,decide_eq_false_iff_not] at hb ⊢;lia
 ·have:=h1 i hi;try dsimp only at this
  rw[e] at this;unfold bey at this;simp only[Wy,if_false,WI,decide_eq_false_iff_not] at this;lia
 ·have:=h2 i hi1 hi2;try dsimp only at this
  rw[e] at this;unfold bey at this;simp only[Wy,if_false,Bool.not_eq_false',decide_eq_true_eq] at this;exact this
theorem zaw {st:WS}{key:Xd}{a:Array Xd}{base n hint:Nat}{Q:Option Nat->WS->Prop}(T:Tells prog w A s κ rk a0)(hk:kindOf st=κ)(hkey:key∈a0.toList)(ma:∀x∈a.toList,x∈a0.toList)(up:∀i j x y,base<=i->i<=j->j<base+n->a[i]?=some x->a[j]?=some y->rk x<=rk y)(hn:base+n<=a.size)(hh:hint<n)
  (h:∀k,k<=n->(∀i x,i<k->a[base+i]?=some x->rk x<rk key)->(∀i x,k<=i->i<n->a[base+i]?=some x->rk key<=rk x)->Q (some k) st):wpS (Xk prog w) A E s (gallop' true key a base n hint) Q st:=by
 have he:∀i,i<n->∃x,a[base+i]?=some x/\x∈a.toList:=fun i hi=>jc (by lia);refine zfd T hk hkey (fun i=>match a[base+i]? with | some x=>bey rk true key x | none=>false) (fun i hi=>?_) (fun i j hij hj hb=>?_) hh fun k hk1 h1 h2=>h k hk1 (fun i x hi e=>?_) fun i x hi1 hi2 e=>?_
 ·obtain⟨x,e,m⟩:=he i hi;refine⟨x,e,ma x m,?_⟩;try dsimp only
  rw[e]
 ·obtain⟨x,ex,_⟩:=he i (by lia);obtain⟨y,ey,_⟩:=he j hj;try dsimp only at hb ⊢
  rw[ey] at hb;rw[ex];have:=up (base+i) (base+j) x y (by lia) (by lia) (by lia) ex ey;unfold bey at hb ⊢;simp only[if_true,decide_eq_true_eq] at hb ⊢;lia
 ·have:=h1 i hi;try dsimp only at this
  rw[e] at this;unfold bey at this;simp only[if_true,decide_eq_true_eq] at this;exact this
 ·have:=h2 i hi1 hi2;try dsimp only at this
  rw[e] at this;unfold bey at this;simp only[if_true,decide_eq_false_iff_not] at this;lia
theorem zhw {a:Array Xd}(sa:a.toList.Pairwise fun x y=>rk x<=rk y){i j:Nat}{x y:Xd}(hij:i<=j)(ex:a[i]?=some x)(ey:a[j]?=some y):rk x<=rk y:=by
 refine JT sa ex y ?_;have hj:j<a.toList.length:=by
  rw[X5];exact(Vx.mp ey).1
 refine X7 (i:=j-i) ?_;rw[Tv,Xv,show i+(j-i)=j by lia];exact ey
set_option maxHeartbeats 8000000 in
theorem via {P:Prop}(h:∀G:Prop,(P->G)->G):P:=h P id
structure Key (P:Prop):Prop where
 get:P
theorem cut {P R:Prop}(k:P)(h:Key P->R):R:=h ⟨k⟩
theorem ziK {st0:WS}{a b:Array Xd}{Q:Array Xd->WS->Prop}(T:Tells prog w A s κ rk a0)(hk:kindOf st0=κ)(ma:∀x∈a.toList,x∈a0.toList)(mb:∀x∈b.toList,x∈a0.toList)(sa:a.toList.Pairwise fun x y=>rk x<=rk y)(sb:b.toList.Pairwise fun x y=>rk x<=rk y)
  (ha:0<a.size) (hb:0<b.size) (h0:∀x y,b[0]?=some x->y∈a.toList->rk x<=rk y) (hl':∀x∈b.toList,∀y,a[a.size-1]?=some y->rk x<rk y)
  (h:∀out st',Kept st0 st'->Mg rk a.toList b.toList out.toList->Q out st'):wpS (Xk prog w) A E s (mergeLo' a b) Q st0:=by
 have hl:∀x∈b.toList,∀y,a[a.size-1]?=some y->rk x<=rk y:=fun x hx y hy=>V6 (hl' x hx y hy);refine XI (RL (U2 ⟨rfl,?_⟩));obtain⟨b0,eb0,_⟩:=jc hb;refine XI (qR eb0 ?_);have M0:MI rk a.toList b.toList 0 0 (#[]:Array Xd).toList:=⟨by simp,List.Pairwise.nil,(fun x hx=>nomatch hx),(fun x hx=>nomatch hx)⟩;have M1:MI rk a.toList b.toList 0 1 (#[b0]:Array Xd).toList:=MI.oneB M0 sb eb0 fun y hy=>h0 b0 y eb0 (by simpa using hy);dsimp -zeta only;refine qw (fun hc=>Xu (h _ _ (Kept.refl _) (Yk M1 sa (by rw[show 1=b.size by simpa using hc];exact XU _)))) fun hc=>?_;refine qw (fun hc2=>Xu (h _ _ (Kept.refl _) (Yl M1 sa sb hl (by simpa using hc2)))) fun hc2=>?_;have hb2:1<b.size:=by
  have:¬ 1=b.size:=by simpa using hc
  lia
 have ha2:0+1<a.size:=by
  have:¬ 0+1=a.size:=by simpa using hc2
  lia
 refine XI (SQ ?_);refine XI (UC (V7 (I:=fun x c st'=>∃out ia ib mg,c=(none,out,ia,ib,mg)/\MI rk a.toList b.toList ia ib out.toList/\ia+1<a.size/\ib<b.size/\x+1<=ia+ib/\Kept st0 st')
  (Q:=fun c st'=>∃res,c.1=some res/\Mg rk a.toList b.toList res.toList/\Kept st0 st') ?step ?fin ⟨_,0,1,_,rfl,M1,ha2,hb2,by lia,Kept.refl _⟩) ?post)
 case fin =>
  rintro c st' ⟨out,ia,ib,mg,rfl,M,h1,h2,h3,k⟩
  lia
 case post =>
  rintro⟨c1,c2⟩ st' ⟨res,e,hM,k⟩
  dsimp only at e ⊢
  subst e
  exact Xu (h _ _ k hM)
 case step =>
  intro x0 c st1 _ hx0 hI
  refine via fun G hG=>?_
  obtain⟨out,ia,ib,mg,rfl,M,h1,h2,h3,k1⟩:=hI
  refine hG ?_
  clear hG
  have hk1:kindOf st1=κ:=k1.kind.trans hk
  dsimp -zeta only
  refine XI (UC (V7 (I:=fun x c st'=>st'=st1/\∃out ia ib ac bc,c=(none,out,ia,ib,ac,bc)/\MI rk a.toList b.toList ia ib out.toList/\ia+1<a.size/\ib<b.size/\x0+1+x<=ia+ib)
   (Q:=fun c st'=>st'=st1/\((∃res,c.1=some res/\Mg rk a.toList b.toList res.toList)\/∃out ia ib ac bc,c=(none,out,ia,ib,ac,bc)/\MI rk a.toList b.toList ia ib out.toList/\ia+1<a.size/\ib<b.size/\x0+2<=ia+ib)) ?step1 ?fin1 ⟨rfl,_,_,_,_,_,rfl,M,h1,h2,by lia⟩) ?post1)
  case fin1 =>
   rintro c st' ⟨rfl,out,ia,ib,ac,bc,rfl,M,h1,h2,h3⟩
   exact⟨rfl,.inr ⟨out,ia,ib,ac,bc,rfl,M,h1,h2,by lia⟩⟩
  case step1 =>
   intro x c st' _ hx hI
   refine via fun G hG=>?_
   obtain⟨rfl,out,ia,ib,ac,bc,rfl,M,h1,h2,h3⟩:=hI
   obtain⟨y,ey,my⟩:=jc h2
   obtain⟨z,ez,mz⟩:=jc (a:=a) (i:=ia) (by lia)
   refine hG ?_
   clear hG
   dsimp -zeta only
   refine XI (qR ey (XI (qR ez (XI (zj3 T hk1 (mb y my) (ma z mz) ?_)))))
   dsimp -zeta only
   refine qw (fun hlt=>?_) fun hlt=>?_
   ·have hlt':rk y<rk z:=of_decide_eq_true hlt;have M2:=MI.oneB M sb ey fun v hv=>VB (V6 hlt') (JT sa ez v hv);refine XI (qR ey ?_);refine qw (fun he=>Xu ⟨rfl,.inl ⟨_,rfl,Yk M2 sa (by rw[show ib+1=b.size by simpa using he];exact XU _)⟩⟩) fun he=>?_;have hb3:ib+1<b.size:=by
     have:¬ ib+1=b.size:=by simpa using he
     lia
    exact qw (fun _=>Xu ⟨rfl,.inr ⟨_,_,_,_,_,rfl,M2,h1,hb3,by lia⟩⟩) fun _=>Xu ⟨rfl,_,_,_,_,_,rfl,M2,h1,hb3,by lia⟩
   ·have hlt':¬ rk y<rk z:=fun q=>hlt (decide_eq_true q);have M2:=MI.oneA M sa ez fun v hv=>VB (OY.mp hlt') (JT sb ey v hv);refine XI (qR ez ?_);refine qw (fun he=>Xu ⟨rfl,.inl ⟨_,rfl,Yl M2 sa sb hl (by simpa using he)⟩⟩) fun he=>?_;have ha3:ia+1+1<a.size:=by
     have:¬ ia+1+1=a.size:=by simpa using he
     lia
    exact qw (fun _=>Xu ⟨rfl,.inr ⟨_,_,_,_,_,rfl,M2,ha3,h2,by lia⟩⟩) fun _=>Xu ⟨rfl,_,_,_,_,_,rfl,M2,ha3,h2,by lia⟩
  case post1 =>
   intro c st' hI
   refine via fun G hG=>?_
   rcases hI with ⟨rfl,hc1 | ⟨out,ia,ib,ac,bc,rfl,M,h1,h2,h3⟩⟩
   all_goals (refine hG ?_;clear hG)
   ·obtain⟨res,e,hM⟩:=hc1;obtain⟨c1,c2⟩:=c;dsimp only at e ⊢;subst e;exact Xu ⟨res,rfl,hM,k1⟩
   dsimp -zeta only
   refine XI (RL (U2 ⟨rfl,?_⟩))
   refine XI (UC (V7 (I:=fun x c st2=>∃out ia ib mg ac bc,c=(none,out,ia,ib,mg,ac,bc)/\MI rk a.toList b.toList ia ib out.toList/\ia+1<a.size/\ib<b.size/\x0+2<=ia+ib/\Kept st0 st2)
    (Q:=fun c st2=>(∃res,c.1=some res/\Mg rk a.toList b.toList res.toList/\Kept st0 st2)\/∃out ia ib mg ac bc,c=(none,out,ia,ib,mg,ac,bc)/\MI rk a.toList b.toList ia ib out.toList/\ia+1<a.size/\ib<b.size/\x0+2<=ia+ib/\Kept st0 st2) ?step2 ?fin2 ⟨_,_,_,_,_,_,rfl,M,h1,h2,h3,k1⟩) ?post2)
   case fin2 =>
    rintro c st2 hc
    exact .inr hc
   case post2 =>
    rintro c st2 (⟨res,e,hM,k2⟩ | ⟨out,ia,ib,mg,ac,bc,rfl,M,h1,h2,h3,k2⟩)
    ·obtain⟨c1,c2⟩:=c;dsimp only at e ⊢;subst e;exact Xu ⟨res,rfl,hM,k2⟩
    ·dsimp -zeta only;exact XI (zd5 k2 fun st3 k3=>Xu ⟨_,_,_,_,rfl,M,h1,h2,by lia,k3⟩)
   case step2 =>
    intro x c st2 _ hx hI
    refine via fun G hG=>?_
    obtain⟨out,ia,ib,mg,ac,bc,rfl,M,h1,h2,h3,k2⟩:=hI
    obtain⟨y,ey,my⟩:=jc h2
    refine hG ?_
    clear hG
    dsimp -zeta only
    refine' cut ?key1 fun key=>qw (fun hmg=>?a1) fun hmg=>?b1
    case a1 =>
     generalize mg-1=mg1
     revert mg1
     exact key.get
    case b1=>exact key.get mg
    intro mg1
    dsimp -zeta only
    refine XI (zd5 k2 fun st3 k3=>?_)
    have hk3:kindOf st3=κ:=k3.kind.trans hk
    refine XI (qR ey (XI (zav T hk3 (mb y my) ma (fun i j u v _ hij _ eu ev=>zhw sa hij eu ev) (by lia) (by lia) fun k hk4 g1 g2=>?_)))
    dsimp -zeta only
    refine' cut ?key2 fun key=>qw (fun hk0=>?a2) fun hk0=>?b2
    case a2 =>
     have M2:=MI.someA M sa sb ey g1
     refine qw (fun he=>Xu (.inl ⟨_,rfl,Yl M2 sa sb hl (by simpa using he),k3⟩)) fun he=>?_
     have ne1:¬ ia+k+1=a.size:=by simpa using he
     have kl:ia+k<a.size:=by
      refine Nat.lt_of_not_le fun hge=>?_;obtain⟨v,ev,mv⟩:=jc (a:=a) (i:=a.size-1) (by lia);have q1:=g1 (a.size-1-ia) v (by lia) (by rw[show ia+(a.size-1-ia)=a.size-1 by lia];exact ev);have q2:=hl' y my v ev;lia
     refine qw (fun he2=>absurd (show ia+k=a.size by simpa using he2) (by lia)) fun he2=>?_
     have h1':ia+k+1<a.size:=by lia
     have h3':x0+2<=ia+k+ib:=by lia
     have g2':∀z,a[ia+k]?=some z->rk y<=rk z:=fun z ez=>V6 (g2 k z (XU _) (by lia) ez)
     generalize out++a.extract ia (ia+k)=zd6 at M2 ⊢
     generalize ia+k=ia1 at M2 h1' h3' g2' ⊢
     revert g2';revert h3';revert h1';revert M2;revert ia1;revert zd6
     exact key.get
    case b2=>exact key.get out ia M h1 h3 fun z ez=>V6 (g2 0 z (by lia) (by lia) (by simpa using ez))
    intro zd6 ia1 M2 h1' h3' g2'
    refine via fun G hG=>?_
    obtain⟨z,ez,mz⟩:=jc (a:=a) (i:=ia1) (by lia)
    refine hG ?_
    clear hG
    have M3:=MI.oneB M2 sb ey fun v hv=>VB (g2' z ez) (JT sa ez v hv)
    refine XI (qR ey ?_)
    refine qw (fun he=>Xu (.inl ⟨_,rfl,Yk M3 sa (by rw[show ib+1=b.size by simpa using he];exact XU _),k3⟩)) fun he=>?_
    have hb3:ib+1<b.size:=by
     have:¬ ib+1=b.size:=by simpa using he
     lia
    refine XI (qR ez (XI (zaw T hk3 (ma z mz) mb (fun i j u v _ hij _ eu ev=>zhw sb hij eu ev) (by lia) (by lia) fun k' hk5 g3 g4=>?_)))
    dsimp -zeta only
    refine' cut ?key3 fun key=>qw (fun hk0'=>?a3) fun hk0'=>?b3
    case a3 =>
     have M4:=MI.someB M3 sa sb ez fun i u hi eu=>V6 (g3 i u hi eu)
     refine qw (fun he=>Xu (.inl ⟨_,rfl,Yk M4 sa (by rw[show ib+1+k'=b.size by simpa using he];exact XU _),k3⟩)) fun he=>?_
     have hb4:ib+1+k'<b.size:=by
      have:¬ ib+1+k'=b.size:=by simpa using he
      lia
     have g4':∀v,b[ib+1+k']?=some v->rk z<=rk v:=fun v ev=>g4 k' v (XU _) (by lia) ev
     have h3'':x0+2<=ia1+(ib+1+k'):=by lia
     generalize zd6.push y++b.extract (ib+1) (ib+1+k')=zj7 at M4 ⊢
     generalize ib+1+k'=ib1 at M4 hb4 g4' h3'' ⊢
     revert h3'';revert g4';revert hb4;revert M4;revert ib1;revert zj7
     exact key.get
    case b3=>exact key.get (zd6.push y) (ib+1) M3 hb3 (fun v ev=>g4 0 v (by lia) (by lia) (by simpa using ev)) (by lia)
    intro zj7 ib1 M4 hb4 g4' h3''
    refine via fun G hG=>?_
    obtain⟨v,ev,mv⟩:=jc (a:=b) (i:=ib1) hb4
    refine hG ?_
    clear hG
    have M5:=MI.oneA M4 sa ez fun u hu=>VB (g4' v ev) (JT sb ev u hu)
    refine XI (qR ez ?_)
    refine qw (fun he=>Xu (.inl ⟨_,rfl,Yl M5 sa sb hl (by simpa using he),k3⟩)) fun he=>?_
    have ha3:ia1+1+1<a.size:=by
     have:¬ ia1+1+1=a.size:=by simpa using he
     lia
    exact qw (fun _=>Xu (.inr ⟨_,_,_,_,_,_,rfl,M5,ha3,hb4,by lia,k3⟩)) fun _=>Xu ⟨_,_,_,_,_,_,rfl,M5,ha3,hb4,by lia,k3⟩
end
end GS
namespace GS
def neg (rk:Xd->Int):Xd->Int:=fun x=>- rk x
theorem zbm {a:Array Xd}{j:Nat}(h:j<a.size):a.reverse[j]?=a[a.size-1-j]?:=by
 rw[Rc h]
def Hi (rk:Xd->Int)(a b:Array Xd)(na nb:Nat)(out:Array Xd):Prop:=MI (neg rk) a.reverse.toList b.reverse.toList (a.size-na) (b.size-nb) out.toList
section
variable {rk:Xd->Int}{a b out:Array Xd}{na nb:Nat}
theorem ZN (sa:a.toList.Pairwise fun x y=>rk x<=rk y):a.reverse.toList.Pairwise fun x y=>neg rk x<=neg rk y:=by
 rw[Vm,P0];exact sa.imp fun h=>Tf h
theorem zbR {i:Nat}{x:Xd}(h1:1<=i)(h2:i<=a.size)(e:a[i-1]?=some x):a.reverse[a.size-i]?=some x:=by
 rw[zbm (by lia),show a.size-1-(a.size-i)=i-1 by lia];exact e
theorem Hi.oneA {x y:Xd}(M:Hi rk a b na nb out)(sa:a.toList.Pairwise fun x y=>rk x<=rk y)(sb:b.toList.Pairwise fun x y=>rk x<=rk y)(h1:1<=na)(h2:na<=a.size)(h3:1<=nb)(h4:nb<=b.size)(ex:a[na-1]?=some x)(ey:b[nb-1]?=some y)(h:rk y<=rk x):Hi rk a b (na-1) nb (out.push x):=by
 have:=MI.oneA (rk:=neg rk) M (ZN sa) (zbR h1 h2 ex) fun v hv=>VB (Tf h) (JT (ZN sb) (zbR h3 h4 ey) v hv);unfold Hi;rw[show a.size-(na-1)=a.size-na+1 by lia];exact this
theorem Hi.oneB {x y:Xd}(M:Hi rk a b na nb out)(sa:a.toList.Pairwise fun x y=>rk x<=rk y)(sb:b.toList.Pairwise fun x y=>rk x<=rk y)(h1:1<=na)(h2:na<=a.size)(h3:1<=nb)(h4:nb<=b.size)(ex:a[na-1]?=some x)(ey:b[nb-1]?=some y)(h:rk x<=rk y):Hi rk a b na (nb-1) (out.push y):=by
 have:=MI.oneB (rk:=neg rk) M (ZN sb) (zbR h3 h4 ey) fun v hv=>VB (Tf h) (JT (ZN sa) (zbR h1 h2 ex) v hv);unfold Hi;rw[show b.size-(nb-1)=b.size-nb+1 by lia];exact this
theorem zma {i j:Nat}(h1:i<=j)(h2:j<=a.size):(a.extract i j).reverse=a.reverse.extract (a.size-j) (a.size-j+(j-i)):=by
 apply Array.ext_getElem?;intro k;by_cases hk:k<j-i
 ·rw[Rc (by rw[Ur];lia),S2,S2,Ur];rw[if_pos (by lia),if_pos (by rw[U1];lia),zbm (by lia)];congr 1;lia
 ·rw[WK (by rw[U1,Ur];lia),WK (by rw[Ur,U1];lia)]
theorem Hi.someA {i:Nat}{y:Xd}(M:Hi rk a b na nb out)(sa:a.toList.Pairwise fun x y=>rk x<=rk y)(sb:b.toList.Pairwise fun x y=>rk x<=rk y)(h1:i<=na)(h2:na<=a.size)(h3:1<=nb)(h4:nb<=b.size)(ey:b[nb-1]?=some y)(h:∀j x,i<=j->j<na->a[j]?=some x->rk y<=rk x):Hi rk a b i nb (out++(a.extract i na).reverse):=by
 have:=MI.someA (rk:=neg rk) (k:=na-i) M (ZN sa) (ZN sb) (zbR h3 h4 ey) fun j x hj ex=>Tf (h (na-1-j) x (by lia) (by lia) (by
  rw[zbm (by lia)] at ex;rw[<- ex];congr 1;lia))
 unfold Hi;rw[zma h1 h2,show a.size-i=a.size-na+(na-i) by lia];exact this
theorem Hi.someB {i:Nat}{y:Xd}(M:Hi rk a b na nb out)(sa:a.toList.Pairwise fun x y=>rk x<=rk y)(sb:b.toList.Pairwise fun x y=>rk x<=rk y)(h1:i<=nb)(h2:nb<=b.size)(h3:1<=na)(h4:na<=a.size)(ey:a[na-1]?=some y)(h:∀j x,i<=j->j<nb->b[j]?=some x->rk y<=rk x):Hi rk a b na i (out++(b.extract i nb).reverse):=(Hi.someA (a:=b) (b:=a) M.swap sb sa h1 h2 h3 h4 ey h).swap
theorem zj8 {oL:List Xd}(h:Mg (neg rk) b.reverse.toList a.reverse.toList oL):Mg rk a.toList b.toList oL.reverse:=by
 obtain⟨p,q⟩:=h;rw[Vm,Vm] at p;refine⟨?_,?_⟩
 ·refine(RY _).trans (p.trans (SW.trans ?_));exact List.Perm.append (RY _) (RY _)
 ·rw[P0];refine q.imp fun {x y} h=>?_;have h':- rk x<=- rk y:=h;lia
theorem zbn {i:Nat}(h:i<=a.size):(a.reverse.extract (a.size-i) a.reverse.size).toList.reverse=(a.extract 0 i).toList:=by
 rw[QU,Vm,ext_toList _ _ _ (WZ _),List.drop_zero,Nat.sub_zero];have:=List.reverse_take (l:=a.toList) (i:=i);rw[X5] at this;rw[<- this,SF]
theorem Hi.done (M:Hi rk a b 0 nb out)(sb:b.toList.Pairwise fun x y=>rk x<=rk y)(h:nb<=b.size):Mg rk a.toList b.toList (a.extract 0 0++b.extract 0 nb++out.reverse).toList:=by
 have h1:=Yk (rk:=neg rk) (a:=b.reverse) (b:=a.reverse) M.swap (ZN sb) (by rw[U1];lia);have h2:=zj8 h1;rw[WO,WO,TV,TV,zbn h] at h2;have e0:=zbn (a:=a) (i:=0) (WZ _);rw[e0] at h2;rw[WO,WO,Vm,WX];exact h2
theorem Hi.first (M:Hi rk a b na 1 out)(sa:a.toList.Pairwise fun x y=>rk x<=rk y)(sb:b.toList.Pairwise fun x y=>rk x<=rk y)(hb:0<b.size)(h:na<=a.size)(h0:∀x y,b[0]?=some x->y∈a.toList->rk x<rk y):Mg rk a.toList b.toList (b.extract 0 1++a.extract 0 na++out.reverse).toList:=by
 have h1:=Yl (rk:=neg rk) (a:=b.reverse) (b:=a.reverse) M.swap (ZN sb) (ZN sa) (fun x hx y ey=>by
  rw[U1,zbm (by lia),show b.size-1-(b.size-1)=0 by lia] at ey;have hx':x∈a.toList:=by simpa using hx
  exact Tf (V6 (h0 y x ey hx'))) (by rw[U1];lia)
 have h2:=zj8 h1;rw[WO,WO,TV,TV,zbn h,zbn (by lia)] at h2;rw[WO,WO,Vm,WX];exact h2
end
section
variable {prog:Xn}{w:WW}{A:WM}{E:X8->X6->Prop}{s:X6}{rk:Xd->Int}{κ:Ub}{a0:Array Xd}
set_option maxHeartbeats 8000000 in
theorem ziL {st0:WS}{a b:Array Xd}{Q:Array Xd->WS->Prop}(T:Tells prog w A s κ rk a0)(hk:kindOf st0=κ)(ma:∀x∈a.toList,x∈a0.toList)(mb:∀x∈b.toList,x∈a0.toList)(sa:a.toList.Pairwise fun x y=>rk x<=rk y)(sb:b.toList.Pairwise fun x y=>rk x<=rk y)
  (ha:0<a.size) (hb:0<b.size) (h0:∀x y,b[0]?=some x->y∈a.toList->rk x<rk y) (hl:∀x∈b.toList,∀y,a[a.size-1]?=some y->rk x<rk y)
  (h:∀out st',Kept st0 st'->Mg rk a.toList b.toList out.toList->Q out st'):wpS (Xk prog w) A E s (mergeHi' a b) Q st0:=by
 refine XI (RL (U2 ⟨rfl,?_⟩));obtain⟨z0,ez0,_⟩:=jc (a:=a) (i:=a.size-1) (by lia);obtain⟨y0,ey0,my0⟩:=jc (a:=b) (i:=b.size-1) (by lia);refine XI (qR ez0 ?_);have M0:Hi rk a b a.size b.size #[]:=by
  unfold Hi;rw[Tj,Tj];exact⟨by simp,List.Pairwise.nil,(fun x hx=>nomatch hx),(fun x hx=>nomatch hx)⟩
 have M1:Hi rk a b (a.size-1) b.size #[z0]:=M0.oneA sa sb (by lia) (XU _) (by lia) (XU _) ez0 ey0 (V6 (hl y0 my0 z0 ez0));dsimp -zeta only;refine qw (fun hc=>Xu (h _ _ (Kept.refl _) ?_)) fun hc=>?_
 ·have e:a.size-1=0:=by simpa using hc
  rw[e] at M1 ⊢;exact M1.done sb (XU _)
 refine qw (fun hc2=>Xu (h _ _ (Kept.refl _) ?_)) fun hc2=>?_
 ·have e:b.size=1:=by simpa using hc2
  rw[e] at M1 ⊢;exact M1.first sa sb hb (by lia) h0
 have ha2:1<=a.size-1:=by
  have:¬ a.size-1=0:=by simpa using hc
  lia
 have hb2:1<b.size:=by
  have:¬ b.size=1:=by simpa using hc2
  lia
 refine XI (SQ ?_);refine XI (UC (V7 (I:=fun x c st'=>∃na nb out mg,c=(none,na,nb,out,mg)/\Hi rk a b na nb out/\1<=na/\na<a.size/\1<nb/\nb<=b.size/\na+nb+x+1<=a.size+b.size/\Kept st0 st')
  (Q:=fun c st'=>∃res,c.1=some res/\Mg rk a.toList b.toList res.toList/\Kept st0 st') ?step ?fin ⟨_,_,_,_,rfl,M1,ha2,by lia,hb2,XU _,by lia,Kept.refl _⟩) ?post)
 case fin =>
  rintro c st' ⟨na,nb,out,mg,rfl,M,h1,h2,h3,h4,h5,k⟩
  lia
 case post =>
  rintro⟨c1,c2⟩ st' ⟨res,e,hM,k⟩
  dsimp only at e ⊢
  subst e
  exact Xu (h _ _ k hM)
 case step =>
  intro x0 c st1 _ hx0 hI
  refine via fun G hG=>?_
  obtain⟨na,nb,out,mg,rfl,M,h1,h2,h3,h4,h5,k1⟩:=hI
  refine hG ?_
  clear hG
  have hk1:kindOf st1=κ:=k1.kind.trans hk
  dsimp -zeta only
  refine XI (UC (V7 (I:=fun x c st'=>st'=st1/\∃na nb out ac bc,c=(none,na,nb,out,ac,bc)/\Hi rk a b na nb out/\1<=na/\na<a.size/\1<nb/\nb<=b.size/\na+nb+x0+1+x<=a.size+b.size)
   (Q:=fun c st'=>st'=st1/\((∃res,c.1=some res/\Mg rk a.toList b.toList res.toList)\/∃na nb out ac bc,c=(none,na,nb,out,ac,bc)/\Hi rk a b na nb out/\1<=na/\na<a.size/\1<nb/\nb<=b.size/\na+nb+x0+2<=a.size+b.size)) ?step1 ?fin1 ⟨rfl,_,_,_,_,_,rfl,M,h1,h2,h3,h4,by lia⟩) ?post1)
  case fin1 =>
   rintro c st' ⟨rfl,na,nb,out,ac,bc,rfl,M,h1,h2,h3,h4,h5⟩
   exact⟨rfl,.inr ⟨na,nb,out,ac,bc,rfl,M,h1,h2,h3,h4,by lia⟩⟩
  case step1 =>
   intro x c st' _ hx hI
   refine via fun G hG=>?_
   obtain⟨rfl,na,nb,out,ac,bc,rfl,M,h1,h2,h3,h4,h5⟩:=hI
   obtain⟨y,ey,my⟩:=jc (a:=b) (i:=nb-1) (by lia)
   obtain⟨z,ez,mz⟩:=jc (a:=a) (i:=na-1) (by lia)
   refine hG ?_
   clear hG
   dsimp -zeta only
   refine XI (qR ey (XI (qR ez (XI (zj3 T hk1 (mb y my) (ma z mz) ?_)))))
   dsimp -zeta only
   refine qw (fun hlt=>?_) fun hlt=>?_
   ·have hlt':rk y<rk z:=of_decide_eq_true hlt;have M2:=M.oneA sa sb h1 (by lia) (by lia) h4 ez ey (V6 hlt');refine XI (qR ez ?_);refine qw (fun he=>Xu ⟨rfl,.inl ⟨_,rfl,?_⟩⟩) fun he=>?_
    ·have e:na-1=0:=by simpa using he
     rw[e] at M2 ⊢;exact M2.done sb h4
    have hn:1<=na-1:=by
     have:¬ na-1=0:=by simpa using he
     lia
    exact qw (fun _=>Xu ⟨rfl,.inr ⟨_,_,_,_,_,rfl,M2,hn,by lia,h3,h4,by lia⟩⟩) fun _=>Xu ⟨rfl,_,_,_,_,_,rfl,M2,hn,by lia,h3,h4,by lia⟩
   ·have hlt':¬ rk y<rk z:=fun q=>hlt (decide_eq_true q);have M2:=M.oneB sa sb h1 (by lia) (by lia) h4 ez ey (OY.mp hlt');refine XI (qR ey ?_);refine qw (fun he=>Xu ⟨rfl,.inl ⟨_,rfl,?_⟩⟩) fun he=>?_
    ·have e:nb-1=1:=by simpa using he
     rw[e] at M2 ⊢;exact M2.first sa sb hb (by lia) h0
    have hn:1<nb-1:=by
     have:¬ nb-1=1:=by simpa using he
     lia
    exact qw (fun _=>Xu ⟨rfl,.inr ⟨_,_,_,_,_,rfl,M2,h1,h2,hn,by lia,by lia⟩⟩) fun _=>Xu ⟨rfl,_,_,_,_,_,rfl,M2,h1,h2,hn,by lia,by lia⟩
  case post1 =>
   intro c st' hI
   refine via fun G hG=>?_
   rcases hI with ⟨rfl,hc1 | ⟨na,nb,out,ac,bc,rfl,M,h1,h2,h3,h4,h5⟩⟩
   all_goals (refine hG ?_;clear hG)
   ·obtain⟨res,e,hM⟩:=hc1;obtain⟨c1,c2⟩:=c;dsimp only at e ⊢;subst e;exact Xu ⟨res,rfl,hM,k1⟩
   dsimp -zeta only
   refine XI (RL (U2 ⟨rfl,?_⟩))
   refine XI (UC (V7 (I:=fun x c st2=>∃na nb out mg ac bc,c=(none,na,nb,out,mg,ac,bc)/\Hi rk a b na nb out/\1<=na/\na<a.size/\1<nb/\nb<=b.size/\na+nb+x0+2<=a.size+b.size/\Kept st0 st2)
    (Q:=fun c st2=>(∃res,c.1=some res/\Mg rk a.toList b.toList res.toList/\Kept st0 st2)\/∃na nb out mg ac bc,c=(none,na,nb,out,mg,ac,bc)/\Hi rk a b na nb out/\1<=na/\na<a.size/\1<nb/\nb<=b.size/\na+nb+x0+2<=a.size+b.size/\Kept st0 st2) ?step2 ?fin2 ⟨_,_,_,_,_,_,rfl,M,h1,h2,h3,h4,h5,k1⟩) ?post2)
   case fin2 =>
    rintro c st2 hc
    exact .inr hc
   case post2 =>
    rintro c st2 (⟨res,e,hM,k2⟩ | ⟨na,nb,out,mg,ac,bc,rfl,M,h1,h2,h3,h4,h5,k2⟩)
    ·obtain⟨c1,c2⟩:=c;dsimp only at e ⊢;subst e;exact Xu ⟨res,rfl,hM,k2⟩
    ·dsimp -zeta only;exact XI (zd5 k2 fun st3 k3=>Xu ⟨_,_,_,_,rfl,M,h1,h2,h3,h4,by lia,k3⟩)
   case step2 =>
    intro x c st2 _ hx hI
    refine via fun G hG=>?_
    obtain⟨na,nb,out,mg,ac,bc,rfl,M,h1,h2,h3,h4,h5,k2⟩:=hI
    obtain⟨y,ey,my⟩:=jc (a:=b) (i:=nb-1) (by lia)
    refine hG ?_
    clear hG
    dsimp -zeta only
    refine' cut ?key1 fun key=>qw (fun hmg=>?a1) fun hmg=>?b1
    case a1 =>
     generalize mg-1=mg1
     revert mg1
     exact key.get
    case b1=>exact key.get mg
    intro mg1
    dsimp -zeta only
    refine XI (zd5 k2 fun st3 k3=>?_)
    have hk3:kindOf st3=κ:=k3.kind.trans hk
    refine XI (qR ey (XI (zav T hk3 (mb y my) ma (fun i j u v _ hij _ eu ev=>zhw sa hij eu ev) (by lia) (by lia) fun k hk4 g1 g2=>?_)))
    dsimp -zeta only
    refine' cut ?key2 fun key=>qw (fun hk0=>?a2) fun hk0=>?b2
    case a2 =>
     have M2:=M.someA sa sb (i:=k) (by lia) (by lia) (by lia) h4 ey fun j u hj1 hj2 eu=>V6 (g2 j u hj1 hj2 (by simpa using eu))
     refine qw (fun he=>Xu (.inl ⟨_,rfl,(by
      have e:k=0:=by simpa using he
      rw[e] at M2 ⊢;exact M2.done sb h4),k3⟩)) fun he=>?_
     have h1':1<=k:=by
      have:¬ k=0:=by simpa using he
      lia
     have h2':k<a.size:=by lia
     have h5':k+nb+x0+2<=a.size+b.size:=by lia
     have g1':∀z,a[k-1]?=some z->rk z<=rk y:=fun z ez=>g1 (k-1) z (by lia) (by simpa using ez)
     generalize out++(a.extract k na).reverse=zd6 at M2 ⊢
     generalize na-k=kk
     generalize k=na1 at M2 h1' h2' h5' g1' ⊢
     revert g1';revert h5';revert h2';revert h1';revert M2;revert na1;revert kk;revert zd6
     exact key.get
    case b2=>exact key.get out (na-k) na M h1 h2 h5 fun z ez=>g1 (na-1) z (by lia) (by simpa using ez)
    intro zd6 kk na1 M2 h1' h2' h5' g1'
    refine via fun G hG=>?_
    obtain⟨z,ez,mz⟩:=jc (a:=a) (i:=na1-1) (by lia)
    refine hG ?_
    clear hG
    have M3:=M2.oneB sa sb h1' (by lia) (by lia) h4 ez ey (g1' z ez)
    refine XI (qR ey ?_)
    refine qw (fun he=>Xu (.inl ⟨_,rfl,(by
     have e:nb-1=1:=by simpa using he
     rw[e] at M3 ⊢;exact M3.first sa sb hb (by lia) h0),k3⟩)) fun he=>?_
    have hn:1<nb-1:=by
     have:¬ nb-1=1:=by simpa using he
     lia
    refine XI (qR ez (XI (zaw T hk3 (ma z mz) mb (fun i j u v _ hij _ eu ev=>zhw sb hij eu ev) (by lia) (by lia) fun k' hk5 g3 g4=>?_)))
    dsimp -zeta only
    refine' cut ?key3 fun key=>qw (fun hk0'=>?a3) fun hk0'=>?b3
    case a3 =>
     have M4:=M3.someB sa sb (i:=k') (by lia) (by lia) h1' (by lia) ez fun j u hj1 hj2 eu=>g4 j u hj1 hj2 (by simpa using eu)
     refine qw (fun he=>Xu (.inl ⟨_,rfl,(by
      have e:k'=1:=by simpa using he
      rw[e] at M4 ⊢;exact M4.first sa sb hb (by lia) h0),k3⟩)) fun he=>?_
     have k1':1<=k':=by
      refine Rb.mpr fun hz=>?_;obtain⟨v,ev,mv⟩:=jc (a:=b) (i:=0) hb;have q1:=g4 0 v (by lia) (by lia) (by simpa using ev);have q2:=h0 v z ev mz;lia
     refine qw (fun he2=>absurd (show k'=0 by simpa using he2) (by lia)) fun he2=>?_
     have hn':1<k':=by
      have:¬ k'=1:=by simpa using he
      lia
     have hb':k'<=b.size:=by lia
     have h5'':na1+k'+x0+2<=a.size+b.size:=by lia
     have g3':∀v,b[k'-1]?=some v->rk v<=rk z:=fun v ev=>V6 (g3 (k'-1) v (by lia) (by simpa using ev))
     generalize zd6.push y++(b.extract k' (nb-1)).reverse=zj7 at M4 ⊢
     generalize nb-1-k'=kk'
     generalize k'=nb1 at M4 hn' hb' h5'' g3' ⊢
     revert g3';revert h5'';revert hb';revert hn';revert M4;revert nb1;revert kk';revert zj7
     exact key.get
    case b3=>exact key.get (zd6.push y) (nb-1-k') (nb-1) M3 hn (by lia) (by lia) fun v ev=>V6 (g3 (nb-1-1) v (by lia) (by simpa using ev))
    intro zj7 kk' nb1 M4 hn' hb' h5'' g3'
    obtain⟨v,ev,mv⟩:=jc (a:=b) (i:=nb1-1) (by lia)
    have M5:=M4.oneA sa sb h1' (by lia) (by lia) hb' ez ev (g3' v ev)
    refine XI (qR ez ?_)
    refine qw (fun he=>Xu (.inl ⟨_,rfl,(by
     have e:na1-1=0:=by simpa using he
     rw[e] at M5 ⊢;exact M5.done sb hb'),k3⟩)) fun he=>?_
    have hn2:1<=na1-1:=by
     have:¬ na1-1=0:=by simpa using he
     lia
    exact qw (fun _=>Xu (.inr ⟨_,_,_,_,_,_,rfl,M5,hn2,by lia,hn',hb',by lia,k3⟩)) fun _=>Xu ⟨_,_,_,_,_,_,rfl,M5,hn2,by lia,hn',hb',by lia,k3⟩
end
end GS
namespace GS
theorem zdc (sa:Nat):∀(l:List Xd) (j:Nat) (arr:Array Xd),((l.zipIdx j).foldl (fun a (p:Xd×Nat)=>a.setIfInBounds (sa+p.2) p.1) arr).size=arr.size
 | [],_,_=>rfl
 | x::l,j,arr=>by
  rw[List.zipIdx_cons,VT,zdc sa l (j+1)];exact TK
theorem zmb (sa:Nat):∀(l:List Xd) (j:Nat) (arr:Array Xd) (i:Nat),sa+j+l.length<=arr.size->((l.zipIdx j).foldl (fun a (p:Xd×Nat)=>a.setIfInBounds (sa+p.2) p.1) arr)[i]?=if sa+j<=i/\i<sa+j+l.length then l[i-(sa+j)]? else arr[i]?:=by
 intro l;induction l with
 | nil =>
  intro j arr i h;rw[if_neg (by simp only[Vi];lia)];rfl
 | cons x l ih =>
  intro j arr i h;rw[Xm] at h;rw[List.zipIdx_cons,VT,ih (j+1) _ i (by rw[TK];lia),Xm];by_cases h1:sa+(j+1)<=i/\i<sa+(j+1)+l.length
  ·rw[if_pos h1,if_pos (by lia),show i-(sa+j)=(i-(sa+(j+1)))+1 by lia,Rw]
  ·rw[if_neg h1];by_cases h2:i=sa+j
   ·subst h2;rw[if_pos (by lia),Tj,List.getElem?_cons_zero];show (arr.setIfInBounds (sa+j) x)[sa+j]?=some x;rw[Uj,if_pos rfl,if_pos (by lia)]
   ·rw[if_neg (by lia)];show (arr.setIfInBounds (sa+j) x)[i]?=arr[i]?;rw[Uj,if_neg (fun e=>h2 e.symm)]
section
variable {prog:Xn}{w:WW}{A:WM}{E:X8->X6->Prop}{s:X6}{rk:Xd->Int}{κ:Ub}{a0:Array Xd}
theorem yQ {xs:Array Xd}{lo hi:Nat}(u:Up rk xs lo hi){i j:Nat}{x y:Xd}(h1:lo<=i)(h2:i<=j)(h3:j<hi)(ex:xs[i]?=some x)(ey:xs[j]?=some y):rk x<=rk y:=by
 have:=u i j h1 h2 h3;unfold Rk at this;rw[ex,ey] at this;exact this
theorem znb {xs:Array Xd}{lo hi:Nat}(hz:hi<=xs.size)(h:∀i j x y,lo<=i->i<=j->j<hi->xs[i]?=some x->xs[j]?=some y->rk x<=rk y):Up rk xs lo hi:=fun i j h1 h2 h3=>by
 obtain⟨x,ex,_⟩:=jc (a:=xs) (i:=i) (by lia);obtain⟨y,ey,_⟩:=jc (a:=xs) (i:=j) (by lia);unfold Rk;rw[ex,ey];exact h i j x y h1 h2 h3 ex ey
theorem zhx {xs:Array Xd}{i:Nat}{x:Xd}(e:xs[i]?=some x):x∈xs.toList:=X7 (by rw[Xv];exact e)
theorem ext_get {xs:Array Xd}{i j k:Nat}(h1:i<=j)(h2:j<=xs.size)(hk:k<j-i):(xs.extract i j)[k]?=xs[i+k]?:=by
 rw[S2,if_pos (by lia)]
theorem QV {xs:Array Xd}{i j:Nat}(h2:j<=xs.size):(xs.extract i j).size=j-i:=by
 rw[Ur];lia
theorem zj9 {xs:Array Xd}{lo hi i j:Nat}(u:Up rk xs lo hi)(h1:lo<=i)(h2:j<=hi)(h3:j<=xs.size):(xs.extract i j).toList.Pairwise fun x y=>rk x<=rk y:=by
 rw[Vw];intro m n hm hn hmn;rw[X5,QV h3] at hm hn;have em:=ext_get (xs:=xs) (i:=i) (j:=j) (k:=m) (by lia) h3 hm;have en:=ext_get (xs:=xs) (i:=i) (j:=j) (k:=n) (by lia) h3 hn;refine yQ u (i:=i+m) (j:=i+n) (by lia) (by lia) (by lia) ?_ ?_
 ·rw[<- em,UM];exact getElem?_pos _ _ _
 ·rw[<- en,UM];exact getElem?_pos _ _ _
theorem ext_mem {xs:Array Xd}{i j:Nat}{x:Xd}(h3:j<=xs.size)(h:x∈(xs.extract i j).toList):∃k,i<=k/\k<j/\xs[k]?=some x:=by
 obtain⟨k,hk,e⟩:=TW h;rw[X5,QV h3] at hk;refine⟨i+k,by lia,by lia,?_⟩;rw[<- ext_get (xs:=xs) (i:=i) (j:=j) (by lia) h3 hk,<- e,UM];exact getElem?_pos _ _ _
theorem zpE {st st1:WS}{Q:PUnit->WS->Prop}(h:∀st2,st2=st1->Q ⟨⟩ st2):wpS (Xk prog w) A E s (set st1:StateT WS Sem PUnit) Q st:=by
 unfold wpS;rw[StateT.run_set];exact XS ⟨rfl,h _ rfl⟩
set_option maxHeartbeats 8000000 in
theorem ziM {st:WS}{i sa na p1 nb p2:Nat}{Q:Bool->WS->Prop}(T:Tells prog w A s κ rk a0)(O:Ok κ a0 st)(e1:(WR st)[i]?=some (sa,na,p1))(e2:(WR st)[i+1]?=some (sa+na,nb,p2))(hna:1<=na)(hnb:1<=nb)(hz:sa+na+nb<=a0.size)(u1:Up rk (Xp st) sa (sa+na))(u2:Up rk (Xp st) (sa+na) (sa+na+nb))
  (h:∀st',Ok κ a0 st'->WR st'=((WR st).setIfInBounds i (sa,na+nb,p1)).eraseIdxIfInBounds (i+1)->Up rk (Xp st') sa (sa+na+nb)->(∀j:Nat,(j<sa\/sa+na+nb<=j)->(Xp st')[j]?=(Xp st)[j]?)->Q true st'):wpS (Xk prog w) A E s (mergeAt' i) Q st:=by
 have hsz:=O.size;have mX:∀x∈(Xp st).toList,x∈a0.toList:=fun x hx=>(UZ.mp O.perm).mem_iff.mp hx;obtain⟨b0,eb0,mb0⟩:=jc (a:=Xp st) (i:=sa+na) (by lia);refine XI (SQ ?_);rw[e1,e2];dsimp only;refine XI (zpE fun st1 hst=>?_);have k1:kindOf st1=κ:=by rw[hst];exact O.kind
 have ea:Xp st1=Xp st:=by rw[hst]
 have ep:WR st1=((WR st).setIfInBounds i (sa,na+nb,p1)).eraseIdxIfInBounds (i+1):=by rw[hst]
 have ef:Tl st1=none:=by rw[hst];exact O.good
 have O1:Ok κ a0 st1:=⟨by rw[ea];exact O.perm,k1,ef⟩;refine XI (qR eb0 (XI (zav T k1 (mX b0 mb0) mX (fun p q u v h1 h2 h3 eu ev=>yQ u1 h1 h2 h3 eu ev) (by show sa+na<=(Xp st).size;lia) (by lia) fun k hk g1 g2=>?_)));dsimp only;refine qw (fun hc=>Xu (h st1 O1 ep (znb (by rw[ea];lia) fun p q u v h1 h2 h3 eu ev=>?_) fun j _=>by rw[ea])) fun hc=>?_
 ·have ek:k=na:=by
   have:na-k=0:=by simpa using hc
   lia
  rw[ea] at eu ev;by_cases c1:q<sa+na
  ·exact yQ u1 h1 h2 c1 eu ev
  ·by_cases c2:p<sa+na
   ·have q1:=g1 (p-sa) u (by lia) (by rw[show sa+(p-sa)=p by lia];exact eu);have q2:=yQ u2 (XU _) (by lia) h3 eb0 ev;lia
   ·exact yQ u2 (by lia) h2 h3 eu ev
 have hkn:k<na:=by
  have:¬ na-k=0:=by simpa using hc
  lia
 obtain⟨al,eal,mal⟩:=jc (a:=Xp st) (i:=sa+k+(na-k)-1) (by lia);have eal':(Xp st)[sa+na-1]?=some al:=by
  rw[<- eal];congr 1;lia
 refine XI (qR eal (XI (zaw T k1 (mX al mal) mX (fun p q u v h1 h2 h3 eu ev=>yQ u2 h1 h2 h3 eu ev) (by show sa+na+nb<=(Xp st).size;lia) (by lia) fun k' hk' g3 g4=>?_)));dsimp only;have b0a:rk b0<rk al:=g2 (na-1) al (by lia) (by lia) (by rw[show sa+(na-1)=sa+na-1 by lia];exact eal');have k'1:1<=k':=by
  refine Rb.mpr fun hz0=>?_;have:=g4 0 b0 (by lia) (by lia) (by simpa using eb0);lia
 refine qw (fun hc=>absurd (show k'=0 by simpa using hc) (by lia)) fun _=>?_;have X3:sa+na<=(Xp st).size:=by lia
 have Y3:sa+na+k'<=(Xp st).size:=by lia
 have xs:=zj9 (i:=sa+k) (j:=sa+na) u1 (by lia) (XU _) X3;have ys:=zj9 (i:=sa+na) (j:=sa+na+k') u2 (XU _) (by lia) Y3;have xm:∀x∈((Xp st).extract (sa+k) (sa+na)).toList,x∈a0.toList:=fun x hx=>by
  obtain⟨j,_,_,ej⟩:=ext_mem X3 hx;exact mX x (zhx ej)
 have ym:∀x∈((Xp st).extract (sa+na) (sa+na+k')).toList,x∈a0.toList:=fun x hx=>by
  obtain⟨j,_,_,ej⟩:=ext_mem Y3 hx;exact mX x (zhx ej)
 have xz:((Xp st).extract (sa+k) (sa+na)).size=na-k:=by
  rw[QV X3];lia
 have yz:((Xp st).extract (sa+na) (sa+na+k')).size=k':=by
  rw[QV Y3];lia
 have first:∀x y,((Xp st).extract (sa+na) (sa+na+k'))[0]?=some x->y∈((Xp st).extract (sa+k) (sa+na)).toList->rk x<rk y:=fun x y ex my=>by
  rw[ext_get (by lia) Y3 (by lia),Rn,eb0] at ex;cases ex;obtain⟨j,j1,j2,ej⟩:=ext_mem X3 my;exact g2 (j-sa) y (by lia) (by lia) (by rw[show sa+(j-sa)=j by lia];exact ej)
 have last:∀x∈((Xp st).extract (sa+na) (sa+na+k')).toList,∀y,((Xp st).extract (sa+k) (sa+na))[((Xp st).extract (sa+k) (sa+na)).size-1]?=some y->rk x<rk y:=fun x mx y ey=>by
  rw[xz,ext_get (by lia) X3 (by lia),show sa+k+(na-k-1)=sa+na-1 by lia,eal'] at ey;cases ey;obtain⟨j,j1,j2,ej⟩:=ext_mem Y3 mx;exact g3 (j-(sa+na)) x (by lia) (by rw[show sa+na+(j-(sa+na))=j by lia];exact ej)
 have tail:∀(merged:Array Xd) (st2:WS),Kept st1 st2->Mg rk ((Xp st).extract (sa+k) (sa+na)).toList ((Xp st).extract (sa+na) (sa+na+k')).toList merged.toList ->
   Q true (setArr st2 (merged.toList.zipIdx.foldl (fun a (p:Xd×Nat)=>a.setIfInBounds (sa+k+p.2) p.1) (Xp st2))):=fun merged st2 K2 hM=>by
  have ea2:Xp st2=Xp st:=K2.arr.trans ea;have ml:merged.toList.length=na-k+k':=by
   rw[hM.1.length_eq,X4,X5,X5,xz,yz]
  have at_:∀j:Nat,(merged.toList.zipIdx.foldl (fun a (p:Xd×Nat)=>a.setIfInBounds (sa+k+p.2) p.1) (Xp st2))[j]?=if sa+k<=j/\j<sa+na+k' then merged.toList[j-(sa+k)]? else (Xp st)[j]?:=fun j=>by
   have:=zmb (sa+k) merged.toList 0 (Xp st2) j (by rw[ea2,ml];lia);rw[this,ea2,Rn,ml];by_cases c:sa+k<=j/\j<sa+na+k'
   ·rw[if_pos c,if_pos (by lia)]
   ·rw[if_neg c,if_neg (by lia)]
  have zA:=zdc (sa+k) merged.toList 0 (Xp st2);generalize hN:merged.toList.zipIdx.foldl (fun a (p:Xd×Nat)=>a.setIfInBounds (sa+k+p.2) p.1) (Xp st2)=N at at_ zA ⊢;have zN:N.size=a0.size:=by
   rw[zA,ea2,hsz]
  have nl:N.toList=(Xp st).toList.take (sa+k)++merged.toList++(Xp st).toList.drop (sa+na+k'):=by
   refine S7 fun j=>?_;rw[Xv,at_ j];by_cases c1:j<sa+k
   ·rw[if_neg (by lia),WX,VS (by rw[XM,X5];lia),List.getElem?_take,if_pos c1,Xv]
   ·rw[WX,Vy (by rw[XM,X5];lia),XM,X5,show min (sa+k) (Xp st).size=sa+k by lia];by_cases c2:j<sa+na+k'
    ·rw[if_pos ⟨by lia,c2⟩,VS (by rw[ml];lia)]
    ·rw[if_neg (by lia),Vy (by rw[ml];lia),Tv,Xv,ml];congr 1;lia
  have ol:(Xp st).toList=(Xp st).toList.take (sa+k)++(((Xp st).extract (sa+k) (sa+na)).toList++((Xp st).extract (sa+na) (sa+na+k')).toList)++(Xp st).toList.drop (sa+na+k'):=by
   rw[ext_toList _ _ _ (by lia),ext_toList _ _ _ (by lia)];have d1:(Xp st).toList.drop (sa+na)=((Xp st).toList.drop (sa+k)).drop (na-k):=by
    rw[PF];congr 1;lia
   have d2:(Xp st).toList.drop (sa+na+k')=((Xp st).toList.drop (sa+na)).drop k':=by
    rw[PF]
   rw[d2,show sa+na+k'-(sa+na)=k' by lia,WX,WX,WT,d1,show sa+na-(sa+k)=na-k by lia,WT,WT]
  refine h _ ⟨?_,K2.kind.trans k1,K2.bad.trans ef⟩ (K2.pend.trans ep) (znb (by show _<=N.size;lia) fun p q u v h1 h2 h3 eu ev=>?_) fun j hj=>?_
  ·refine Array.Perm.trans ?_ O.perm;rw[UZ];show N.toList.Perm _;have pm:=List.Perm.append_right ((Xp st).toList.drop (sa+na+k')) (SX ((Xp st).toList.take (sa+k)) hM.1);rw[<- ol,<- nl] at pm;exact pm
  ·have eu':N[p]?=some u:=eu;have ev':N[q]?=some v:=ev;rw[at_] at eu' ev';have mid:∀{j:Nat} {x:Xd},sa+k<=j->j<sa+na+k'->merged.toList[j-(sa+k)]?=some x->(∃m,sa+k<=m/\m<sa+na/\(Xp st)[m]?=some x)\/∃m,sa+na<=m/\m<sa+na+k'/\(Xp st)[m]?=some x:=fun _ _ e=>by
    rcases XO.mp (hM.1.mem_iff.mp (X7 e)) with z | z
    ·exact .inl (ext_mem X3 z)
    ·exact .inr (ext_mem Y3 z)
   by_cases c1:p<sa+k
   ·rw[if_neg (by lia)] at eu';by_cases c2:q<sa+k
    ·rw[if_neg (by lia)] at ev';exact yQ u1 h1 h2 (by lia) eu' ev'
    ·have low:∀{m:Nat} {x:Xd},sa+na<=m->m<sa+na+nb->(Xp st)[m]?=some x->rk u<=rk x:=fun m1 m2 em=>by
      have q1:=g1 (p-sa) u (by lia) (by rw[show sa+(p-sa)=p by lia];exact eu');exact VB q1 (yQ u2 (XU _) m1 m2 eb0 em)
     by_cases c3:q<sa+na+k'
     ·rw[if_pos ⟨by lia,c3⟩] at ev';rcases mid (by lia) c3 ev' with ⟨m,m1,m2,em⟩ | ⟨m,m1,m2,em⟩
      ·exact yQ u1 h1 (by lia) m2 eu' em
      ·exact low m1 (by lia) em
     ·rw[if_neg (by lia)] at ev';exact low (by lia) h3 ev'
   ·by_cases c4:p<sa+na+k'
    ·rw[if_pos ⟨by lia,c4⟩] at eu';by_cases c3:q<sa+na+k'
     ·rw[if_pos ⟨by lia,c3⟩] at ev';by_cases epq:p=q
      ·subst epq;rw[eu'] at ev';cases ev';exact Va _
      ·have sp:=hM.2;rw[Vw] at sp;obtain⟨a1,a2⟩:=X0.mp eu';obtain⟨b1,b2⟩:=X0.mp ev';have:=sp _ _ a1 b1 (by lia);rw[a2,b2] at this;exact this
     ·rw[if_neg (by lia)] at ev';have q4:=g4 (q-(sa+na)) v (by lia) (by lia) (by rw[show sa+na+(q-(sa+na))=q by lia];exact ev');rcases mid (by lia) c4 eu' with ⟨m,m1,m2,em⟩ | ⟨m,m1,m2,em⟩
      ·exact VB (yQ u1 (by lia) (by lia) (by lia) em eal') q4
      ·exact yQ u2 m1 (by lia) h3 em ev'
    ·rw[if_neg (by lia)] at eu' ev';exact yQ u2 (by lia) h2 h3 eu' ev'
  ·show N[j]?=_;rw[at_,if_neg (by lia)]
 refine qw (fun _=>?_) fun _=>?_
 ·refine XI (ziK T k1 xm ym xs ys (Tt (show 0<na-k by lia) xz.symm) (Tt (show 0<k' by lia) yz.symm) (fun x y ex my=>V6 (first x y ex my)) last fun out st2 K2 hM=>?_);refine XI (Tz (XI (SQ ?_)));rw[show (Tl st2).isNone=true by rw[K2.bad,ef];rfl];exact Xu (tail out st2 K2 hM)
 ·refine XI (ziL T k1 xm ym xs ys (Tt (show 0<na-k by lia) xz.symm) (Tt (show 0<k' by lia) yz.symm) first last fun out st2 K2 hM=>?_);refine XI (Tz (XI (SQ ?_)));rw[show (Tl st2).isNone=true by rw[K2.bad,ef];rfl];exact Xu (tail out st2 K2 hM)
end
end GS
namespace GS
def Y7:List (Nat×Nat×Nat)->Nat->Nat->Prop
 | [],s,e=>s=e
 | r::l,s,e=>r.1=s/\1<=r.2.1/\Y7 l (s+r.2.1) e
theorem yx:∀{l1 l2:List (Nat×Nat×Nat)} {s e:Nat},Y7 (l1++l2) s e ↔ ∃m,Y7 l1 s m/\Y7 l2 m e
 | [],l2,s,e=>⟨fun h=>⟨s,rfl,h⟩,fun ⟨m,h1,h2⟩=>by
  have e:s=m:=h1;subst e;exact h2⟩
 | r::l1,l2,s,e=>by
  constructor
  ·rintro⟨h1,h2,h3⟩;obtain⟨m,h4,h5⟩:=yx.mp h3;exact⟨m,⟨h1,h2,h4⟩,h5⟩
  ·rintro⟨m,⟨h1,h2,h3⟩,h4⟩;exact⟨h1,h2,yx.mpr ⟨m,h3,h4⟩⟩
theorem Ym:∀{l:List (Nat×Nat×Nat)} {s e:Nat},Y7 l s e->s<=e/\l.length+s<=e/\∀r∈l,s<=r.1/\r.1+r.2.1<=e
 | [],s,e,h=>by
  have e':s=e:=h;subst e';exact⟨XU _,by simp,fun r hr=>nomatch hr⟩
 | r::l,s,e,⟨h1,h2,h3⟩=>by
  obtain⟨a1,a2,a3⟩:=Ym h3;refine⟨by lia,by rw[Xm];lia,fun q hq=>?_⟩;rcases XF.mp hq with rfl | hq
  ·lia
  ·have:=a3 q hq;lia
section
variable {prog:Xn}{w:WW}{A:WM}{E:X8->X6->Prop}{s:X6}{rk:Xd->Int}{κ:Ub}{a0:Array Xd}
structure PI (rk:Xd->Int)(κ:Ub)(a0:Array Xd)(lo:Nat)(st:WS):Prop where
 ok:Ok κ a0 st
 til:Y7 (WR st).toList 0 lo
 up:∀r∈(WR st).toList,Up rk (Xp st) r.1 (r.1+r.2.1)
theorem zbo {xs ys:Array Xd}{lo hi:Nat}(u:Up rk xs lo hi)(h:∀j:Nat,lo<=j->j<hi->ys[j]?=xs[j]?):Up rk ys lo hi:=fun i j h1 h2 h3=>by
 rw[Jt (h i h1 (by lia)),Jt (h j (by lia) h3)];exact u i j h1 h2 h3
theorem zoa {p:List (Nat×Nat×Nat)}{i:Nat}(h:i+1<p.length):∃l1 r1 r2 l2,p=l1++r1::r2::l2/\l1.length=i/\p[i]?=some r1/\p[i+1]?=some r2:=by
 refine⟨p.take i,p[i],p[i+1],p.drop (i+2),?_,by rw[XM];lia,XZ (by lia),XZ h⟩;rw[<- WA h,<- WA (by lia),WT]
theorem zfe {st:WS}{lo i:Nat}{Q:Bool->WS->Prop}(T:Tells prog w A s κ rk a0)(P:PI rk κ a0 lo st)(hi:i+1<(WR st).size)(hlo:lo<=a0.size)
  (h:∀st',PI rk κ a0 lo st'->(WR st').size+1=(WR st).size->(∀j:Nat,lo<=j->(Xp st')[j]?=(Xp st)[j]?)->Q true st'):wpS (Xk prog w) A E s (mergeAt' i) Q st:=by
 obtain⟨l1,⟨sa,na,p1⟩,⟨sb,nb,p2⟩,l2,ep,el,e1,e2⟩:=zoa (p:=(WR st).toList) (i:=i) (by rw[X5];exact hi);have til:=P.til;rw[ep] at til;obtain⟨m,t1,⟨a1,a2,a3,a4,a5⟩⟩:=yx.mp til;dsimp only at a1 a2 a3 a4 a5;subst a1;subst a3;rw[Xv] at e1 e2;have u1:=P.up (sa,na,p1) (by rw[ep];simp);have u2:=P.up (sa+na,nb,p2) (by rw[ep];simp);dsimp only at u1 u2;obtain⟨b1,b2,b3⟩:=Ym a5;obtain⟨c1,c2,c3⟩:=Ym t1;refine ziM T P.ok e1 e2 a2 a4 (by lia) u1 u2 fun st' O' ep' up' out'=>?_;have el':(WR st').toList=l1++(sa,na+nb,p1)::l2:=by
  rw[ep',Array.toList_eraseIdxIfInBounds,R7,ep,<- el];rw[List.set_append_right _ _ (XU _),Tj,List.set_cons_zero,List.eraseIdx_append_of_length_le (by lia),show l1.length+1-l1.length=1 by lia];rfl
 refine h st' ⟨O',?_,fun r hr=>?_⟩ ?_ fun j hj=>out' j (by lia)
 ·rw[el'];exact yx.mpr ⟨sa,t1,rfl,by show 1<=na+nb;lia,by rw[show sa+(na+nb)=sa+na+nb by lia];exact a5⟩
 ·rw[el'] at hr;rcases XO.mp hr with hr | hr
  ·have:=c3 r hr;exact zbo (P.up r (by rw[ep];exact W6 _ hr)) fun j h1 h2=>out' j (by lia)
  ·rcases XF.mp hr with rfl | hr
   ·show Up rk (Xp st') sa (sa+(na+nb));rw[show sa+(na+nb)=sa+na+nb by lia];exact up'
   ·have:=b3 r hr;exact zbo (P.up r (by rw[ep];simp[hr])) fun j h1 h2=>out' j (by lia)
 ·rw[<- X5,el',<- X5,ep];simp only[X4,Xm];lia
theorem PI.step {lo lo':Nat}{st st':WS}(P:PI rk κ a0 lo st)(S:Step κ a0 lo' st st')(h:lo<=lo'):PI rk κ a0 lo st':=by
 refine⟨S.ok,by rw[S.pend];exact P.til,fun r hr=>?_⟩;rw[S.pend] at hr;have:=(Ym P.til).2.2 r hr;exact zbo (P.up r hr) fun j h1 h2=>S.low j (by lia)
theorem zaV (pw:Nat):∀{l:List (Nat×Nat×Nat)} {k s e:Nat},Y7 l s e->Y7 (l.modify k fun r=>(r.1,r.2.1,pw)) s e
 | [],k,s,e,h=>by
  cases k<;>exact h
 | r::l,0,s,e,⟨h1,h2,h3⟩=>⟨h1,h2,h3⟩
 | r::l,k+1,s,e,⟨h1,h2,h3⟩=>⟨h1,h2,zaV pw h3⟩
theorem zdd {pw:Nat}:∀{l:List (Nat×Nat×Nat)} {k:Nat} {r:Nat×Nat×Nat},r∈l.modify k (fun r=>(r.1,r.2.1,pw))->∃q∈l,q.1=r.1/\q.2.1=r.2.1
 | [],k,r,h=>by
  cases k<;>cases h
 | q::l,0,r,h=>by
  rcases XF.mp h with rfl | h
  ·exact⟨q,XW,rfl,rfl⟩
  ·exact⟨r,XR _ h,rfl,rfl⟩
 | q::l,k+1,r,h=>by
  rcases XF.mp h with rfl | h
  ·exact⟨r,XW,rfl,rfl⟩
  ·obtain⟨q',h1,h2⟩:=zdd h;exact⟨q',XR _ h1,h2⟩
theorem ite_le (c:Prop) [Decidable c](n:Nat):(if c then n-1 else n)<=n:=by
 split<;>lia
theorem zob {st:WS}{Q:Unit->WS->Prop}(T:Tells prog w A s κ rk a0)(O:Ok κ a0 st)(hp:WR st=#[])(h:∀st',Ok κ a0 st'->Up rk (Xp st') 0 a0.size->Q () st'):wpS (Xk prog w) A E s sortRuns' Q st:=by
 rw[sortRuns'_eq];refine XI (SQ ?_);dsimp only;rw[O.size];generalize minRun' a0.size a0.size 0=mr;refine XI (UC (V7 (I:=fun x c st'=>∃lo,c=(none,lo)/\PI rk κ a0 lo st'/\lo<=a0.size/\x<=lo)
  (Q:=fun c st'=>c=(none,a0.size)/\PI rk κ a0 a0.size st') ?step ?fin ⟨0,rfl,⟨O,by rw[hp];rfl,fun r hr=>by rw[hp] at hr;cases hr⟩,WZ _,XU _⟩) ?post)
 case fin =>
  rintro c st' ⟨lo,rfl,P,h1,h2⟩
  obtain rfl:lo=a0.size:=by lia
  exact⟨rfl,P⟩
 case step =>
  rintro x c st1 _ hx ⟨lo,rfl,P,h1,h2⟩
  dsimp only
  refine qw (fun hge=>?_) fun hge=>?_
  ·obtain rfl:lo=a0.size:=by lia
   exact Xu ⟨rfl,P⟩
  refine XI (zpC T P.ok (by lia) (by lia) fun m st2 S m1 m2 hu=>?_)
  dsimp only
  have P2:=P.step S (XU _)
  refine qw (fun hmr=>?_) fun hmr=>?_
  refine XI (RL (U2 ⟨rfl,?_⟩))
  refine XI (zpD T S.ok (by lia) (by lia) hu fun st3 S3 hu3=>?_)
  rw[if_neg (by decide)]
  have P3:=P2.step S3 (XU _)
  have n1:1<=min (a0.size-lo) mr:=by lia
  have n2:lo+min (a0.size-lo) mr<=a0.size:=by lia
  clear P2 S3
  generalize min (a0.size-lo) mr=n at hu3 n1 n2 ⊢
  rotate_left
  have P3:=P2
  have hu3:=hu
  have n1:=m1
  have n2:lo+m<=a0.size:=by lia
  clear P2
  generalize m=n at hu3 n1 n2 ⊢
  generalize st2=st3 at P3 hu3 ⊢
  rotate_left
  all_goals
   refine XI (SQ ?_)
   have fin:∀st4,PI rk κ a0 lo st4->Up rk (Xp st4) lo (lo+n)->PI rk κ a0 (lo+n) (setPending st4 ((WR st4).push (lo,n,0))):=fun st4 P4 u4=>by
    refine⟨⟨P4.ok.perm,P4.ok.kind,P4.ok.good⟩,?_,fun r hr=>?_⟩
    ·show Y7 ((WR st4).push (lo,n,0)).toList 0 (lo+n);rw[S8];exact yx.mpr ⟨lo,P4.til,rfl,n1,rfl⟩
    ·have hr':r∈((WR st4).push (lo,n,0)).toList:=hr;rw[S8] at hr';rcases XO.mp hr' with hr' | hr'
     ·exact P4.up r hr'
     ·have er:r=(lo,n,0):=by simpa using hr'
      subst er;exact u4
   cases hbk:(WR st3).back? with
   | none =>
    dsimp only;exact XI (Tz (Xu ⟨lo+n,rfl,fin st3 P3 hu3,n2,by lia⟩))
   | some r =>
    obtain⟨s1,k1,q1⟩:=r;dsimp only;generalize power' a0.size (2*s1+k1) (2*s1+k1+k1+n) a0.size=pw;refine XI (UC (V7 (I:=fun _ c st4=>c=(none,())/\PI rk κ a0 lo st4/\Up rk (Xp st4) lo (lo+n)) (Q:=fun c st4=>c=(none,())/\PI rk κ a0 lo st4/\Up rk (Xp st4) lo (lo+n)) ?_ (fun _ _ hh=>hh) ⟨rfl,P3,hu3⟩) ?_)
    ·rintro y c st4 _ _ ⟨rfl,P4,u4⟩;refine XI (SQ ?_);by_cases hz:(WR st4).size>1
     ·rw[if_pos hz,getElem?_pos (WR st4) ((WR st4).size-2) (by lia)];generalize (WR st4)[(WR st4).size-2]'(by lia)=r2;obtain⟨r2a,r2b,r2c⟩:=r2;dsimp only;refine qw (fun _=>Xu ⟨rfl,P4,u4⟩) fun _=>?_;refine XI (zfe T P4 (by lia) h1 fun st5 P5 _ zql=>?_);rw[if_neg (by decide)];exact Xu ⟨rfl,P5,zbo u4 fun j j1 _=>zql j j1⟩
     ·rw[if_neg hz];exact Xu ⟨rfl,P4,u4⟩
    ·rintro c st4 ⟨rfl,P4,u4⟩;dsimp only;refine XI (Tz (XI (Tz (Xu ⟨lo+n,rfl,fin _ ⟨⟨P4.ok.perm,P4.ok.kind,P4.ok.good⟩,?_,fun r hr=>?_⟩ u4,n2,by lia⟩))))
     ·show Y7 ((WR st4).modify ((WR st4).size-1) fun r=>(r.1,r.2.1,pw)).toList 0 lo;rw[Pe];exact zaV pw P4.til
     ·have hr':r∈((WR st4).modify ((WR st4).size-1) fun r=>(r.1,r.2.1,pw)).toList:=hr;rw[Pe] at hr';obtain⟨q,hq,e1,e2⟩:=zdd hr';have:=P4.up q hq;rw[e1,e2] at this;exact this
 case post =>
  rintro c st1 ⟨rfl,P⟩
  dsimp only
  have len0:=(Ym P.til).2.1
  rw[X5] at len0
  refine XI (UC (V7 (I:=fun x c st2=>c=(none,())/\PI rk κ a0 a0.size st2/\((WR st2).size+x<=a0.size\/(WR st2).size<=1)) (Q:=fun c st2=>c=(none,())/\PI rk κ a0 a0.size st2/\(WR st2).size<=1) ?step2 ?fin2 ⟨rfl,P,.inl (by lia)⟩) ?post2)
  case fin2 =>
   rintro c st2 ⟨rfl,P2,hz⟩
   exact⟨rfl,P2,by lia⟩
  case step2 =>
   rintro x c st2 _ hx ⟨rfl,P2,hz⟩
   refine XI (SQ ?_)
   refine qw (fun h1=>Xu ⟨rfl,P2,h1⟩) fun h1=>?_
   refine XI (zfe T P2 ?_ (XU _) fun st3 P3 z3 _=>?_)
   ·exact XG (Pz (ite_le _ _) 1) (show (WR st2).size-2+1<(WR st2).size by lia)
   ·rw[if_neg (by decide)];exact Xu ⟨rfl,P3,by lia⟩
  case post2 =>
   rintro c st2 ⟨rfl,P2,hz⟩
   dsimp only
   refine Xu (h st2 P2.ok ?_)
   have til:=P2.til
   have up:=P2.up
   have zl:(WR st2).toList.length<=1:=by rw[X5];exact hz
   cases hl:(WR st2).toList with
   | nil =>
    rw[hl] at til;have e:0=a0.size:=til;exact fun i j _ _ h3=>absurd h3 (by lia)
   | cons r l =>
    rw[hl] at til zl up;obtain rfl:l=[]:=Wj.mp (by rw[Xm] at zl;lia);obtain⟨t1,t2,t3⟩:=til;have t3':0+r.2.1=a0.size:=t3;have u:=up r XW;rw[t1,t3'] at u;exact u
end
end GS
namespace GS
structure Wk {K:Type}(lt:K->K->Bool):Prop where
 tot:∀x y,lt x y=true->lt y x=false
 tr:∀x y z,lt y x=false->lt z y=false->lt z x=false
def rkK {K:Type}(lt:K->K->Bool)(ks:List K)(k:K):Int:=((ks.countP fun q=>lt q k:Nat):Int)
theorem count_le {K:Type}{p q:K->Bool}:∀{ks:List K},(∀x∈ks,p x=true->q x=true)->ks.countP p<=ks.countP q
 | [],_=>XU _
 | x::ks,h=>by
  have ih:=count_le (ks:=ks) fun y hy=>h y (XR _ hy);rw[Wn,Wn];have hx:=h x XW;by_cases c:p x=true
  ·rw[if_pos c,if_pos (hx c)];lia
  ·rw[if_neg c];lia
theorem zka {K:Type}{p q:K->Bool}{ks:List K}(h:∀x∈ks,p x=true->q x=true)(hq:∃x∈ks,p x=false/\q x=true):ks.countP p<ks.countP q:=by
 obtain⟨y,hy,h1,h2⟩:=hq;induction ks with
 | nil=>cases hy
 | cons x ks ih =>
  rw[Wn,Wn];have hx:=h x XW;rcases XF.mp hy with rfl | hy
  ·have ih:=count_le (ks:=ks) fun y hy=>h y (XR _ hy);rw[h1,h2,if_neg XV,if_pos rfl];lia
  ·have ih:=ih (fun y hy=>h y (XR _ hy)) hy;by_cases c:p x=true
   ·rw[if_pos c,if_pos (hx c)];lia
   ·rw[if_neg c];lia
theorem Wk.rank {K:Type}{lt:K->K->Bool}(W:Wk lt){ks:List K}{x y:K}(hx:x∈ks):lt x y=decide (rkK lt ks x<rkK lt ks y):=by
 unfold rkK;cases h:lt x y with
 | true =>
  refine(decide_eq_true ?_).symm;have:=zka (ks:=ks) (p:=fun q=>lt q x) (q:=fun q=>lt q y) (fun q _ hq=>?_) ⟨x,hx,?_,h⟩
  ·lia
  ·cases hc:lt q y with
   | true=>rfl
   | false =>
    have:=W.tr x y q (W.tot x y h) hc;have hq':lt q x=true:=hq;rw[this] at hq';cases hq'
  ·cases hc:lt x x with
   | false=>rfl
   | true=>exact hc.symm.trans (W.tot x x hc)
 | false =>
  refine(decide_eq_false ?_).symm;have:=count_le (ks:=ks) (p:=fun q=>lt q y) (q:=fun q=>lt q x) fun q _ hq=>by
   cases hc:lt q x with
   | true=>rfl
   | false =>
    have:=W.tr y x q h hc;have hq':lt q y=true:=hq;rw[this] at hq';cases hq'
  lia
section
variable {prog:Xn}{w:WW}{A:WM}{E:X8->X6->Prop}{s:X6}
theorem zde {a:Addr}{vs:List X8}{n:Nat}{P:PySem.Fin->X6->Prop}(ho:s.heap.get? a=some (Uw "list" vs.toArray n))(hz:vs.length<=Xx)(r:X8->Int)
  (hk:2<=vs.length->∀s':X6,(∀b o,b≠a->s.heap.get? b=some o->s'.heap.get? b=some o)->Xg (Xk prog w) A (keyKind' vs.toArray) (fun κ s2=>s2=s'/\Tells prog w A s' κ (fun p=>r p.1) (Pj vs)) (fun _ _=>False) s')
  (h:∀(ws:List X8) (h':Heap) (c:Nat),ws.Perm vs->ws.Pairwise (fun x y=>r x<=r y)->(∀b o,b≠a->s.heap.get? b=some o->h'.get? b=some o)->h'.get? a=some (Uw "list" ws.toArray c)->P (.done (.ret .none)) { s with heap:=h' }) :
  Xg (Xk prog w) A (UT.«list.sort» ⟨[.ref a],[]⟩) P E s:=by
 have lta:a<s.heap.objs.size:=XH ho;have hu1:=get?_update_seq ho fun _=>(#[]:Array X8);generalize hX:s.heap.update a (Vj fun _=>(#[]:Array X8))=X1 at hu1;have zX:X1.objs.size=s.heap.objs.size:=by rw[<- hX,Heap.size_update]
 have kX:∀b o,b≠a->s.heap.get? b=some o->X1.get? b=some o:=fun b o hb e=>by
  rw[<- hX,Sw _ _ _ _ hb];exact e
 obtain⟨e1,hu⟩:∃e1,X1.get? a=some (Uw "list" #[] e1):=⟨_,hu1⟩;generalize hY:(X1.push (Uw "tuple" vs.toArray 0)).push (Uw "list" #[] 0)=Y;have hYa:Y.get? a=some (Uw "list" #[] e1):=by
  rw[<- hY];exact XY _ (XY _ hu)
 have kY:∀b o,b≠a->s.heap.get? b=some o->Y.get? b=some o:=fun b o hb e=>by
  rw[<- hY];exact XY _ (XY _ (kX b o hb e))
 have last:∀(st:WS),(((Xp st).map (·.2)).toList.Perm vs)->(((Xp st).map (·.2)).toList.Pairwise fun x y=>r x<=r y)->Tl st=none ->
   Xg (Xk prog w) A (do
    let touched:=(<- seqEpoch a) != e1
    Builtin.List.listUpdate (.ref a) fun _=>(Xp st).map (·.2)
    if let some e:=Tl st then rule "list.sort.comparison-raised";throw e
    if touched then rule "list.sort.modified";raiseError "ValueError" "list modified during sort"
    ret .none) P E { s with heap:=Y }:=by
  intro st hp hs hf;generalize ew:(Xp st).map (·.2)=wsA at hp hs;rw[hf];have hlen:wsA.size=vs.length:=by rw[<- X5,hp.length_eq]
  have hu2:=get?_update_seq hYa fun _=>wsA;refine ZB (seqEpoch_at hYa rfl (ZB (listUpdate_at hYa rfl ?_ (WZ _) (by rw[hlen];lia))));simp only[bne_self_eq_false,Wy,if_false];refine XS (h wsA.toList _ _ hp hs (fun b o hb e=>?_) hu2);rw[Sw _ _ _ _ hb];exact kY b o hb e
 rw[list_sort_plain];refine ZB (listItems_at ho rfl (ZB (listUpdate_at ho rfl ?_ (by rw[Xr];exact hz) (WZ _))));rw[hX];refine ZB (seqEpoch_at hu rfl (ZB (wpAny_newTuple (ZB (O3 ?_ (WZ _))) hz)));show Xg (Xk prog w) A _ P E { s with heap:=(X1.push (Uw "tuple" vs.toArray 0)).push (Uw "list" #[] 0) };rw[hY];refine VU ?_;dsimp only;have e2:((Pj vs).map (·.2)).toList=vs:=by
  rw[U4,UA];exact List.map_snd_zip (XU _)
 by_cases c2:vs.toArray.size<2
 ·have c2':vs.length<2:=by rw[Xr] at c2;exact c2
  rw[if_pos c2,if_pos c2];refine ZB (XS ?_);rw[StateT.run_pure];refine ZB (XS ?_);refine last (SortSt.mk' general' (Pj vs) #[] 7 none) (by show ((Pj vs).map (·.2)).toList.Perm vs;rw[e2]) (by
   show ((Pj vs).map (·.2)).toList.Pairwise _;rw[e2,Vw];intro i j hi hj hij;lia) rfl
 ·have c2':2<=vs.length:=by rw[Xr] at c2;lia
  rw[if_neg c2,if_neg c2];refine ZB (Wi (hk c2' { s with heap:=Y } kY) (fun κ s2 ⟨e3,T⟩=>?_) fun _ _ x=>x.elim);subst e3;have run:=zob (E:=E) (st:=SortSt.mk' κ (Pj vs) #[] 7 none) (Q:=fun _ st'=>(((Xp st').map (·.2)).toList.Perm vs)/\(((Xp st').map (·.2)).toList.Pairwise fun x y=>r x<=r y)/\Tl st'=none) T ⟨Array.Perm.refl _,rfl,rfl⟩ rfl fun st' O hu=>?_
  ·unfold wpS at run;refine ZB (Wi run ?_ fun _ _ z=>z);rintro⟨⟨⟩,st'⟩ s' ⟨rfl,hp,hs,hf⟩;exact last st' hp hs hf
  ·have pm:=UZ.mp O.perm;have same:∀p∈(Xp st').toList,p.1=p.2:=fun p hp=>by
    have:=pm.mem_iff.mp hp;rw[UA] at this;exact(Sq this).1
   refine⟨?_,?_,O.good⟩
   ·have:=pm.map (·.2);rw[U4];rw[UA,List.map_snd_zip (XU _)] at this;exact this
   ·rw[U4,Wm,Vw];intro i j hi hj hij;have zs:=O.size;rw[X5] at hi hj;have u:=yQ hu (i:=i) (j:=j) (WZ _) (by lia) (by lia) (getElem?_pos _ i hi) (getElem?_pos _ j hj);have s1:=same (Xp st')[i] (by simp);have s2:=same (Xp st')[j] (by simp);rw[UM,UM,<- s1,<- s2];exact u
theorem ziN {l:Addr}{vs:List X8}{Q:X8->X6->Prop}(hl:s.heap.IsList l vs.toArray)(hz:vs.length<=Xx)(r:X8->Int)
  (hk:2<=vs.length->∀s':X6,(∀b o,s.heap.get? b=some o->s'.heap.get? b=some o)->Xg (Xk prog w) A.in1.in1 (keyKind' vs.toArray) (fun κ s2=>s2=s'/\Tells prog w A.in1.in1 s' κ (fun p=>r p.1) (Pj vs)) (fun _ _=>False) s')
  (h:∀(ws:List X8) (h':Heap) (c:Nat),ws.Perm vs->ws.Pairwise (fun x y=>r x<=r y)->(∀b o,s.heap.get? b=some o->h'.get? b=some o)->h'.get? (s.heap.objs.size+1)=some (Uw "list" ws.toArray c)->Q (.ref (s.heap.objs.size+1)) { s with heap:=h' }) :
  Xg (Xk prog w) A (call (.builtin "sorted") [.ref l]) Q E s:=by
 generalize hX:(s.heap.push (Uw "list" #[] 0)).update s.heap.objs.size (Vj (·++vs.toArray))=X1;have zX:X1.objs.size=s.heap.objs.size+1:=by rw[<- hX,Heap.size_update,Vo]
 have kX:∀b o,s.heap.get? b=some o->X1.get? b=some o:=fun b o e=>by
  have lt:=XH e;rw[<- hX,Sw _ _ _ _ (Xi lt)];exact XY _ e
 apply R5 kind_sorted plain_sorted entry_sorted (args_sorted1 _);unfold UT.«sorted»;refine ZB (m:=checkCount "sorted" 1 1 _) (XS (ZB (collect_list hl ?_ hz)));rw[hX];refine ZB (O3 ?_ hz);show Xg _ _ _ _ _ { s with heap:=X1.push (Uw "list" vs.toArray 0) };have hoL:(X1.push (Uw "list" vs.toArray 0)).get? (s.heap.objs.size+1)=some (Uw "list" vs.toArray 0):=by
  rw[<- zX];exact W5 _ rfl
 have kL:∀b o,s.heap.get? b=some o->(X1.push (Uw "list" vs.toArray 0)).get? b=some o:=fun b o e=>XY _ (kX b o e);have ne:∀b o,s.heap.get? b=some o->b≠s.heap.objs.size+1:=fun b o e=>Xi (WJ (XH e));rw[zX];refine ZB (VU (U6 slot_list_sort ⟨_,hoL,rfl⟩ entry_list_sort (zde (s:={ s with heap:=X1.push (Uw "list" vs.toArray 0) }) hoL hz r (fun c s' k=>hk c s' fun b o e=>k b o (ne b o e) (kL b o e)) ?_) (args_list_sort _)));intro ws h' c hp hs kk ha;exact⟨_,rfl,XS ⟨_,rfl,h ws h' c hp hs (fun b o e=>kk b o (ne b o e) (kL b o e)) ha⟩⟩
end
theorem zbS {α β:Type}{R:α->β->Prop}{xs:List α}{ys:List β}(hp:Xj R xs ys):(∀p∈xs.zip ys,R p.1 p.2)/\(xs.zip ys).map (·.1)=xs/\(xs.zip ys).map (·.2)=ys:=by
 induction hp with
 | nil=>exact⟨(fun p h=>nomatch h),rfl,rfl⟩
 | cons h _ ih =>
  obtain⟨a,b,c⟩:=ih;refine⟨fun p hp=>?_,by rw[List.zip_cons_cons,XB,b],by rw[List.zip_cons_cons,XB,c]⟩;rcases XF.mp hp with rfl | hp
  ·exact h
  ·exact a p hp
theorem zdf {α β:Type}{R:α->β->Prop}:∀{zs:List (α × β)},(∀p∈zs,R p.1 p.2)->Xj R (zs.map (·.1)) (zs.map (·.2))
 | [],_=>.nil
 | p::zs,h=>.cons (h p XW) (zdf fun q hq=>h q (XR _ hq))
end GS
namespace GS
theorem Ju {α β:Type}{R:α->β->Prop}:∀{xs:List α} {ys:List β},Xj R xs ys->∀x∈xs,∃y∈ys,R x y
 | _,_,.nil,x,h=>nomatch h
 | _,_,.cons h t,x,hx=>by
  rcases XF.mp hx with rfl | hx
  ·exact⟨_,XW,h⟩
  ·obtain⟨y,h1,h2⟩:=Ju t x hx;exact⟨y,XR _ h1,h2⟩
def Tri {K:Type}(RV:V->K->Prop)(RH:X8->K->Prop)(t:V×X8×K):Prop:=RelV t.1 t.2.1/\RV t.1 t.2.2/\RH t.2.1 t.2.2
theorem zoc {K:Type}{RV:V->K->Prop}{RH:X8->K->Prop}{us:List V}{its:List X8}{ks:List K}(h1:Vals us its):Xj RV us ks->Xj RH its ks->∃T:List (V×X8×K),(∀t∈T,Tri RV RH t)/\T.map (·.1)=us/\T.map (·.2.1)=its/\T.map (·.2.2)=ks:=by
 induction h1 generalizing ks with
 | nil =>
  intro h2 h3;cases h2;exact⟨[],(fun t h=>nomatch h),rfl,rfl,rfl⟩
 | @cons u i us its r1 t1 ih =>
  intro h2 h3;cases h2 with
  | @cons _ k _ ks r2 t2 =>
   cases h3 with
   | cons r3 t3 =>
    obtain⟨T,h1,h2,h3,h4⟩:=ih t2 t3;refine⟨(u,i,k)::T,fun t ht=>?_,by rw[XB,h2],by rw[XB,h3],by rw[XB,h4]⟩;rcases XF.mp ht with rfl | ht
    ·exact⟨r1,r2,r3⟩
    ·exact h1 t ht
theorem zff {K:Type}{RV:V->K->Prop}{RH:X8->K->Prop}:∀{T:List (V×X8×K)},(∀t∈T,Tri RV RH t)->Vals (T.map (·.1)) (T.map (·.2.1))/\Xj RV (T.map (·.1)) (T.map (·.2.2))
 | [],_=>⟨.nil,.nil⟩
 | t::T,h=>by
  obtain⟨h1,h2⟩:=zff fun x hx=>h x (XR _ hx);obtain⟨a,b,c⟩:=h t XW;exact⟨.cons a h1,.cons b h2⟩
section
variable {X:Cx}{pins:List (Addr×Obj)}{σ:St}{H:Hp}{s:X6}{K:Type}
theorem zdg {lt:K->K->Bool}(W:Wk lt){RV:V->K->Prop}{RH:Heap->X8->K->Prop}(fn:∀h v k k',RH h v k->RH h v k'->k=k')(kp:∀h h' v k,(∀b o,h.get? b=some o->h'.get? b=some o)->RH h v k->RH h' v k)
  {l:Addr} {us:List V} {its:List X8} {ks:List K} {Q:VK} (I:Inv X pins σ H s) (hl:s.heap.IsList l its.toArray) (hz:us.length<=1000000) (rv:Vals us its) (hv:Xj RV us ks) (hp:Xj (RH s.heap) its ks)
  (kind:∀s':X6,Xj (RH s'.heap) its ks->2<=its.length->Xg (Xk X.prog X.w) X.A.in1.in1 (keyKind' its.toArray) (fun κ s2=>s2=s'/\∀v v' k k',RH s'.heap v k->RH s'.heap v' k'->∀C:Bool->X6->Prop,C (lt k k') s'->Xg (Xk X.prog X.w) X.A.in1.in1 (keyLt' κ v v') C (fun _ _=>False) s') (fun _ _=>False) s')
  (q:∀d us' ks',H d=none->Xj RV us' ks'->ks'.Perm ks->ks'.Pairwise (fun x y=>lt y x=false)->(us'.Perm us)->Q (.ref d) (upd H d (.lst us'))) :
  Xg (Xk X.prog X.w) X.A (call (.builtin "sorted") [.ref l]) (EP X pins σ Q) X.xe s:=by
 classical
 have hil:=rv.length;obtain⟨T,hT,e1,e2,e3⟩:=zoc rv hv hp;let r:X8->Int:=fun v=>if h:∃k,RH s.heap v k then rkK lt ks h.choose else 0
 have rk_:∀{v:X8} {k:K},RH s.heap v k->r v=rkK lt ks k:=fun {v k} h=>by
  have hx:∃k,RH s.heap v k:=⟨k,h⟩;show (if h:∃k,RH s.heap v k then rkK lt ks h.choose else 0)=_;rw[dif_pos hx,fn _ _ _ _ hx.choose_spec h]
 have z1:its.length<=Xx:=by
  rw[<- hil,T8];lia
 refine ziN (vs:=its) hl z1 r (fun h2 s' kk=>?_) fun ws h' c hpm hs kk ha=>?_
 ·have hp':Xj (RH s'.heap) its ks:=by
   obtain⟨a,b,c⟩:=zbS hp;have:=zdf (R:=RH s'.heap) (zs:=its.zip ks) fun p hp=>kp _ _ _ _ kk (a p hp);rw[b,c] at this;exact this
  refine Wi (kind s' hp' h2) (fun κ s2 ⟨e,hc⟩=>⟨e,fun x hx y hy C hC=>?_⟩) fun _ _ z=>z;have mx:x.1∈its:=by
   rw[UA] at hx;exact(Sq hx).2
  have my:y.1∈its:=by
   rw[UA] at hy;exact(Sq hy).2
  obtain⟨k,k1,k2⟩:=Ju hp x.1 mx;obtain⟨k',k1',k2'⟩:=Ju hp y.1 my;refine hc x.1 y.1 k k' (kp _ _ _ _ kk k2) (kp _ _ _ _ kk k2') C ?_;have hC':C (decide (r x.1<r y.1)) s':=hC;rw[rk_ k2,rk_ k2',<- W.rank k1] at hC';exact hC'
 ·obtain⟨T',hT',eT⟩:=ST.zbP (fun t:V×X8×K=>t.2.1) hpm T e2.symm;have hTr:∀t∈T',Tri RV (RH s.heap) t:=fun t ht=>hT t (hT'.mem_iff.mp ht);obtain⟨rv',hv'⟩:=zff hTr;rw[<- eT] at rv';have hD:H (s.heap.objs.size+1)=none:=I.hok.fresh (V4 _);refine⟨.ref (s.heap.objs.size+1),upd H (s.heap.objs.size+1) (.lst (T'.map (·.1))),I.laid (t':=s.toks) kk (V4 _) ⟨?_,ws,c,rv',ha⟩,rfl,q _ _ _ hD hv' (by rw[<- e3];exact hT'.map _) ?_ (by rw[<- e1];exact hT'.map _)⟩
  ·rw[rv'.length,hpm.length_eq];exact z1
  ·rw[eT,Wm] at hs;rw[Wm];refine hs.imp_of_mem fun {x y} hx hy h=>?_;obtain⟨_,_,h1⟩:=hTr x hx;obtain⟨_,_,h2⟩:=hTr y hy;rw[rk_ h1,rk_ h2] at h;have my:y.2.2∈ks:=by
    rw[<- e3];exact XQ.mpr ⟨y,hT'.mem_iff.mp hy,rfl⟩
   rw[W.rank my];exact decide_eq_false (by lia)
end
theorem zkb:Wk lt2:=by
 refine⟨fun x y h=>?_,fun x y z h1 h2=>?_⟩
 ·cases e:lt2 y x with
  | false=>rfl
  | true =>
   have:=zgi h e;rw[zhm] at this;cases this
 ·cases e:lt2 z x with
  | false=>rfl
  | true =>
   by_cases exy:x=y
   ·subst exy;rw[e] at h2;exact h2
   ·have h3:lt2 x y=true:=by
     have:=zbj (p:=x) (q:=y) exy;rw[h1] at this;cases hh:lt2 x y with
     | true=>rfl
     | false =>
      rw[hh] at this;cases this
    have:=zgi e h3;rw[this] at h2;exact h2
theorem zd7 {h:Heap}{v:X8}{p q:Int×Int}(h1:zx h v p)(h2:zx h v q):p=q:=by
 obtain⟨a,o,n,t,u,e,e1,c1,d1⟩:=h1;obtain⟨a',o',n',t',u',e',e1',c1',d1'⟩:=h2;subst e;cases e';rw[e1] at e1';cases e1';rw[d1] at d1';obtain⟨p1,p2⟩:=p;obtain⟨q1,q2⟩:=q;injection d1' with d1' _
 have e2:[Vu p1 t,Vu p2 u]=[Vu q1 t',Vu q2 u']:=congrArg Array.toList d1';injection e2 with e3 e4
 injection e4 with e4 _
 injection e3 with e3 _
 injection e4 with e4 _
 rw[e3,e4]
section
variable {X:Cx}
theorem jx:jR X (.builtin "sorted") (fun xs H Q=>∃l us ps,xs=[.ref l]/\SqL X.K H l us/\yI H us ps/\us.length<=1000000 /\
  ∀d us' ps',H d=none->yI H us' ps'->ps'.Perm ps->ps'.Pairwise (fun p q=>lt2 q p=false)->Q (.ref d) (upd H d (.lst us'))):=by
 intro pins s σ H xs us' Q I r h;obtain⟨l,us,ps,rfl,hq,ht,hz,q⟩:=h;obtain⟨u,rfl,ru⟩:=vals1 r;cases ru;obtain⟨its,rv,pl,_⟩:=I.list hq;have hp:=yI.pairs I ht rv;refine zdg zkb (RH:=zx) (fun h v k k'=>zd7) (fun h h' v k kk ⟨a,o,n,t,u,e,e1,r⟩=>⟨a,o,n,t,u,e,kk _ _ e1,r⟩) I pl.isList hz rv ht hp (fun s' hp' h2=>?_) fun d us' ks' hd h1 h2 h3 _=>q d us' ks' hd h1 h2 h3;obtain⟨fs,hk,hfl,hint⟩:=ZK hp';refine kat_kind (T:=.type "int") hk (by lia) (fun v hv=>?_) (by decide) ⟨rfl,fun v v' k k' h1 h2 C hC=>?_⟩
 ·obtain⟨x,t,rfl⟩:=hint v hv;exact Looks.of_pure rfl
 ·exact zhl h1 h2 hC
end
end GS
end L2
namespace PySem.SeqAt
open L2 AutoSeq1 MeetsSeq MeetsSeq2 MeetsSeq3
end PySem.SeqAt
namespace L2
open PySem PySem.Spec PyProof.Rows PySem.W PySem.SeqAt
section
variable {X:Cx}
end
end L2
namespace PySem.SeqAt
open L2 AutoSeq1 MeetsSeq MeetsSeq2 MeetsSeq3
def ltL:List (Int×Int)->List (Int×Int)->Bool
 | _,[]=>false
 | [],_::_=>true
 | p::r,q::t=>if p=q then ltL r t else lt2 p q
theorem zd8 (ps:List (Int×Int)):ltL ps []=false:=by cases ps<;>rfl
theorem zhy:∀ps:List (Int×Int),ltL ps ps=false
 | []=>rfl
 | p::r=>by
  unfold ltL;rw[if_pos rfl];exact zhy r
theorem zhz:∀{ps qs:List (Int×Int)},ps≠qs->ltL qs ps=!ltL ps qs
 | [],[],h=>absurd rfl h
 | [],q::t,_=>rfl
 | p::r,[],_=>rfl
 | p::r,q::t,h=>by
  unfold ltL;by_cases e:p=q
  ·subst e;rw[if_pos rfl,if_pos rfl];exact zhz fun z=>h (by rw[z])
  ·rw[if_neg e,if_neg (Vd e)];exact zbj e
theorem zgv:∀{ps qs ss:List (Int×Int)},ltL ps qs=true->ltL qs ss=true->ltL ps ss=true
 | ps,[],_,h,_=>by
  rw[zd8] at h;cases h
 | _,_::_,[],_,h=>by
  rw[zd8] at h;cases h
 | [],_::_,_::_,_,_=>rfl
 | p::r,q::t,x::y,h1,h2=>by
  unfold ltL at *
  by_cases e1:p=q
  ·subst e1;rw[if_pos rfl] at h1;by_cases e2:p=x
   ·rw[if_pos e2] at h2 ⊢;exact zgv h1 h2
   ·rw[if_neg e2] at h2 ⊢;exact h2
  ·rw[if_neg e1] at h1;by_cases e2:q=x
   ·subst e2;rw[if_neg e1];exact h1
   ·rw[if_neg e2] at h2;have h3:=zgi h1 h2;rw[if_neg]
    ·exact h3
    ·intro e;subst e;rw[zhm] at h3;cases h3
theorem zgw {A:WM}{s:X6}{v v':X8}{p q:Int×Int}(h1:zx s.heap v p)(h2:zx s.heap v' q)(hu:A.units+10<VP):EqAt A s v v' (decide (p=q)):=by
 obtain⟨as,ra⟩:=Y5 h1;obtain⟨bs,rb⟩:=Y5 h2;have:=eqAt_reads _ _ A s _ _ as bs ra rb rfl rfl (by show A.units+min 1 1<VP;lia);rw[ziq] at this;exact this
theorem Zm {h:Heap}{xs:Array X8}{ps:List (Int×Int)}(hp:Xj (zx h) xs.toList ps){i:Nat}(hi:i<xs.size):∃p r,ps.drop i=p::r/\ps.drop (i+1)=r/\zx h xs[i] p:=by
 have hl:xs.toList.length=ps.length:=Paired.length hp;rw[X5] at hl;have h2:i<ps.length:=by lia
 obtain⟨a,b,c⟩:=GS.zbS hp;refine⟨ps[i],ps.drop (i+1),WA h2,rfl,?_⟩;have hz:i<(xs.toList.zip ps).length:=by
  rw[List.length_zip,X5];lia
 have:=a _ (U5 hz);rw[List.getElem_zip] at this;simpa using this
theorem ziO (l b:Addr)(items items2:Array X8)(n n2:Nat)(dd dd2:Option Addr)(sl sl2:Array (Option X8))(ps qs:List (Int×Int))(k:Nat) :
  ∀i:Nat,items.size-i=k->i<=items.size->i<=items2.size->Meets (UT.«list.__eq__.loop» ⟨[.ref l,.ref b,Ug i,Ug 0],[]⟩)
   (fun A R s=>s.heap.get? l=some { cls:=.type "list",dict:=dd,data:=.seq items n,slots:=sl }/\s.heap.get? b=some { cls:=.type "list",dict:=dd2,data:=.seq items2 n2,slots:=sl2 } /\
    Xj (zx s.heap) items.toList ps/\Xj (zx s.heap) items2.toList qs/\A.units+20<VP /\
    R (.ok (.ret (.bool (ltL (ps.drop i) (qs.drop i))))) s):=by
 induction k with
 | zero =>
  intro i hk h1 h2 prog w A R s h;obtain⟨hp,g,d,tk,os⟩:=s;obtain⟨hl,hb,hp1,hp2,hu,h⟩:=h;have l1:items.toList.length=ps.length:=Paired.length hp1;have l2:items2.toList.length=qs.length:=Paired.length hp2;rw[X5] at l1 l2;wp_walk using Wc hl,Wc hb;have hi1:items[((i:Nat):Int).toNat]?=none:=by simp;lia
  rw[hi1];have hd:ps.drop i=[]:=by simp;lia
  have e:ltL (ps.drop i) (qs.drop i)=decide (items.size<items2.size):=by
   rw[hd];by_cases hq:i<qs.length
   ·rw[WA hq];exact(decide_eq_true (by lia)).symm
   ·rw[List.drop_of_length_le (by lia)];exact(decide_eq_false (by lia)).symm
  rw[e] at h;wp_walk using Wc hl,Wc hb;exact h
 | succ k ih =>
  intro i hk h1 h2 prog w A R s h;obtain⟨hp,g,d,tk,os⟩:=s;obtain⟨hl,hb,hp1,hp2,hu,h⟩:=h;have l1:items.toList.length=ps.length:=Paired.length hp1;have l2:items2.toList.length=qs.length:=Paired.length hp2;rw[X5] at l1 l2;wp_walk using Wc hl,Wc hb;have hlt:i<items.size:=by lia
  have hi1:items[((i:Nat):Int).toNat]?=some items[i]:=by simp[hlt]
  by_cases hlt2:i<items2.size
  ·have hi2:items2[((i:Nat):Int).toNat]?=some items2[i]:=by simp[hlt2]
   have hc:((i:Int)+1)=((i+1:Nat):Int):=by push_cast;rfl
   obtain⟨p,r,ep,er,rp⟩:=Zm hp1 hlt;obtain⟨q,t,eq,et,rq⟩:=Zm hp2 hlt2;rw[hi1,hi2];refine ZB (zgw rp rq (by show A.units+1+10<VP;lia) prog w _ _ ?_);rw[ep,eq] at h;unfold ltL at h;by_cases e:p=q
   ·rw[if_pos e] at h;rw[decide_eq_true e];wp_walk;rw[hc];exact⟨UK plain_eq_loop _,VL entry_eq_loop (by
     rw[V8 plain_eq_loop _];exact ih (i+1) (by lia) (by lia) (by lia) prog w A R _ ⟨hl,hb,hp1,hp2,hu,by rw[er,et];exact h⟩)⟩
   ·rw[if_neg e] at h;rw[decide_eq_false e];simp only[Wy,if_false];refine ZB (R4 hl rfl (ZB (R4 hb rfl ?_)));rw[hi1,hi2];exact ZB (Qk.pairs rp rq (by show A.units+1<VP;lia) prog w _ _ (XS h))
  ·have hi2:items2[((i:Nat):Int).toNat]?=none:=by simp;lia
   rw[hi1,hi2];have hd:qs.drop i=[]:=by simp;lia
   rw[hd,zd8,show false=decide (items.size<items2.size) from (decide_eq_false (by lia)).symm] at h;wp_walk using Wc hl,Wc hb;exact h
theorem zgx (l b:Addr)(items items2:Array X8)(n n2:Nat)(dd dd2:Option Addr)(sl sl2:Array (Option X8))(ps qs:List (Int×Int)) :
  Meets (UT.«list.__lt__» ⟨[.ref l,.ref b],[]⟩)
   (fun A R s=>s.heap.get? l=some { cls:=.type "list",dict:=dd,data:=.seq items n,slots:=sl }/\s.heap.get? b=some { cls:=.type "list",dict:=dd2,data:=.seq items2 n2,slots:=sl2 } /\
    Xj (zx s.heap) items.toList ps/\Xj (zx s.heap) items2.toList qs/\A.units+20<VP/\R (.ok (.ret (.bool (ltL ps qs)))) s):=by
 intro prog w A R s h;obtain⟨hp1,g1,d1,tk1,os1⟩:=s;obtain⟨hL,hB,hp,hq,hu,h⟩:=h;have fL:=sub_list_list;wp_walk using Wc hL,Wc hB;exact⟨UK plain_eq_loop _,VL entry_eq_loop (by
  rw[V8 plain_eq_loop _];exact ziO l b items items2 n n2 dd dd2 sl sl2 ps qs _ 0 rfl (WZ _) (WZ _) prog w A R _ ⟨hL,hB,hp,hq,hu,by simpa using h⟩)⟩
structure ListPairs (h:Heap)(v:X8)(ps:List (Int×Int)):Prop where
 ex:∃a o xs n,v=.ref a/\h.get? a=some o/\o.cls=.type "list"/\o.data=.seq xs n/\Xj (zx h) xs.toList ps
theorem zkc {prog:Xn}{w:WW}{A:WM}{E:X8->X6->Prop}{s:X6}{v v':X8}{ps qs:List (Int×Int)}{C:Bool->X6->Prop}(hv:ListPairs s.heap v ps)(hv':ListPairs s.heap v' qs)(hu:A.units+30<VP)(h:C (ltL ps qs) s) :
  Xg (Xk prog w) A (PyProof.Rows.keyLt' PyProof.Rows.oneType' v v') C E s:=by
 obtain⟨a,⟨cls,dd,data,sl⟩,xs,n,rfl,e1,c1,d1,p1⟩:=hv;obtain⟨a',⟨cls2,dd2,data2,sl2⟩,xs',n',rfl,e1',c1',d1',p1'⟩:=hv';simp only at c1 d1 c1' d1';subst c1 d1 c1' d1';rw[PyProof.Rows.keyLt'_oneType,PyProof.Rows.oneLt'_eq];simp only[if_true];refine ZB (wpAny_cRoomFor (by lia) ?_);refine ZB (wpAny_callSpecialIfBound?_slot (T:="list") ⟨_,e1,rfl⟩ F.slot_list_lt ?_);refine Rq F.slot_list_lt ⟨_,e1,rfl⟩ F.entry_list_lt (F.args_list_lt_2 _ _) (zgx a a' xs xs' n n' dd dd2 sl sl2 ps qs) ⟨e1,e1',p1,p1',(by lia),?_⟩;exact VO h
end PySem.SeqAt
namespace L2
open PySem PySem.Spec PyProof.Rows PySem.W PySem.SeqAt
namespace GS
theorem zod:Wk ltL:=by
 refine⟨fun x y h=>?_,fun x y z h1 h2=>?_⟩
 ·cases e:ltL y x with
  | false=>rfl
  | true =>
   have:=zgv h e;rw[zhy] at this;cases this
 ·cases e:ltL z x with
  | false=>rfl
  | true =>
   by_cases exy:x=y
   ·subst exy;rw[e] at h2;exact h2
   ·have h3:ltL x y=true:=by
     have:=zhz (ps:=x) (qs:=y) exy;rw[h1] at this;cases hh:ltL x y with
     | true=>rfl
     | false =>
      rw[hh] at this;cases this
    have:=zgv e h3;rw[this] at h2;exact h2
def LstAt (H:Hp)(v:V)(ps:List (Int×Int)):Prop:=∃a ws,v=V.ref a/\H a=some (.lst ws)/\yI H ws ps
theorem ziP {h:Heap}{vs:List X8}{ps qs:List (Int×Int)}(hp:Xj (zx h) vs ps):Xj (zx h) vs qs->ps=qs:=by
 induction hp generalizing qs with
 | nil =>
  intro hq;cases hq;rfl
 | cons a _ ih =>
  intro hq;cases hq with
  | cons b u=>rw[zd7 a b,ih u]
theorem zkd {h:Heap}{v:X8}{ps qs:List (Int×Int)}(h1:ListPairs h v ps)(h2:ListPairs h v qs):ps=qs:=by
 obtain⟨a,o,xs,n,e,e1,c1,d1,p1⟩:=h1;obtain⟨a',o',xs',n',e',e1',c1',d1',p1'⟩:=h2;subst e;cases e';rw[e1] at e1';cases e1';rw[d1] at d1';injection d1' with d1' _
 subst d1';exact ziP p1 p1'
theorem ZJ {h h':Heap}(k:∀b o,h.get? b=some o->h'.get? b=some o){vs:List X8}{ps:List (Int×Int)}(hp:Xj (zx h) vs ps):Xj (zx h') vs ps:=by
 induction hp with
 | nil=>exact .nil
 | cons q _ ih =>
  obtain⟨a,o,n,t,u,e,e1,r⟩:=q;exact .cons ⟨a,o,n,t,u,e,k _ _ e1,r⟩ ih
section
variable {X:Cx}{pins:List (Addr×Obj)}{σ:St}{H:Hp}{s:X6}
theorem zgy (I:Inv X pins σ H s){us:List V}{ks:List (List (Int×Int))}{its:List X8}(hp:Xj (LstAt H) us ks)(r:Vals us its):Xj (ListPairs s.heap) its ks:=by
 induction hp generalizing its with
 | nil =>
  cases r;exact .nil
 | cons q _ ih =>
  obtain⟨a,ws,e,h,ht⟩:=q;subst e;cases r with
  | cons r1 r2 =>
   cases r1;refine .cons ?_ (ih r2);obtain⟨z,its,n,rv,hl,e⟩:=I.lstM h;exact⟨a,_,its.toArray,n,rfl,e,rfl,rfl,by rw[List.toList_toArray];exact yI.pairs I ht rv⟩
end
theorem zgz {h:Heap}{its:List X8}{ks:List (List (Int×Int))}(hp:Xj (ListPairs h) its ks):∀v∈its,∃a o,v=WB a/\h.get? a=some o/\o.cls=.type "list":=by
 induction hp with
 | nil=>exact fun v hv=>nomatch hv
 | cons q _ ih =>
  intro v hv;rcases XF.mp hv with rfl | hv
  ·obtain⟨a,o,xs,n,e,e1,c,_⟩:=q;exact⟨a,o,e,e1,c⟩
  ·exact ih v hv
section
variable {X:Cx}
theorem Y8 (hu:X.A.units+64<VP):jR X (.builtin "sorted") (fun xs H Q=>∃l us ks,xs=[.ref l]/\SqL X.K H l us/\Xj (LstAt H) us ks/\us.length<=1000000 /\
  ∀d us' ks',H d=none->Xj (LstAt H) us' ks'->ks'.Perm ks->ks'.Pairwise (fun p q=>ltL q p=false)->us'.Perm us->Q (.ref d) (upd H d (.lst us'))):=by
 intro pins s σ H xs us' Q I r h;obtain⟨l,us,ks,rfl,hq,ht,hz,q⟩:=h;obtain⟨u,rfl,ru⟩:=vals1 r;cases ru;obtain⟨its,rv,pl,_⟩:=I.list hq;have hp:=zgy I ht rv;refine zdg zod (RH:=ListPairs) (fun h v k k'=>zkd) (fun h h' v k kk ⟨a,o,xs,n,e,e1,c,d,r⟩=>⟨a,o,xs,n,e,kk _ _ e1,c,d,ZJ kk r⟩) I pl.isList hz rv ht hp (fun s' hp' h2=>?_) fun d us' ks' hd h1 h2 h3 h4=>q d us' ks' hd h1 h2 h3 h4;refine kas_kind (T:=.type "list") h2 (fun v hv=>?_) (by decide) (by decide) ⟨rfl,fun v v' k k' h1 h2 C hC=>?_⟩
 ·obtain⟨a,o,rfl,e1,c1⟩:=zgz hp' v hv;exact c1 ▸ (Looks.ld e1).andThen .now
 ·exact zkc h1 h2 (by show X.A.units+1+1+30<VP;lia) hC
end
end GS
open PySem PySem.Spec PyProof.Rows
section
variable {X:Cx}{K:XT}
theorem zke (hK:X.K=K):MtR X "str.join" (rJoin K):=by
 subst hK;exact zlR
theorem zoe {T:String}{name:Str}{id:String}{r:V->List V->Hp->VK->Prop}{o e:Expr}{es:List Expr}{to:TE}{t:TA}{apos cpos:Pos}(hK:X.K=K)(pa:PlainAttrs T)(slot:Slot T name id)(hty:typeOf (.builtin id)=pure (.type "method_descriptor"))(hm:MtR X id r)(ho:PE X o to)(ha:PA X (e::es) t)
  (h1:O8 o name X.env (eval o X.env)=eval o X.env:=by rfl)
  (h2:((TY cpos (WH (e::es) X.env)).all (fun x=>!x.1)&&(backToKw cpos (OP [] X.env)).all (fun x=>x.1.isSome)
   && decide ((e::es).length+([]:List Pn).length+(if ([]:List Pn).isEmpty then 0 else 1)<30))=true:=by rfl)
  (h3:(apos.endLine==cpos.line)=true:=by rfl) (h4:WH (e::es) X.env=(false,eval e X.env)::WH es X.env:=by rfl) (h5:(TY cpos (WH es X.env)).any (·.1)=false:=by rfl) :
  PE X (.Call (.Attribute o name apos) (e::es) [] cpos) (tBM K T r to t):=by
 subst hK;exact Jk pa slot hty hm ho ha h1 h2 h3 h4 h5
end
def HasDef (K:XT)(x:Str)(st:Stmt):Prop:=∃(f:Addr) (oc:X8) (od an:Option Addr) (sl:Array (Option X8)) (kV dc pm cd ct:X8),Xl K XC x=some (some (.ref f))/\K.lookup f=some ⟨oc,od,.func (US x x (JF st) (yY st) (zf st) .none kV dc pm an cd ct),sl⟩/\Th K cd x=true/\Tg K (.ref f)=true
theorem HasDef.at {K:XT}{h:Heap}{mg:Str->Option X8}{x:Str}{st:Stmt}{ps:List Str}(H:HasDef K x st)(X:K.In h)(G:h.Ns XC mg)
  (hb:∀(kV doc pm:X8) (an:Option Addr) (cdv ct:X8) (us:List X8),us.length=ps.length->bindArgs (US x x (JF st) (yY st) (zf st) .none kV doc pm an cdv ct) ⟨us,[]⟩=pure (ps.zip us)):∃f fd,zm K mg x st ps f fd:=by
 obtain⟨f,oc,od,an,sl,kV,dc,pm,cd,ct,a,l,c,k⟩:=H;have F:=zjz (st:=st) l c k;exact⟨f,_,F,VE X G a,F.binds hb⟩
open PySem PySem.W
theorem us0 {P:List X8->Prop}(h:P []):∀us:List X8,us.length=0->P us:=by
 intro us e;cases us with
 | nil=>exact h
 | cons a t=>cases e
theorem usS {n:Nat}{P:List X8->Prop}(h:∀a t,t.length=n->P (a::t)):∀us:List X8,us.length=n+1->P us:=by
 intro us e;cases us with
 | nil=>cases e
 | cons a t=>exact h a t (Nat.succ.inj e)
theorem us1 {P:List X8->Prop}(h:∀a,P [a]):∀us:List X8,us.length=1->P us:=usS fun a=>us0 (h a)
theorem us2 {P:List X8->Prop}(h:∀a b,P [a,b]):∀us:List X8,us.length=2->P us:=usS fun a=>us1 (h a)
theorem us3 {P:List X8->Prop}(h:∀a b c,P [a,b,c]):∀us:List X8,us.length=3->P us:=usS fun a=>us2 (h a)
theorem us4 {P:List X8->Prop}(h:∀a b c d,P [a,b,c,d]):∀us:List X8,us.length=4->P us:=usS fun a=>us3 (h a)
open PySem PySem.Spec PyProof.Rows PySem.W
namespace ST
variable {X:Cx}
theorem zcG (hh:X.A.handled=none):jR X (.builtin "sorted") (fun xs H Q=>∃l ks,xs=[.ref l]/\H l=some (zfc X.prog X.w l ks)/\(∀q∈ks,H q.1=some (.tup [.int q.2.1,.int q.2.2]))/\(ks.map (·.2)).Nodup/\ks.length<64 /\
  ∀d us' ps',H d=none->yI H us' ps'->ps'.Perm (ks.map (·.2))->Up2 ps'->Q (.ref d) (upd H d (.lst us'))):=by
 intro pins s σ H xs us' Q I r h;obtain⟨l,ks,rfl,hl,hT,hnd,h64,q⟩:=h;obtain⟨u,rfl,ru⟩:=vals1 r;cases ru;obtain⟨⟨es,ep,t,ho,he,G,hled,hpl⟩,_,_⟩:=(show jk X.prog X.w H s.heap l (zfc X.prog X.w l ks) from I.hok l _ hl);have hkl:ks.length=es.size:=by
  rw[<- X5,he,Y1]
 apply R5 kind_sorted plain_sorted entry_sorted (args_sorted1 _);unfold UT.«sorted»;refine ZB (m:=checkCount "sorted" 1 1 _) (XS (ZB (zfb (by simp[hh]) ho G hled hpl (by lia) fun its h1 tk hpm kk1 zle=>?_)));have hvs:es.toList.map (·.2)=ks.map fun q=>WB q.1:=by
  rw[he,Ws];rfl
 rw[hvs] at hpm;obtain⟨js,hjp,hj⟩:=zbP (fun q:Addr×(Int×Int)=>WB q.1) hpm ks rfl;have hTj:∀q∈js,H q.1=some (.tup [.int q.2.1,.int q.2.2]):=fun q hq=>hT q (hjp.mem_iff.mp hq);have hndj:(js.map (·.2)).Nodup:=(hjp.map (·.2)).nodup_iff.mpr hnd;have hjl:js.length=ks.length:=hjp.length_eq;have hil:its.length=js.length:=by rw[hj,Y1]
 have rv:∀{js:List (Addr×(Int×Int))},Vals (js.map fun q=>V.ref q.1) (js.map fun q=>WB q.1):=fun {js}=>by
  induction js with
  | nil=>exact .nil
  | cons a t ih=>exact .cons rfl ih
 have ht:∀{js:List (Addr×(Int×Int))},(∀q∈js,H q.1=some (.tup [.int q.2.1,.int q.2.2]))->yI H (js.map fun q=>V.ref q.1) (js.map (·.2)):=fun {js}=>by
  induction js with
  | nil=>exact fun _=>.nil
  | cons a t ih=>exact fun h=>.cons ⟨a.1,rfl,h a XW⟩ (ih fun q hq=>h q (XR _ hq))
 have hp0:Xj (zx s.heap) its (js.map (·.2)):=by
  rw[hj];exact yI.pairs I (ht hTj) rv
 generalize hps:js.map (·.2)=ps at hp0 hndj;have hlp:its.length=ps.length:=Paired.length hp0;have W:=GS.zkb;have ip:∀q:Addr×(Int×Int),H q.1=some (.tup [.int q.2.1,.int q.2.2])->zx s.heap (.ref q.1) q.2:=fun q hq=>by
  have:=yI.pairs I (.cons ⟨q.1,rfl,hq⟩ .nil:yI H [V.ref q.1] [q.2]) (.cons rfl .nil:Vals [V.ref q.1] [WB q.1]);cases this with
  | cons h _=>exact h
 classical
 let r:X8->Int:=fun v=>if h:∃k,zx s.heap v k then GS.rkK lt2 ps h.choose else 0
 have rk_:∀{v:X8} {k:Int×Int},zx s.heap v k->r v=GS.rkK lt2 ps k:=fun {v k} h=>by
  have hx:∃k,zx s.heap v k:=⟨k,h⟩;show (if h:∃k,zx s.heap v k then GS.rkK lt2 ps h.choose else 0)=_;rw[dif_pos hx,GS.zd7 hx.choose_spec h]
 have small:its.length<=Xx:=by rw[T8];lia
 refine ZB (O3 ?_ small);have hoL:(h1.push (Uw "list" its.toArray 0)).get? h1.objs.size=some (Uw "list" its.toArray 0):=W5 _ rfl;have kL:∀b o,s.heap.get? b=some o->(h1.push (Uw "list" its.toArray 0)).get? b=some o:=fun b o e=>XY _ (kk1 b o e);have ne:∀b o,s.heap.get? b=some o->b≠h1.objs.size:=fun b o e=>Xi (XH (kk1 b o e));show Xg _ _ _ _ _ { s with heap:=h1.push (Uw "list" its.toArray 0),toks:=tk };refine ZB (VU (U6 slot_list_sort ⟨_,hoL,rfl⟩ entry_list_sort (GS.zde (s:={ s with heap:=h1.push (Uw "list" its.toArray 0),toks:=tk }) hoL small r (fun h2 s' kk=>?_) ?_) (args_list_sort _)))
 ·have hp':=ZJ (fun b o e=>kk b o (ne b o e) (kL b o e)) hp0;obtain⟨fs,hk,hfl,hint⟩:=ZK hp';refine kat_kind (T:=.type "int") hk (by lia) (fun v hv=>?_) (by decide) ⟨rfl,fun x hx y hy C hC=>?_⟩
  ·obtain⟨x,t,rfl⟩:=hint v hv;exact Looks.of_pure rfl
  ·have mx:x.1∈its:=by
    rw[UA] at hx;exact(Sq hx).2
   have my:y.1∈its:=by
    rw[UA] at hy;exact(Sq hy).2
   obtain⟨k,k1,k2⟩:=GS.Ju hp0 x.1 mx;obtain⟨k',k1',k2'⟩:=GS.Ju hp0 y.1 my;have kp:∀{v:X8} {k:Int×Int},zx s.heap v k->zx s'.heap v k:=fun {v k} ⟨a,o,n,t,u,e,e1,r⟩=>⟨a,o,n,t,u,e,kk _ _ (ne _ _ e1) (kL _ _ e1),r⟩;have hC':C (decide (r x.1<r y.1)) s':=hC;rw[rk_ k2,rk_ k2',<- W.rank k1] at hC';exact zhl (kp k2) (kp k2') hC'
 ·intro ws h' c hpm' hs kk ha;obtain⟨js',hjp',ej⟩:=zbP (fun q:Addr×(Int×Int)=>WB q.1) hpm' js hj;have hD:H h1.objs.size=none:=I.hok.fresh zle;have hT':∀q∈js',H q.1=some (.tup [.int q.2.1,.int q.2.2]):=fun q hq=>hTj q (hjp'.mem_iff.mp hq);have rv':Vals (js'.map fun q=>V.ref q.1) ws:=by
   rw[ej];exact rv
  have nd':(js'.map (·.2)).Nodup:=(hjp'.map (·.2)).nodup_iff.mpr (by rw[hps];exact hndj);have hup:Up2 (js'.map (·.2)):=by
   unfold Up2;unfold W7 at nd';rw[Wm] at nd' ⊢;rw[ej,Wm] at hs;refine(hs.and nd').imp_of_mem fun {x y} hx hy ⟨h1,h2⟩=>?_;rw[rk_ (ip x (hT' x hx)),rk_ (ip y (hT' y hy))] at h1;have my:y.2∈ps:=by
    rw[<- hps];exact XQ.mpr ⟨y,hjp'.mem_iff.mp hy,rfl⟩
   have e1:lt2 y.2 x.2=false:=by
    rw[W.rank my];exact decide_eq_false (by lia)
   have e2:=zbj h2;rw[e1] at e2;cases hh:lt2 x.2 y.2 with
   | true=>rfl
   | false =>
    rw[hh] at e2;cases e2
  refine⟨_,rfl,XS ⟨_,rfl,.ref h1.objs.size,upd H h1.objs.size (.lst (js'.map fun q=>V.ref q.1)),I.laid (t':=tk) (fun b o e=>kk b o (ne b o e) (kL b o e)) zle ⟨?_,_,c,rv',ha⟩,rfl,q _ _ _ hD (ht hT') ((hjp'.trans hjp).map _) hup⟩⟩;rw[rv'.length,hpm'.length_eq];exact small
end ST
inductive Rd1 (σ:St)(i:Nat)(Q:VK)(H:Hp):Prop
 | mk (v:V) (h:σ[i]?=some (some v)) (q:Q v H):Rd1 σ i Q H
def tVS (i:Nat):TE:=fun σ H Q=>Rd1 σ i Q H
section
variable {X:Cx}
theorem pvS (i:Nat){x:Str}{pos:Pos}(hN:X.N[i]?=some x:=by rfl)(hv:Vis X.env.scope x:=by first | exact XE rfl | exact Vp (XE rfl) | exact Vp (Vp rfl))(hd:(x==("__debug__":Str))=false:=by decide)
  (hcd:(x==("__classdict__":Str))=false:=by decide):PE X (.Name x pos) (tVS i):=by
 intro pins s σ H Q I h;obtain⟨v,e,q⟩:=h;exact pv i hN hv hd hcd pins s σ H Q I ⟨v,e,q⟩
theorem OpR.imp {f:X8->X8->Sem X8}{r r':R2}(h:OpR X f r)(k:∀x y H Q,r' x y H Q->r x y H Q):OpR X f r':=fun pins s σ H x y v u Q I rx ry z=>h pins s σ H x y v u Q I rx ry (k x y H Q z)
theorem IxR.imp {r r':R2}(h:IxR X r)(k:∀x y H Q,r' x y H Q->r x y H Q):IxR X r':=fun value slice pins s σ H x y v u Q I rx ry z hs=>h value slice pins s σ H x y v u Q I rx ry (k x y H Q z) hs
inductive SI0 (g:Int->Int->V)(x y:V)(H:Hp)(Q:VK):Prop
 | mk (i j:Int) (hx:x=.int i) (hy:y=.int j) (q:Q (g i j) H):SI0 g x y H Q
inductive SI (C:Int->Int->Prop)(g:Int->Int->V)(x y:V)(H:Hp)(Q:VK):Prop
 | mk (i j:Int) (hx:x=.int i) (hy:y=.int j) (hc:C i j) (q:Q (g i j) H):SI C g x y H Q
theorem OpR.s0 {f:X8->X8->Sem X8}{g:Int->Int->V}(h:OpR X f (rI0 g)):OpR X f (SI0 g):=h.imp fun _ _ _ _ ⟨i,j,a,b,q⟩=>⟨i,j,a,b,q⟩
theorem OpR.s1 {f:X8->X8->Sem X8}{C:Int->Int->Prop}{g:Int->Int->V}(h:OpR X f (rI C g)):OpR X f (SI C g):=h.imp fun _ _ _ _ ⟨i,j,a,b,c,q⟩=>⟨i,j,a,b,c,q⟩
theorem JU:OpR X (Uo .Add) (SI0 fun i j=>.int (i+j)):=ZG.s0
theorem xx:OpR X (Uo .Sub) (SI0 fun i j=>.int (i-j)):=J5.s0
theorem zbp:OpR X (Uo .Mod) (SI (fun _ j=>0<j) fun i j=>.int (i%j)):=yw.s1
theorem YK:OpR X (Uo .FloorDiv) (SI JP fun i j=>.int (i/j)):=Jl.s1
theorem zof:OpR X (Wh .Lt) (SI0 fun i j=>.bl (decide (i<j))):=zeC.s0
theorem zd9:OpR X (Wh .LtE) (SI0 fun i j=>.bl (decide (i<=j))):=zpj.s0
theorem zkf:OpR X (Wh .Gt) (SI0 fun i j=>.bl (decide (j<i))):=zm3.s0
inductive zog (K:XT)(x y:V)(H:Hp)(Q:VK):Prop
 | mk (p:Addr) (xs:List V) (i:Int) (v:V) (hx:x=.ref p) (hy:y=.int i) (hq:SqL K H p xs) (he:atI xs i=some v) (q:Q v H):zog K x y H Q
inductive zoh (K:XT)(x y:V)(H:Hp)(Q:VK):Prop
 | mk (p:Addr) (xs:List V) (i:Int) (v:V) (hx:x=.ref p) (hy:y=.int i) (hq:SqT K H p xs) (he:atI xs i=some v) (q:Q v H):zoh K x y H Q
inductive zpF (x y:V)(H:Hp)(Q:VK):Prop
 | mk (z:Str) (i:Int) (c:Nat) (hx:x=.str z) (hy:y=.int i) (hl:z.length<=Xx) (he:atI z.cps.toList i=some c) (q:Q (.str ⟨#[c]⟩) H):zpF x y H Q
theorem xE:IxR X (zog X.K):=xw.imp fun _ _ _ _ ⟨p,xs,i,v,a,b,c,d,q⟩=>⟨p,xs,i,v,a,b,c,d,q⟩
theorem qG:IxR X (zoh X.K):=qP.imp fun _ _ _ _ ⟨p,xs,i,v,a,b,c,d,q⟩=>⟨p,xs,i,v,a,b,c,d,q⟩
theorem zea:IxR X zpF:=znT.imp fun _ _ _ _ ⟨z,i,c,a,b,d,e,q⟩=>⟨z,i,c,a,b,d,e,q⟩
theorem zax {K:XT}(hK:X.K=K):IxR X (zog K):=hK ▸ xE
theorem zkg {K:XT}(hK:X.K=K):IxR X (zoh K):=hK ▸ qG
inductive SB (x:V)(Q:Bool->Hp->Prop)(H:Hp):Prop
 | mk (k:Bool) (h:x=.bl k) (q:Q k H):SB x Q H
def zoi (t:TE):TT:=fun σ H Q=>t σ H fun x H'=>SB x Q H'
theorem qt {op:OH}{r:R2}{a b:Expr}{ta tb:TE}{pos:Pos}(ho:OpR X (Wh op) r)(ha:PE X a ta)(hb:PE X b tb)(hm:TM op b=false):PT X (.Compare a [op] [b] pos) (zoi (tOp r ta tb)):=by
 intro pins s σ H Q I h;refine SZ (thn (ha pins s σ H _ I h) fun v s1 ⟨x,H1,I1,r1,q1⟩=>thn (hb pins s1 σ H1 _ I1 q1) fun u s2 ⟨y,H2,I2,r2,q2⟩=>thn (ho pins s2 σ H2 x y v u _ I2 r1 r2 q2) fun c s3 ⟨z,H3,I3,r3,q3⟩=>?_) hm;obtain⟨k,rfl,q⟩:=q3;cases r3;exact VO ⟨H3,I3,q⟩
inductive zpG (K:XT)(xs:List V)(H:Hp)(Q:VK):Prop
 | mk (p:Addr) (ys:List V) (hx:xs=[.ref p]) (hq:SqL K H p ys\/SqT K H p ys) (q:Q (.int ys.length) H):zpG K xs H Q
theorem zT:jR X (.builtin "len") (zpG X.K):=fun pins s σ H xs us Q I r ⟨p,ys,a,b,q⟩=>qq pins s σ H xs us Q I r ⟨p,ys,a,b,q⟩
inductive zpH (x:V)(vs:List V)(H:Hp)(Q:VK):Prop
 | mk (l:Addr) (xs:List V) (y:V) (hx:x=.ref l) (hv:vs=[y]) (hl:H l=some (.lst xs)) (hz:xs.length<Xx) (q:Q .non (upd H l (.lst (xs++[y])))):zpH x vs H Q
theorem Jv:MtM X "list.append" zpH:=fun pins s σ H x xs v us Q I rx rv ⟨l,ys,y,a,b,c,d,q⟩=>yd pins s σ H x xs v us Q I rx rv ⟨l,ys,y,a,b,c,d,q⟩
end
section
variable {X:Cx}{k k0:Nat}{f:Addr}{fd:Xz}{ps:List Str}{sp:Sp}{x:Str}{st:Stmt}{p pos:Pos}{e:Expr}{es:List Expr}{t:TA}
theorem pc0 (F:qb X.prog X.w X.K X.mg X.base CX0 k f fd ps sp)(hr:J6 k0 X.A)(D:zm X.K X.mg x st ps f fd)(ha:PA X (e::es) t)(hk:k<=k0:=by decide)(hg:Gl X x:=by rfl)
  (hdb:(x==("__debug__":Str))=false:=by decide) (he:WH (e::es) X.env=(false,eval e X.env)::WH es X.env:=by rfl) (hpl:(TY pos (WH es X.env)).any (·.1)=false:=by rfl) :
  PE X (.Call (.Name x p) (e::es) [] pos) (zeG sp [] E0 t):=zdQ F (hr.mono hk) hg D.g D.F.kp D.b .nil zpp ha hdb he hpl
theorem pcX (F:qb X.prog X.w X.K X.mg X.base (CXE X.prog X.w) k f fd ps sp)(hr:J6 k0 X.A)(D:zm X.K X.mg x st ps f fd)(ha:PA X (e::es) t)(hk:k<=k0:=by decide)(hg:Gl X x:=by rfl)
  (hdb:(x==("__debug__":Str))=false:=by decide) (he:WH (e::es) X.env=(false,eval e X.env)::WH es X.env:=by rfl) (hpl:(TY pos (WH es X.env)).any (·.1)=false:=by rfl) :
  PE X (.Call (.Name x p) (e::es) [] pos) (zeG sp [] EF t):=zdQ F (hr.mono hk) hg D.g D.F.kp D.b .nil zpu ha hdb he hpl
theorem pcL {E:XK}(L:xQ X E)(F:qb X.prog X.w X.K X.mg X.base (CXE X.prog X.w) k f fd ps sp)(hr:J6 k0 X.A)(D:zm X.K X.mg x st ps f fd)(ha:PA X (e::es) t)(hk:k<=k0:=by decide)(hg:Gl X x:=by rfl)
  (hdb:(x==("__debug__":Str))=false:=by decide) (he:WH (e::es) X.env=(false,eval e X.env)::WH es X.env:=by rfl) (hpl:(TY pos (WH es X.env)).any (·.1)=false:=by rfl) :
  PE X (.Call (.Name x p) (e::es) [] pos) (zeG sp [] E t):=zdQ F (hr.mono hk) hg D.g D.F.kp D.b .nil (xQ.passes L) ha hdb he hpl
end
theorem Jw:0<=Xx:=by decide
theorem sz_1:1<=Xx:=by decide
theorem yJ:2<=Xx:=by decide
theorem ziQ:3<=Xx:=by decide
end L2
namespace Cells
def zR (p:Nat->Bool)(i:Nat):Nat->List Nat->List (Nat×Nat)
 | _,[]=>[]
 | j,c::r=>(if p c=true then [(i,j)] else [])++zR p i (j+1) r
def zB (p:Nat->Bool):Nat->List (List Nat)->List (Nat×Nat)
 | _,[]=>[]
 | i,t::r=>zR p i 0 t++zB p (i+1) r
theorem ZO (p:Nat->Bool)(i:Nat):∀(j:Nat) (a b:List Nat),zR p i j (a++b)=zR p i j a++zR p i (j+a.length) b
 | j,[],b=>by simp[zR]
 | j,c::a,b=>by
  simp only[RF,zR,ZO p i (j+1) a b,Xm,WX];rw[show j+1+a.length=j+(a.length+1) by lia]
theorem ZP (p:Nat->Bool):∀(i:Nat) (a b:List (List Nat)),zB p i (a++b)=zB p i a++zB p (i+a.length) b
 | i,[],b=>by simp[zB]
 | i,t::a,b=>by
  simp only[RF,zB,ZP p (i+1) a b,Xm,WX];rw[show i+1+a.length=i+(a.length+1) by lia]
theorem Qm {p:Nat->Bool}{i j c:Nat}{t:List Nat}(h:t[j]?=some c):zR p i 0 (t.take (j+1))=zR p i 0 (t.take j)++(if p c=true then [(i,j)] else []):=by
 rw[Xc,h,ZO];have hl:(t.take j).length=j:=by
  have:=(X0.mp h).1;rw[XM];lia
 simp[zR,hl]
theorem Qn {p:Nat->Bool}{i:Nat}{t:List Nat}{rs:List (List Nat)}(h:rs[i]?=some t):zB p 0 (rs.take (i+1))=zB p 0 (rs.take i)++zR p i 0 t:=by
 rw[Xc,h,ZP];have hl:(rs.take i).length=i:=by
  have:=(X0.mp h).1;rw[XM];lia
 simp[zB,hl]
theorem jN (p:Nat->Bool)(i:Nat):∀(j:Nat) (t:List Nat),(zR p i j t).length<=t.length
 | j,[]=>by simp[zR]
 | j,c::r=>by
  have:=jN p i (j+1) r;simp only[zR,X4,Xm];split<;>simp<;>lia
theorem qY (p:Nat->Bool):∀(i:Nat) (rs:List (List Nat)),(∀t∈rs,t.length<=8)->(zB p i rs).length<=8*rs.length
 | i,[],_=>by simp[zB]
 | i,t::r,h=>by
  have h1:=jN p i 0 t;have h2:=qY p (i+1) r fun u hu=>h u (XR _ hu);have h3:=h t XW;simp only[zB,X4,Xm];lia
theorem Jg {p:Nat->Bool}{i:Nat}:∀{j:Nat} {t:List Nat} {x:Nat×Nat},x∈zR p i j t->∃m c,x=(i,j+m)/\t[m]?=some c/\p c=true
 | j,[],x,h=>by simp[zR] at h
 | j,c::r,x,h=>by
  simp only[zR,XO] at h;rcases h with h | h
  ·split at h
   ·rename_i hp;have:x=(i,j):=by simpa using h
    exact⟨0,c,this,rfl,hp⟩
   ·cases h
  ·obtain⟨m,c',e,h1,h2⟩:=Jg h;exact⟨m+1,c',by rw[e,show j+1+m=j+(m+1) by lia],by simpa using h1,h2⟩
theorem yi {p:Nat->Bool}{i:Nat}{rs:List (List Nat)}{x:Nat×Nat}(h:x∈zB p i rs):∃k j t c,x=(i+k,j)/\rs[k]?=some t/\t[j]?=some c/\p c=true:=by
 induction rs generalizing i with
 | nil=>simp[zB] at h
 | cons t r ih =>
  simp only[zB,XO] at h;rcases h with h | h
  ·obtain⟨m,c,e,h1,h2⟩:=Jg h;exact⟨0,m,t,c,by simpa using e,rfl,h1,h2⟩
  ·obtain⟨k,j,u,c,e,h1,h2,h3⟩:=ih h;exact⟨k+1,j,u,c,by rw[e,show i+1+k=i+(k+1) by lia],by simpa using h1,h2,h3⟩
def sgn (rs:List (List Nat))(x:Nat×Nat):Nat:=(rs.getD x.1 []).getD x.2 0
theorem QW {p q:Nat->Bool}{i:Nat}(f:Nat×Nat->Bool):∀(j:Nat) (t:List Nat),(∀m c,t[m]?=some c->f (i,j+m)=q c)->(zR p i j t).filter f=zR (fun c=>p c&&q c) i j t
 | j,[],_=>by simp[zR]
 | j,c::r,h=>by
  have ih:=QW (p:=p) (q:=q) (i:=i) f (j+1) r fun m c' hm=>by
   have:=h (m+1) c' (by simpa using hm);rw[show j+1+m=j+(m+1) by lia];exact this
  have h0:=h 0 c rfl;simp only[zR,WY,ih];congr 1;simp only[Rn] at h0;by_cases hp:p c=true
  ·by_cases hq:q c=true
   ·simp[hp,hq,h0]
   ·simp[hp,hq,h0]
  ·simp[hp]
theorem QX {p q:Nat->Bool}(f:Nat×Nat->Bool):∀(i:Nat) (rs:List (List Nat)),(∀k t m c,rs[k]?=some t->t[m]?=some c->f (i+k,m)=q c)->(zB p i rs).filter f=zB (fun c=>p c&&q c) i rs
 | i,[],_=>by simp[zB]
 | i,t::r,h=>by
  have ih:=QX (p:=p) (q:=q) f (i+1) r fun k u m c hk hm=>by
   have:=h (k+1) u m c (by simpa using hk) hm;rw[show i+1+k=i+(k+1) by lia];exact this
  simp only[zB,WY,ih];rw[QW (p:=p) (q:=q) f 0 t fun m c hm=>by simpa using h 0 t m c rfl hm]
theorem Qo {rs:List (List Nat)}{i j:Nat}{t:List Nat}{c:Nat}(h:rs[i]?=some t)(h2:t[j]?=some c):sgn rs (i,j)=c:=by
 unfold sgn;simp[List.getD,h,h2]
theorem all_filter {p q:Nat->Bool}(rs:List (List Nat)):(zB p 0 rs).filter (fun x=>q (sgn rs x))=zB (fun c=>p c&&q c) 0 rs :=
 QX _ 0 rs fun k t m c hk hm=>by rw[show 0+k=k by lia,Qo hk hm]
theorem Yn {p q:Nat->Bool}(h:∀c,p c=q c)(i:Nat)(rs:List (List Nat)):zB p i rs=zB q i rs:=by
 rw[show p=q from funext h]
def near (x y:Nat×Nat):Bool:=decide ((if (x.1:Int)-(y.1:Int)<0 then -((x.1:Int)-(y.1:Int)) else (x.1:Int)-(y.1:Int))<2)&&(decide ((if (x.2:Int)-(y.2:Int)<0 then -((x.2:Int)-(y.2:Int)) else (x.2:Int)-(y.2:Int))<2) && !decide (x=y))
theorem yy (x y:Nat×Nat):near x y=true↔(x.1<=y.1+1/\y.1<=x.1+1)/\(x.2<=y.2+1/\y.2<=x.2+1)/\¬ x=y:=by
 unfold near;rw[Wo,Wo,decide_eq_true_iff,decide_eq_true_iff,WI,decide_eq_false_iff_not];constructor
 ·rintro⟨h1,h2,h3⟩;refine⟨?_,?_,h3⟩
  ·split at h1<;>lia
  ·split at h2<;>lia
 ·rintro⟨h1,h2,h3⟩;refine⟨?_,?_,h3⟩
  ·split<;>lia
  ·split<;>lia
def lex (a b:Nat×Nat):Prop:=a.1<b.1\/(a.1=b.1/\a.2<b.2)
theorem zdh (p:Nat->Bool)(i:Nat):∀(j:Nat) (t:List Nat),(zR p i j t).Pairwise lex
 | j,[]=>by simp[zR]
 | j,c::r=>by
  simp only[zR];rw[T6];refine⟨?_,zdh p i (j+1) r,fun a ha b hb=>?_⟩
  ·split<;>simp
  ·split at ha
   ·have e:a=(i,j):=by simpa using ha
    obtain⟨m,c',e',_,_⟩:=Jg hb;subst e e';exact .inr ⟨rfl,by show j<j+1+m;lia⟩
   ·cases ha
theorem Jh (p:Nat->Bool):∀(i:Nat) (rs:List (List Nat)),(zB p i rs).Pairwise lex
 | i,[]=>by simp[zB]
 | i,t::r=>by
  simp only[zB];rw[T6];refine⟨zdh p i 0 t,Jh p (i+1) r,fun a ha b hb=>?_⟩;obtain⟨m,c,e,_,_⟩:=Jg ha;obtain⟨k,j,u,c',e',_,_,_⟩:=yi hb;subst e e';exact .inl (by show i<i+1+k;lia)
theorem zkh {p:Nat->Bool}{f:Nat×Nat->Bool}{n:Nat}{rs:List (List Nat)}(h:∀r c,r<n->f (r,c)=false):(zB p 0 (rs.take n)).filter f=[]:=by
 rw[We];intro x hx;obtain⟨k,j,t,c,e,hk,_,_⟩:=yi hx;have hkl:k<n:=by
  have:=(X0.mp hk).1;rw[XM] at this;lia
 subst e;rw[h _ _ (by lia)];exact XV
theorem ziR {p:Nat->Bool}{f:Nat×Nat->Bool}{n:Nat}{rs:List (List Nat)}(h:∀r c,n<=r->f (r,c)=false):(zB p 0 (rs.take n)).filter f=(zB p 0 rs).filter f:=by
 by_cases hn:n<=rs.length
 ·have e:=WT n rs;have e2:zB p 0 rs=zB p 0 (rs.take n)++zB p (0+(rs.take n).length) (rs.drop n):=by rw[<- ZP,e]
  rw[e2,WY];have z:(zB p (0+(rs.take n).length) (rs.drop n)).filter f=[]:=by
   rw[We];intro x hx;obtain⟨k,j,t,c,e,hk,_,_⟩:=yi hx;subst e;rw[XM,h _ _ (by lia)];exact XV
  rw[z,W9]
 ·rw[WE (by lia)]
theorem zki {p:Nat->Bool}{f:Nat×Nat->Bool}{i n:Nat}{t:List Nat}(h:∀c,c<n->f (i,c)=false):(zR p i 0 (t.take n)).filter f=[]:=by
 rw[We];intro x hx;obtain⟨m,c,e,hm,_⟩:=Jg hx;have hml:m<n:=by
  have:=(X0.mp hm).1;rw[XM] at this;lia
 subst e;rw[h _ (by lia)];exact XV
theorem ziS {p:Nat->Bool}{f:Nat×Nat->Bool}{i n:Nat}{t:List Nat}(h:∀c,n<=c->f (i,c)=false):(zR p i 0 (t.take n)).filter f=(zR p i 0 t).filter f:=by
 by_cases hn:n<=t.length
 ·have e:=WT n t;have e2:zR p i 0 t=zR p i 0 (t.take n)++zR p i (0+(t.take n).length) (t.drop n):=by rw[<- ZO,e]
  rw[e2,WY];have z:(zR p i (0+(t.take n).length) (t.drop n)).filter f=[]:=by
   rw[We];intro x hx;obtain⟨m,c,e,hm,_⟩:=Jg hx;subst e;rw[XM,h _ (by lia)];exact XV
  rw[z,W9]
 ·rw[WE (by lia)]
end Cells
namespace Parts
abbrev C:=Nat×Nat
structure Good (cl:C->List C)(done:List C)(gs:List (List C)):Prop where
 ne:∀g∈gs,g ≠ []
 nd:gs.flatten.Nodup
 from_:∀x∈gs.flatten,∃o∈done,x∈cl o
 cov:∀o∈done,cl o ≠ []->∃g∈gs,∀x∈cl o,x∈g
 con:∀g∈gs,∀S:C->Prop,(∀o∈done,(∃x∈cl o,S x)->∀x∈cl o,S x)->(∃x∈g,S x)->∀x∈g,S x
 srt:∀g∈gs,g.Pairwise Cells.lex
theorem Good.start (cl:C->List C):Good cl [] []:=⟨(fun _ h=>nomatch h),VA,(fun _ h=>nomatch h),(fun _ h=>nomatch h),(fun _ h=>nomatch h),(fun _ h=>nomatch h)⟩
theorem Good.skip {cl:C->List C}{done:List C}{gs:List (List C)}(G:Good cl done gs){o:C}(h:cl o=[]):Good cl (done++[o]) gs:=by
 refine⟨G.ne,G.nd,fun x hx=>?_,fun p hp hn=>?_,fun g hg S hS=>G.con g hg S fun p hp=>hS p (W6 _ hp),G.srt⟩
 ·obtain⟨p,hp,hx⟩:=G.from_ x hx;exact⟨p,W6 _ hp,hx⟩
 ·rcases XO.mp hp with hp | hp
  ·exact G.cov p hp hn
  ·have e:p=o:=by simpa using hp
   subst e;exact absurd h hn
theorem zdi {gs:List (List C)}(nd:gs.flatten.Nodup):∀{g g':List C} {x:C},g∈gs->g'∈gs->x∈g->x∈g'->g=g':=by
 induction gs with
 | nil=>intro g g' x h;cases h
 | cons a r ih =>
  rw[V0,WN] at nd;obtain⟨_,h2,h3⟩:=nd;intro g g' x hg hg' hx hx';rcases XF.mp hg with e1 | g1
  ·rcases XF.mp hg' with e2 | g2
   ·rw[e1,e2]
   ·exact absurd rfl (h3 x (e1 ▸ hx) x (Wf.mpr ⟨g',g2,hx'⟩))
  ·rcases XF.mp hg' with e2 | g2
   ·exact absurd rfl (h3 x (e2 ▸ hx') x (Wf.mpr ⟨g,g1,hx⟩))
   ·exact ih h2 g1 g2 hx hx'
theorem qS (p:List C->Bool):∀gs:List (List C),(gs.filter p).flatten.Sublist gs.flatten
 | []=>List.Sublist.refl _
 | a::r=>by
  rw[WD,V0];split
  ·rw[V0];exact List.Sublist.append (List.Sublist.refl _) (qS p r)
  ·exact List.Sublist.trans (qS p r) (List.sublist_append_right _ _)
def meets (g0 g:List C):Bool:=!(g.filter fun c=>g0.any fun x=>decide (x=c)).isEmpty
theorem Zn {g0 g:List C}:meets g0 g=true ↔ ∃x∈g,x∈g0:=by
 unfold meets;rw[WI,VR];constructor
 ·intro h;obtain⟨x,hx⟩:=TZ _ h;rw[X9,WF] at hx;obtain⟨h1,y,h2,h3⟩:=hx;have e:y=x:=of_decide_eq_true h3;subst e;exact⟨y,h1,h2⟩
 ·rintro⟨x,h1,h2⟩ hn;have:x∈g.filter fun c=>g0.any fun x=>decide (x=c):=X9.mpr ⟨h1,WF.mpr ⟨x,h2,decide_eq_true rfl⟩⟩;rw[hn] at this;cases this
def whole (w:List C):List (List C)->List C
 | []=>w
 | g::r=>whole (w++g.filter fun c=>!(w.any fun x=>decide (x=c))) r
theorem QY (w:List C)(c:C):(w.any fun x=>decide (x=c))=true↔c∈w:=by
 rw[WF];constructor
 ·rintro⟨x,h1,h2⟩;have e:x=c:=of_decide_eq_true h2;subst e;exact h1
 ·intro h;exact⟨c,h,decide_eq_true rfl⟩
theorem zay {x:C}:∀{w:List C} {ms:List (List C)},x∈whole w ms↔x∈w\/∃m∈ms,x∈m
 | w,[]=>by simp[whole]
 | w,g::r=>by
  rw[whole,zay,XO,X9];constructor
  ·rintro((h | ⟨h,_⟩) | ⟨m,hm,h⟩)
   ·exact .inl h
   ·exact .inr ⟨g,XW,h⟩
   ·exact .inr ⟨m,XR _ hm,h⟩
  ·rintro(h | ⟨m,hm,h⟩)
   ·exact .inl (.inl h)
   ·rcases XF.mp hm with rfl | hm
    ·by_cases hw:x∈w
     ·exact .inl (.inl hw)
     ·refine .inl (.inr ⟨h,?_⟩);rw[WI,Xh];exact fun z=>hw ((QY w x).mp z)
    ·exact .inr ⟨m,hm,h⟩
theorem Yo:∀{w:List C} {ms:List (List C)},w.Nodup->(∀m∈ms,m.Nodup)->(whole w ms).Nodup
 | w,[],h,_=>h
 | w,g::r,h,hm=>by
  rw[whole];refine Yo ?_ fun m hm'=>hm m (XR _ hm');rw[WN];refine⟨h,(hm g XW).sublist Xa,fun a ha b hb e=>?_⟩;subst e;have hb2:=(X9.mp hb).2;rw[(QY w a).mpr ha] at hb2;cases hb2
theorem Good.step {cl:C->List C}{done:List C}{gs:List (List C)}(G:Good cl done gs){o:C}(h:cl o ≠ [])(hn:(cl o).Nodup){rest:List (List C)}{w:List C}(hr:rest=gs.filter fun g=>!((gs.filter (meets (cl o))).any fun m=>decide (m=g)))
  (hw:w.Perm (whole (cl o) (gs.filter (meets (cl o))))) (hs:w.Pairwise Cells.lex):Good cl (done++[o]) (rest++[w]):=by
 have mr:∀g,g∈rest↔g∈gs/\¬ ∃x∈g,x∈cl o:=fun g=>by
  rw[hr,X9,WI,Xh];constructor
  ·rintro⟨h1,h2⟩;exact⟨h1,fun h3=>h2 (WF.mpr ⟨g,X9.mpr ⟨h1,Zn.mpr h3⟩,decide_eq_true rfl⟩)⟩
  ·rintro⟨h1,h2⟩;refine⟨h1,fun h3=>?_⟩;obtain⟨m,hm,e⟩:=WF.mp h3;have e':m=g:=of_decide_eq_true e;subst e';exact h2 (Zn.mp (X9.mp hm).2)
 have mw:∀x,x∈w↔x∈cl o\/∃g∈gs,(∃y∈g,y∈cl o)/\x∈g:=fun x=>by
  rw[hw.mem_iff,zay];constructor
  ·rintro(h1 | ⟨m,hm,h1⟩)
   ·exact .inl h1
   ·obtain⟨h2,h3⟩:=X9.mp hm;exact .inr ⟨m,h2,Zn.mp h3,h1⟩
  ·rintro(h1 | ⟨g,h2,h3,h1⟩)
   ·exact .inl h1
   ·exact .inr ⟨g,X9.mpr ⟨h2,Zn.mpr h3⟩,h1⟩
 have gn:∀g∈gs,g.Nodup:=fun g hg=>G.nd.sublist (VF hg);have wn:w.Nodup:=hw.nodup_iff.mpr (Yo hn fun m hm=>gn m (X9.mp hm).1);refine⟨fun g hg=>?_,?_,fun x hx=>?_,fun p hp hne=>?_,fun g hg S hS=>?_,fun g hg=>?_⟩
 ·rcases XO.mp hg with hg | hg
  ·exact G.ne g ((mr g).mp hg).1
  ·have e:g=w:=by simpa using hg
   subst e;obtain⟨x,hx⟩:=TZ _ h;exact Ts ((mw x).mpr (.inl hx))
 ·rw[V3,WN];refine⟨G.nd.sublist (by rw[hr];exact qS _ gs),by simpa using wn,fun a ha b hb e=>?_⟩;subst e;have hb':a∈w:=by simpa using hb
  obtain⟨g,hg,hx⟩:=Wf.mp ha;obtain⟨g1,g2⟩:=(mr g).mp hg;rcases(mw a).mp hb' with h1 | ⟨m,m1,m2,m3⟩
  ·exact g2 ⟨a,hx,h1⟩
  ·have e:=zdi G.nd g1 m1 hx m3;subst e;exact g2 m2
 ·rw[V3] at hx;rcases XO.mp hx with hx | hx
  ·obtain⟨g,hg,hx⟩:=Wf.mp hx;obtain⟨p,hp,hx⟩:=G.from_ x (Wf.mpr ⟨g,((mr g).mp hg).1,hx⟩);exact⟨p,W6 _ hp,hx⟩
  ·have hx':x∈w:=by simpa using hx
   rcases(mw x).mp hx' with h1 | ⟨g,g1,_,g3⟩
   ·exact⟨o,by simp,h1⟩
   ·obtain⟨p,hp,hx⟩:=G.from_ x (Wf.mpr ⟨g,g1,g3⟩);exact⟨p,W6 _ hp,hx⟩
 ·rcases XO.mp hp with hp | hp
  ·obtain⟨g,hg,hx⟩:=G.cov p hp hne;by_cases hm:∃x∈g,x∈cl o
   ·exact⟨w,by simp,fun x hx'=>(mw x).mpr (.inr ⟨g,hg,hm,hx x hx'⟩)⟩
   ·exact⟨g,W6 _ ((mr g).mpr ⟨hg,hm⟩),hx⟩
  ·have e:p=o:=by simpa using hp
   subst e;exact⟨w,by simp,fun x hx=>(mw x).mpr (.inl hx)⟩
 ·have hS':∀p∈done,(∃x∈cl p,S x)->∀x∈cl p,S x:=fun p hp=>hS p (W6 _ hp);rcases XO.mp hg with hg | hg
  ·exact G.con g ((mr g).mp hg).1 S hS'
  ·have e:g=w:=by simpa using hg
   subst e;rintro⟨x,hx,sx⟩;have all0:∀y∈cl o,S y:=by
    refine hS o (by simp) ?_;rcases(mw x).mp hx with h1 | ⟨m,m1,⟨y,y1,y2⟩,m3⟩
    ·exact⟨x,h1,sx⟩
    ·exact⟨y,y2,G.con m m1 S hS' ⟨x,m3,sx⟩ y y1⟩
   intro z hz;rcases(mw z).mp hz with h1 | ⟨m,m1,⟨y,y1,y2⟩,m3⟩
   ·exact all0 z h1
   ·exact G.con m m1 S hS' ⟨y,y1,all0 y y2⟩ z m3
 ·rcases XO.mp hg with hg | hg
  ·exact G.srt g ((mr g).mp hg).1
  ·have e:g=w:=by simpa using hg
   subst e;exact hs
theorem Good.perm {cl:C->List C}{done:List C}{gs gs':List (List C)}(G:Good cl done gs)(h:gs'.Perm gs):Good cl done gs':=by
 refine⟨fun g hg=>G.ne g (h.mem_iff.mp hg),h.flatten.nodup_iff.mpr G.nd,fun x hx=>G.from_ x (h.flatten.mem_iff.mp hx),fun o ho hn=>?_,fun g hg=>G.con g (h.mem_iff.mp hg),fun g hg=>G.srt g (h.mem_iff.mp hg)⟩;obtain⟨g,hg,hx⟩:=G.cov o ho hn;exact⟨g,h.mem_iff.mpr hg,hx⟩
theorem QZ:∀{gs:List (List C)},(∀g∈gs,g ≠ [])->gs.length<=gs.flatten.length
 | [],_=>XU _
 | g::r,h=>by
  have ih:=QZ (gs:=r) fun x hx=>h x (XR _ hx);have:1<=g.length:=List.length_pos_iff.mpr (h g XW);rw[V0,X4,Xm];lia
theorem yj:∀{a b:List C},a.Nodup->(∀x∈a,x∈b)->a.length<=b.length
 | [],_,_,_=>WZ _
 | x::r,b,h,s=>by
  obtain⟨h1,h2⟩:=Wg.mp h;have hx:=s x XW;have ih:=yj (a:=r) (b:=b.erase x) h2 fun y hy=>(List.mem_erase_of_ne (fun (e:y=x)=>h1 (by rw[<- e];exact hy))).mpr (s y (XR _ hy));rw[TJ hx] at ih;have:=S1 hx;rw[Xm];lia
end Parts
namespace Subs
variable {α:Type}
def step (S:List (List α))(c:α):List (List α):=S++S.map (·++[c])
def subs (cs:List α):List (List α):=cs.foldl step [[]]
def pick:List α->Nat->List α
 | [],_=>[]
 | c::r,b=>(if b%2=1 then [c] else [])++pick r (b/2)
theorem ziT (cs:List α)(c:α):subs (cs++[c])=step (subs cs) c:=by
 unfold subs;rw[UP];rfl
theorem zhA:∀(cs:List α) (c:α) (b:Nat),b<2^cs.length->pick (cs++[c]) b=pick cs b
 | [],c,b,h=>by
  have:b=0:=by
   simp at h;lia
  subst this;rfl
 | d::r,c,b,h=>by
  show _++pick (r++[c]) (b/2)=_++pick r (b/2);rw[zhA r c (b/2) (by
   rw[Xm,Ut] at h;lia)]
theorem zhB:∀(cs:List α) (c:α) (b:Nat),b<2^cs.length->pick (cs++[c]) (2^cs.length+b)=pick cs b++[c]
 | [],c,b,h=>by
  have:b=0:=by
   simp at h;lia
  subst this;rfl
 | d::r,c,b,h=>by
  rw[Xm,Ut] at h;show (if (2^(r.length+1)+b)%2=1 then [d] else [])++pick (r++[c]) ((2^(r.length+1)+b)/2)=((if b%2=1 then [d] else [])++pick r (b/2))++[c];have e1:(2^(r.length+1)+b)%2=b%2:=by
   rw[Ut];lia
  have e2:(2^(r.length+1)+b)/2=2^r.length+b/2:=by
   rw[Ut];lia
  rw[e1,e2,zhB r c (b/2) (by lia),WX]
theorem zdj (cs:List α):subs cs=(WC (2^cs.length)).map (pick cs):=by
 rw[<- SF cs];induction cs.reverse with
 | nil=>rfl
 | cons c r ih =>
  rw[List.reverse_cons,ziT,ih,X4,P9,Ut,Nat.mul_two,List.range_add,Xs,Ws];unfold step;rw[Ws];congr 1
  ·refine Xb fun b hb=>?_;exact(zhA _ _ _ (Wz.mp hb)).symm
  ·refine Xb fun b hb=>?_;exact(zhB _ _ _ (Wz.mp hb)).symm
end Subs
namespace Grow
variable {α β:Type}
def cnt (near:β->α->Bool)(o:β)(p:List α):Nat:=(p.filter (near o)).length
def zbT (near:β->α->Bool)(num:β->Int)(rest:List α)(o:β)(p:List α):Bool:=decide (num o-((cnt near o rest:Nat):Int)<=((cnt near o p:Nat):Int))&&decide (((cnt near o p:Nat):Int)<=num o)
def chk (near:β->α->Bool)(num:β->Int)(O:List β)(c:α)(rest:List α)(p:List α):Bool:=(O.filter fun o=>near o c).all fun o=>zbT near num rest o p
def grow (near:β->α->Bool)(num:β->Int)(O:List β):List (List α)->List α->List (List α)
 | F,[]=>F
 | F,c::rest=>grow near num O ((Subs.step F c).filter (chk near num O c rest)) rest
def good (near:β->α->Bool)(num:β->Int)(O:List β)(done rest:List α)(p:List α):Bool:=(O.filter fun o=>done.any (near o)).all fun o=>zbT near num rest o p
theorem cnt_cons (near:β->α->Bool)(o:β)(c:α)(r:List α):cnt near o (c::r)=cnt near o r+if near o c=true then 1 else 0:=by
 unfold cnt;rw[WD];split<;>rfl
theorem zfg (near:β->α->Bool)(o:β)(p:List α)(c:α):cnt near o (p++[c])=cnt near o p+if near o c=true then 1 else 0:=by
 unfold cnt;rw[WY,X4];congr 1;rw[WD];split<;>rfl
theorem j7 {near:β->α->Bool}{num:β->Int}{rest:List α}{o:β}{p:List α}:zbT near num rest o p=true↔num o-((cnt near o rest:Nat):Int)<=((cnt near o p:Nat):Int)/\((cnt near o p:Nat):Int)<=num o:=by
 unfold zbT;rw[Wo,decide_eq_true_eq,decide_eq_true_eq]
theorem zhC {near:β->α->Bool}{num:β->Int}{O:List β}{c:α}{rest p:List α}:chk near num O c rest p=true ↔ ∀o∈O,near o c=true->zbT near num rest o p=true:=by
 unfold chk;rw[WG];exact⟨fun h o ho hn=>h o (X9.mpr ⟨ho,hn⟩),fun h o ho=>h o (X9.mp ho).1 (X9.mp ho).2⟩
theorem Yp {near:β->α->Bool}{num:β->Int}{O:List β}{done rest p:List α}:good near num O done rest p=true ↔ ∀o∈O,done.any (near o)=true->zbT near num rest o p=true:=by
 unfold good;rw[WG];exact⟨fun h o ho hn=>h o (X9.mpr ⟨ho,hn⟩),fun h o ho=>h o (X9.mp ho).1 (X9.mp ho).2⟩
theorem Zo (near:β->α->Bool)(o:β)(done:List α)(c:α):(done++[c]).any (near o)=true↔done.any (near o)=true\/near o c=true:=by
 rw[List.any_append,Bool.or_eq_true];simp
theorem zmc (near:β->α->Bool)(num:β->Int)(O:List β)(done rest:List α)(c:α)(p:List α):(good near num O done (c::rest) p&&chk near num O c rest p)=good near num O (done++[c]) rest p:=by
 rw[WV,Wo,Yp,zhC,Yp];constructor
 ·rintro⟨h1,h2⟩ o ho hn;by_cases hc:near o c=true
  ·exact h2 o ho hc
  ·have:=h1 o ho (((Zo near o done c).mp hn).resolve_right hc);rw[j7,cnt_cons,if_neg hc] at this;exact j7.mpr this
 ·intro h;refine⟨fun o ho hn=>?_,fun o ho hc=>h o ho ((Zo near o done c).mpr (.inr hc))⟩;have:=j7.mp (h o ho ((Zo near o done c).mpr (.inl hn)));rw[j7,cnt_cons];split<;>lia
theorem zmd (near:β->α->Bool)(num:β->Int)(O:List β)(done rest:List α)(c:α)(p:List α):(good near num O done (c::rest) p&&chk near num O c rest (p++[c]))=good near num O (done++[c]) rest (p++[c]):=by
 rw[WV,Wo,Yp,zhC,Yp];constructor
 ·rintro⟨h1,h2⟩ o ho hn;by_cases hc:near o c=true
  ·exact h2 o ho hc
  ·have:=h1 o ho (((Zo near o done c).mp hn).resolve_right hc);rw[j7,cnt_cons,if_neg hc] at this;rw[j7,zfg,if_neg hc];exact this
 ·intro h;refine⟨fun o ho hn=>?_,fun o ho hc=>h o ho ((Zo near o done c).mpr (.inr hc))⟩;have:=j7.mp (h o ho ((Zo near o done c).mpr (.inl hn)));rw[zfg] at this;rw[j7,cnt_cons];split at this<;>rename_i hc
  ·rw[if_pos hc];lia
  ·rw[if_neg hc];lia
theorem ziU (near:β->α->Bool)(num:β->Int)(O:List β)(done rest:List α)(c:α)(S:List (List α)):(Subs.step (S.filter (good near num O done (c::rest))) c).filter (chk near num O c rest)=(Subs.step S c).filter (good near num O (done++[c]) rest):=by
 unfold Subs.step;rw[WY,WY];congr 1
 ·rw[VX];refine VZ fun p _=>?_;rw[<- zmc,RT]
 ·rw[List.filter_map,List.filter_map,VX];congr 1;refine VZ fun p _=>?_;show (chk near num O c rest (p++[c])&&good near num O done (c::rest) p)=good near num O (done++[c]) rest (p++[c]);rw[<- zmd,RT]
theorem zdk (near:β->α->Bool)(num:β->Int)(O:List β):∀(rest done:List α) (S:List (List α)),grow near num O (S.filter (good near num O done rest)) rest=(rest.foldl Subs.step S).filter (good near num O (done++rest) [])
 | [],done,S=>by
  rw[W9];rfl
 | c::r,done,S=>by
  show grow near num O ((Subs.step (S.filter (good near num O done (c::r))) c).filter (chk near num O c r)) r=_;rw[ziU,zdk near num O r (done++[c]) (Subs.step S c),WX];rfl
def fits (near:β->α->Bool)(num:β->Int)(O:List β)(part:List α)(p:List α):Bool:=(O.filter fun o=>part.any (near o)).all fun o=>decide (((cnt near o p:Nat):Int)=num o)
theorem zme (near:β->α->Bool)(num:β->Int)(O:List β)(part:List α):grow near num O [[]] part=(Subs.subs part).filter (fits near num O part):=by
 have h:=zdk near num O part [] [[]];have e:([[]]:List (List α)).filter (good near num O [] part)=[[]]:=by
  have:good near num O [] part []=true:=Yp.mpr fun o _ hn=>by simp at hn
  rw[WD,if_pos this];rfl
 rw[e] at h;rw[h];show (Subs.subs part).filter _=_;refine VZ fun p _=>?_;rw[QR];unfold good fits;congr 1;funext o;rw[WV,j7,decide_eq_true_eq];show num o-((0:Nat):Int)<=_/\_↔_;lia
end Grow
namespace Cnt
variable {α:Type}
def Jx (g:Nat)(ks:List (List α)):List Int:=(WC (g+1)).map fun n=>((ks.countP fun k=>decide (k.length=n):Nat):Int)
theorem Q0 (g:Nat)(ks:List (List α)):(Jx g ks).length=g+1:=by
 unfold Jx;rw[Y1,WU]
theorem zkj (g:Nat):Jx g ([]:List (List α))=Wu (g+1) 0:=by
 unfold Jx;refine List.eq_replicate_iff.mpr ⟨by rw[Y1,WU],fun b hb=>?_⟩;obtain⟨n,_,rfl⟩:=XQ.mp hb;rfl
theorem zbU {g n:Nat}(ks:List (List α))(h:n<=g):(Jx g ks)[n]?=some ((ks.countP fun k=>decide (k.length=n):Nat):Int):=by
 unfold Jx;rw[XD,VQ (by lia)];rfl
theorem ziV {g:Nat}(ks:List (List α)){k:List α}(h:k.length<=g):Jx g (ks++[k])=(Jx g ks).set k.length (((ks.countP fun x=>decide (x.length=k.length):Nat):Int)+1):=by
 refine S7 fun n=>?_;rw[List.getElem?_set];by_cases hn:n<=g
 ·rw[zbU _ hn,zbU _ hn,Q0,List.countP_append];by_cases e:k.length=n
  ·rw[if_pos e,if_pos (by lia)];subst e;simp
  ·rw[if_neg e];simp[e]
 ·have e1:∀xs:List (List α),(Jx g xs)[n]?=none:=fun xs=>SV (by rw[Q0];lia);rw[e1,e1,Q0,if_neg (by lia)]
theorem ziW {g:Nat}{as bs:List (List α)}(h:as.Perm bs):Jx g as=Jx g bs:=by
 unfold Jx;refine Xb fun n _=>?_;rw[h.countP_eq]
end Cnt
namespace Pour
def S (h:Nat->Int):Nat->Int
 | 0=>0
 | n+1=>S h n+h n
def F (xs:List Int)(i:Nat):Int:=(xs[i]?).getD 0
def hk (xs ys:List Int)(k i:Nat):Int:=if i<=k then F xs i*F ys (k-i) else 0
def YY (xs ys:List Int):List Int:=(WC (xs.length+ys.length-1)).map fun k=>S (hk xs ys k) xs.length
def part (xs ys:List Int)(i j k:Nat):Int:=S (hk xs ys k) i+(if i<=k/\k-i<j then F xs i*F ys (k-i) else 0)
def st (xs ys:List Int)(i j:Nat):List Int:=(WC (xs.length+ys.length-1)).map (part xs ys i j)
theorem zbV {xs:List Int}{i:Nat}(h:xs.length<=i):F xs i=0:=by
 unfold F;rw[SV h];rfl
theorem zmf {xs:List Int}{i:Nat}{x:Int}(h:xs[i]?=some x):F xs i=x:=by
 unfold F;rw[h];rfl
theorem ZQ {f g:Nat->Int}:∀n,(∀i,i<n->f i=g i)->S f n=S g n
 | 0,_=>rfl
 | n+1,h=>by
  show S f n+f n=S g n+g n;rw[ZQ n fun i hi=>h i (by lia),h n (by lia)]
theorem zkk {f:Nat->Int}{n:Nat}:∀m,(∀i,n<=i->i<n+m->f i=0)->S f (n+m)=S f n
 | 0,_=>rfl
 | m+1,h=>by
  show S f (n+m)+f (n+m)=S f n;rw[zkk m fun i h1 h2=>h i h1 (by lia),h (n+m) (by lia) (by lia),So]
theorem zmg {f:Nat->Int}{n m:Nat}(hm:n<=m)(h:∀i,n<=i->i<m->f i=0):S f m=S f n:=by
 obtain⟨d,rfl⟩:∃d,m=n+d:=⟨m-n,by lia⟩;exact zkk d h
theorem zoj (xs ys:List Int)(k:Nat):S (hk xs ys k) xs.length=S (fun i=>F xs i*F ys (k-i)) (k+1):=by
 have e1:S (fun i=>F xs i*F ys (k-i)) (k+1)=S (hk xs ys k) (k+1):=ZQ _ fun i hi=>by
  unfold hk;rw[if_pos (by lia)]
 rw[e1];by_cases c:xs.length<=k+1
 ·refine(zmg c fun i h1 _=>?_).symm;unfold hk;rw[zbV h1];split<;>simp
 ·refine zmg (by lia) fun i h1 _=>?_;unfold hk;rw[if_neg (by lia)]
theorem zgA (xs ys:List Int)(i j:Nat):(st xs ys i j).length=xs.length+ys.length-1:=by
 unfold st;rw[Y1,WU]
theorem zgB {xs ys:List Int}{i j k:Nat}(h:k<xs.length+ys.length-1):(st xs ys i j)[k]?=some (part xs ys i j k):=by
 unfold st;rw[XD,VQ h];rfl
theorem zkl (xs ys:List Int):st xs ys 0 0=Wu (xs.length+ys.length-1) 0:=by
 unfold st;have e:∀k,part xs ys 0 0 k=0:=fun k=>by
  unfold part;rw[if_neg (by lia)];rfl
 refine(Xb (g:=fun _=>(0:Int)) fun k _=>e k).trans ?_;rw[List.map_const',WU]
theorem zkm (xs ys:List Int)(i k:Nat):part xs ys i ys.length k=part xs ys (i+1) 0 k:=by
 unfold part;rw[if_neg (show ¬ (i+1<=k/\k-(i+1)<0) by lia),So];show _=S (hk xs ys k) i+hk xs ys k i;congr 1;unfold hk;by_cases c:i<=k
 ·by_cases d:k-i<ys.length
  ·rw[if_pos ⟨c,d⟩,if_pos c]
  ·rw[if_neg (fun z=>d z.2),if_pos c,zbV (show ys.length<=k-i by lia),Int.mul_zero]
 ·rw[if_neg (fun z=>c z.1),if_neg c]
theorem zok (xs ys:List Int)(i:Nat):st xs ys i ys.length=st xs ys (i+1) 0:=by
 unfold st;exact Xb fun k _=>zkm xs ys i k
theorem zmh {xs ys:List Int}{i j:Nat}{x y:Int}(hx:xs[i]?=some x)(hy:ys[j]?=some y):(st xs ys i j).set (i+j) (part xs ys i j (i+j)+x*y)=st xs ys i (j+1):=by
 have hi:i<xs.length:=(X0.mp hx).1;have hj:j<ys.length:=(X0.mp hy).1;apply S7;intro k;rw[List.getElem?_set];by_cases c:k<xs.length+ys.length-1
 ·rw[zgB c,zgB c];by_cases e:i+j=k
  ·subst e;rw[if_pos rfl,if_pos (by rw[zgA];exact c)];congr 1;unfold part;rw[if_neg (by lia),if_pos (by lia),So,zmf hx,Rt,zmf hy]
  ·rw[if_neg e];congr 1;unfold part;congr 1;by_cases d:i<=k/\k-i<j
   ·rw[if_pos d,if_pos (by lia)]
   ·rw[if_neg d,if_neg (by lia)]
 ·have n1:∀j',(st xs ys i j')[k]?=none:=fun j'=>SV (by rw[zgA];lia);rw[n1,n1];by_cases e:i+j=k
  ·lia
  ·rw[if_neg e]
theorem zol (xs ys:List Int):st xs ys xs.length 0=YY xs ys:=by
 unfold st YY;refine Xb fun k _=>?_;unfold part;rw[if_neg (by lia),So]
end Pour
namespace Choose
def ch:Nat->Nat->Nat
 | _,0=>1
 | 0,_+1=>0
 | n+1,k+1=>ch n k+ch n (k+1)
theorem YL (n:Nat):ch n 0=1:=by cases n<;>rfl
theorem zaz:∀(n k:Nat),n<k->ch n k=0
 | 0,0,h=>absurd h (by lia)
 | 0,k+1,_=>rfl
 | n+1,0,h=>absurd h (by lia)
 | n+1,k+1,h=>by
  show ch n k+ch n (k+1)=0;rw[zaz n k (by lia),zaz n (k+1) (by lia)]
theorem zbq:∀n k:Nat,(k+1)*ch n (k+1)+k*ch n k=n*ch n k
 | 0,0=>rfl
 | 0,k+1=>by
  show (k+1+1)*0+(k+1)*0=0*0;simp
 | n+1,0=>by
  have h:=zbq n 0;rw[YL] at h ⊢;show (0+1)*(ch n 0+ch n (0+1))+0*1=(n+1)*1;rw[YL];lia
 | n+1,j+1=>by
  have h1:=zbq n (j+1);have h2:=zbq n j;show (j+1+1)*(ch n (j+1)+ch n (j+1+1))+(j+1)*(ch n j+ch n (j+1))=(n+1)*(ch n j+ch n (j+1));generalize ch n (j+1+1)=C2 at *
  generalize ch n (j+1)=C1 at *
  generalize ch n j=C0 at *
  simp only[Nat.add_mul,Nat.mul_add,Nat.one_mul] at *
  lia
theorem zmi {n k:Nat}(h:k<n):(ch n k:Int)*((n:Int)-k)/((k:Int)+1)=ch n (k+1):=by
 have e:=zbq n k;have e2:(ch n k:Int)*((n:Int)-k)=(ch n (k+1):Int)*((k:Int)+1):=by
  have:((k+1)*ch n (k+1)+k*ch n k:Int)=(n*ch n k:Int):=by exact_mod_cast e
  rw[Int.mul_sub,OR (ch n k:Int) n,<- this,OR (ch n (k+1):Int) ((k:Int)+1),OR (ch n k:Int) (k:Int)];lia
 rw[e2];exact Int.mul_ediv_cancel _ (by lia)
theorem zpI (n:Nat):∀k,ch n k<=2^n:=by
 induction n with
 | zero =>
  intro k;cases k with
  | zero=>decide
  | succ k =>
   show (0:Nat)<=2^0;decide
 | succ n ih =>
  intro k;cases k with
  | zero =>
   rw[YL];exact Nat.one_le_two_pow
  | succ k =>
   show ch n k+ch n (k+1)<=2^(n+1);rw[Ut];have:=ih k;have:=ih (k+1);lia
end Choose
namespace Tally
open Subs
variable {α:Type}
theorem Q2:∀(B:List α) (S0:List (List α)),B.foldl step S0=(subs B).flatMap fun b=>S0.map (·++b)
 | [],S0=>by simp[subs]
 | c::r,S0=>by
  have e:subs (c::r)=(subs r).flatMap fun b=>[b,c::b]:=by
   show r.foldl step (step [[]] c)=_;rw[Q2 r];rfl
  show r.foldl step (step S0 c)=_;rw[Q2 r,e,List.flatMap_assoc];congr 1;funext b;show (S0++S0.map (·++[c])).map (·++b)=S0.map (·++b)++(S0.map (·++(c::b))++[]);rw[Xs,W9,Ws];congr 1;refine Xb fun x _=>?_;show x++[c]++b=_;rw[WX];rfl
theorem zaA (c:α)(r:List α):subs (c::r)=(subs r).flatMap fun b=>[b,c::b]:=by
 show r.foldl step (step [[]] c)=_;rw[Q2 r];rfl
theorem zfh (A B:List α):subs (A++B)=(subs B).flatMap fun b=>(subs A).map (·++b):=by
 unfold subs;rw[UP];exact Q2 B _
theorem zdl (c:α)(p:List α->Bool):∀L:List (List α),(L.flatMap fun b=>[b,c::b]).countP p=L.countP p+L.countP fun S=>p (c::S)
 | []=>rfl
 | b::L=>by
  have ih:=zdl c p L;rw[UO,List.countP_append,ih,Wn (l:=L),Wn (l:=L),Wn,Wn,List.countP_nil];lia
theorem count_cons (c:α)(r:List α)(p:List α->Bool):(subs (c::r)).countP p=(subs r).countP p+(subs r).countP fun S=>p (c::S):=by
 rw[zaA,zdl]
def Inv (p:List α->Bool):Prop:=∀a b,a.Perm b->p a=p b
theorem Inv.cons {p:List α->Bool}(h:Inv p)(c:α):Inv fun S=>p (c::S):=fun _ _ e=>h _ _ (e.cons c)
theorem zgC {cs ds:List α}(e:cs.Perm ds):∀{p:List α->Bool},Inv p->(subs cs).countP p=(subs ds).countP p:=by
 induction e with
 | nil=>intro p _;rfl
 | cons c _ ih =>
  intro p h;rw[count_cons,count_cons,ih h,ih (h.cons c)]
 | swap x y l =>
  intro p h;rw[count_cons,count_cons,count_cons,count_cons,count_cons,count_cons];have:(subs l).countP (fun S=>p (y::x::S))=(subs l).countP fun S=>p (x::y::S):=Vl fun S _=>by rw[h _ _ (List.Perm.swap x y S)]
  lia
 | trans _ _ i1 i2 =>
  intro p h;exact(i1 h).trans (i2 h)
def T (cs:List α)(p:List α->Bool)(k:Nat):Nat:=(subs cs).countP fun S=>decide (S.length=k)&&p S
theorem zom {cs ds:List α}(e:cs.Perm ds){p:List α->Bool}(h:Inv p)(k:Nat):T cs p k=T ds p k:=zgC e fun a b e=>by rw[h a b e,e.length_eq]
theorem zmj {cs:List α}{p q:List α->Bool}(h:∀S∈subs cs,p S=q S)(k:Nat):T cs p k=T cs q k:=Vl fun S hS=>by rw[h S hS]
theorem znc (f g:Nat->Int):∀n,Pour.S (fun i=>f i+g i) n=Pour.S f n+Pour.S g n
 | 0=>rfl
 | n+1=>by
  show Pour.S (fun i=>f i+g i) n+(f n+g n)=Pour.S f n+f n+(Pour.S g n+g n);rw[znc f g n];lia
theorem zkn:∀n,Pour.S (fun _=>0) n=0
 | 0=>rfl
 | n+1=>by
  show Pour.S (fun _=>0) n+0=0;rw[zkn n];rfl
theorem zfi (j:Nat)(x:Int):∀n,Pour.S (fun i=>if i=j then x else 0) n=if j<n then x else 0
 | 0=>rfl
 | n+1=>by
  show Pour.S (fun i=>if i=j then x else 0) n+(if n=j then x else 0)=_;rw[zfi j x n];by_cases h:n=j
  ·rw[if_neg (by lia),if_pos h,if_pos (by lia),V1]
  ·rw[if_neg h,So];by_cases h2:j<n
   ·rw[if_pos h2,if_pos (by lia)]
   ·rw[if_neg h2,if_neg (by lia)]
theorem zfj (q:List α->Bool)(f:Nat->Nat)(k:Nat):∀L:List (List α),(((L.map fun b=>if (q b&&decide (b.length<=k))=true then f (k-b.length) else 0).sum:Nat):Int)=Pour.S (fun i=>(f i:Int)*((L.countP fun b=>decide (b.length=k-i)&&q b:Nat):Int)) (k+1):=by
 intro L;induction L with
 | nil =>
  have:Pour.S (fun i=>(f i:Int)*((([]:List (List α)).countP fun b=>decide (b.length=k-i)&&q b:Nat):Int)) (k+1)=Pour.S (fun _=>0) (k+1):=Pour.ZQ _ fun i _=>by
   show (f i:Int)*0=0;lia
  rw[this,zkn];rfl
 | cons b L ih =>
  rw[XB,RS,Qr,ih];have e:Pour.S (fun i=>(f i:Int)*(((b::L).countP fun b=>decide (b.length=k-i)&&q b:Nat):Int)) (k+1)=Pour.S (fun i=>(f i:Int)*((L.countP fun b=>decide (b.length=k-i)&&q b:Nat):Int)+if i=k-b.length then (if (q b&&decide (b.length<=k))=true then (f (k-b.length):Int) else 0) else 0) (k+1):=Pour.ZQ _ fun i hi=>by
   rw[Wn];by_cases hq:q b=true
   ·by_cases hb:b.length<=k
    ·by_cases hik:i=k-b.length
     ·have h1:b.length=k-i:=by lia
      have h2:k-i<=k:=by lia
      simp only[hq,h1,h2,decide_true,SK,if_true,if_pos hik];rw[show k-(k-i)=i by lia,if_pos rfl,Qr,Int.mul_add];lia
     ·have h1:¬b.length=k-i:=by lia
      simp only[hq,h1,decide_false,SK,if_neg hik];simp
    ·have h1:¬b.length=k-i:=by lia
     simp[hq,h1,hb]
   ·have hq':q b=false:=Xh.mpr hq;simp[hq']
  rw[e,znc,zfi,if_pos (show k-b.length<k+1 by lia),Int.add_comm];congr 1;split<;>rfl
theorem znd {A B:List α}{P pA pB:List α->Bool}(h:∀a∈subs A,∀b∈subs B,P (a++b)=(pA a&&pB b))(k:Nat):(T (A++B) P k:Int)=Pour.S (fun i=>(T A pA i:Int)*(T B pB (k-i):Int)) (k+1):=by
 unfold T;rw[zfh,List.countP_flatMap];have e:(subs B).map (List.countP (fun S=>decide (S.length=k)&&P S)∘fun b=>(subs A).map (·++b))=(subs B).map fun b=>if (pB b&&decide (b.length<=k))=true then (T A pA) (k-b.length) else 0:=by
  refine Xb fun b hb=>?_;show List.countP _ ((subs A).map (·++b))=_;rw[SC];by_cases hq:(pB b&&decide (b.length<=k))=true
  ·rw[if_pos hq];obtain⟨h1,h2⟩:=VW.mp hq;have h2:=of_decide_eq_true h2;refine Vl fun a ha=>?_;show (decide ((a++b).length=k)&&P (a++b))=true↔(decide (a.length=k-b.length)&&pA a)=true;rw[h a ha b hb,h1,SK,X4,show (decide (a.length+b.length=k))=decide (a.length=k-b.length) from decide_eq_decide.mpr (by lia)]
  ·rw[if_neg hq];refine TU.mpr fun a ha hh=>hq ?_;have hh:(decide ((a++b).length=k)&&P (a++b))=true:=hh;rw[h a ha b hb] at hh;obtain⟨h1,h2⟩:=VW.mp hh;have h1:=of_decide_eq_true h1;rw[X4] at h1;rw[(VW.mp h2).2,decide_eq_true (by lia)];rfl
 rw[e,zfj];rfl
theorem Q3 {cs S:List α}(h:S∈subs cs):S.Sublist cs:=by
 revert S;induction cs with
 | nil=>intro S h;simp[subs] at h;subst h;exact List.Sublist.refl _
 | cons c r ih =>
  intro S h;rw[zaA] at h;obtain⟨b,hb,h⟩:=U3.mp h;have:=ih hb;simp at h;rcases h with rfl | rfl
  ·exact this.cons c
  ·exact this.cons_cons c
theorem zmk {cs:List α}:∀{S:List α},S.Sublist cs->S∈subs cs:=by
 induction cs with
 | nil=>intro S h;cases h;simp[subs]
 | cons c r ih =>
  intro S h;rw[zaA];cases h with
  | cons _ h=>exact U3.mpr ⟨S,ih h,by simp⟩
  | cons_cons _ h=>exact U3.mpr ⟨_,ih h,by simp⟩
theorem zfk {cs:List α}{p:List α->Bool}{k:Nat}(h:cs.length<k):T cs p k=0:=by
 refine TU.mpr fun S hS hh=>?_;have h1:=of_decide_eq_true (VW.mp hh).1;have h2:=(Q3 hS).length_le;lia
def tl (cs:List α)(p:List α->Bool):List Int:=(WC (cs.length+1)).map fun k=>(T cs p k:Int)
theorem Yq (cs:List α)(p:List α->Bool):(tl cs p).length=cs.length+1:=by
 unfold tl;rw[Y1,WU]
theorem zml (cs:List α)(p:List α->Bool)(i:Nat):Pour.F (tl cs p) i=(T cs p i:Int):=by
 by_cases h:i<cs.length+1
 ·refine Pour.zmf ?_;unfold tl;rw[XD,VQ h];rfl
 ·rw[Pour.zbV (by rw[Yq];lia),zfk (by lia)];rfl
theorem zmm {A B:List α}{P pA pB:List α->Bool}(h:∀a∈subs A,∀b∈subs B,P (a++b)=(pA a&&pB b)):Pour.YY (tl A pA) (tl B pB)=tl (A++B) P:=by
 unfold Pour.YY;rw[Yq,Yq];show _=(WC ((A++B).length+1)).map fun k=>(T (A++B) P k:Int);rw[X4,show A.length+1+(B.length+1)-1=A.length+B.length+1 by lia];refine Xb fun k _=>?_;have e:=Pour.zoj (tl A pA) (tl B pB) k;rw[Yq] at e;rw[e,znd h];exact Pour.ZQ _ fun i _=>by rw[zml,zml]
theorem zko {cs:List α}{p q:List α->Bool}(h:∀S∈subs cs,p S=q S):tl cs p=tl cs q:=by
 unfold tl;refine Xb fun k _=>by rw[zmj h]
theorem zhD:∀(cs:List α) (k:Nat),T cs (fun _=>true) k=Choose.ch cs.length k
 | [],0=>rfl
 | [],k+1=>rfl
 | c::r,0=>by
  have e:=zhD r 0;unfold T at e ⊢;rw[count_cons,e,Choose.YL,Choose.YL];have:(subs r).countP (fun S=>decide ((c::S).length=0)&&true)=0:=TU.mpr fun S _ hh=>by simp at hh
  rw[this]
 | c::r,k+1=>by
  have e1:=zhD r k;have e2:=zhD r (k+1);unfold T at e1 e2 ⊢;rw[count_cons,e2];have:(subs r).countP (fun S=>decide ((c::S).length=k+1)&&true)=(subs r).countP fun S=>decide (S.length=k)&&true:=Vl fun S _=>by
   rw[Xm,show decide (S.length+1=k+1)=decide (S.length=k) from decide_eq_decide.mpr (by lia)]
  rw[this,e1];show _=Choose.ch r.length k+Choose.ch r.length (k+1);lia
variable {α:Type}
structure Loc (U:List α)(p:List α->Bool)(g:List α):Prop where
 l:∀a b,(∀c∈a,c∈U/\c ∉ g)->p (a++b)=p b
 r:∀a b,(∀c∈b,c∈U/\c ∉ g)->p (a++b)=p a
def ZR (fit:List α->List α->Bool)(gs:List (List α))(S:List α):Bool:=gs.all fun g=>fit g S
theorem zkp (fit:List α->List α->Bool)(as bs:List (List α))(S:List α):ZR fit (as++bs) S=(ZR fit as S&&ZR fit bs S):=List.all_append
theorem zgD {fit:List α->List α->Bool}{gs:List (List α)}{S S':List α}(h:∀g∈gs,fit g S=fit g S'):ZR fit gs S=ZR fit gs S':=by
 unfold ZR;induction gs with
 | nil=>rfl
 | cons g r ih =>
  rw[RX,RX,h g XW,ih fun x hx=>h x (XR _ hx)]
theorem zgE {U:List α}{fit:List α->List α->Bool}{done:List (List α)}{g:List α}{q:List α->Bool}(nd:(done.flatten++g).Nodup)(hU:∀c∈done.flatten++g,c∈U)(hd:∀x∈done,Loc U (fit x) x)(hg:Loc U q g) :
  Pour.YY (tl done.flatten (ZR fit done)) (tl g q)=tl (done.flatten++g) fun S=>ZR fit done S&&q S:=by
 obtain⟨_,_,n3⟩:=WN.mp nd;refine zmm fun a ha b hb=>?_;have sa:=(Q3 ha).subset;have sb:=(Q3 hb).subset;rw[hg.l a b fun c hc=>⟨hU c (W6 _ (sa hc)),fun h=>n3 c (sa hc) c h rfl⟩];congr 1;exact zgD fun x hx=>(hd x hx).r a b fun c hc=>⟨hU c (Xy _ (sb hc)),fun h=>n3 c (Wf.mpr ⟨x,hx,h⟩) c (sb hc) rfl⟩
theorem zmn {U:List α}{fit:List α->List α->Bool}:∀(gs done:List (List α)),(done++gs).flatten.Nodup->(∀c∈(done++gs).flatten,c∈U)->(∀g∈done++gs,Loc U (fit g) g)->(gs.map fun g=>tl g (fit g)).foldl Pour.YY (tl done.flatten (ZR fit done))=tl (done++gs).flatten (ZR fit (done++gs)):=by
 intro gs;induction gs with
 | nil =>
  intro done _ _ _;rw[W9];rfl
 | cons g r ih =>
  intro done nd hU hL;have e:done++g::r=(done++[g])++r:=by rw[WX];rfl
  rw[e] at nd hU hL ⊢;have e2:(done++[g]).flatten=done.flatten++g:=by rw[V3];simp
  have nd2:(done.flatten++g).Nodup:=by
   rw[V3,e2] at nd;exact(WN.mp nd).1
  have ih:=ih (done++[g]) nd hU hL;rw[<- ih,XB,VT,e2];congr 1;rw[zgE nd2 (fun c hc=>hU c (by rw[V3,e2];exact W6 _ hc)) (fun x hx=>hL x (by simp[hx])) (hL g (by simp))];refine zko fun S _=>?_;rw[zkp];congr 1;show fit g S=(fit g S&&true);rw[SK]
theorem zkq {U:List α}{fit:List α->List α->Bool}{gs:List (List α)}(nd:gs.flatten.Nodup)(hU:∀c∈gs.flatten,c∈U)(hL:∀g∈gs,Loc U (fit g) g):(gs.map fun g=>tl g (fit g)).foldl Pour.YY [1]=tl gs.flatten (ZR fit gs):=zmn gs [] nd hU hL
def chZ (n:Nat)(k:Int):Int:=if k<0 then 0 else (Choose.ch n k.toNat:Nat)
def dl (xs:List Int)(m:Nat)(s:Int):Int:=Pour.S (fun k=>Pour.F xs k*chZ m (s-(k:Nat))) xs.length
theorem zon (g:Nat->Int){a b:Nat}(ha:∀i,a<=i->g i=0)(hb:∀i,b<=i->g i=0):Pour.S g a=Pour.S g b:=by
 by_cases h:a<=b
 ·exact(Pour.zmg h fun i h1 _=>ha i h1).symm
 ·exact Pour.zmg (by lia) fun i h1 _=>hb i h1
theorem zpJ {A far:List α}{P pA:List α->Bool}(h:∀a∈subs A,∀b∈subs far,P (a++b)=pA a)(s:Nat):dl (tl A pA) far.length (s:Nat)=(T (A++far) P s:Int):=by
 rw[znd (pB:=fun _=>true) (fun a ha b hb=>by rw[h a ha b hb,SK]) s];unfold dl;rw[Yq];rw[zon (fun k=>Pour.F (tl A pA) k*chZ far.length ((s:Int)-(k:Nat))) (a:=A.length+1) (b:=s+1) (fun i hi=>by rw[zml,zfk (by lia)];simp) (fun i hi=>by
  unfold chZ;rw[if_pos (by lia),Int.mul_zero])]
 refine Pour.ZQ _ fun i hi=>?_;show Pour.F (tl A pA) i*chZ far.length ((s:Int)-(i:Nat))=_;rw[zml,zhD];unfold chZ;rw[if_neg (by lia),show ((s:Int)-(i:Nat)).toNat=s-i by lia]
theorem zmo {cs:List α}{p:List α->Bool}(h:∀S∈subs cs,p S=false)(k:Nat):T cs p k=0:=TU.mpr fun S hS hh=>by
 rw[h S hS,Si] at hh;cases hh
theorem zmp (cs:List α)(p:List α->Bool):Cnt.Jx cs.length ((subs cs).filter p)=tl cs p:=by
 unfold Cnt.Jx tl T;refine Xb fun k _=>?_;rw[List.countP_filter]
theorem zkr {β:Type}(g:Nat)(f:List α->List β)(hf:∀k,(f k).length=k.length)(ks:List (List α)):Cnt.Jx g (ks.map f)=Cnt.Jx g ks:=by
 unfold Cnt.Jx;refine Xb fun n _=>?_;rw[SC];congr 1;refine Vl fun k _=>?_;show decide ((f k).length=n)=true↔_;rw[hf]
variable {α β:Type}
end Tally
namespace Two
def ext (cl st:List (Nat×Nat))(c:(Nat×Nat))(S:List (Nat×Nat)):List (List (Nat×Nat)):=(if c∈st then [] else [S])++(if c∈cl then [] else [S++[c]])
def cho (cl st:List (Nat×Nat))(cs:List (Nat×Nat)):List (List (Nat×Nat)):=cs.foldl (fun L c=>L.flatMap (ext cl st c)) [[]]
theorem zfl (cl st cs:List (Nat×Nat))(c:(Nat×Nat)):cho cl st (cs++[c])=(cho cl st cs).flatMap (ext cl st c):=by
 unfold cho;rw[UP];rfl
theorem zhE {cl st:List (Nat×Nat)}{c:(Nat×Nat)}{S U:List (Nat×Nat)}:U∈ext cl st c S↔(c ∉ st/\U=S)\/(c ∉ cl/\U=S++[c]):=by
 unfold ext;rw[XO];constructor
 ·rintro(h | h)
  ·split at h
   ·cases h
   ·exact .inl ⟨by assumption,by simpa using h⟩
  ·split at h
   ·cases h
   ·exact .inr ⟨by assumption,by simpa using h⟩
 ·rintro(⟨h,rfl⟩ | ⟨h,rfl⟩)
  ·left;rw[if_neg h];exact XW
  ·right;rw[if_neg h];exact XW
theorem snocInd {P:List (Nat×Nat)->Prop}(h0:P [])(h1:∀cs c,P cs->P (cs++[c])):∀cs,P cs:=by
 intro cs;have h:∀ds:List (Nat×Nat),P ds.reverse:=fun ds=>by
  induction ds with
  | nil=>exact h0
  | cons c r ih =>
   rw[List.reverse_cons];exact h1 _ _ ih
 have:=h cs.reverse;rw[SF] at this;exact this
theorem zoo {cl st:List (Nat×Nat)}:∀{cs S:List (Nat×Nat)},S∈cho cl st cs->S.Sublist cs/\(∀c∈cs,c∈st->c∈S)/\∀c∈S,c ∉ cl:=by
 refine fun {cs}=>snocInd (P:=fun cs=>∀{S:List (Nat×Nat)},S∈cho cl st cs->S.Sublist cs/\(∀c∈cs,c∈st->c∈S)/\∀c∈S,c ∉ cl) ?_ ?_ cs
 ·intro S h;have:S=[]:=by simpa[cho] using h
  subst this;exact⟨List.Sublist.refl _,(fun _ h=>nomatch h),(fun _ h=>nomatch h)⟩
 ·intro cs c ih S h;rw[zfl] at h;obtain⟨U,hU,hS⟩:=U3.mp h;obtain⟨a,b,d⟩:=ih hU;rcases zhE.mp hS with ⟨h1,rfl⟩ | ⟨h1,rfl⟩
  ·refine⟨a.trans (UI _ _),fun x hx hs=>?_,d⟩;rcases XO.mp hx with hx | hx
   ·exact b x hx hs
   ·have:x=c:=by simpa using hx
    exact absurd (this ▸ hs) h1
  ·refine⟨a.append (List.Sublist.refl _),fun x hx hs=>?_,fun x hx=>?_⟩
   ·rcases XO.mp hx with hx | hx
    ·exact W6 _ (b x hx hs)
    ·exact Xy _ hx
   ·rcases XO.mp hx with hx | hx
    ·exact d x hx
    ·have:x=c:=by simpa using hx
     exact this ▸ h1
theorem zks {cl st:List (Nat×Nat)}(p:(Nat×Nat)->Bool):∀cs:List (Nat×Nat),(∀c∈cs,c∈st->p c=true)->(∀c∈cs,c∈cl->p c=false)->cs.filter p∈cho cl st cs:=by
 refine snocInd (fun _ _=>by simp[cho]) fun cs c ih h1 h2=>?_;rw[zfl,WY];refine U3.mpr ⟨_,ih (fun x hx=>h1 x (W6 _ hx)) (fun x hx=>h2 x (W6 _ hx)),zhE.mpr ?_⟩;have hc:c∈cs++[c]:=Xy _ XW;by_cases hp:p c=true
 ·refine .inr ⟨fun z=>?_,by simp[hp]⟩;rw[h2 c hc z] at hp;cases hp
 ·refine .inl ⟨fun z=>hp (h1 c hc z),by simp[hp]⟩
def cnt (A S:List (Nat×Nat)):Nat:=(A.filter fun c=>decide (c∈S)).length
theorem zW {l:List (Nat×Nat)}(p:(Nat×Nat)->Bool)(h:l.Nodup):(l.filter p).Nodup:=List.Sublist.nodup Xa h
theorem zkt {A S:List (Nat×Nat)}(hA:A.Nodup)(hS:S.Nodup):cnt A S=cnt S A:=by
 unfold cnt;refine UD ((W2 (zW _ hA) (zW _ hS)).mpr fun x=>?_);simp only[X9,decide_eq_true_eq];exact And.comm
theorem zeb {l X:List (Nat×Nat)}(hl:l.Nodup)(hX:X.Nodup)(h:∀x∈X,x∈l):cnt l X=X.length:=by
 rw[zkt hl hX];unfold cnt;rw[TR.mpr fun x hx=>decide_eq_true (h x hx)]
theorem zaB {l X Y:List (Nat×Nat)}(h:∀x∈l,x∈X↔x∈Y):cnt l X=cnt l Y:=by
 unfold cnt;congr 1;refine VZ fun x hx=>?_;rw[decide_eq_decide];exact h x hx
theorem zbW (q:(Nat×Nat)->Bool)(S:List (Nat×Nat)):∀A:List (Nat×Nat),cnt A S=cnt (A.filter q) S+cnt (A.filter fun c=>!q c) S
 | []=>rfl
 | c::r=>by
  have ih:=zbW q S r;simp only[cnt,VX] at ih ⊢;by_cases h1:q c=true<;>by_cases h2:c∈S<;>simp[WD,h1,h2]<;>lia
theorem zgF (A S:List (Nat×Nat)):cnt A S<=A.length:=Xe _ _
theorem zbX {A S:List (Nat×Nat)}(h:cnt A S=0):∀c∈A,c ∉ S:=fun c hc hS=>by
 have:c∈A.filter fun c=>decide (c∈S):=X9.mpr ⟨hc,decide_eq_true hS⟩;rw[Wj.mp h] at this;cases this
theorem zbY {A S:List (Nat×Nat)}(h:cnt A S=A.length):∀c∈A,c∈S:=fun c hc=>by
 have h1:A.filter (fun c=>decide (c∈S))=A:=(Xa).eq_of_length h;have:=TR.mp h1 c hc;exact of_decide_eq_true this
theorem pick {l:List (Nat×Nat)}(hl:l.Nodup){k:Nat}(hk:k<=l.length):∃X:List (Nat×Nat),X.Nodup/\(∀x∈X,x∈l)/\X.length=k :=
 ⟨l.take k,(Tc k l).nodup hl,fun x hx=>V9 hx,by rw[XM];lia⟩
theorem zaC {l:List (Nat×Nat)}(hl:l.Nodup){c:(Nat×Nat)}(hc:c∈l){k:Nat}(h1:1<=k)(hk:k<=l.length):∃X:List (Nat×Nat),X.Nodup/\(∀x∈X,x∈l)/\X.length=k/\c∈X:=by
 have he:=TJ hc;obtain⟨X,a,b,d⟩:=pick (hl.erase c) (k:=k-1) (by lia);refine⟨c::X,Wg.mpr ⟨fun z=>?_,a⟩,fun x hx=>?_,by rw[Xm];lia,XW⟩
 ·exact(hl.mem_erase_iff.mp (b c z)).1 rfl
 ·rcases XF.mp hx with rfl | hx
  ·exact hc
  ·exact PZ (b x hx)
theorem ZS {l:List (Nat×Nat)}(hl:l.Nodup){c:(Nat×Nat)}(hc:c∈l){k:Nat}(hk:k<l.length):∃X:List (Nat×Nat),X.Nodup/\(∀x∈X,x∈l)/\X.length=k/\c ∉ X:=by
 have he:=TJ hc;obtain⟨X,a,b,d⟩:=pick (hl.erase c) (k:=k) (by lia);exact⟨X,a,fun x hx=>PZ (b x hx),d,fun z=>(hl.mem_erase_iff.mp (b c z)).1 rfl⟩
structure In (cl st cs A B:List (Nat×Nat)):Prop where
 nd:cs.Nodup
 na:A.Nodup
 nb:B.Nodup
 a:∀c∈A,c∈cs/\c ∉ st/\c ∉ cl
 b:∀c∈B,c∈cs/\c ∉ st/\c ∉ cl
 ap:∀c∈cl,c ∉ st
def both (A B:List (Nat×Nat)):List (Nat×Nat):=A.filter fun c=>decide (c∈B)
def alone (A B:List (Nat×Nat)):List (Nat×Nat):=A.filter fun c=>!decide (c∈B)
structure Fit (cl st cs A B:List (Nat×Nat))(a b:Int)(S:List (Nat×Nat)):Prop where
 ch:S∈cho cl st cs
 fa:(cnt A S:Int)=a
 fb:(cnt B S:Int)=b
theorem ziX {A B:List (Nat×Nat)}(hA:A.Nodup)(hB:B.Nodup)(S:List (Nat×Nat)):cnt (both B A) S=cnt (both A B) S:=by
 unfold cnt both;refine UD ((W2 (zW _ (zW _ hB)) (zW _ (zW _ hA))).mpr fun x=>?_);simp only[X9,decide_eq_true_eq];exact⟨fun h=>⟨⟨h.1.2,h.1.1⟩,h.2⟩,fun h=>⟨⟨h.1.2,h.1.1⟩,h.2⟩⟩
theorem zhF {A B:List (Nat×Nat)}(hA:A.Nodup)(hB:B.Nodup)(S:List (Nat×Nat)):cnt A S=cnt (both A B) S+cnt (alone A B) S/\cnt B S=cnt (both A B) S+cnt (alone B A) S:=by
 refine⟨zbW _ S A,?_⟩;rw[<- ziX hA hB];exact zbW _ S B
theorem Fit.k {cl st cs A B S:List (Nat×Nat)}{a b:Int}(I:In cl st cs A B)(h:Fit cl st cs A B a b S):(cnt (both A B) S:Int)<=(both A B).length/\(cnt (alone A B) S:Int)=a-cnt (both A B) S/\(cnt (alone B A) S:Int)=b-cnt (both A B) S/\cnt (alone A B) S<=(alone A B).length/\cnt (alone B A) S<=(alone B A).length:=by
 have t:=zhF I.na I.nb S;have h1:=h.fa;have h2:=h.fb;have h3:=zgF (both A B) S;exact⟨by lia,by lia,by lia,zgF _ _,zgF _ _⟩
theorem Fit.mk' {cl st cs A B X Y Z W:List (Nat×Nat)}{a b:Int}{k:Nat}(I:In cl st cs A B)(hX:X.Nodup)(hY:Y.Nodup)(hZ:Z.Nodup)(sX:∀x∈X,x∈both A B)(sY:∀x∈Y,x∈alone A B)(sZ:∀x∈Z,x∈alone B A)(sW:∀x∈W,x ∉ A/\x ∉ B/\x ∉ cl)
  (lX:X.length=k) (lY:(Y.length:Int)=a-k) (lZ:(Z.length:Int)=b-k):∃S,Fit cl st cs A B a b S/\∀c∈cs,c ∉ st->(c∈S↔c∈X\/c∈Y\/c∈Z\/c∈W):=by
 have mA:∀{x:(Nat×Nat)},x∈both A B->x∈A/\x∈B:=fun h=>⟨(X9.mp h).1,of_decide_eq_true (X9.mp h).2⟩;have m1:∀{x:(Nat×Nat)} {A B:List (Nat×Nat)},x∈alone A B->x∈A/\x ∉ B:=fun {x A B} h=>⟨(X9.mp h).1,by
  have:=(X9.mp h).2;simpa using this⟩
 have mem:∀c∈cs,c ∉ st->(c∈cs.filter (fun c=>decide (c∈st\/c∈X\/c∈Y\/c∈Z\/c∈W))↔c∈X\/c∈Y\/c∈Z\/c∈W):=fun c hc hs=>by
  rw[X9,decide_eq_true_eq];exact⟨fun h=>h.2.resolve_left hs,fun h=>⟨hc,.inr h⟩⟩
 have cB:cnt (both A B) (cs.filter (fun c=>decide (c∈st\/c∈X\/c∈Y\/c∈Z\/c∈W)))=X.length:=by
  rw[<- zeb (zW _ I.na) hX sX];refine zaB fun x hx=>?_;obtain⟨h1,h2⟩:=mA hx;rw[mem x (I.a x h1).1 (I.a x h1).2.1];refine⟨fun h=>?_,.inl⟩;rcases h with h | h | h | h
  ·exact h
  ·exact absurd h2 (m1 (sY x h)).2
  ·exact absurd h1 (m1 (sZ x h)).2
  ·exact absurd h1 (sW x h).1
 have cA:cnt (alone A B) (cs.filter (fun c=>decide (c∈st\/c∈X\/c∈Y\/c∈Z\/c∈W)))=Y.length:=by
  rw[<- zeb (zW _ I.na) hY sY];refine zaB fun x hx=>?_;obtain⟨h1,h2⟩:=m1 hx;rw[mem x (I.a x h1).1 (I.a x h1).2.1];refine⟨fun h=>?_,fun h=>.inr (.inl h)⟩;rcases h with h | h | h | h
  ·exact absurd (mA (sX x h)).2 h2
  ·exact h
  ·exact absurd (m1 (sZ x h)).1 h2
  ·exact absurd h1 (sW x h).1
 have cC:cnt (alone B A) (cs.filter (fun c=>decide (c∈st\/c∈X\/c∈Y\/c∈Z\/c∈W)))=Z.length:=by
  rw[<- zeb (zW _ I.nb) hZ sZ];refine zaB fun x hx=>?_;obtain⟨h1,h2⟩:=m1 hx;rw[mem x (I.b x h1).1 (I.b x h1).2.1];refine⟨fun h=>?_,fun h=>.inr (.inr (.inl h))⟩;rcases h with h | h | h | h
  ·exact absurd (mA (sX x h)).1 h2
  ·exact absurd (m1 (sY x h)).1 h2
  ·exact h
  ·exact absurd h1 (sW x h).2.1
 have t:=zhF I.na I.nb (cs.filter (fun c=>decide (c∈st\/c∈X\/c∈Y\/c∈Z\/c∈W)));refine⟨_,⟨zks _ cs (fun c _ h=>decide_eq_true (.inl h)) (fun c hc h=>decide_eq_false ?_),by lia,by lia⟩,mem⟩;rintro(z | z | z | z | z)
 ·exact I.ap c h z
 ·exact(I.a c (mA (sX c z)).1).2.2 h
 ·exact(I.a c (m1 (sY c z)).1).2.2 h
 ·exact(I.b c (m1 (sZ c z)).1).2.2 h
 ·exact(sW c z).2.2 h
structure Ends (A B:List (Nat×Nat))(a b lo hi:Int):Prop where
 l0:0<=lo
 l1:a-(alone A B).length<=lo
 l2:b-(alone B A).length<=lo
 l:lo=0\/lo=a-(alone A B).length\/lo=b-(alone B A).length
 h0:hi<=(both A B).length
 h1:hi<=a
 h2:hi<=b
 h:hi=(both A B).length\/hi=a\/hi=b
section
variable {cl st cs A B:List (Nat×Nat)}{a b lo hi:Int}
theorem Fit.ends {S:List (Nat×Nat)}(I:In cl st cs A B)(E:Ends A B a b lo hi)(h:Fit cl st cs A B a b S):lo<=cnt (both A B) S/\(cnt (both A B) S:Int)<=hi:=by
 obtain⟨k1,k2,k3,k4,k5⟩:=h.k I;have e1:=E.l;have e2:=E.h;lia
theorem ZT (I:In cl st cs A B):(both A B).Nodup:=zW _ I.na
theorem zbZ (I:In cl st cs A B):(alone A B).Nodup:=zW _ I.na
theorem Qp (I:In cl st cs A B):(alone B A).Nodup:=zW _ I.nb
theorem fits (I:In cl st cs A B)(E:Ends A B a b lo hi)(h:lo<=hi){W:List (Nat×Nat)}(sW:∀x∈W,x ∉ A/\x ∉ B/\x ∉ cl):∃S,Fit cl st cs A B a b S/\∀c∈cs,c ∉ st->c ∉ A->c ∉ B->(c∈S↔c∈W):=by
 have e0:=E.l0;have e1:=E.l1;have e2:=E.l2;have e3:=E.h0;have e4:=E.h1;have e5:=E.h2;obtain⟨X,x1,x2,x3⟩:=pick (ZT I) (k:=lo.toNat) (by lia);obtain⟨Y,y1,y2,y3⟩:=pick (zbZ I) (k:=(a-lo).toNat) (by lia);obtain⟨Z,z1,z2,z3⟩:=pick (Qp I) (k:=(b-lo).toNat) (by lia);obtain⟨S,f,m⟩:=Fit.mk' (a:=a) (b:=b) (k:=lo.toNat) I x1 y1 z1 x2 y2 z2 sW x3 (by lia) (by lia);refine⟨S,f,fun c hc hs hA hB=>?_⟩;rw[m c hc hs];refine⟨fun q=>?_,fun q=>.inr (.inr (.inr q))⟩;rcases q with q | q | q | q
 ·exact absurd (X9.mp (x2 c q)).1 hA
 ·exact absurd (X9.mp (y2 c q)).1 hA
 ·exact absurd (X9.mp (z2 c q)).1 hB
 ·exact q
theorem zmq (I:In cl st cs A B)(E:Ends A B a b lo hi):(∃S,Fit cl st cs A B a b S)↔lo<=hi:=by
 constructor
 ·rintro⟨S,f⟩;have:=f.ends I E;lia
 ·intro h;obtain⟨S,f,_⟩:=fits I E h (W:=[]) (fun _ h=>nomatch h);exact⟨S,f⟩
theorem Qq:∀x∈([]:List (Nat×Nat)),x ∉ A/\x ∉ B/\x ∉ cl:=fun _ h=>nomatch h
theorem ziY (I:In cl st cs A B)(E:Ends A B a b lo hi)(h:lo<=hi){c:(Nat×Nat)}(hc:c∈cs)(hs:c ∉ st)(hl:c ∉ cl):(∀S,Fit cl st cs A B a b S->c ∉ S)↔(c∈both A B/\hi=0)\/(c∈alone A B/\a-lo=0)\/(c∈alone B A/\b-lo=0):=by
 have e0:=E.l0;have e1:=E.l1;have e2:=E.l2;have e3:=E.h0;have e4:=E.h1;have e5:=E.h2;constructor
 ·intro all;by_cases hA:c∈A
  ·by_cases hB:c∈B
   ·have mc:c∈both A B:=X9.mpr ⟨hA,decide_eq_true hB⟩;refine .inl ⟨mc,Wv fun hn=>?_⟩;obtain⟨X,x1,x2,x3,x4⟩:=zaC (ZT I) mc (k:=hi.toNat) (by lia) (by lia);obtain⟨Y,y1,y2,y3⟩:=pick (zbZ I) (k:=(a-hi).toNat) (by lia);obtain⟨Z,z1,z2,z3⟩:=pick (Qp I) (k:=(b-hi).toNat) (by lia);obtain⟨S,f,m⟩:=Fit.mk' (a:=a) (b:=b) (k:=hi.toNat) (W:=[]) I x1 y1 z1 x2 y2 z2 Qq x3 (by lia) (by lia);exact all S f ((m c hc hs).mpr (.inl x4))
   ·have mc:c∈alone A B:=X9.mpr ⟨hA,by simpa using hB⟩;refine .inr (.inl ⟨mc,Wv fun hn=>?_⟩);obtain⟨X,x1,x2,x3⟩:=pick (ZT I) (k:=lo.toNat) (by lia);obtain⟨Y,y1,y2,y3,y4⟩:=zaC (zbZ I) mc (k:=(a-lo).toNat) (by lia) (by lia);obtain⟨Z,z1,z2,z3⟩:=pick (Qp I) (k:=(b-lo).toNat) (by lia);obtain⟨S,f,m⟩:=Fit.mk' (a:=a) (b:=b) (k:=lo.toNat) (W:=[]) I x1 y1 z1 x2 y2 z2 Qq x3 (by lia) (by lia);exact all S f ((m c hc hs).mpr (.inr (.inl y4)))
  ·by_cases hB:c∈B
   ·have mc:c∈alone B A:=X9.mpr ⟨hB,by simpa using hA⟩;refine .inr (.inr ⟨mc,Wv fun hn=>?_⟩);obtain⟨X,x1,x2,x3⟩:=pick (ZT I) (k:=lo.toNat) (by lia);obtain⟨Y,y1,y2,y3⟩:=pick (zbZ I) (k:=(a-lo).toNat) (by lia);obtain⟨Z,z1,z2,z3,z4⟩:=zaC (Qp I) mc (k:=(b-lo).toNat) (by lia) (by lia);obtain⟨S,f,m⟩:=Fit.mk' (a:=a) (b:=b) (k:=lo.toNat) (W:=[]) I x1 y1 z1 x2 y2 z2 Qq x3 (by lia) (by lia);exact all S f ((m c hc hs).mpr (.inr (.inr (.inl z4))))
   ·obtain⟨S,f,m⟩:=fits I E h (W:=[c]) (fun x hx=>by
     have:x=c:=by simpa using hx
     subst this;exact⟨hA,hB,hl⟩)
    exact absurd ((m c hc hs hA hB).mpr XW) (all S f)
 ·rintro(⟨m,z⟩ | ⟨m,z⟩ | ⟨m,z⟩) S f
  ·have:=f.ends I E;exact zbX (by lia) c m
  ·have:=f.ends I E;obtain⟨k1,k2,k3,k4,k5⟩:=f.k I;exact zbX (by lia) c m
  ·have:=f.ends I E;obtain⟨k1,k2,k3,k4,k5⟩:=f.k I;exact zbX (by lia) c m
theorem ziZ (I:In cl st cs A B)(E:Ends A B a b lo hi)(h:lo<=hi){c:(Nat×Nat)}(hc:c∈cs)(hs:c ∉ st)(hl:c ∉ cl):(∀S,Fit cl st cs A B a b S->c∈S)↔(c∈both A B/\lo=(both A B).length)\/(c∈alone A B/\a-hi=(alone A B).length)\/(c∈alone B A/\b-hi=(alone B A).length):=by
 have e0:=E.l0;have e1:=E.l1;have e2:=E.l2;have e3:=E.h0;have e4:=E.h1;have e5:=E.h2;have ne:∀{X Y:List (Nat×Nat)} {A' B':List (Nat×Nat)},(∀x∈X,x∈Y)->c ∉ Y->c ∉ X:=fun h1 h2 h3=>h2 (h1 c h3);constructor
 ·intro all;by_cases hA:c∈A
  ·by_cases hB:c∈B
   ·have mc:c∈both A B:=X9.mpr ⟨hA,decide_eq_true hB⟩;have n1:c ∉ alone A B:=fun z=>by simpa[hB] using (X9.mp z).2
    have n2:c ∉ alone B A:=fun z=>by simpa[hA] using (X9.mp z).2
    refine .inl ⟨mc,Wv fun hn=>?_⟩;obtain⟨X,x1,x2,x3,x4⟩:=ZS (ZT I) mc (k:=lo.toNat) (by lia);obtain⟨Y,y1,y2,y3⟩:=pick (zbZ I) (k:=(a-lo).toNat) (by lia);obtain⟨Z,z1,z2,z3⟩:=pick (Qp I) (k:=(b-lo).toNat) (by lia);obtain⟨S,f,m⟩:=Fit.mk' (a:=a) (b:=b) (k:=lo.toNat) (W:=[]) I x1 y1 z1 x2 y2 z2 Qq x3 (by lia) (by lia);rcases(m c hc hs).mp (all S f) with q | q | q | q
    ·exact x4 q
    ·exact n1 (y2 c q)
    ·exact n2 (z2 c q)
    ·cases q
   ·have mc:c∈alone A B:=X9.mpr ⟨hA,by simpa using hB⟩;have n1:c ∉ both A B:=fun z=>hB (of_decide_eq_true (X9.mp z).2);have n2:c ∉ alone B A:=fun z=>hB (X9.mp z).1;refine .inr (.inl ⟨mc,Wv fun hn=>?_⟩);obtain⟨X,x1,x2,x3⟩:=pick (ZT I) (k:=hi.toNat) (by lia);obtain⟨Y,y1,y2,y3,y4⟩:=ZS (zbZ I) mc (k:=(a-hi).toNat) (by lia);obtain⟨Z,z1,z2,z3⟩:=pick (Qp I) (k:=(b-hi).toNat) (by lia);obtain⟨S,f,m⟩:=Fit.mk' (a:=a) (b:=b) (k:=hi.toNat) (W:=[]) I x1 y1 z1 x2 y2 z2 Qq x3 (by lia) (by lia);rcases(m c hc hs).mp (all S f) with q | q | q | q
    ·exact n1 (x2 c q)
    ·exact y4 q
    ·exact n2 (z2 c q)
    ·cases q
  ·by_cases hB:c∈B
   ·have mc:c∈alone B A:=X9.mpr ⟨hB,by simpa using hA⟩;have n1:c ∉ both A B:=fun z=>hA (X9.mp z).1;have n2:c ∉ alone A B:=fun z=>hA (X9.mp z).1;refine .inr (.inr ⟨mc,Wv fun hn=>?_⟩);obtain⟨X,x1,x2,x3⟩:=pick (ZT I) (k:=hi.toNat) (by lia);obtain⟨Y,y1,y2,y3⟩:=pick (zbZ I) (k:=(a-hi).toNat) (by lia);obtain⟨Z,z1,z2,z3,z4⟩:=ZS (Qp I) mc (k:=(b-hi).toNat) (by lia);obtain⟨S,f,m⟩:=Fit.mk' (a:=a) (b:=b) (k:=hi.toNat) (W:=[]) I x1 y1 z1 x2 y2 z2 Qq x3 (by lia) (by lia);rcases(m c hc hs).mp (all S f) with q | q | q | q
    ·exact n1 (x2 c q)
    ·exact n2 (y2 c q)
    ·exact z4 q
    ·cases q
   ·obtain⟨S,f,m⟩:=fits I E h (W:=[]) Qq;exact nomatch (m c hc hs hA hB).mp (all S f)
 ·rintro(⟨m,z⟩ | ⟨m,z⟩ | ⟨m,z⟩) S f
  ·have:=f.ends I E;obtain⟨k1,k2,k3,k4,k5⟩:=f.k I;exact zbY (by lia) c m
  ·have:=f.ends I E;obtain⟨k1,k2,k3,k4,k5⟩:=f.k I;exact zbY (by lia) c m
  ·have:=f.ends I E;obtain⟨k1,k2,k3,k4,k5⟩:=f.k I;exact zbY (by lia) c m
end
end Two
namespace K56
open PySem L2
variable {P:Xn}{w:WW}{K:XT}{mg:Str->Option X8}{base:Heap}{f:Addr}{fd:Xz}
abbrev top (i:Nat):Stmt:=zbu.top i
abbrev Jy:Stmt:=top 7
abbrev qx:Stmt:=top 8
abbrev jw:Stmt:=top 9
abbrev jn:Stmt:=top 10
abbrev qy:Stmt:=top 11
abbrev qC:Stmt:=top 12
abbrev zbr:Stmt:=top 14
abbrev Zp:Stmt:=top 15
abbrev zfm:Stmt:=top 16
abbrev jo:Stmt:=top 17
abbrev jO:Stmt:=top 18
abbrev qz:Stmt:=top 19
abbrev qF:Stmt:=top 22
abbrev j8:Stmt:=top 23
abbrev yR:Stmt:=top 24
abbrev xy:Stmt:=top 25
abbrev Zq:Stmt:=top 26
abbrev YM:Stmt:=top 28
abbrev Q4:Stmt:=top 29
abbrev jU:Stmt:=top 31
abbrev zbs:Stmt:=top 32
abbrev x9:Stmt:=top 33
abbrev Q5:Stmt:=top 34
abbrev ZU:Stmt:=top 37
abbrev ZV:Stmt:=top 38
abbrev jy:Stmt:=top 39
abbrev Jz:Stmt:=top 40
abbrev Zr:Stmt:=top 41
abbrev JA:Stmt:=top 44
abbrev xF:Stmt:=top 45
abbrev jV:Stmt:=top 46
abbrev jq:Stmt:=top 47
abbrev jW:Stmt:=top 49
abbrev xG:Stmt:=top 50
abbrev JB:Stmt:=top 51
abbrev JV:Stmt:=top 52
abbrev xH:Stmt:=top 53
abbrev JC:Stmt:=top 54
abbrev xJ:Stmt:=top 55
abbrev JW:Stmt:=top 56
abbrev Ja:Stmt:=top 57
abbrev zb0:Stmt:=top 58
structure Txt (mg:Str->Option X8):Prop where
 zne:mg "abs"=none
 zhG:mg "any"=none
 zku:mg "dict"=none
 jJ:mg "enumerate"=none
 znf:mg "int"=none
 qZ:mg "len"=none
 zop:mg "list"=none
 zkv:mg "max"=none
 zfn:mg "min"=none
 jf:mg "range"=none
 zpK:mg "set"=none
 yC:mg "sorted"=none
 zpL:mg "str"=none
 zng:mg "sum"=none
 znh:∃t,mg "ALL"=some (.str "all" t)
 J8:∃t,mg "CLOSED_SIGN"=some (.str "?" t)
 zb1:∃t,mg "MOST_OF_PART"=some (.int 14 t)
 zcH:∃t,mg "MOST_THINGS"=some (.int 30 t)
 Yr:∃t,mg "NO_CELL_SIGN"=some (.str "#" t)
structure Prog (K:XT)(mg:Str->Option X8):Prop where
 closed:∃(f:Addr) (fd:Xz),zm K mg "closed" Jy ["board"] f fd
 open_cells:∃(f:Addr) (fd:Xz),zm K mg "open_cells" qx ["board"] f fd
 around:∃(f:Addr) (fd:Xz),zm K mg "around" jw ["board","cell"] f fd
 number_at:∃(f:Addr) (fd:Xz),zm K mg "number_at" jn ["board","cell"] f fd
 cells_of:∃(f:Addr) (fd:Xz),zm K mg "cells_of" qy ["board"] f fd
 sign_at:∃(f:Addr) (fd:Xz),zm K mg "sign_at" qC ["board","cell"] f fd
 parts:∃(f:Addr) (fd:Xz),zm K mg "parts" zbr ["board"] f fd
 joined:∃(f:Addr) (fd:Xz),zm K mg "joined" Zp ["groups","cells"] f fd
 far:∃(f:Addr) (fd:Xz),zm K mg "far" zfm ["board"] f fd
 numbers_of:∃(f:Addr) (fd:Xz),zm K mg "numbers_of" jo ["board","part"] f fd
 bare_wrong:∃(f:Addr) (fd:Xz),zm K mg "bare_wrong" jO ["board"] f fd
 closed_around:∃(f:Addr) (fd:Xz),zm K mg "closed_around" qz ["board","cell"] f fd
 part_layings:∃(f:Addr) (fd:Xz),zm K mg "part_layings" qF ["board","part"] f fd
 needs_at:∃(f:Addr) (fd:Xz),zm K mg "needs_at" j8 ["told","cell","rest"] f fd
 may_fit:∃(f:Addr) (fd:Xz),zm K mg "may_fit" yR ["needs","pick"] f fd
 part_counts:∃(f:Addr) (fd:Xz),zm K mg "part_counts" xy ["board","part"] f fd
 counted:∃(f:Addr) (fd:Xz),zm K mg "counted" Zq ["found","greatest"] f fd
 choices:∃(f:Addr) (fd:Xz),zm K mg "choices" YM ["n","k"] f fd
 poured:∃(f:Addr) (fd:Xz),zm K mg "poured" Q4 ["one","other"] f fd
 near_counts:∃(f:Addr) (fd:Xz),zm K mg "near_counts" jU ["board"] f fd
 count:∃(f:Addr) (fd:Xz),zm K mg "count" zbs ["board"] f fd
 all_poured:∃(f:Addr) (fd:Xz),zm K mg "all_poured" x9 ["lists"] f fd
 dealt:∃(f:Addr) (fd:Xz),zm K mg "dealt" Q5 ["counts","cells","stones"] f fd
 asked_by:∃(f:Addr) (fd:Xz),zm K mg "asked_by" ZU ["board","thing"] f fd
 known_of:∃(f:Addr) (fd:Xz),zm K mg "known_of" ZV ["finding"] f fd
 still_asked:∃(f:Addr) (fd:Xz),zm K mg "still_asked" jy ["asked","known"] f fd
 gained:∃(f:Addr) (fd:Xz),zm K mg "gained" Jz ["asked"] f fd
 settled:∃(f:Addr) (fd:Xz),zm K mg "settled" Zr ["regions"] f fd
 thoughts:∃(f:Addr) (fd:Xz),zm K mg "thoughts" JA ["board"] f fd
 all_steps:∃(f:Addr) (fd:Xz),zm K mg "all_steps" xF ["board","things"] f fd
 place_lists:∃(f:Addr) (fd:Xz),zm K mg "place_lists" jV ["asked"] f fd
 first_step:∃(f:Addr) (fd:Xz),zm K mg "first_step" jq ["things","asked","lists","finding"] f fd
 law_cell_at:∃(f:Addr) (fd:Xz),zm K mg "_law_cell_at" jW ["_law_script","_law_k"] f fd
 law_mixed:∃(f:Addr) (fd:Xz),zm K mg "_law_mixed" xG ["_law_cell","_law_k"] f fd
 law_mark:∃(f:Addr) (fd:Xz),zm K mg "_law_mark" JB ["_law_drawn_here","_law_often","_law_many","_law_room"] f fd
 law_drawn:∃(f:Addr) (fd:Xz),zm K mg "_law_drawn" JV ["_law_script","_law_most","_law_limit"] f fd
 law_cells:∃(f:Addr) (fd:Xz),zm K mg "_law_cells" xH ["_law_rows","_law_signs"] f fd
 law_near:∃(f:Addr) (fd:Xz),zm K mg "_law_near" JC ["_law_one","_law_other"] f fd
 law_board:∃(f:Addr) (fd:Xz),zm K mg "_law_board" xJ ["_law_marks"] f fd
 law_there:∃(f:Addr) (fd:Xz),zm K mg "_law_there" JW ["_law_cell","_law_way","_law_high","_law_wide"] f fd
 law_turned:∃(f:Addr) (fd:Xz),zm K mg "_law_turned" Ja ["_law_rows","_law_way"] f fd
def zkw (K:XT):Sp:=fun vs H Q _=>∃(a:Addr) (ns:List Int) (k:Int),vs=[.ref a,.int k]/\SqL K H a (ns.map V.int)/\0<=k/\∀z:Int,Q (.int z) H
structure Row (signs:List Nat)(n:Nat)(t:Str):Prop where
 len:t.cps.size=n
 mem:∀c∈t.cps.toList,c∈signs
structure Rows (signs:List Nat)(rs:List Str):Prop where
 lo:1<=rs.length
 hi:rs.length<=8
 ex:∃n,1<=n/\n<=8/\∀t∈rs,Row signs n t
def bd:Str:="?012345678#"
theorem zb2:zF ["_law_script","_law_k"] ["_law_script","_law_k"] (zf jW):=⟨rfl,rfl,rfl,by decide +kernel,rfl,by decide +kernel,by decide +kernel⟩
theorem zb3 (T:Txt mg)(D:zm K mg "_law_cell_at" jW ["_law_script","_law_k"] f fd):qb P w K mg base CX0 1 f fd ["_law_script","_law_k"] (zkw K):=by
 refine D.F.ok zb2 (fun vs H Q E h=>?_) (fun cdv A outer s H vs Q E hr h=>?_)
 ·obtain⟨a,ns,i,rfl,_⟩:=h;rfl
 ·obtain⟨a,ns,i,rfl,hS,hi,k⟩:=h;refine⟨_,(ze (jg (qt zof (pvS 1) (zu zT (by rfl) T.qZ W3 (za (pvS 0) zc)) (qa _)) (zh (zH (zL xE (pvS 0) (pvS 1) (fun _ _=>rfl)))) qi) (@zh _ _ _ (@zH _ _ _ _ zg))),?_⟩;refine⟨_,rfl,_,rfl,a,_,rfl,.inl hS,_,_,rfl,rfl,_,rfl,?_⟩;refine zgc (fun c=>?_) (fun c=>?_)
  ·have c':i<((ns.map V.int).length:Nat):=of_decide_eq_true c;rw[Y1] at c';have hl:i.toNat<ns.length:=by lia
   refine⟨_,rfl,_,rfl,a,_,i,.int ns[i.toNat],rfl,rfl,hS,zgd hi (by rw[XD,XZ hl];rfl),?_⟩;exact k _
  ·exact k 0
structure qJ (H:Hp)(p l:Addr)(rs:List Str)(n:Int):Prop where
 tp:H p=some (.tup [.ref l,.int n])
 rw:H l=some (.lst (rs.map V.str))
theorem qJ.mono {H H':Hp}{p l:Addr}{rs:List Str}{n:Int}(b:qJ H p l rs n)(s:zq H H'):qJ H' p l rs n:=⟨s _ _ b.tp,s _ _ b.rw⟩
def codes (rs:List Str):List (List Nat):=rs.map fun t=>t.cps.toList
theorem qV {rs:List Str}{i:Nat}{t:Str}(h:rs[i]?=some t):(codes rs)[i]?=some t.cps.toList:=by
 unfold codes;rw[XD,h];rfl
theorem YN {rs:List Str}{i:Nat}{u:List Nat}(h:(codes rs)[i]?=some u):∃t,rs[i]?=some t/\u=t.cps.toList:=by
 unfold codes at h;rw[XD] at h;cases e:rs[i]? with
 | none =>
  rw[e] at h;cases h
 | some t =>
  rw[e] at h;cases h;exact⟨t,rfl,rfl⟩
theorem qW (rs:List Str):(codes rs).length=rs.length:=by
 unfold codes;rw[Y1]
theorem Rows.short {s:List Nat}{rs:List Str}(R:Rows s rs):∀u∈codes rs,u.length<=8:=fun u hu=>by
 obtain⟨t,ht,rfl⟩:=XQ.mp hu;obtain⟨n,_,h8,q⟩:=R.ex;have:=(q t ht).len;rw[X5];lia
theorem Rows.tlen {s:List Nat}{rs:List Str}{i:Nat}{t:Str}(R:Rows s rs)(h:rs[i]?=some t):t.length<=Xx:=by
 obtain⟨n,_,h8,q⟩:=R.ex;have e:t.length=n:=(q t (X7 h)).len;rw[e];exact XX h8 (by decide)
def yK (H:Hp)(v:V)(c:Nat×Nat):Prop:=∃a,v=V.ref a/\H a=some (.tup [.int (c.1:Nat),.int (c.2:Nat)])
def Cel (H:Hp):List V->List (Nat×Nat)->Prop:=Xj (yK H)
theorem Cel.mono {H H':Hp}(s:zq H H'){vs:List V}{cs:List (Nat×Nat)}(hp:Cel H vs cs):Cel H' vs cs:=by
 induction hp with
 | nil=>exact .nil
 | cons q _ ih =>
  obtain⟨a,e,h⟩:=q;exact .cons ⟨a,e,s _ _ h⟩ ih
theorem Cel.snoc {H:Hp}{vs:List V}{cs:List (Nat×Nat)}{v:V}{c:Nat×Nat}(h:Cel H vs cs)(x:yK H v c):Cel H (vs++[v]) (cs++[c]):=Paired.snoc h x
theorem Cel.append {H:Hp}{vs ws:List V}{cs ds:List (Nat×Nat)}(h:Cel H vs cs)(k:Cel H ws ds):Cel H (vs++ws) (cs++ds):=zbB h k
theorem Cel.into {H:Hp}(z:Addr)(o:HO){old:List V}(hz:H z=some (.lst old)){vs:List V}{cs:List (Nat×Nat)}(hp:Cel H vs cs):Cel (upd H z o) vs cs:=by
 induction hp with
 | nil=>exact .nil
 | cons q _ ih =>
  obtain⟨a,e,h⟩:=q;exact .cons ⟨a,e,by rw[zk (zcS h hz (by intro y;cases y))];exact h⟩ ih
theorem Cel.length {H:Hp}{vs:List V}{cs:List (Nat×Nat)}(h:Cel H vs cs):vs.length=cs.length:=Paired.length h
theorem Cel.get {H:Hp}:∀{vs:List V} {cs:List (Nat×Nat)} {i:Nat} {v:V},Cel H vs cs->vs[i]?=some v->∃c,cs[i]?=some c/\yK H v c
 | _,_,_,_,.nil,e=>by simp at e
 | _,_,0,_,.cons r _,e=>by
  simp at e;subst e;exact⟨_,rfl,r⟩
 | _,_,i+1,v,.cons _ t,e=>by
  obtain⟨c,h1,h2⟩:=Cel.get (i:=i) (v:=v) t (by simpa using e);exact⟨c,by simpa using h1,h2⟩
def zp (c:Nat×Nat):Wa:=.tuple [.int (c.1:Nat),.int (c.2:Nat)]
theorem yK.rdv {K:XT}{H:Hp}{v:V}{c:Nat×Nat}(h:yK H v c):Rdv K H v (zp c):=by
 obtain⟨a,rfl,h⟩:=h;exact .tup (SqT.of h) (.cons (.int _) (.cons (.int _) .nil))
theorem zdm (c d:Nat×Nat):zlK (zp c) (zp d):=⟨rfl,rfl,by show max 0 (max 0 0)+1<=64;decide⟩
theorem zaD (c d:Nat×Nat):WL (zp c) (zp d)=decide (c=d):=by
 obtain⟨a,b⟩:=c;obtain⟨x,y⟩:=d;show ((((a:Nat):Int)==((x:Nat):Int))&&((((b:Nat):Int)==((y:Nat):Int))&&true))=decide ((a,b)=(x,y));by_cases h1:a=x
 ·by_cases h2:b=y
  ·subst h1 h2;simp
  ·have:¬ ((b:Int)=(y:Int)):=by lia
   simp[h2,this]
 ·have:¬ ((a:Int)=(x:Int)):=by lia
  simp[h1,this]
theorem zb4 (c k:Nat):(V.str ⟨#[c]⟩=V.str ⟨#[k]⟩)=(c=k):=by
 apply propext;constructor
 ·intro h;have h2:(⟨#[c]⟩:Str)=⟨#[k]⟩:=V.str.inj h;have h3:(#[c]:Array Nat)=#[k]:=congrArg Str.cps h2;simpa using h3
 ·rintro rfl;rfl
theorem JS:("#":Str)=⟨#[35]⟩:=by decide +kernel
theorem zgG:("?":Str)=⟨#[63]⟩:=by decide +kernel
def qj (c:Nat):Bool:=!decide (c=35)
def yM (c:Nat):Bool:=decide (c=63)
def Q6 (c:Nat):Bool:=qj c && !decide (c=63)
def zoq:Sp:=fun vs H Q _=>∃(p l c:Addr) (rs:List Str) (n:Int) (i j:Nat) (t:Str) (k:Nat),vs=[.ref p,.ref c]/\qJ H p l rs n/\H c=some (.tup [.int (i:Nat),.int (j:Nat)])/\rs[i]?=some t/\t.cps.toList[j]?=some k/\t.length<=Xx/\Q (.str ⟨#[k]⟩) H
def zec (p:Nat->Bool):Sp:=fun vs H Q _=>∃(a l:Addr) (rs:List Str) (n:Int),vs=[.ref a]/\qJ H a l rs n/\Rows bd.cps.toList rs /\
 ∀(d:Addr) (ws:List V) (H':Hp),H d=none->H' d=some (.lst ws)->Cel H' ws (Cells.zB p 0 (codes rs))->zq H H'->Q (.ref d) H'
def zkx:Sp:=fun vs H Q _=>∃(p l c:Addr) (rs:List Str) (n:Int) (i j:Nat) (t:Str) (k:Nat),vs=[.ref p,.ref c]/\qJ H p l rs n/\H c=some (.tup [.int (i:Nat),.int (j:Nat)])/\rs[i]?=some t/\t.cps.toList[j]?=some k/\t.length<=Xx/\48<=k/\k<=56/\Q (.int ((k:Int)-48)) H
theorem int_sign {k:Nat}(h1:48<=k)(h2:k<=56):PK ⟨#[k]⟩=some ((k:Int)-48):=by
 have:∀k∈WC 57,48<=k->PK ⟨#[k]⟩=some ((k:Int)-48):=by decide +kernel
 exact this k (Wz.mpr (by lia)) h1
theorem zgH:zF ["board","cell"] ["board","cell"] (zf qC):=⟨rfl,rfl,rfl,by decide +kernel,rfl,by decide +kernel,by decide +kernel⟩
theorem ZW (D:zm K mg "sign_at" qC ["board","cell"] f fd):qb P w K mg base CX0 1 f fd ["board","cell"] zoq:=by
 refine D.F.ok zgH (fun vs H Q E h=>?_) (fun cdv A outer s H vs Q E hr h=>?_)
 ·obtain⟨p,l,c,rs,n,i,j,t,k,rfl,_⟩:=h;rfl
 ·obtain⟨p,l,c,rs,n,i,j,t,k,rfl,b,hc,hi,hj,hl,q⟩:=h;refine⟨_,(zh (zH (zL zea (zL xE (zL qG (pvS 0) zg (fun _ _=>rfl)) (zL qG (pvS 1) zg (fun _ _=>rfl)) (fun _ _=>rfl)) (zL qG (pvS 1) zg (fun _ _=>rfl)) (fun _ _=>rfl)))),?_⟩;exact⟨_,rfl,p,_,0,_,rfl,rfl,SqT.of b.tp,rfl,_,rfl,c,_,0,_,rfl,rfl,SqT.of hc,rfl,l,_,_,_,rfl,rfl,SqL.of b.rw,je (v:=V.str t) (by rw[XD,hi];rfl),_,rfl,c,_,1,_,rfl,rfl,SqT.of hc,rfl,t,_,k,rfl,rfl,hl,je hj,q⟩
theorem JX:zF ["board","found","row","text"] ["board"] (zf qy):=⟨rfl,rfl,rfl,by decide +kernel,rfl,by decide +kernel,by decide +kernel⟩
theorem zaW (T:Txt mg)(D:zm K mg "cells_of" qy ["board"] f fd):qb P w K mg base CX0 1 f fd ["board"] (zec qj):=by
 refine D.F.ok JX (fun vs H Q E h=>?_) (fun cdv A outer s H vs Q E hr h=>?_)
 ·obtain⟨a,l,rs,n,rfl,_⟩:=h;rfl
 ·obtain⟨a,l,rs,n,rfl,b,R,q⟩:=h;refine⟨_,(@ze _ _ _ _ _ (@zz _ _ 1 _ _ _ _ JX.nd rfl (XE rfl) (@qd _ _ _ _ zc) (by rfl) (.inr rfl)) (ze (qD W1 rfl (Zd (by rfl) T.jJ (za (zL qG (pvS 0) zg (fun _ _=>rfl)) zc)) (yN rfl (zM (zo (i:=2) JX.nd rfl (Vp rfl)) (zM (zo (i:=3) JX.nd rfl (XE rfl)) jD))) (zh (jC (Jk WQ UH UG YH (pvS 1) (za (z9 (N:=["column","sign","row"]) (src:=[none,none,some 2]) (zP.free (O:=(zf qy).names) (XN:=["board","found","row","text"]) rfl rfl ⟨_,rfl⟩ rfl rfl (by decide +kernel) (by decide +kernel) (by decide +kernel) rfl (by decide +kernel)) rfl (zjF (by rfl) T.jJ (za (pvS 3) zc)) (fun _ _ _ _ _=>(zhk (n:=2) (K:=K) (by rfl) rfl (zM (zo (i:=0) (by show W7 (["column","sign","row"]:List Str);decide +kernel) rfl (XE rfl)) (zM (zo (i:=1) (by show W7 (["column","sign","row"]:List Str);decide +kernel) rfl (XE rfl)) jD)))) (fun _ _ _ _ _=>(qE (qt zhh (pvS 1) (xY (v:=.str "#") (by rfl) T.Yr.choose_spec (by exact⟨_,rfl⟩)) (qa _)))) (fun _ _ _ _ _=>(qm (za (pvS 2) (za (pvS 0) zc))))) zc))))) (zh (zH (pvS 1))))),?_⟩;refine⟨Jw,fun d hd=>?_⟩;have s0:zq H (upd H d (.lst [])):=zd hd;refine⟨_,rfl,a,_,0,_,rfl,rfl,SqT.of (b.mono s0).tp,rfl,l,rfl,⟨_,SqL.of (b.mono s0).rw⟩,?_⟩;refine Ze (K:=K) (l:=l) (xs:=rs.map V.str) (fun i σ H'=>∃(v2 v3:Option V) (ws:List V),σ=[some (.ref a),some (.ref d),v2,v3]/\zq H H'/\H' d=some (.lst ws)/\Cel H' ws (Cells.zB qj 0 ((codes rs).take i)))
   ⟨_,_,[],rfl,s0,zb,.nil⟩ (fun i σ H' _ ⟨_,_,_,_,s1,_⟩=>SqL.of (b.mono s1).rw) ?_ ?_
  ·rintro i x tt σ H1 hx htt ⟨v2,v3,ws,rfl,s1,hd1,hc1⟩;rw[XD] at hx;cases e:rs[i]? with
   | none =>
    rw[e] at hx;cases hx
   | some t =>
    rw[e] at hx;cases hx;have hil:i<rs.length:=(X0.mp e).1;have st:zq H1 (upd H1 tt (.tup [.int (i:Nat),.str t])):=zd htt;refine⟨tt,_,rfl,SqT.of zb,rfl,_,_,rfl,_,_,rfl,rfl,?_⟩;have hd2:upd H1 tt (.tup [.int (i:Nat),.str t]) d=some (.lst ws):=st _ _ hd1;refine⟨_,rfl,.inl ⟨rfl,_,SqL.of hd2⟩,_,rfl,t,rfl,fun z hz=>?_⟩;refine zgf (x:=t) (fun j σ H'=>∃(u0 u1:Option V) (ys:List V),σ=[u0,u1,some (.int (i:Nat))]/\zq (upd H1 tt (.tup [.int (i:Nat),.str t])) H'/\H' z=some (.lst ys)/\Cel H' ys (Cells.zR qj i 0 (t.cps.toList.take j)))
     ⟨_,_,[],rfl,zd hz,zb,.nil⟩ ?_ ?_
    ·rintro j c t2 σ H2 hc ht2 ⟨u0,u1,ys,rfl,s2,hz2,hc2⟩;refine⟨t2,_,rfl,SqT.of zb,rfl,_,_,rfl,_,_,rfl,rfl,?_⟩;refine⟨_,rfl,rfl,_,rfl,?_⟩;have hc':t.cps.toList[j]?=some c:=by rw[Xv];exact hc
     have s3:zq H2 (upd H2 t2 (.tup [.int (j:Nat),.str ⟨#[c]⟩])):=zd ht2;have step:=Cells.Qm (p:=qj) (i:=i) hc';have ed:(!decide (V.str ⟨#[c]⟩=V.str "#"))=qj c:=by
      rw[JS];simp only[zb4];rfl
     rw[ed];by_cases hp:qj c=true
     ·rw[hp] at step;refine jT hp ?_;refine⟨_,rfl,_,rfl,yJ,fun t3 ht3=>?_⟩;have nz3:z≠t3:=zj (s3 _ _ hz2) ht3;have s4:zq (upd H2 t2 (.tup [.int (j:Nat),.str ⟨#[c]⟩])) (upd (upd H2 t2 (.tup [.int (j:Nat),.str ⟨#[c]⟩])) t3 (.tup [.int (i:Nat),.int (j:Nat)])):=zd ht3;have hlen:ys.length<=8:=by
       rw[hc2.length];refine XX (Cells.jN _ _ _ _) ?_;have:=R.short _ (X7 (qV e));rw[XM];lia
      refine⟨ys,s4 _ _ (s3 _ _ hz2),XG hlen (by decide),some (.int (j:Nat)),some (.str ⟨#[c]⟩),ys++[.ref t3],rfl,fun b' o e'=>?_,zb,?_⟩
      ·have hb:b'≠z:=fun y=>by
        subst y;rw[hz] at e';cases e'
       rw[zk hb];exact s4 _ _ (s3 _ _ (s2 _ _ e'))
      ·rw[step];have keep:∀x o,x≠z->upd (upd H2 t2 (.tup [.int (j:Nat),.str ⟨#[c]⟩])) t3 (.tup [.int (i:Nat),.int (j:Nat)]) x=some o->upd (upd (upd H2 t2 (.tup [.int (j:Nat),.str ⟨#[c]⟩])) t3 (.tup [.int (i:Nat),.int (j:Nat)])) z (.lst (ys++[.ref t3])) x=some o:=fun x o hx e'=>by
        rw[zk hx];exact e'
       refine Cel.snoc ?_ ⟨t3,rfl,keep _ _ nz3.symm zb⟩;exact Cel.into z (.lst (ys++[.ref t3])) (s4 _ _ (s3 _ _ hz2)) (Cel.mono s4 (Cel.mono s3 hc2))
     ·have hp':qj c=false:=by simpa using hp
      rw[hp'] at step;refine jE hp' ?_;refine⟨some (.int (j:Nat)),some (.str ⟨#[c]⟩),ys,rfl,s2.trans s3,s3 _ _ hz2,?_⟩;rw[step];simpa using Cel.mono s3 hc2
    ·rintro σ H2 ⟨u0,u1,ys,rfl,s2,hz2,hc2⟩;have hne:d≠z:=zj hd2 hz;have hd3:H2 d=some (.lst ws):=s2 _ _ hd2;have full:t.cps.toList.take t.cps.size=t.cps.toList:=by
      rw[<- X5,XA]
     rw[full] at hc2;have step:=Cells.Qn (p:=qj) (qV e);have l1:ws.length<=64:=by
      rw[hc1.length];refine XX (Cells.qY _ _ _ fun u hu=>R.short u (V9 hu)) ?_;have:=R.hi;rw[XM,qW];lia
     have l2:ys.length<=8:=by
      rw[hc2.length];exact XX (Cells.jN _ _ _ _) (R.short _ (X7 (qV e)))
     refine⟨d,z,ws,ys,rfl,rfl,hd3,hz2,XX (Nat.add_le_add l1 l2) (by decide),?_⟩;refine⟨_,_,ws++ys,rfl,fun b' o e'=>?_,zb,?_⟩
     ·have hb:b'≠d:=fun y=>by
       subst y;rw[hd] at e';cases e'
      rw[zk hb];exact s2 _ _ (st _ _ (s1 _ _ e'))
     ·rw[step];exact Cel.into d _ hd3 (Cel.append (Cel.mono s2 (Cel.mono st hc1)) hc2)
  ·rintro σ H1 ⟨v2,v3,ws,rfl,s1,hd1,hc1⟩;rw[Y1,<- qW,XA] at hc1;exact⟨_,rfl,q d ws H1 hd hd1 hc1 s1⟩
theorem zmr (c:Nat):(qj c&&decide (c=63))=yM c:=by
 unfold qj yM;by_cases h:c=63
 ·subst h;rfl
 ·simp[h]
theorem zi0:zF ["board"] ["board"] (zf Jy):=⟨rfl,rfl,rfl,by decide +kernel,rfl,by decide +kernel,by decide +kernel⟩
theorem zdn {f1 f2:Addr}{fd1 fd2:Xz}(T:Txt mg)(D:zm K mg "closed" Jy ["board"] f fd)(zD:zm K mg "cells_of" qy ["board"] f1 fd1)(zv:zm K mg "sign_at" qC ["board","cell"] f2 fd2) :
  qb P w K mg base CX0 2 f fd ["board"] (zec yM):=by
 refine D.F.ok zi0 (fun vs H Q E h=>?_) (fun cdv A outer s H vs Q E hr h=>?_)
 ·obtain⟨a,l,rs,n,rfl,_⟩:=h;rfl
 ·obtain⟨a,l,rs,n,rfl,b,R,q⟩:=h;refine⟨_,(zh (zH (z9 (N:=["cell","board"]) (src:=[none,some 0]) (zP.free (O:=(zf Jy).names) (XN:=["board"]) rfl rfl ⟨_,rfl⟩ rfl rfl (by decide +kernel) (by decide +kernel) (by decide +kernel) rfl (by decide +kernel)) rfl (zJ (pc0 (zaW T zD) hr zD (za (pvS 0) zc))) (fun _ _ _ _ _=>(zo (i:=0) (by show W7 (["cell","board"]:List Str);decide +kernel) rfl (XE rfl))) (fun _ _ _ _ _=>(qE (qt Zc (pc0 (ZW zv) hr zv (za (pvS 1) (za (pvS 0) zc))) (xY (v:=.str "?") (by rfl) T.J8.choose_spec (by exact⟨_,rfl⟩)) (qa _)))) (fun _ _ _ _ _=>(pvS 0))))),?_⟩;refine⟨_,rfl,a,l,rs,n,rfl,b,R,fun d ws H1 hd hd1 hc1 s1=>⟨d,rfl,⟨_,SqL.of hd1⟩,fun z hz=>?_⟩⟩;have nz:d≠z:=zj hd1 hz;refine qB (K:=K) (a:=d) (xs:=ws) (fun i σ H'=>∃(u0:Option V) (ys:List V),σ=[u0,some (.ref a)]/\zq H1 H'/\H' z=some (.lst ys)/\Cel H' ys (((Cells.zB qj 0 (codes rs)).take i).filter fun x=>decide (Cells.sgn (codes rs) x=63)))
   ⟨_,[],rfl,zd hz,zb,.nil⟩ (fun i σ H' _ ⟨_,_,_,s2,_⟩=>SqL.of (s2 _ _ hd1)) ?_ ?_
  ·rintro i x σ H2 hx ⟨u0,ys,rfl,s2,hz2,hc2⟩;obtain⟨c,hci,ca,rfl,hca⟩:=Cel.get (Cel.mono s2 hc1) hx;obtain⟨k0,j,u,k,ec,hk0,hj,hpc⟩:=Cells.yi (X7 hci);obtain⟨t,ht,rfl⟩:=YN hk0;rw[VC] at ec;subst ec;refine⟨_,rfl,_,rfl,a,l,ca,rs,n,k0,j,t,k,rfl,(b.mono s1).mono s2,hca,ht,hj,R.tlen ht,rfl,_,rfl,?_⟩;have es:Cells.sgn (codes rs) (k0,j)=k:=Cells.Qo hk0 hj;have step:((Cells.zB qj 0 (codes rs)).take (i+1)).filter (fun x=>decide (Cells.sgn (codes rs) x=63))=((Cells.zB qj 0 (codes rs)).take i).filter (fun x=>decide (Cells.sgn (codes rs) x=63))++(if decide (k=63)=true then [(k0,j)] else []):=by
    rw[Xc,hci,WY];congr 1;show List.filter _ [(k0,j)]=_;rw[WD];try dsimp only
    rw[es];split<;>rfl
   have ed:decide (V.str ⟨#[k]⟩=V.str "?")=decide (k=63):=by
    rw[zgG];simp only[zb4]
   rw[ed];by_cases hp:decide (k=63)=true
   ·rw[if_pos hp] at step;refine jT hp ?_;have hlen:ys.length<=64:=by
     rw[hc2.length];refine XX (Xe _ _) ?_;rw[XM];have h1:=Cells.qY qj 0 (codes rs) R.short;have h2:=R.hi;rw[qW] at h1;lia
    refine⟨_,rfl,ys,hz2,XG hlen (by decide),_,ys++[.ref ca],rfl,fun b' o e'=>?_,zb,?_⟩
    ·have hb:b'≠z:=fun y=>by
      subst y;rw[hz] at e';cases e'
     rw[zk hb];exact s2 _ _ e'
    ·rw[step];exact Cel.into z _ hz2 (Cel.snoc hc2 ⟨ca,rfl,hca⟩)
   ·rw[if_neg hp] at step;refine jE (by simpa using hp) ?_;refine⟨_,ys,rfl,s2,hz2,?_⟩;rw[step];simpa using hc2
  ·rintro σ H2 ⟨u0,ys,rfl,s2,hz2,hc2⟩;rw[hc1.length,XA,Cells.all_filter (p:=qj) (q:=fun k=>decide (k=63)) (codes rs)] at hc2;have hz0:H z=none:=s1.free hz;exact q z ys H2 hz0 hz2 (by rw[Cells.Yn (q:=yM) zmr] at hc2;exact hc2) (s1.trans s2)
theorem zcI:zF ["board"] ["board"] (zf qx):=⟨rfl,rfl,rfl,by decide +kernel,rfl,by decide +kernel,by decide +kernel⟩
theorem jX {f1 f2:Addr}{fd1 fd2:Xz}(T:Txt mg)(D:zm K mg "open_cells" qx ["board"] f fd)(zD:zm K mg "cells_of" qy ["board"] f1 fd1)(zv:zm K mg "sign_at" qC ["board","cell"] f2 fd2) :
  qb P w K mg base CX0 2 f fd ["board"] (zec Q6):=by
 refine D.F.ok zcI (fun vs H Q E h=>?_) (fun cdv A outer s H vs Q E hr h=>?_)
 ·obtain⟨a,l,rs,n,rfl,_⟩:=h;rfl
 ·obtain⟨a,l,rs,n,rfl,b,R,q⟩:=h;refine⟨_,(zh (zH (z9 (N:=["cell","board"]) (src:=[none,some 0]) (zP.free (O:=(zf qx).names) (XN:=["board"]) rfl rfl ⟨_,rfl⟩ rfl rfl (by decide +kernel) (by decide +kernel) (by decide +kernel) rfl (by decide +kernel)) rfl (zJ (pc0 (zaW T zD) hr zD (za (pvS 0) zc))) (fun _ _ _ _ _=>(zo (i:=0) (by show W7 (["cell","board"]:List Str);decide +kernel) rfl (XE rfl))) (fun _ _ _ _ _=>(qE (qt zhh (pc0 (ZW zv) hr zv (za (pvS 1) (za (pvS 0) zc))) (xY (v:=.str "?") (by rfl) T.J8.choose_spec (by exact⟨_,rfl⟩)) (qa _)))) (fun _ _ _ _ _=>(pvS 0))))),?_⟩;refine⟨_,rfl,a,l,rs,n,rfl,b,R,fun d ws H1 hd hd1 hc1 s1=>⟨d,rfl,⟨_,SqL.of hd1⟩,fun z hz=>?_⟩⟩;have nz:d≠z:=zj hd1 hz;refine qB (K:=K) (a:=d) (xs:=ws) (fun i σ H'=>∃(u0:Option V) (ys:List V),σ=[u0,some (.ref a)]/\zq H1 H'/\H' z=some (.lst ys)/\Cel H' ys (((Cells.zB qj 0 (codes rs)).take i).filter fun x=>!decide (Cells.sgn (codes rs) x=63)))
   ⟨_,[],rfl,zd hz,zb,.nil⟩ (fun i σ H' _ ⟨_,_,_,s2,_⟩=>SqL.of (s2 _ _ hd1)) ?_ ?_
  ·rintro i x σ H2 hx ⟨u0,ys,rfl,s2,hz2,hc2⟩;obtain⟨c,hci,ca,rfl,hca⟩:=Cel.get (Cel.mono s2 hc1) hx;obtain⟨k0,j,u,k,ec,hk0,hj,hpc⟩:=Cells.yi (X7 hci);obtain⟨t,ht,rfl⟩:=YN hk0;rw[VC] at ec;subst ec;refine⟨_,rfl,_,rfl,a,l,ca,rs,n,k0,j,t,k,rfl,(b.mono s1).mono s2,hca,ht,hj,R.tlen ht,rfl,_,rfl,?_⟩;have es:Cells.sgn (codes rs) (k0,j)=k:=Cells.Qo hk0 hj;have step:((Cells.zB qj 0 (codes rs)).take (i+1)).filter (fun x=>!decide (Cells.sgn (codes rs) x=63))=((Cells.zB qj 0 (codes rs)).take i).filter (fun x=>!decide (Cells.sgn (codes rs) x=63))++(if (!decide (k=63))=true then [(k0,j)] else []):=by
    rw[Xc,hci,WY];congr 1;show List.filter _ [(k0,j)]=_;rw[WD];try dsimp only
    rw[es];split<;>rfl
   have ed:(!decide (V.str ⟨#[k]⟩=V.str "?"))=(!decide (k=63)):=by
    rw[zgG];simp only[zb4]
   rw[ed];by_cases hp:(!decide (k=63))=true
   ·rw[if_pos hp] at step;refine jT hp ?_;have hlen:ys.length<=64:=by
     rw[hc2.length];refine XX (Xe _ _) ?_;rw[XM];have h1:=Cells.qY qj 0 (codes rs) R.short;have h2:=R.hi;rw[qW] at h1;lia
    refine⟨_,rfl,ys,hz2,XG hlen (by decide),_,ys++[.ref ca],rfl,fun b' o e'=>?_,zb,?_⟩
    ·have hb:b'≠z:=fun y=>by
      subst y;rw[hz] at e';cases e'
     rw[zk hb];exact s2 _ _ e'
    ·rw[step];exact Cel.into z _ hz2 (Cel.snoc hc2 ⟨ca,rfl,hca⟩)
   ·rw[if_neg hp] at step;refine jE (by simpa using hp) ?_;refine⟨_,ys,rfl,s2,hz2,?_⟩;rw[step];simpa using hc2
  ·rintro σ H2 ⟨u0,ys,rfl,s2,hz2,hc2⟩;rw[hc1.length,XA,Cells.all_filter (p:=qj) (q:=fun k=>(!decide (k=63))) (codes rs)] at hc2;have hz0:H z=none:=s1.free hz;exact q z ys H2 hz0 hz2 hc2 (s1.trans s2)
theorem zed:zF ["board","cell"] ["board","cell"] (zf jn):=⟨rfl,rfl,rfl,by decide +kernel,rfl,by decide +kernel,by decide +kernel⟩
theorem ZX {f1:Addr}{fd1:Xz}(T:Txt mg)(D:zm K mg "number_at" jn ["board","cell"] f fd)(zv:zm K mg "sign_at" qC ["board","cell"] f1 fd1):qb P w K mg base CX0 2 f fd ["board","cell"] zkx:=by
 refine D.F.ok zed (fun vs H Q E h=>?_) (fun cdv A outer s H vs Q E hr h=>?_)
 ·obtain⟨p,l,c,rs,n,i,j,t,k,rfl,_⟩:=h;rfl
 ·obtain⟨p,l,c,rs,n,i,j,t,k,rfl,b,hc,hi,hj,hl,k1,k2,q⟩:=h;refine⟨_,(zh (zH (yO zdU (by rfl) T.znf PY (za (pc0 (ZW zv) hr zv (za (pvS 0) (za (pvS 1) zc))) zc)))),?_⟩;exact⟨_,rfl,_,rfl,p,l,c,rs,n,i,j,t,k,rfl,b,hc,hi,hj,hl,⟨#[k]⟩,_,rfl,int_sign k1 k2,(by show 1<=640;decide),q⟩
theorem zaE {k:Nat}(h:k∈bd.cps.toList)(hp:Q6 k=true):48<=k/\k<=56:=by
 have:∀k∈bd.cps.toList,Q6 k=true->48<=k/\k<=56:=by decide +kernel
 exact this k h hp
theorem Rows.openAt {rs:List Str}(R:Rows bd.cps.toList rs){p:Nat->Bool}{c:Nat×Nat}(h:c∈Cells.zB p 0 (codes rs)):∃t k,rs[c.1]?=some t/\t.cps.toList[c.2]?=some k/\p k=true/\k∈bd.cps.toList/\t.length<=Xx:=by
 obtain⟨k0,j,u,k,ec,hk0,hj,hpc⟩:=Cells.yi h;obtain⟨t,ht,rfl⟩:=YN hk0;rw[VC] at ec;subst ec;obtain⟨n,_,_,q⟩:=R.ex;exact⟨t,k,ht,hj,hpc,(q t (X7 ht)).mem k (X7 hj),R.tlen ht⟩
def zI (rs:List Str)(y:Nat×Nat):List (Nat×Nat):=(Cells.zB qj 0 (codes rs)).filter fun x=>Cells.near x y
def zky:Sp:=fun vs H Q _=>∃(p l ca:Addr) (rs:List Str) (n:Int) (i j:Nat),vs=[.ref p,.ref ca]/\qJ H p l rs n/\Rows bd.cps.toList rs/\H ca=some (.tup [.int (i:Nat),.int (j:Nat)])/\i<64/\j<64 /\
 ∀(d:Addr) (ws:List V) (H':Hp),H d=none->H' d=some (.lst ws)->Cel H' ws (zI rs (i,j))->zq H H'->Q (.ref d) H'
theorem zfo (i:Nat):(if (0:Int)>(i:Int)-1 then (0:Int) else (i:Int)-1)=((i-1:Nat):Int):=by
 split<;>lia
theorem zfp (i m:Nat):(if ((m:Nat):Int)<(i:Int)+2 then ((m:Nat):Int) else (i:Int)+2)=((min (i+2) m:Nat):Int):=by
 split<;>lia
theorem zfq {f:Nat×Nat->Bool}{l:List (Nat×Nat)}{x:Nat×Nat}(a:Bool):(l++(if a=true then [x] else [])).filter f=l.filter f++(if (a&&f x)=true then [x] else []):=by
 rw[WY];congr 1;by_cases h:a=true
 ·by_cases h2:f x=true
  ·simp[h,h2]
  ·simp[h,h2]
 ·simp[h]
theorem Zs:zF ["board","cell","rows","found","row","column"] ["board","cell"] (zf jw):=⟨rfl,rfl,rfl,by decide +kernel,rfl,by decide +kernel,by decide +kernel⟩
theorem YO (T:Txt mg)(D:zm K mg "around" jw ["board","cell"] f fd):qb P w K mg base CX0 1 f fd ["board","cell"] zky:=by
 refine D.F.ok Zs (fun vs H Q E h=>?_) (fun cdv A outer s H vs Q E hr h=>?_)
 ·obtain⟨p,l,ca,rs,n,i,j,rfl,_⟩:=h;rfl
 ·obtain⟨p,l,ca,rs,n,i,j,rfl,b,R,hca,hi64,hj64,q⟩:=h;refine⟨_,(ze (zz (i:=2) Zs.nd rfl (XE rfl) (zL qG (pvS 0) zg (fun _ _=>rfl))) (@ze _ _ _ _ _ (@zz _ _ 3 _ _ _ _ Zs.nd rfl (XE rfl) (@qd _ _ _ _ zc) (by rfl) (.inr rfl)) (ze (qD W1 rfl (YF (by rfl) T.jf (za (zu (zcU rfl) (by rfl) T.zkv SU (za (zE xx (zL qG (pvS 1) zg (fun _ _=>rfl)) zg) (@za _ _ _ _ _ zg zc rfl))) (za (zu (YG rfl) (by rfl) T.zfn UX (za (zE JU (zL qG (pvS 1) zg (fun _ _=>rfl)) zg) (za (zu zT (by rfl) T.qZ W3 (za (pvS 2) zc)) zc))) zc))) (zo (i:=4) Zs.nd rfl (XE rfl)) (zh (qD W1 rfl (YF (by rfl) T.jf (za (zu (zcU rfl) (by rfl) T.zkv SU (za (zE xx (zL qG (pvS 1) zg (fun _ _=>rfl)) zg) (@za _ _ _ _ _ zg zc rfl))) (za (zu (YG rfl) (by rfl) T.zfn UX (za (zE JU (zL qG (pvS 1) zg (fun _ _=>rfl)) zg) (za (zu ZH (by rfl) T.qZ W3 (za (zL xE (pvS 2) (pvS 4) (fun _ _=>rfl)) zc)) zc))) zc))) (zo (i:=5) Zs.nd rfl (XE rfl)) (zh (jg (PW.pt (zf6 (qt zhh (zL zea (zL xE (pvS 2) (pvS 4) (fun _ _=>rfl)) (pvS 5) (fun _ _=>rfl)) (xY (v:=.str "#") (by rfl) T.Yr.choose_spec (by exact⟨_,rfl⟩)) (qa _)) (zdM (qt (yP hr.units) (qm (za (pvS 4) (za (pvS 5) zc))) (pvS 1) (qa _))))) (zh (jC (Jk WQ Wr Wq Jv (pvS 3) (za (qm (za (pvS 4) (za (pvS 5) zc))) zc)))) qi))))) (zh (zH (pvS 3)))))),?_⟩;refine⟨_,rfl,p,_,0,_,rfl,rfl,SqT.of b.tp,rfl,?_⟩;refine⟨Jw,fun d hd=>?_⟩;have s0:zq H (upd H d (.lst [])):=zd hd;have r8:=R.hi;refine⟨_,rfl,ca,_,0,_,rfl,rfl,SqT.of (s0 _ _ hca),rfl,_,_,rfl,rfl,_,_,rfl,_,rfl,ca,_,0,_,rfl,rfl,SqT.of (s0 _ _ hca),rfl,_,_,rfl,rfl,_,rfl,l,_,rfl,.inl (SqL.of (b.mono s0).rw),_,_,rfl,((i-1:Nat):Int),((min (i+2) rs.length:Nat):Int),?_,⟨by lia,by lia,by lia,by lia⟩,?_⟩
  ·show [V.int (if (0:Int)>(i:Int)-1 then (0:Int) else (i:Int)-1),V.int (if (((rs.map V.str).length:Nat):Int)<(i:Int)+2 then (((rs.map V.str).length:Nat):Int) else (i:Int)+2)]=_;rw[Y1,zfo,zfp]
  refine qO (lo:=((i-1:Nat):Int)) (fun k σ H'=>∃(v4 v5:Option V) (ws:List V),σ=[some (.ref p),some (.ref ca),some (.ref l),some (.ref d),v4,v5]/\zq H H'/\H' d=some (.lst ws)/\Cel H' ws ((Cells.zB qj 0 ((codes rs).take (i-1+k))).filter fun x=>Cells.near x (i,j)))
   ⟨_,_,[],rfl,s0,zb,?_⟩ ?_ ?_
  ·rw[Cells.zkh]
   ·exact .nil
   ·intro r c hr';rw[Xh,ne_eq,Cells.yy];rintro⟨⟨_,h2⟩,_⟩;dsimp only at h2;lia
  ·rintro k σ H1 hk ⟨v4,v5,ws,rfl,s1,hd1,hc1⟩;have hrl:i-1+k<rs.length:=by lia
   have ecast:((i-1:Nat):Int)+(k:Nat)=((i-1+k:Nat):Int):=by lia
   rw[ecast];generalize hr0:i-1+k=r at *
   obtain⟨t,ht⟩:∃t,rs[r]?=some t:=⟨_,XZ hrl⟩;have htl:t.length<=Xx:=R.tlen ht;have ht8:t.cps.toList.length<=8:=R.short _ (X7 (qV ht));have hat:atI (rs.map V.str) ((r:Nat):Int)=some (V.str t):=je (by rw[XD,ht];rfl);refine⟨_,rfl,ca,_,1,_,rfl,rfl,SqT.of (s1 _ _ hca),rfl,_,_,rfl,rfl,_,_,rfl,_,rfl,ca,_,1,_,rfl,rfl,SqT.of (s1 _ _ hca),rfl,_,_,rfl,rfl,_,rfl,_,rfl,l,_,_,_,rfl,rfl,SqL.of (b.mono s1).rw,hat,t,rfl,htl,_,_,rfl,((j-1:Nat):Int),((min (j+2) t.cps.size:Nat):Int),?_,⟨by lia,by lia,by lia,?_⟩,?_⟩
   ·show [V.int (if (0:Int)>(j:Int)-1 then (0:Int) else (j:Int)-1),V.int (if ((t.cps.size:Nat):Int)<(j:Int)+2 then ((t.cps.size:Nat):Int) else (j:Int)+2)]=_;rw[zfo,zfp]
   ·lia
   have hsz:t.cps.toList.length=t.cps.size:=X5;refine qO (lo:=((j-1:Nat):Int)) (fun m σ H'=>∃(v5:Option V) (ws:List V),σ=[some (.ref p),some (.ref ca),some (.ref l),some (.ref d),some (.int (r:Nat)),v5]/\zq H H'/\H' d=some (.lst ws)/\Cel H' ws ((Cells.zB qj 0 ((codes rs).take r)).filter (fun x=>Cells.near x (i,j))++(Cells.zR qj r 0 (t.cps.toList.take (j-1+m))).filter fun x=>Cells.near x (i,j)))
    ⟨_,ws,rfl,s1,hd1,?_⟩ ?_ ?_
   ·rw[Cells.zki (t:=t.cps.toList),W9]
    ·exact hc1
    ·intro c hc';rw[Xh,ne_eq,Cells.yy];rintro⟨_,⟨_,h2⟩,_⟩;dsimp only at h2;lia
   ·rintro m σ H2 hm ⟨v5,ws2,rfl,s2,hd2,hc2⟩;have hcl:j-1+m<t.cps.size:=by lia
    have ecast2:((j-1:Nat):Int)+(m:Nat)=((j-1+m:Nat):Int):=by lia
    rw[ecast2];generalize hc0:j-1+m=c at *
    have hc0':j-1+(m+1)=c+1:=by lia
    obtain⟨k0,hk0⟩:∃k0,t.cps.toList[c]?=some k0:=⟨_,XZ (by lia)⟩;have step:=Cells.Qm (p:=qj) (i:=r) hk0;have step2:(Cells.zR qj r 0 (t.cps.toList.take (c+1))).filter (fun x=>Cells.near x (i,j))=(Cells.zR qj r 0 (t.cps.toList.take c)).filter (fun x=>Cells.near x (i,j))++(if (qj k0&&Cells.near (r,c) (i,j))=true then [(r,c)] else []):=by
     rw[step,zfq]
    have nr:Cells.near (r,c) (i,j)=!decide ((r,c)=(i,j)):=by
     rw[WV,Cells.yy];simp only[WI,decide_eq_false_iff_not];constructor
     ·exact fun h=>h.2.2
     ·intro h;refine⟨⟨?_,?_⟩,⟨?_,?_⟩,h⟩<;>(try dsimp only)<;>lia
    refine⟨_,rfl,_,rfl,l,_,_,_,rfl,rfl,SqL.of (b.mono s2).rw,hat,_,rfl,t,_,k0,rfl,rfl,htl,je hk0,rfl,_,rfl,?_⟩;have ed:(!decide (V.str ⟨#[k0]⟩=V.str "#"))=qj k0:=by
     rw[JS];simp only[zb4];rfl
    rw[ed];by_cases hp:qj k0=true
    ·refine jT hp ?_;refine⟨_,rfl,_,rfl,yJ,fun tp htp=>?_⟩;have s3:zq H2 (upd H2 tp (.tup [.int (r:Nat),.int (c:Nat)])):=zd htp;have hca3:=s3 _ _ (s2 _ _ hca);refine⟨_,rfl,_,_,yK.rdv (c:=(r,c)) ⟨tp,rfl,zb⟩,yK.rdv (c:=(i,j)) ⟨ca,rfl,hca3⟩,zdm _ _,_,rfl,?_⟩;have ee:(if true=true then !PyData.eqv (zp (r,c)) (zp (i,j)) else WL (zp (r,c)) (zp (i,j)))=Cells.near (r,c) (i,j):=by
      rw[zaD,nr];rfl
     rw[ee];rw[hp,Bool.true_and] at step2;by_cases hn:Cells.near (r,c) (i,j)=true
     ·refine jT hn ?_;rw[if_pos hn] at step2;have hd3:=s3 _ _ hd2;refine⟨_,rfl,.inl ⟨rfl,_,SqL.of hd3⟩,_,rfl,_,rfl,yJ,fun tq htq=>?_⟩;have s4:zq (upd H2 tp (.tup [.int (r:Nat),.int (c:Nat)])) (upd (upd H2 tp (.tup [.int (r:Nat),.int (c:Nat)])) tq (.tup [.int (r:Nat),.int (c:Nat)])):=zd htq;have hlen:ws2.length<=128:=by
       rw[hc2.length,X4];have h1:=Xe (fun x=>Cells.near x (i,j)) (Cells.zB qj 0 ((codes rs).take r));have h2:=Xe (fun x=>Cells.near x (i,j)) (Cells.zR qj r 0 (t.cps.toList.take c));have h3:=Cells.qY qj 0 ((codes rs).take r) fun u hu=>R.short u (V9 hu);have h4:=Cells.jN qj r 0 (t.cps.toList.take c);rw[XM,qW] at h3;rw[XM] at h4;lia
      refine⟨d,_,_,rfl,rfl,s4 _ _ hd3,XG hlen (by decide),?_⟩;refine⟨_,ws2++[.ref tq],rfl,fun b' o e'=>?_,zb,?_⟩
      ·rw[zk (zj e' hd)];exact s4 _ _ (s3 _ _ (s2 _ _ e'))
      ·rw[hc0',step2,<- WX];exact Cel.into d _ (s4 _ _ hd3) (Cel.snoc (Cel.mono s4 (Cel.mono s3 hc2)) ⟨tq,rfl,zb⟩)
     ·have hn':Cells.near (r,c) (i,j)=false:=by simpa using hn
      refine jE hn' ?_;rw[if_neg hn,W9] at step2;refine⟨_,ws2,rfl,s2.trans s3,s3 _ _ hd2,?_⟩;rw[hc0',step2];exact Cel.mono s3 hc2
    ·have hp':qj k0=false:=by simpa using hp
     refine jE hp' ?_;refine QH ?_;rw[hp',PL,if_neg XV,W9] at step2;refine⟨_,ws2,rfl,s2,hd2,?_⟩;rw[hc0',step2];exact hc2
   ·rintro σ H2 ⟨v5,ws2,rfl,s2,hd2,hc2⟩;refine⟨_,_,ws2,rfl,s2,hd2,?_⟩;have full:(Cells.zR qj r 0 (t.cps.toList.take (j-1+(((min (j+2) t.cps.size:Nat):Int)-((j-1:Nat):Int)).toNat))).filter (fun x=>Cells.near x (i,j))=(Cells.zR qj r 0 t.cps.toList).filter fun x=>Cells.near x (i,j):=by
     by_cases hbig:t.cps.size<=j-1+(((min (j+2) t.cps.size:Nat):Int)-((j-1:Nat):Int)).toNat
     ·rw[WE (by lia)]
     ·refine Cells.ziS fun c hc'=>?_;rw[Xh,ne_eq,Cells.yy];rintro⟨_,⟨h2,_⟩,_⟩;dsimp only at h2;lia
    rw[full] at hc2;have e1:i-1+(k+1)=r+1:=by lia
    rw[e1,Cells.Qn (qV ht),WY];exact hc2
  ·rintro σ H1 ⟨v4,v5,ws,rfl,s1,hd1,hc1⟩;have full:(Cells.zB qj 0 ((codes rs).take (i-1+(((min (i+2) rs.length:Nat):Int)-((i-1:Nat):Int)).toNat))).filter (fun x=>Cells.near x (i,j))=zI rs (i,j):=by
    by_cases hbig:rs.length<=i-1+(((min (i+2) rs.length:Nat):Int)-((i-1:Nat):Int)).toNat
    ·rw[WE (by rw[qW];lia)];rfl
    ·refine Cells.ziR fun r c hr'=>?_;rw[Xh,ne_eq,Cells.yy];rintro⟨⟨h2,_⟩,_⟩;dsimp only at h2;lia
   rw[full] at hc1;exact⟨_,rfl,q d ws H1 hd hd1 hc1 s1⟩
theorem yK.rdn {N:Addr->Prop}{H:Hp}{v:V}{c:Nat×Nat}(h:yK H v c):Rdn N H v (zp c):=by
 obtain⟨a,rfl,h⟩:=h;exact .tup h (.cons (.int _) (.cons (.int _) .nil))
theorem Cel.rdn {N:Addr->Prop}{H:Hp}{vs:List V}{cs:List (Nat×Nat)}(hp:Cel H vs cs):zw N H vs (cs.map zp):=by
 induction hp with
 | nil=>exact .nil
 | cons h _ ih =>
  exact .cons (yK.rdn h) ih
theorem Rdn.celR {N:Addr->Prop}{H:Hp}{v:V}{c:Nat×Nat}(h:Rdn N H v (zp c)):yK H v c:=by
 cases h with
 | tup h t =>
  cases t with
  | cons a t =>
   cases a;cases t with
   | cons b t =>
    cases b;cases t;exact⟨_,rfl,h⟩
theorem zw.cel {N:Addr->Prop}{H:Hp}:∀{cs:List (Nat×Nat)} {vs:List V},zw N H vs (cs.map zp)->Cel H vs cs
 | [],_,h=>by cases h;exact .nil
 | c::r,_,h=>by
  cases h with
  | cons a t=>exact .cons (Rdn.celR a) (zw.cel t)
theorem zw.bools {N:Addr->Prop}{H:Hp}:∀{bs:List Bool} {vs:List V},zw N H vs (bs.map Tq)->vs=bs.map V.bl
 | [],_,h=>by cases h;rfl
 | b::r,_,h=>by
  cases h with
  | cons a t =>
   cases a;rw[zw.bools t];rfl
theorem qc {α:Type}(p:α->Bool)(g:α->Wa):∀cs:List α,(cs.map fun x=>if p x=true then some (g x) else none).filterMap id=(cs.filter p).map g
 | []=>rfl
 | c::r=>by
  rw[XB,Vh,WD];by_cases h:p c=true
  ·rw[if_pos h,if_pos h];show g c::_=g c::_;rw[qc p g r]
  ·rw[if_neg h,if_neg h];exact qc p g r
theorem Zt {α:Type}(g:α->Wa):∀cs:List α,(cs.map fun x=>some (g x)).filterMap id=cs.map g
 | []=>rfl
 | c::r=>by
  rw[XB,Vh];show g c::_=g c::_;rw[Zt g r]
theorem jA {α β:Type}{g:α->β}{cs:List α}{i:Nat}{c:α}{o:β}(h:cs[i]?=some c)(ho:(cs.map g)[i]?=some o):o=g c:=by
 rw[XD,h] at ho;exact(Option.some.inj ho).symm
def clA (rs:List Str)(c:Nat×Nat):List (Nat×Nat):=(zI rs c).filter fun x=>decide (Cells.sgn (codes rs) x=63)
def zK (rs:List Str):List (Nat×Nat):=Cells.zB yM 0 (codes rs)
def qf (rs:List Str):List (Nat×Nat):=Cells.zB Q6 0 (codes rs)
def zba (rs:List Str):List (Nat×Nat):=(zK rs).filter fun c=>!((qf rs).map fun o=>(zI rs o).any fun z=>decide (z=c)).any id
def Yd (rs:List Str):List (Nat×Nat):=((qf rs).filter fun o=>(clA rs o).isEmpty).filter fun o=>!decide (Cells.sgn (codes rs) o=48)
theorem jz {p:Nat->Bool}{rs:List Str}(R:Rows bd.cps.toList rs):(Cells.zB p 0 (codes rs)).length<=64:=by
 have h1:=Cells.qY p 0 (codes rs) R.short;have h2:=R.hi;rw[qW] at h1;lia
theorem J9 {rs:List Str}(R:Rows bd.cps.toList rs)(c:Nat×Nat):(zI rs c).length<=64:=XX (Xe _ _) (jz R)
theorem zV {p:Nat->Bool}{rs:List Str}{c:Nat×Nat}(h:c∈Cells.zB p 0 (codes rs)):∃t k,rs[c.1]?=some t/\t.cps.toList[c.2]?=some k/\p k=true/\Cells.sgn (codes rs) c=k:=by
 obtain⟨k0,j,u,k,ec,hk0,hj,hpc⟩:=Cells.yi h;obtain⟨t,ht,rfl⟩:=YN hk0;rw[VC] at ec;subst ec;exact⟨t,k,ht,hj,hpc,Cells.Qo hk0 hj⟩
theorem j9 {rs:List Str}{c:Nat×Nat}{t:Str}{k:Nat}(R:Rows bd.cps.toList rs)(h1:rs[c.1]?=some t)(h2:t.cps.toList[c.2]?=some k):c.1<64/\c.2<64:=by
 have a:=(X0.mp h1).1;have b:=(X0.mp h2).1;have e:=R.hi;have f:=R.short _ (X7 (qV h1));lia
theorem zhH {rs:List Str}{i j:Nat}{t:Str}{k:Nat}(R:Rows bd.cps.toList rs)(h1:rs[i]?=some t)(h2:t.cps.toList[j]?=some k):k∈bd.cps.toList:=by
 obtain⟨n,_,_,h⟩:=R.ex;exact(h t (X7 h1)).mem k (X7 h2)
def zni:Sp:=fun vs H Q _=>∃(p l ca:Addr) (rs:List Str) (n:Int) (c:Nat×Nat),vs=[.ref p,.ref ca]/\qJ H p l rs n/\Rows bd.cps.toList rs/\H ca=some (.tup [.int (c.1:Nat),.int (c.2:Nat)])/\c.1<64/\c.2<64 /\
 ∀(d:Addr) (ws:List V) (H':Hp),H d=none->H' d=some (.lst ws)->Cel H' ws (clA rs c)->zq H H'->Q (.ref d) H'
def znj (g:List Str->List (Nat×Nat)):Sp:=fun vs H Q _=>∃(a l:Addr) (rs:List Str) (n:Int),vs=[.ref a]/\qJ H a l rs n/\Rows bd.cps.toList rs /\
 ∀(d:Addr) (ws:List V) (H':Hp),H d=none->H' d=some (.lst ws)->Cel H' ws (g rs)->zq H H'->Q (.ref d) H'
theorem zaF:zF ["board","cell"] ["board","cell"] (zf qz):=⟨rfl,rfl,rfl,by decide +kernel,rfl,by decide +kernel,by decide +kernel⟩
theorem jP {f1 f2:Addr}{fd1 fd2:Xz}(T:Txt mg)(D:zm K mg "closed_around" qz ["board","cell"] f fd)(zO:zm K mg "around" jw ["board","cell"] f1 fd1)(zv:zm K mg "sign_at" qC ["board","cell"] f2 fd2) :
  qb P w K mg base CX0 2 f fd ["board","cell"] zni:=by
 refine D.F.ok zaF (fun vs H Q E h=>?_) (fun cdv A outer s H vs Q E hr h=>?_)
 ·obtain⟨p,l,ca,rs,n,c,rfl,_⟩:=h;rfl
 ·obtain⟨p,l,ca,rs,n,c,rfl,b,R,hca,ci,cj,q⟩:=h;refine⟨_,(zh (zH (z9 (N:=["place","board"]) (src:=[none,some 0]) (zP.free (O:=(zf qz).names) (XN:=["board","cell"]) rfl rfl ⟨_,rfl⟩ rfl rfl (by decide +kernel) (by decide +kernel) (by decide +kernel) rfl (by decide +kernel)) rfl (zJ (pc0 (YO T zO) hr zO (za (pvS 0) (za (pvS 1) zc)))) (fun _ _ _ _ _=>(zo (i:=0) (by show W7 (["place","board"]:List Str);decide +kernel) rfl (XE rfl))) (fun _ _ _ _ _=>(qE (qt Zc (pc0 (ZW zv) hr zv (za (pvS 1) (za (pvS 0) zc))) (xY (v:=.str "?") (by rfl) T.J8.choose_spec (by exact⟨_,rfl⟩)) (qa _)))) (fun _ _ _ _ _=>(pvS 0))))),?_⟩;refine⟨_,rfl,_,rfl,p,l,ca,rs,n,c.1,c.2,rfl,b,R,hca,ci,cj,fun d ws H1 hd hd1 hc1 s1=>⟨d,rfl,⟨_,SqL.of hd1⟩,fun z hz=>?_⟩⟩;refine qk (K:=K) (a:=d) (xs:=ws) (fun a=>a≠z) ((zI rs c).map fun x=>if decide (Cells.sgn (codes rs) x=63)=true then some (zp x) else none) (fun σ=>∃u0,σ=[u0,some (.ref p)]) hz (fun _ h=>h) ⟨_,rfl⟩ (by rw[Y1];exact hc1.length.symm) (by rw[hc1.length];exact XX (J9 R c) (by decide)) (SqL.of hd1) ?_ ?_
  ·rintro k x o σ H2 hx ho s2 _ ⟨u0,rfl⟩ Y Z yes no;obtain⟨y,hy,r1⟩:=Cel.get hc1 hx;have eo:=jA hy ho;obtain⟨t,sg,ht,hj,_,es⟩:=zV (X9.mp (X7 hy)).1;obtain⟨ya,rfl,hya⟩:=r1;refine⟨_,rfl,_,rfl,p,l,ya,rs,n,y.1,y.2,t,sg,rfl,(b.mono s1).mono s2,s2 _ _ hya,ht,hj,R.tlen ht,rfl,_,rfl,?_⟩;have ed:decide (V.str ⟨#[sg]⟩=V.str "?")=decide (sg=63):=by
    rw[zgG];simp only[zb4]
   rw[ed];rw[es] at eo;by_cases hp:sg=63
   ·rw[decide_eq_true hp];rw[if_pos (decide_eq_true hp)] at eo;exact QI ⟨_,rfl,yes _ _ _ _ eo ⟨_,rfl⟩ (zq.refl _) (yK.rdn ⟨ya,rfl,s2 _ _ hya⟩)⟩
   ·rw[decide_eq_false hp];rw[if_neg (by rw[decide_eq_false hp];exact XV)] at eo;exact QH (no _ _ eo ⟨_,rfl⟩ (zq.refl _))
  ·rintro ys H2 s2 hz2 hr2;rw[qc] at hr2;exact q z ys H2 (s1.free hz) hz2 (zw.cel hr2) (s1.trans s2)
theorem YZ (cs:List (Nat×Nat)):UQ (cs.map zp)=true:=by
 induction cs with
 | nil=>rfl
 | cons c r ih =>
  show (Uz (zp c)&&UQ (r.map zp))=true;rw[ih];rfl
theorem zb5 (cs:List (Nat×Nat)):UU (cs.map zp)<=1:=by
 induction cs with
 | nil=>exact WZ _
 | cons c r ih =>
  show max (PyData.depth (zp c)) (UU (r.map zp))<=1;have:PyData.depth (zp c)=1:=rfl;lia
theorem zee (cs ds:List (Nat×Nat)):zlK (.list (cs.map zp)) (.list (ds.map zp)):=⟨YZ cs,YZ ds,by
 show UU (cs.map zp)+1<=64;have:=zb5 cs;lia⟩
theorem xK (cs:List (Nat×Nat))(c:Nat×Nat):(cs.map zp).any (fun z=>WL z (zp c))=cs.any fun z=>decide (z=c):=by
 rw[T3];congr 1;funext z;exact zaD z c
theorem eq_nil (cs:List (Nat×Nat)):WL (.list (cs.map zp)) (.list [])=cs.isEmpty:=by
 cases cs<;>rfl
theorem zkz:zF ["board","told"] ["board"] (zf zfm):=⟨rfl,rfl,rfl,by decide +kernel,rfl,by decide +kernel,by decide +kernel⟩
theorem zor {f1 f2 f3 f4 f5:Addr}{fd1 fd2 fd3 fd4 fd5:Xz}(T:Txt mg)(D:zm K mg "far" zfm ["board"] f fd)(zO:zm K mg "around" jw ["board","cell"] f1 fd1)(zv:zm K mg "sign_at" qC ["board","cell"] f2 fd2)
  (zD:zm K mg "cells_of" qy ["board"] f3 fd3) (yD:zm K mg "closed" Jy ["board"] f4 fd4) (zC:zm K mg "open_cells" qx ["board"] f5 fd5):qb P w K mg base CX0 3 f fd ["board"] (znj zba):=by
 refine D.F.ok zkz (fun vs H Q E h=>?_) (fun cdv A outer s H vs Q E hr h=>?_)
 ·obtain⟨a,l,rs,n,rfl,_⟩:=h;rfl
 ·obtain⟨a,l,rs,n,rfl,b,R,q⟩:=h;refine⟨_,(ze (zz (i:=1) zkz.nd rfl (Vp rfl) (z9 (N:=["cell","board"]) (src:=[none,some 0]) (zP.free (O:=(zf zfm).names) (XN:=["board","told"]) rfl rfl ⟨_,rfl⟩ rfl rfl (by decide +kernel) (by decide +kernel) (by decide +kernel) rfl (by decide +kernel)) rfl (zJ (pc0 (jX T zC zD zv) hr zC (za (pvS 0) zc))) (fun _ _ _ _ _=>(zo (i:=0) (by show W7 (["cell","board"]:List Str);decide +kernel) rfl (XE rfl))) (fun _ _ _ _ _=>qo) (fun _ _ _ _ _=>(pc0 (YO T zO) hr zO (za (pvS 1) (za (pvS 0) zc)))))) (zh (zH (zeS (N:=["cell","told"]) (src:=[none,some 1]) (JR.byRfl (y:="cell") rfl (fun _ _=>rfl) (fun _=>rfl) (by decide +kernel) (by decide +kernel) (by rfl) rfl (by rfl)) rfl (zJ (pc0 (zdn T yD zD zv) hr yD (za (pvS 0) zc))) (fun _ _ _ _ _=>(zo (i:=0) (by show W7 (["cell","told"]:List Str);decide +kernel) rfl (Vp rfl))) (fun _ _ _ _ _=>(qE (zf7 (YI (K:=K) (by rfl) (zu (zc0 (K:=K) (by rfl) (by rfl)) (by rfl) T.zhG Uf (za (z9 (N:=["near","cell"]) (src:=[none,some 0]) (zP.byRfl rfl (by decide +kernel) (by decide +kernel) (by rfl) rfl (by rfl)) (by rfl) (zeT (K:=K) (by rfl) (pvS 1)) (fun _ _ _ _ _=>(zo (i:=0) (by show W7 (["near","cell"]:List Str);decide +kernel) rfl (XE rfl))) (fun _ _ _ _ _=>qo) (fun _ _ _ _ _=>(xZ (jH (K:=K) (by rfl) hr.units) (pvS 1) (pvS 0) (by rfl)))) zc)) (fun _=>rfl))))) (fun _ _ _ _ _=>(pvS 0)))))),?_⟩;refine⟨_,rfl,a,l,rs,n,rfl,b,R,fun d ws H1 hd hd1 hc1 s1=>⟨d,rfl,⟨_,SqL.of hd1⟩,fun z hz=>?_⟩⟩;have b1:=b.mono s1;refine qk (K:=K) (a:=d) (xs:=ws) (fun a=>a≠z) ((qf rs).map fun o=>some (.list ((zI rs o).map zp))) (fun σ=>∃u0,σ=[u0,some (.ref a)]) hz (fun _ h=>h) ⟨_,rfl⟩ (by rw[Y1];exact hc1.length.symm) (by rw[hc1.length];exact XX (jz R) (by decide)) (SqL.of hd1) ?_ ?_
  ·rintro k x o σ H2 hx ho s2 hzn ⟨u0,rfl⟩ Y Z yes no;obtain⟨y,hy,r1⟩:=Cel.get hc1 hx;have eo:=jA hy ho;obtain⟨t,sg,ht,hj,_,es⟩:=zV (X7 hy);obtain⟨ya,rfl,hya⟩:=r1;obtain⟨l1,l2⟩:=j9 R ht hj;refine x6 ⟨_,rfl,_,rfl,a,l,ya,rs,n,y.1,y.2,rfl,b1.mono s2,R,s2 _ _ hya,l1,l2,fun d2 ws2 H3 hd2 hd3 hc2 s3=>?_⟩;refine yes _ _ _ _ eo ⟨_,rfl⟩ s3 (.lst (fun e=>hzn (e ▸ hd2)) hd3 (Cel.rdn hc2))
  ·rintro ys H2 s2 hz2 hr2;rw[Zt] at hr2;have b2:=b1.mono s2;refine⟨_,rfl,a,l,rs,n,rfl,b2,R,fun d3 ws3 H3 hd3 hd4 hc3 s3=>⟨d3,rfl,⟨_,SqL.of hd4⟩,fun z3 hz3=>?_⟩⟩;have hz4:=s3 _ _ hz2;have hr3:=hr2.keep s3;refine qk (K:=K) (a:=d3) (xs:=ws3) (fun a=>a≠z3) ((zK rs).map fun c=>if (!((qf rs).map fun o=>(zI rs o).any fun z=>decide (z=c)).any id)=true then some (zp c) else none) (fun σ=>∃u0,σ=[u0,some (.ref z)]) hz3 (fun _ h=>h) ⟨_,rfl⟩ (by rw[Y1];exact hc3.length.symm) (by rw[hc3.length];exact XX (jz R) (by decide)) (SqL.of hd4) ?_ ?_
   ·rintro k x o σ H4 hx ho s4 _ ⟨u0,rfl⟩ Y Z yes no;obtain⟨y,hy,r1⟩:=Cel.get hc3 hx;have eo:=jA hy ho;have r2:yK H4 x y:=by
     obtain⟨ya,e,hya⟩:=r1;exact⟨ya,e,s4 _ _ hya⟩
    refine⟨_,rfl,z,rfl,⟨_,SqL.of (s4 _ _ hz4)⟩,fun z5 hz5=>?_⟩;have hyl:ys.length=(qf rs).length:=by rw[hr2.length,Y1]
    refine qk (K:=K) (a:=z) (xs:=ys) (fun a=>a≠z5) ((qf rs).map fun o=>some (.bool ((zI rs o).any fun z=>decide (z=y)))) (fun σ=>∃u0,σ=[u0,some x]) hz5 (fun _ h=>h) ⟨_,rfl⟩ (by rw[Y1];exact hyl.symm) (by rw[hyl];exact XX (jz R) (by decide)) (SqL.of (s4 _ _ hz4)) ?_ ?_
    ·rintro m v o2 σ H5 hv ho2 s5 _ ⟨u1,rfl⟩ Y2 Z2 yes2 no2;obtain⟨dv,hdv,rv⟩:=hr3.get hv;rw[XD] at hdv;cases eoc:(qf rs)[m]? with
     | none=>rw[eoc] at hdv;cases hdv
     | some oc =>
      rw[eoc] at hdv;cases hdv;have eo2:=jA eoc ho2;have r3:yK H5 x y:=by
       obtain⟨ya,e,hya⟩:=r2;exact⟨ya,e,s5 _ _ hya⟩
      refine x6 ⟨_,rfl,_,rfl,zp y,(zI rs oc).map zp,r3.rdv,(((rv.keep s4).keep s5).rdv),rfl,YZ _,(by show 1<=60;decide),?_⟩;have ei:(if false=true then !((zI rs oc).map zp).any (fun z=>WL z (zp y)) else ((zI rs oc).map zp).any fun z=>WL z (zp y))=(zI rs oc).any fun z=>decide (z=y):=xK _ _;rw[ei];exact yes2 _ _ _ _ eo2 ⟨_,rfl⟩ (zq.refl _) (.bl _)
    ·rintro ys5 H5 s5 hz6 hr5;rw[Zt,show ((qf rs).map fun o=>Tq ((zI rs o).any fun z=>decide (z=y)))=((qf rs).map fun o=>(zI rs o).any fun z=>decide (z=y)).map Tq by rw[Ws];rfl] at hr5;rw[zw.bools hr5] at hz6;refine⟨z5,_,rfl,SqL.of hz6,_,rfl,?_⟩;by_cases hp:(!((qf rs).map fun o=>(zI rs o).any fun z=>decide (z=y)).any id)=true
     ·rw[if_pos hp] at eo;refine jT hp ⟨_,rfl,yes _ _ _ _ eo ⟨_,rfl⟩ s5 (yK.rdn ?_)⟩;obtain⟨ya,e,hya⟩:=r2;exact⟨ya,e,s5 _ _ hya⟩
     ·rw[if_neg hp] at eo;exact jE (by simpa using hp) (no _ _ eo ⟨_,rfl⟩ s5)
   ·rintro ys4 H4 s4 hz6 hr4;rw[qc] at hr4;exact q z3 ys4 H4 (s1.free (s2.free (s3.free hz3))) hz6 (zw.cel hr4) (((s1.trans s2).trans s3).trans s4)
theorem Y9:zF ["board","bare"] ["board"] (zf jO):=⟨rfl,rfl,rfl,by decide +kernel,rfl,by decide +kernel,by decide +kernel⟩
theorem zcJ {f1 f2 f3 f4 f5 f6:Addr}{fd1 fd2 fd3 fd4 fd5 fd6:Xz}(T:Txt mg)(D:zm K mg "bare_wrong" jO ["board"] f fd)(zO:zm K mg "around" jw ["board","cell"] f1 fd1)(zv:zm K mg "sign_at" qC ["board","cell"] f2 fd2)
  (zD:zm K mg "cells_of" qy ["board"] f3 fd3) (zG:zm K mg "closed_around" qz ["board","cell"] f4 fd4) (zC:zm K mg "open_cells" qx ["board"] f5 fd5) (zY:zm K mg "number_at" jn ["board","cell"] f6 fd6):qb P w K mg base CX0 3 f fd ["board"] (znj Yd):=by
 refine D.F.ok Y9 (fun vs H Q E h=>?_) (fun cdv A outer s H vs Q E hr h=>?_)
 ·obtain⟨a,l,rs,n,rfl,_⟩:=h;rfl
 ·obtain⟨a,l,rs,n,rfl,b,R,q⟩:=h;refine⟨_,(ze (JQ (i:=1) Y9.nd rfl rfl (N:=["cell","board"]) (src:=[none,some 0]) (zP.free (O:=(zf jO).names) (XN:=["board","bare"]) rfl rfl ⟨_,rfl⟩ rfl rfl (by decide +kernel) (by decide +kernel) (by decide +kernel) rfl (by decide +kernel)) rfl (zJ (pc0 (jX T zC zD zv) hr zC (za (pvS 0) zc))) (fun _ _ _ _ _=>(zo (i:=0) (by show W7 (["cell","board"]:List Str);decide +kernel) rfl (XE rfl))) (fun _ _ _ _ _=>(qE (qt (zeM (K:=K) (by rfl) hr.units) (pc0 (jP T zG zO zv) hr zG (za (pvS 1) (za (pvS 0) zc))) (@qd _ _ _ _ zc) (qa _)))) (fun _ _ _ _ _=>(pvS 0))) (zh (zH (z9 (N:=["cell","board"]) (src:=[none,some 0]) (zP.free (O:=(zf jO).names) (XN:=["board","bare"]) rfl rfl ⟨_,rfl⟩ rfl rfl (by decide +kernel) (by decide +kernel) (by decide +kernel) rfl (by decide +kernel)) rfl (zJ (pvS 1)) (fun _ _ _ _ _=>(zo (i:=0) (by show W7 (["cell","board"]:List Str);decide +kernel) rfl (XE rfl))) (fun _ _ _ _ _=>(qE (qt zhh (pc0 (ZX T zY zv) hr zY (za (pvS 1) (za (pvS 0) zc))) zg (qa _)))) (fun _ _ _ _ _=>(pvS 0)))))),?_⟩;refine⟨_,rfl,a,l,rs,n,rfl,b,R,fun d ws H1 hd hd1 hc1 s1=>⟨d,rfl,⟨_,SqL.of hd1⟩,fun z hz=>?_⟩⟩;have b1:=b.mono s1;refine qk (K:=K) (a:=d) (xs:=ws) (fun a=>a≠z) ((qf rs).map fun o=>if (clA rs o).isEmpty=true then some (zp o) else none) (fun σ=>∃u0,σ=[u0,some (.ref a)]) hz (fun _ h=>h) ⟨_,rfl⟩ (by rw[Y1];exact hc1.length.symm) (by rw[hc1.length];exact XX (jz R) (by decide)) (SqL.of hd1) ?_ ?_
  ·rintro k x o σ H2 hx ho s2 hzn ⟨u0,rfl⟩ Y Z yes no;obtain⟨y,hy,r1⟩:=Cel.get hc1 hx;have eo:=jA hy ho;obtain⟨t,sg,ht,hj,_,es⟩:=zV (X7 hy);obtain⟨ya,rfl,hya⟩:=r1;obtain⟨l1,l2⟩:=j9 R ht hj;refine⟨_,rfl,_,rfl,a,l,ya,rs,n,y,rfl,b1.mono s2,R,s2 _ _ hya,l1,l2,fun d2 ws2 H3 hd2 hd3 hc2 s3=>⟨Jw,fun e he=>?_⟩⟩;have s4:=zd (o:=.lst []) he;refine⟨.list ((clA rs y).map zp),.list [],.lst (SqL.of (s4 _ _ hd3)) (zw.rdv (N:=fun _=>True) (Cel.rdn (Cel.mono s4 hc2))),.lst (SqL.of zb) .nil,zee _ [],_,rfl,?_⟩;have ee:(if false=true then !PyData.eqv (.list ((clA rs y).map zp)) (.list []) else WL (.list ((clA rs y).map zp)) (.list []))=(clA rs y).isEmpty:=eq_nil _;rw[ee];by_cases hp:(clA rs y).isEmpty=true
   ·rw[if_pos hp] at eo;exact jT hp ⟨_,rfl,yes _ _ _ _ eo ⟨_,rfl⟩ (s3.trans s4) (yK.rdn ⟨ya,rfl,s4 _ _ (s3 _ _ (s2 _ _ hya))⟩)⟩
   ·rw[if_neg hp] at eo;exact jE (by simpa using hp) (no _ _ eo ⟨_,rfl⟩ (s3.trans s4))
  ·rintro ys H2 s2 hz2 hr2;rw[qc] at hr2;have hc2:=zw.cel hr2;have b2:=b1.mono s2;refine⟨_,rfl,z,rfl,⟨_,SqL.of hz2⟩,fun z3 hz3=>?_⟩;refine qk (K:=K) (a:=z) (xs:=ys) (fun a=>a≠z3) (((qf rs).filter fun o=>(clA rs o).isEmpty).map fun o=>if (!decide (Cells.sgn (codes rs) o=48))=true then some (zp o) else none) (fun σ=>∃u0,σ=[u0,some (.ref a)]) hz3 (fun _ h=>h) ⟨_,rfl⟩ (by rw[Y1];exact hc2.length.symm) (by rw[hc2.length];exact XX (Xe _ _) (XX (jz R) (by decide))) (SqL.of hz2) ?_ ?_
   ·rintro k x o σ H4 hx ho s4 _ ⟨u0,rfl⟩ Y Z yes no;obtain⟨y,hy,r1⟩:=Cel.get hc2 hx;have eo:=jA hy ho;obtain⟨t,sg,ht,hj,hpo,es⟩:=zV (X9.mp (X7 hy)).1;obtain⟨ya,rfl,hya⟩:=r1;obtain⟨k1,k2⟩:=zaE (zhH R ht hj) hpo;refine⟨_,rfl,_,rfl,a,l,ya,rs,n,y.1,y.2,t,sg,rfl,b2.mono s4,s4 _ _ hya,ht,hj,R.tlen ht,k1,k2,rfl,_,rfl,?_⟩;have ed:(!decide (V.int ((sg:Int)-48)=V.int 0))=!decide (Cells.sgn (codes rs) y=48):=by
     rw[es,zdO];congr 1;by_cases h:sg=48
     ·rw[decide_eq_true h,h];rfl
     ·rw[decide_eq_false h];simp only[beq_eq_false_iff_ne,ne_eq];lia
    rw[ed];by_cases hp:(!decide (Cells.sgn (codes rs) y=48))=true
    ·rw[if_pos hp] at eo;exact jT hp ⟨_,rfl,yes _ _ _ _ eo ⟨_,rfl⟩ (zq.refl _) (yK.rdn ⟨ya,rfl,s4 _ _ hya⟩)⟩
    ·rw[if_neg hp] at eo;exact jE (by simpa using hp) (no _ _ eo ⟨_,rfl⟩ (zq.refl _))
   ·rintro ys4 H4 s4 hz6 hr4;rw[qc] at hr4;exact q z3 ys4 H4 (s1.free (s2.free hz3)) hz6 (zw.cel hr4) ((s1.trans s2).trans s4)
theorem zkA {K:XT}{H:Hp}{vs:List V}{cs:List (Nat×Nat)}(hp:Cel H vs cs):J7 K H vs (cs.map zp):=by
 induction hp with
 | nil=>exact .nil
 | cons h _ ih =>
  exact .cons (yK.rdv h) ih
def toI (c:Nat×Nat):Int×Int:=(((c.1:Nat):Int),((c.2:Nat):Int))
def ofI (p:Int×Int):Nat×Nat:=(p.1.toNat,p.2.toNat)
theorem zhI (c:Nat×Nat):ofI (toI c)=c:=rfl
theorem zms {c d:Nat×Nat}(h:toI c=toI d):c=d:=by rw[<- zhI c,h,zhI]
theorem zhJ {c d:Nat×Nat}:lt2 (toI c) (toI d)=true↔Cells.lex c d:=by
 obtain⟨a,b⟩:=c;obtain⟨x,y⟩:=d;unfold lt2 Cells.lex;show (if ((a:Nat):Int)=((x:Nat):Int) then decide (((b:Nat):Int)<((y:Nat):Int)) else decide (((a:Nat):Int)<((x:Nat):Int)))=true↔a<x\/(a=x/\b<y);by_cases e:a=x
 ·rw[if_pos (by lia),decide_eq_true_eq];lia
 ·rw[if_neg (by lia),decide_eq_true_eq];lia
theorem Cel.tup2 {H:Hp}{vs:List V}{cs:List (Nat×Nat)}(hp:Cel H vs cs):yI H vs (cs.map toI):=by
 induction hp with
 | nil=>exact .nil
 | cons q _ ih =>
  obtain⟨a,e,h⟩:=q;exact .cons ⟨a,e,h⟩ ih
theorem qL {H:Hp}:∀{cs:List (Nat×Nat)} {vs:List V},yI H vs (cs.map toI)->Cel H vs cs
 | [],_,.nil=>.nil
 | _::_,_,.cons ⟨a,e,h⟩ t=>.cons ⟨a,e,h⟩ (qL t)
theorem ZY {ps:List (Int×Int)}{cs:List (Nat×Nat)}(h:ps.Perm (cs.map toI)):∃ds:List (Nat×Nat),ps=ds.map toI/\ds.Perm cs:=by
 refine⟨ps.map ofI,?_,?_⟩
 ·rw[Ws];refine(Tp ps).symm.trans (Xb fun p hp=>?_);obtain⟨c,_,rfl⟩:=XQ.mp (h.mem_iff.mp hp);rfl
 ·have:=h.map ofI;rw[Ws] at this;have e:cs.map (ofI∘toI)=cs:=(Xb fun c _=>zhI c).trans (Tp cs);rwa [e] at this
theorem zos {cs:List (Nat×Nat)}(h:Up2 (cs.map toI)):cs.Pairwise Cells.lex:=by
 unfold Up2 at h;rw[Wm] at h;exact h.imp fun z=>zhJ.mp z
theorem ql {cs:List (Nat×Nat)}(h:cs.Pairwise Cells.lex):cs.Nodup:=h.imp fun {a b} z e=>by
 subst e;unfold Cells.lex at z;lia
def zi1 (H:Hp)(v:V)(g:List (Nat×Nat)):Prop:=∃a us,v=V.ref a/\H a=some (.lst us)/\Cel H us g
def xM (H:Hp):List V->List (List (Nat×Nat))->Prop:=Xj (zi1 H)
theorem zi1.mono {H H':Hp}{v:V}{g:List (Nat×Nat)}(s:zq H H')(h:zi1 H v g):zi1 H' v g:=by
 obtain⟨a,us,e,h1,h2⟩:=h;exact⟨a,us,e,s _ _ h1,h2.mono s⟩
theorem xM.mono {H H':Hp}(s:zq H H'){vs:List V}{gs:List (List (Nat×Nat))}(hp:xM H vs gs):xM H' vs gs:=by
 induction hp with
 | nil=>exact .nil
 | cons h _ ih =>
  exact .cons (h.mono s) ih
theorem xM.get {H:Hp}:∀{vs:List V} {gs:List (List (Nat×Nat))} {i:Nat} {v:V},xM H vs gs->vs[i]?=some v->∃g,gs[i]?=some g/\zi1 H v g
 | _,_,_,_,.nil,e=>by simp at e
 | _,_,0,_,.cons r _,e=>by
  simp at e;subst e;exact⟨_,rfl,r⟩
 | _,_,i+1,v,.cons _ t,e=>by
  obtain⟨c,h1,h2⟩:=xM.get (i:=i) (v:=v) t (by simpa using e);exact⟨c,by simpa using h1,h2⟩
theorem xM.length {H:Hp}{vs:List V}{gs:List (List (Nat×Nat))}(h:xM H vs gs):vs.length=gs.length:=Paired.length h
theorem xM.snoc {H:Hp}{vs:List V}{gs:List (List (Nat×Nat))}{v:V}{g:List (Nat×Nat)}(h:xM H vs gs)(x:zi1 H v g):xM H (vs++[v]) (gs++[g]):=Paired.snoc h x
def lD (g:List (Nat×Nat)):Wa:=.list (g.map zp)
theorem zdo {p q:Nat->Bool}(h:∀c,p c=true->q c=false)(i:Nat):∀(j:Nat) (t:List Nat),(Cells.zR p i j t).length+(Cells.zR q i j t).length<=t.length
 | _,[]=>XU _
 | j,c::r=>by
  have ih:=zdo h i (j+1) r;rw[Cells.zR,Cells.zR,X4,X4,Xm];by_cases hp:p c=true
  ·rw[if_pos hp,if_neg (by rw[h c hp];exact XV)];simp only[Xm,Vi];lia
  ·rw[if_neg hp];split<;>simp only[Xm,Vi]<;>lia
theorem zdp {p q:Nat->Bool}(h:∀c,p c=true->q c=false):∀(i:Nat) (rs:List (List Nat)),(∀t∈rs,t.length<=8)->(Cells.zB p i rs).length+(Cells.zB q i rs).length<=8*rs.length
 | _,[],_=>XU _
 | i,t::r,ht=>by
  have ih:=zdp h (i+1) r fun u hu=>ht u (XR _ hu);have h1:=zdo h i 0 t;have h2:=ht t XW;rw[Cells.zB,Cells.zB,X4,X4,Xm];lia
theorem zdq {rs:List Str}(R:Rows bd.cps.toList rs):(qf rs).length+(zK rs).length<=64:=by
 have:=zdp (p:=Q6) (q:=yM) (fun c hc=>by
  unfold Q6 at hc;rw[Wo,WI] at hc;exact hc.2) 0 (codes rs) R.short
 have h2:=R.hi;rw[qW] at this;unfold qf zK;lia
theorem Q7 {p:Nat->Bool}{i:Nat}:∀{j m:Nat} {t:List Nat} {c:Nat},t[m]?=some c->p c=true->(i,j+m)∈Cells.zR p i j t
 | j,m,[],c,h,_=>by simp at h
 | j,0,d::r,c,h,hp=>by
  have e:d=c:=by simpa using h
  subst e;rw[Cells.zR,if_pos hp];exact W6 _ XW
 | j,m+1,d::r,c,h,hp=>by
  rw[Cells.zR];refine Xy _ ?_;have:=Q7 (i:=i) (j:=j+1) (m:=m) (t:=r) (c:=c) (by simpa using h) hp;rwa [show j+1+m=j+(m+1) by lia] at this
theorem Jb {p:Nat->Bool}:∀{i m:Nat} {rs:List (List Nat)} {t:List Nat} {j c:Nat},rs[m]?=some t->t[j]?=some c->p c=true->(i+m,j)∈Cells.zB p i rs
 | i,m,[],t,j,c,h,_,_=>by simp at h
 | i,0,d::r,t,j,c,h,hj,hp=>by
  have e:d=t:=by simpa using h
  subst e;rw[Cells.zB];refine W6 _ ?_;have:=Q7 (i:=i) (j:=0) hj hp;rwa [show 0+j=j by lia] at this
 | i,m+1,d::r,t,j,c,h,hj,hp=>by
  rw[Cells.zB];refine Xy _ ?_;have:=Jb (i:=i+1) (m:=m) (rs:=r) (t:=t) (j:=j) (c:=c) (by simpa using h) hj hp;rwa [show i+1+m=i+(m+1) by lia] at this
theorem Zu (rs:List Str)(c:Nat×Nat):(clA rs c).Nodup:=((ql (Cells.Jh _ 0 (codes rs))).sublist Xa).sublist Xa
theorem jY {rs:List Str}{c x:Nat×Nat}(h:x∈clA rs c):x∈zK rs:=by
 unfold clA at h;obtain⟨h1,h2⟩:=X9.mp h;obtain⟨t,k,ht,hj,_,es⟩:=zV (X9.mp h1).1;have e63:k=63:=by
  have:=of_decide_eq_true h2;lia
 subst e63;have:=Jb (p:=yM) (i:=0) (qV ht) hj (by decide);rwa [VC] at this
def heads (gs:List (List (Nat×Nat))):List (Int×Int):=gs.map fun g=>toI (g.headD (0,0))
theorem head_mem {g:List (Nat×Nat)}(h:g ≠ []):g.headD (0,0)∈g:=by
 cases g with
 | nil=>exact absurd rfl h
 | cons a r=>exact XW
theorem zaX:∀{gs:List (List (Nat×Nat))},(∀g∈gs,g ≠ [])->gs.flatten.Nodup->(heads gs).Nodup
 | [],_,_=>VA
 | g::r,h,nd=>by
  rw[V0,WN] at nd;obtain⟨_,h2,h3⟩:=nd;unfold heads;rw[XB,Wg];refine⟨fun hm=>?_,zaX (fun x hx=>h x (XR _ hx)) h2⟩;obtain⟨g2,hg2,e⟩:=XQ.mp hm;have e':=zms e;have m1:=head_mem (h g XW);have m2:=head_mem (h g2 (XR _ hg2));rw[e'] at m2;exact h3 _ m1 _ (Wf.mpr ⟨g2,hg2,m2⟩) rfl
def JD (rs:List Str)(part:List (Nat×Nat)):List (Nat×Nat):=(qf rs).filter fun o=>((zI rs o).map fun z=>part.any fun x=>decide (x=z)).any id
def zot:Sp:=fun vs H Q _=>∃(a l pa:Addr) (rs:List Str) (n:Int) (ps:List V) (part:List (Nat×Nat)),vs=[.ref a,.ref pa]/\qJ H a l rs n/\Rows bd.cps.toList rs/\H pa=some (.lst ps)/\Cel H ps part /\
 ∀(d:Addr) (ws:List V) (H':Hp),H d=none->H' d=some (.lst ws)->Cel H' ws (JD rs part)->zq H H'->Q (.ref d) H'
theorem zcK:zF ["board","part"] ["board","part"] (zf jo):=⟨rfl,rfl,rfl,by decide +kernel,rfl,by decide +kernel,by decide +kernel⟩
theorem zcL {f1 f2 f3 f5:Addr}{fd1 fd2 fd3 fd5:Xz}(T:Txt mg)(D:zm K mg "numbers_of" jo ["board","part"] f fd)(zO:zm K mg "around" jw ["board","cell"] f1 fd1)(zv:zm K mg "sign_at" qC ["board","cell"] f2 fd2)
  (zD:zm K mg "cells_of" qy ["board"] f3 fd3) (zC:zm K mg "open_cells" qx ["board"] f5 fd5):qb P w K mg base CX0 3 f fd ["board","part"] zot:=by
 refine D.F.ok zcK (fun vs H Q E h=>?_) (fun cdv A outer s H vs Q E hr h=>?_)
 ·obtain⟨a,l,pa,rs,n,ps,part,rfl,_⟩:=h;rfl
 ·obtain⟨a,l,pa,rs,n,ps,part,rfl,b,R,hpa,hpt,q⟩:=h;refine⟨_,(zh (zH (z9 (N:=["cell","part","board"]) (src:=[none,some 1,some 0]) (zP.free (O:=(zf jo).names) (XN:=["board","part"]) rfl rfl ⟨_,rfl⟩ rfl rfl (by decide +kernel) (by decide +kernel) (by decide +kernel) rfl (by decide +kernel)) rfl (zJ (pc0 (jX T zC zD zv) hr zC (za (pvS 0) zc))) (fun _ _ _ _ _=>(zo (i:=0) (by show W7 (["cell","part","board"]:List Str);decide +kernel) rfl (XE rfl))) (fun _ _ _ _ _=>(qE (YI (K:=K) (by rfl) (zu (zc0 (K:=K) (by rfl) (by rfl)) (by rfl) T.zhG Uf (za (z9 (N:=["place","part"]) (src:=[none,some 1]) (zP.byRfl rfl (by decide +kernel) (by decide +kernel) (by rfl) rfl (by rfl)) (by rfl) (zeT (K:=K) (by rfl) (pc0 (YO T zO) hr zO (za (pvS 2) (za (pvS 0) zc)))) (fun _ _ _ _ _=>(zo (i:=0) (by show W7 (["place","part"]:List Str);decide +kernel) rfl (XE rfl))) (fun _ _ _ _ _=>qo) (fun _ _ _ _ _=>(xZ (jH (K:=K) (by rfl) hr.units) (pvS 0) (pvS 1) (by rfl)))) zc)) (fun _=>rfl)))) (fun _ _ _ _ _=>(pvS 0))))),?_⟩;refine⟨_,rfl,a,l,rs,n,rfl,b,R,fun d ws H1 hd hd1 hc1 s1=>⟨d,rfl,⟨_,SqL.of hd1⟩,fun z hz=>?_⟩⟩;have b1:=b.mono s1;refine qk (K:=K) (a:=d) (xs:=ws) (fun a=>a≠z) ((qf rs).map fun o=>if (((zI rs o).map fun z=>part.any fun x=>decide (x=z)).any id)=true then some (zp o) else none) (fun σ=>∃u0,σ=[u0,some (.ref pa),some (.ref a)]) hz (fun _ h=>h) ⟨_,rfl⟩ (by rw[Y1];exact hc1.length.symm) (by rw[hc1.length];exact XX (jz R) (by decide)) (SqL.of hd1) ?_ ?_
  ·rintro k x o σ H2 hx ho s2 hzn ⟨u0,rfl⟩ Y Z yes no;obtain⟨y,hy,r1⟩:=Cel.get hc1 hx;have eo:=jA hy ho;obtain⟨t,sg,ht,hj,_,es⟩:=zV (X7 hy);obtain⟨ya,rfl,hya⟩:=r1;obtain⟨l1,l2⟩:=j9 R ht hj;refine⟨_,rfl,_,rfl,a,l,ya,rs,n,y.1,y.2,rfl,b1.mono s2,R,s2 _ _ hya,l1,l2,fun d2 ws2 H3 hd2 hd3 hc2 s3=>⟨d2,rfl,⟨_,SqL.of hd3⟩,fun z5 hz5=>?_⟩⟩;refine qk (K:=K) (a:=d2) (xs:=ws2) (fun a=>a≠z5) ((zI rs y).map fun c=>some (.bool (part.any fun x=>decide (x=c)))) (fun σ=>∃u0,σ=[u0,some (.ref pa)]) hz5 (fun _ h=>h) ⟨_,rfl⟩ (by rw[Y1];exact hc2.length.symm) (by rw[hc2.length];exact XX (J9 R y) (by decide)) (SqL.of hd3) ?_ ?_
   ·rintro m v o2 σ H5 hv ho2 s5 _ ⟨u1,rfl⟩ Y2 Z2 yes2 no2;obtain⟨c,hc,rc⟩:=Cel.get (Cel.mono s5 hc2) hv;have eo2:=jA hc ho2;have sA:=((s1.trans s2).trans s3).trans s5;refine x6 ⟨_,rfl,_,rfl,zp c,part.map zp,rc.rdv,.lst (SqL.of (sA _ _ hpa)) (zw.rdv (N:=fun _=>True) (Cel.rdn (Cel.mono sA hpt))),rfl,YZ _,(by show 1<=60;decide),?_⟩;have ei:(if false=true then !(part.map zp).any (fun z=>WL z (zp c)) else (part.map zp).any fun z=>WL z (zp c))=part.any fun z=>decide (z=c):=xK _ _;rw[ei];exact yes2 _ _ _ _ eo2 ⟨_,rfl⟩ (zq.refl _) (.bl _)
   ·rintro ys5 H5 s5 hz6 hr5;rw[Zt,show ((zI rs y).map fun c=>Tq (part.any fun x=>decide (x=c)))=((zI rs y).map fun c=>part.any fun x=>decide (x=c)).map Tq by rw[Ws];rfl] at hr5;rw[zw.bools hr5] at hz6;refine⟨z5,_,rfl,SqL.of hz6,_,rfl,?_⟩;by_cases hp:(((zI rs y).map fun z=>part.any fun x=>decide (x=z)).any id)=true
    ·rw[if_pos hp] at eo;exact jT hp ⟨_,rfl,yes _ _ _ _ eo ⟨_,rfl⟩ (s3.trans s5) (yK.rdn ⟨ya,rfl,s5 _ _ (s3 _ _ (s2 _ _ hya))⟩)⟩
    ·rw[if_neg hp] at eo;exact jE (by simpa using hp) (no _ _ eo ⟨_,rfl⟩ (s3.trans s5))
  ·rintro ys H2 s2 hz2 hr2;rw[qc] at hr2;exact q z ys H2 (s1.free hz) hz2 (zw.cel hr2) (s1.trans s2)
theorem zgI {cl:Nat×Nat->List (Nat×Nat)}{done:List (Nat×Nat)}{gs:List (List (Nat×Nat))}{o:Nat×Nat}(G:Parts.Good cl done gs)(h:cl o ≠ [])(hn:(cl o).Nodup){w:List (Nat×Nat)}(hs:w.Pairwise Cells.lex)(hw:∀x,x∈w↔x∈cl o\/∃g∈gs,Parts.meets (cl o) g=true/\x∈g):Parts.Good cl (done++[o]) ((gs.filter fun g=>!Parts.meets (cl o) g)++[w]):=by
 refine G.step h hn ?_ ?_ hs
 ·refine VZ fun g hg=>?_;congr 1;rw[WV,WF];constructor
  ·exact fun z=>⟨g,X9.mpr ⟨hg,z⟩,decide_eq_true rfl⟩
  ·rintro⟨m,hm,e⟩;have e':m=g:=of_decide_eq_true e;subst e';exact(X9.mp hm).2
 ·refine(W2 (ql hs) (Parts.Yo hn fun m hm=>G.nd.sublist (VF (X9.mp hm).1))).mpr fun x=>?_;rw[hw,Parts.zay];constructor
  ·rintro(z | ⟨g,h1,h2,h3⟩)
   ·exact .inl z
   ·exact .inr ⟨g,X9.mpr ⟨h1,h2⟩,h3⟩
  ·rintro(z | ⟨g,h1,h3⟩)
   ·exact .inl z
   ·exact .inr ⟨g,(X9.mp h1).1,(X9.mp h1).2,h3⟩
theorem zi2 (cs g:List (Nat×Nat)):(cs.map fun c=>g.any fun z=>decide (z=c)).any id=Parts.meets cs g:=by
 rw[WV,Parts.Zn,T3,WF];constructor
 ·rintro⟨c,h1,h2⟩;have h2':(g.any fun z=>decide (z=c))=true:=h2;obtain⟨z,h3,h4⟩:=WF.mp h2';have e:z=c:=of_decide_eq_true h4;subst e;exact⟨z,h3,h1⟩
 ·rintro⟨x,h1,h2⟩;refine⟨x,h2,?_⟩;show (g.any fun z=>decide (z=x))=true;exact WF.mpr ⟨x,h1,decide_eq_true rfl⟩
def JY (p:List (Nat×Nat)->Bool):List V->List (List (Nat×Nat))->List V
 | v::vs,g::gs=>if p g=true then v::JY p vs gs else JY p vs gs
 | _,_=>[]
theorem Zv (p:List (Nat×Nat)->Bool):∀(vs:List V) (gs:List (List (Nat×Nat))),(JY p vs gs).Sublist vs
 | [],_=>RA _
 | _::_,[]=>RA _
 | v::vs,g::gs=>by
  rw[JY];split
  ·exact(Zv p vs gs).cons_cons v
  ·exact(Zv p vs gs).cons v
theorem Qs {H:Hp}(p:List (Nat×Nat)->Bool):∀{vs:List V} {gs:List (List (Nat×Nat))},xM H vs gs->xM H (JY p vs gs) (gs.filter p)
 | _,_,.nil=>.nil
 | _,_,.cons (a:=v) (b:=g) h t=>by
  rw[JY,WD];by_cases hp:p g=true
  ·rw[if_pos hp,if_pos hp];exact .cons h (Qs p t)
  ·rw[if_neg hp,if_neg hp];exact Qs p t
theorem zgJ (p:List (Nat×Nat)->Bool){vs:List V}{gs:List (List (Nat×Nat))}{i:Nat}{v:V}{g:List (Nat×Nat)}(h1:vs[i]?=some v)(h2:gs[i]?=some g):JY p (vs.take (i+1)) (gs.take (i+1))=JY p (vs.take i) (gs.take i)++if p g=true then [v] else []:=by
 induction vs generalizing gs i with
 | nil=>cases h1
 | cons w vs ih =>
  cases gs with
  | nil=>cases h2
  | cons k gs =>
   cases i with
   | zero =>
    cases h1;cases h2;simp[JY]
   | succ i =>
    rw[UE,UE,UE,UE,JY,JY,ih h1 h2];split<;>rfl
theorem zef {m:List (Int×Int)}{l:List (Nat×Nat)}(h:∀c∈m,c∈l.map toI):m=(m.map ofI).map toI:=by
 rw[Ws];refine(Tp m).symm.trans (Xb fun c hc=>?_);obtain⟨x,_,rfl⟩:=XQ.mp (h c hc);rfl
def zkB:Sp:=fun vs H Q _=>∃(ga ca:Addr) (ws us:List V) (gs:List (List (Nat×Nat))) (cs B:List (Nat×Nat)),vs=[.ref ga,.ref ca]/\H ga=some (.lst ws)/\xM H ws gs/\H ca=some (.lst us)/\Cel H us cs/\cs.Nodup/\gs.flatten.Nodup/\(∀x∈cs,x∈B)/\(∀x∈gs.flatten,x∈B)/\(∀x∈B,x.1<8/\x.2<8)/\B.length<=63/\gs.length<=63 /\
 (cs=[]->∀H',zq H H'->Q (.ref ga) H') /\
 (cs ≠ []->∀(d wa:Addr) (va:List V) (w:List (Nat×Nat)) (H':Hp),H d=none->H wa=none->H' d=some (.lst (va++[.ref wa]))->va.Sublist ws->xM H' (va++[.ref wa]) ((gs.filter fun g=>!Parts.meets cs g)++[w])->w.Pairwise Cells.lex->(∀x,x∈w↔x∈cs\/∃g∈gs,Parts.meets cs g=true/\x∈g)->zq H H'->Q (.ref d) H')
theorem YQ:zF ["groups","cells","apart","together","group"] ["groups","cells"] (zf Zp):=⟨rfl,rfl,rfl,by decide +kernel,rfl,by decide +kernel,by decide +kernel⟩
theorem zi3 (T:Txt mg)(D:zm K mg "joined" Zp ["groups","cells"] f fd):qb P w K mg base CX0 1 f fd ["groups","cells"] zkB:=by
 refine D.F.ok YQ (fun vs H Q E h=>?_) (fun cdv A outer s H vs Q E hr h=>?_)
 ·obtain⟨ga,ca,ws,us,gs,cs,B,rfl,_⟩:=h;rfl
 ·obtain⟨ga,ca,ws,us,gs,cs,B,rfl,hga,hG,hca,hC,cnd,gnd,cB,gB,B8,B63,g63,q1,q2⟩:=h;have cl63:cs.length<=63:=XX (Parts.yj cnd cB) B63;have fl63:gs.flatten.length<=63:=XX (Parts.yj gnd gB) B63;refine⟨_,(ze (jg (qt (Qi hr.units) (pvS 1) (@qd _ _ _ _ zc) (qa _)) (zh (zH (pvS 0))) qi) (@ze _ _ _ _ _ (@zz _ _ 2 _ _ _ _ YQ.nd rfl (XE rfl) (@qd _ _ _ _ zc) (by rfl) (.inr rfl)) (ze (zz (i:=3) YQ.nd rfl (XE rfl) (yO zdT (by rfl) T.zop PyProof.Rows.boot_list (za (pvS 1) zc))) (ze (qD W1 rfl (zJ (pvS 0)) (zo (i:=4) YQ.nd rfl (Vp rfl)) (zh (jg (Yh (zu (zbC rfl) (by rfl) T.zhG Uf (za (z9 (N:=["cell","group"]) (src:=[none,some 4]) (zP.free (O:=(zf Zp).names) (XN:=["groups","cells","apart","together","group"]) rfl rfl ⟨_,rfl⟩ rfl rfl (by decide +kernel) (by decide +kernel) (by decide +kernel) rfl (by decide +kernel)) rfl (zJ (pvS 1)) (fun _ _ _ _ _=>(zo (i:=0) (by show W7 (["cell","group"]:List Str);decide +kernel) rfl (XE rfl))) (fun _ _ _ _ _=>qo) (fun _ _ _ _ _=>(xZ (jH (K:=K) (by rfl) hr.units) (pvS 0) (pvS 1) (by rfl)))) zc)) (fun _=>rfl)) (zh (jC (Jk WQ UH UG YH (pvS 3) (za (pvS 4) zc)))) (zh (jC (Jk WQ Wr Wq Jv (pvS 2) (za (pvS 4) zc))))))) (zh (zH (zE Qh (pvS 2) (qd (za (zu (ST.zcG hr.hd) (by rfl) T.yC Wp (za (yO (ST.ziH hr.units hr.hd) (by rfl) T.zpK PyProof.Rows.boot_set (za (pvS 3) zc)) zc)) zc))))))))),?_⟩;refine⟨_,rfl,Jw,fun e he=>?_⟩;have s1:zq H (upd H e (.lst [])):=zd he;refine⟨lD cs,.list [],.lst (SqL.of (s1 _ _ hca)) (zkA (hC.mono s1)),.lst (SqL.of zb) .nil,zee _ [],_,rfl,?_⟩;have en:(if false=true then !PyData.eqv (lD cs) (.list []) else WL (lD cs) (.list []))=cs.isEmpty:=by
   show WL _ _=_;exact eq_nil cs
  rw[en];by_cases ze1:cs=[]
  ·rw[show cs.isEmpty=true by rw[ze1];rfl];exact QI ⟨_,rfl,q1 ze1 _ s1⟩
  rw[show cs.isEmpty=false by rw[VR];exact ze1];refine QH ?_;generalize upd H e (.lst [])=H1 at *
  refine⟨Jw,fun ap hap=>?_⟩;have s2:=s1.trans (zd (o:=.lst []) hap);have ha2:upd H1 ap (.lst []) ap=some (.lst []):=zb;have hap0:=s1.free hap;generalize upd H1 ap (.lst [])=H2 at *
  refine⟨_,rfl,ca,_,rfl,.inl (SqL.of (s2 _ _ hca)),fun tg htg=>?_⟩;have z3:=zd (o:=.lst us) htg;have s3:=s2.trans z3;have ha3:=z3 _ _ ha2;have ht3:upd H2 tg (.lst us) tg=some (.lst us):=zb;have htg0:=s2.free htg;have nat:ap≠tg:=zj ha2 htg;generalize upd H2 tg (.lst us)=H3 at *
  refine⟨_,rfl,ga,rfl,⟨_,SqL.of (s3 _ _ hga)⟩,?_⟩;refine xB (K:=K) (a:=ga) (xs:=ws) (fun i σ H'=>∃(ut:List V) (v4:Option V),σ=[some (.ref ga),some (.ref ca),some (.ref ap),some (.ref tg),v4]/\zq H H'/\H' ap=some (.lst (JY (fun g=>!Parts.meets cs g) (ws.take i) (gs.take i)))/\H' tg=some (.lst ut)/\Cel H ut (cs++((gs.take i).filter (Parts.meets cs)).flatten))
   ⟨us,_,rfl,s3,ha3,ht3,by simpa using hC⟩ (fun i σ H' _ ⟨_,_,_,z,_⟩=>SqL.of (z _ _ hga)) ?_ ?_
  ·rintro i x σ H4 hx ⟨ut,v4,rfl,s4,ha4,ht4,hct⟩;obtain⟨g,hg,gad,ug,rfl,hgad,hcg⟩:=xM.get hG hx;have gm:=X7 hg;have tk:(gs.take (i+1)).filter (Parts.meets cs)=(gs.take i).filter (Parts.meets cs)++if Parts.meets cs g=true then [g] else []:=by
    rw[Xc,hg,WY];congr 1;show [g].filter _=_;rw[WD];rfl
   have pk:=zgJ (fun g=>!Parts.meets cs g) hx hg;refine⟨_,rfl,ca,rfl,⟨_,SqL.of (s4 _ _ hca)⟩,fun z hz=>?_⟩;refine qk (K:=K) (a:=ca) (xs:=us) (fun a=>a≠z) (cs.map fun c=>some (.bool (g.any fun z=>decide (z=c)))) (fun σ=>∃u0,σ=[u0,some (.ref gad)]) hz (fun _ h=>h) ⟨_,rfl⟩ (by rw[Y1];exact hC.length.symm) (by rw[hC.length];exact XX cl63 (by decide)) (SqL.of (s4 _ _ hca)) ?_ ?_
   ·rintro m v o σ H5 hv ho s5 _ ⟨u1,rfl⟩ Y Z yes no;have s05:=s4.trans s5;obtain⟨c,hc,rc⟩:=Cel.get (hC.mono s05) hv;have eo:=jA hc ho;refine x6 ⟨_,rfl,_,rfl,zp c,g.map zp,rc.rdv,.lst (SqL.of (s05 _ _ hgad)) (zkA (hcg.mono s05)),rfl,YZ _,(by show 1<=60;decide),?_⟩;have ei:(if false=true then !(g.map zp).any (fun z=>WL z (zp c)) else (g.map zp).any fun z=>WL z (zp c))=g.any fun z=>decide (z=c):=xK _ _;rw[ei];exact yes _ _ _ _ eo ⟨_,rfl⟩ (zq.refl _) (.bl _)
   ·rintro ys H5 s5 hz5 hr5;rw[Zt,show (cs.map fun c=>Tq (g.any fun z=>decide (z=c)))=(cs.map fun c=>g.any fun z=>decide (z=c)).map Tq by rw[Ws];rfl] at hr5;rw[zw.bools hr5] at hz5;refine⟨z,_,rfl,SqL.of hz5,_,rfl,?_⟩;rw[zi2];have s05:=s4.trans s5;have ha5:=s5 _ _ ha4;have ht5:=s5 _ _ ht4;have gsub:∀(q:List (Nat×Nat)->Bool) (j:Nat),(((gs.take j).filter q).flatten).length<=63:=fun q j=>by
     refine XX (Vb ?_) fl63;refine List.Sublist.trans (Parts.qS q (gs.take j)) ?_;have e2:gs=gs.take j++gs.drop j:=(WT j gs).symm;conv=>rhs;rw[e2,V3]
     exact UI _ _
    by_cases hp:Parts.meets cs g=true
    ·refine jT hp ?_;refine⟨_,rfl,.inl ⟨rfl,_,SqL.of ht5⟩,_,rfl,tg,gad,ut,ug,rfl,rfl,ht5,s05 _ _ hgad,?_,?_⟩
     ·rw[hct.length,hcg.length,X4];have a1:=gsub (Parts.meets cs) i;have a2:g.length<=63:=XX (Vb (VF gm)) fl63;exact XX (show _<=200 by lia) (by decide)
     ·refine⟨ut++ug,_,rfl,fun b o eb=>?_,?_,zb,?_⟩
      ·rw[zk (zj eb htg0)];exact s05 _ _ eb
      ·rw[zk nat,pk,hp];simpa using ha5
      ·rw[tk,if_pos hp,V3,<- WX];simpa using Cel.append hct hcg
    ·have hp2:=Xh.mpr hp;refine jE hp2 ?_;refine⟨_,rfl,.inl ⟨rfl,_,SqL.of ha5⟩,_,rfl,ap,_,_,rfl,rfl,ha5,?_,?_⟩
     ·refine XG (Vb ((Zv _ _ _).trans (Tc _ _))) ?_;rw[hG.length];exact XG g63 (by decide)
     ·refine⟨ut,_,rfl,fun b o eb=>?_,?_,?_,?_⟩
      ·rw[zk (zj eb hap0)];exact s05 _ _ eb
      ·rw[zb,pk,hp2];rfl
      ·rw[zk (Vd nat)];exact ht5
      ·rw[tk,if_neg hp,W9];exact hct
  ·rintro σ H4 ⟨ut,v4,rfl,s4,ha4,ht4,hct⟩;rw[XA,hG.length,XA] at ha4;rw[hG.length,XA] at hct;generalize hl:cs++(gs.filter (Parts.meets cs)).flatten=l at hct;have lB:∀x∈l,x∈B:=fun x hx=>by
    rw[<- hl] at hx;rcases XO.mp hx with hx | hx
    ·exact cB x hx
    ·exact gB x ((Parts.qS _ gs).subset hx)
   refine⟨_,rfl,_,rfl,tg,ut,_,rfl,SqL.of ht4,Cel.tup2 (hct.mono s4),(fun p hp=>?_),(fun m hm hs=>?_),fun ds ks hds hT hnd hmem=>?_⟩
   ·obtain⟨x,hx,rfl⟩:=XQ.mp hp;have:=B8 x (lB x hx);unfold ST.InB toI;show (0<=((x.1:Nat):Int)/\((x.1:Nat):Int)<8)/\(0<=((x.2:Nat):Int)/\((x.2:Nat):Int)<8);lia
   ·have h1:=zef hs;have h2:(m.map ofI).Nodup:=by
     rw[h1] at hm;unfold W7 at hm ⊢;rw[Wm] at hm;exact hm.imp fun z e=>z (by rw[e])
    have h3:=Parts.yj (b:=B) h2 fun x hx=>by
     obtain⟨c,hc,rfl⟩:=XQ.mp hx;obtain⟨y,hy,rfl⟩:=XQ.mp (hs c hc);exact lB y hy
    rw[Y1] at h3;lia
   have z5:=zd (o:=ST.zfc P w ds ks) hds;have hks:∀c∈ks.map (·.2),c∈l.map toI:=fun c hc=>(hmem c).mp hc;have kl:ks.length<=63:=by
    have h1:=zef hks;have h2:((ks.map (·.2)).map ofI).Nodup:=by
     rw[h1] at hnd;unfold W7 at hnd ⊢;rw[Wm] at hnd;exact hnd.imp fun z e=>z (by rw[e])
    have h3:=Parts.yj (b:=B) h2 fun x hx=>by
     obtain⟨c,hc,rfl⟩:=XQ.mp hx;obtain⟨y,hy,rfl⟩:=XQ.mp (hks c hc);exact lB y hy
    rw[Y1,Y1] at h3;lia
   have hds5:upd H4 ds (ST.zfc P w ds ks) ds=some (ST.zfc P w ds ks):=zb;have s5:=s4.trans z5;have ha5:=z5 _ _ ha4;have hT5:∀q∈ks,upd H4 ds (ST.zfc P w ds ks) q.1=some (.tup [.int q.2.1,.int q.2.2]):=fun q hq=>z5 _ _ (hT q hq);refine⟨ds,ks,rfl,hds5,hT5,hnd,(by lia),fun wa us' ps' hwa ht zdr hup=>?_⟩;rw[zef hks] at zdr;obtain⟨wc,rfl,zgK⟩:=ZY zdr;have z6:=zd (o:=.lst us') hwa;refine⟨sz_1,fun p1 hp1=>?_⟩;have z7:=zd (o:=.lst [V.ref wa]) hp1;have z67:=z6.trans z7;refine⟨ap,p1,_,[.ref wa],rfl,rfl,z67 _ _ ha5,zb,?_,fun k2 hk2=>?_⟩
   ·have a1:(JY (fun g=>!Parts.meets cs g) ws gs).length<=63:=XX (Vb (Zv _ _ _)) (by rw[hG.length];exact g63);exact XX (show _+1<=200 by lia) (by decide)
   ·have z8:=zd (o:=.lst (JY (fun g=>!Parts.meets cs g) ws gs++[.ref wa])) hk2;have s8:=s5.trans (z67.trans z8);refine q2 ze1 k2 wa _ wc _ ((s5.trans z67).free hk2) (s5.free hwa) zb (Zv _ _ _) ?_ (zos hup) (fun x=>?_) s8
    ·exact xM.snoc ((Qs _ hG).mono s8) ⟨wa,us',rfl,z8 _ _ (z7 _ _ zb),Cel.mono (z67.trans z8) (qL ht)⟩
    ·rw[zgK.mem_iff,XQ];have hx:(∃a,a∈ks.map (·.2)/\ofI a=x)↔x∈l:=by
      constructor
      ·rintro⟨c,hc,rfl⟩;obtain⟨y,hy,rfl⟩:=XQ.mp (hks c hc);exact hy
      ·intro h;exact⟨toI x,(hmem _).mpr (XQ.mpr ⟨x,h,rfl⟩),rfl⟩
     rw[hx,<- hl,XO,Wf];constructor
     ·rintro(h | ⟨g,h1,h2⟩)
      ·exact .inl h
      ·exact .inr ⟨g,(X9.mp h1).1,(X9.mp h1).2,h2⟩
     ·rintro(h | ⟨g,h1,h2,h3⟩)
      ·exact .inl h
      ·exact .inr ⟨g,X9.mpr ⟨h1,h2⟩,h3⟩
def zmt:Sp:=fun vs H Q _=>∃(p l:Addr) (rs:List Str) (n:Int),vs=[.ref p]/\qJ H p l rs n/\Rows bd.cps.toList rs /\
 ∀(d:Addr) (ws:List V) (gs:List (List (Nat×Nat))) (H':Hp),H d=none->H' d=some (.lst ws)->xM H' ws gs->ws.Nodup->(∀v∈ws,∃a,v=V.ref a/\H a=none/\a≠d)->Parts.Good (clA rs) (qf rs) gs->Up2 (heads gs)->zq H H'->Q (.ref d) H'
theorem zgL {rs:List Str}(R:Rows bd.cps.toList rs){x:Nat×Nat}(h:x∈zK rs):x.1<8/\x.2<8:=by
 obtain⟨t,k,ht,hj,_,_⟩:=zV h;have a:=(X0.mp ht).1;have b:=(X0.mp hj).1;have e:=R.hi;have g:=R.short _ (X7 (qV ht));lia
theorem xM.some {H:Hp}{ws:List V}{gs:List (List (Nat×Nat))}(h:xM H ws gs):∀v∈ws,∃a us,v=V.ref a/\H a=some (.lst us):=by
 intro v hv;obtain⟨_,_,a,us,e,h1,_⟩:=zjG h hv;exact⟨a,us,e,h1⟩
theorem zkC {H:Hp}{ws:List V}{gs:List (List (Nat×Nat))}(h:xM H ws gs):Xj (GS.LstAt H) ws (gs.map (Ua toI)):=by
 induction h with
 | nil=>exact .nil
 | cons r _ ih =>
  obtain⟨a,us,e,h1,h2⟩:=r;exact .cons ⟨a,us,e,h1,h2.tup2⟩ ih
theorem zkD {H:Hp}:∀{gs:List (List (Nat×Nat))} {ws:List V},Xj (GS.LstAt H) ws (gs.map (Ua toI))->xM H ws gs:=by
 intro gs;induction gs with
 | nil =>
  intro ws h;cases h;exact .nil
 | cons g r ih =>
  intro ws h;cases h with
  | cons q t =>
   obtain⟨a,us,e,h1,h2⟩:=q;exact .cons ⟨a,us,e,h1,qL h2⟩ (ih t)
theorem zfr {ks:List (List (Int×Int))}{gs:List (List (Nat×Nat))}(h:ks.Perm (gs.map (Ua toI))):∃ds:List (List (Nat×Nat)),ks=ds.map (Ua toI)/\ds.Perm gs:=by
 have oo:∀g:List (Nat×Nat),(g.map toI).map ofI=g:=fun g=>by
  rw[Ws];exact(Xb fun c _=>zhI c).trans (Tp g)
 refine⟨ks.map (Ua ofI),?_,?_⟩
 ·rw[Ws];refine(Tp ks).symm.trans (Xb fun p hp=>?_);obtain⟨c,_,rfl⟩:=XQ.mp (h.mem_iff.mp hp);show c.map toI=((c.map toI).map ofI).map toI;rw[oo]
 ·have:=h.map (Ua ofI);rw[Ws] at this;have e:gs.map (Ua ofI∘Ua toI)=gs:=(Xb fun c _=>oo c).trans (Tp gs);rwa [e] at this
theorem zkE {gs:List (List (Nat×Nat))}(h:(gs.map (Ua toI)).Pairwise (fun p q=>PySem.SeqAt.ltL q p=false))(ne:∀g∈gs,g ≠ [])(nd:(heads gs).Nodup):Up2 (heads gs):=by
 induction gs with
 | nil=>exact List.Pairwise.nil
 | cons g r ih =>
  rw[XB,Sb] at h;have nd':toI (g.headD (0,0)) ∉ heads r/\(heads r).Nodup:=Wg.mp nd;refine Sb.mpr ⟨fun p hp=>?_,ih h.2 (fun x hx=>ne x (XR _ hx)) nd'.2⟩;obtain⟨g2,hg2,rfl⟩:=XQ.mp hp;have a:=h.1 _ (XQ.mpr ⟨g2,hg2,rfl⟩);have hne:toI (g.headD (0,0))≠toI (g2.headD (0,0)):=fun e=>nd'.1 (e ▸ hp);have n1:=ne g XW;have n2:=ne g2 (XR _ hg2);cases g with
  | nil=>exact absurd rfl n1
  | cons x xs =>
   cases g2 with
   | nil=>exact absurd rfl n2
   | cons y ys =>
    have hne':toI x≠toI y:=hne;show lt2 (toI x) (toI y)=true;have a':(if toI y=toI x then PySem.SeqAt.ltL (ys.map toI) (xs.map toI) else lt2 (toI y) (toI x))=false:=a;rw[if_neg (Vd hne')] at a';have:=zbj hne';rw[a'] at this;cases hh:lt2 (toI x) (toI y) with
    | true=>rfl
    | false =>
     rw[hh] at this;cases this
theorem Q8:zF ["board","found","cell"] ["board"] (zf zbr):=⟨rfl,rfl,rfl,by decide +kernel,rfl,by decide +kernel,by decide +kernel⟩
theorem zkF {f1 f2 f3 f4 f5 f6:Addr}{fd1 fd2 fd3 fd4 fd5 fd6:Xz}(T:Txt mg)(D:zm K mg "parts" zbr ["board"] f fd)(zO:zm K mg "around" jw ["board","cell"] f1 fd1)(zv:zm K mg "sign_at" qC ["board","cell"] f2 fd2)
  (zD:zm K mg "cells_of" qy ["board"] f3 fd3) (zC:zm K mg "open_cells" qx ["board"] f4 fd4) (zG:zm K mg "closed_around" qz ["board","cell"] f5 fd5) (Q9:zm K mg "joined" Zp ["groups","cells"] f6 fd6):qb P w K mg base CX0 3 f fd ["board"] zmt:=by
 refine D.F.ok Q8 (fun vs H Q E h=>?_) (fun cdv A outer s H vs Q E hr h=>?_)
 ·obtain⟨p,l,rs,n,rfl,_⟩:=h;rfl
 ·obtain⟨p,l,rs,n,rfl,b,R,q⟩:=h;refine⟨_,(@ze _ _ _ _ _ (@zz _ _ 1 _ _ _ _ Q8.nd rfl (XE rfl) (@qd _ _ _ _ zc) (by rfl) (.inr rfl)) (ze (qD W1 rfl (zJ (pc0 (jX T zC zD zv) hr zC (za (pvS 0) zc))) (zo (i:=2) Q8.nd rfl (XE rfl)) (zh (zz (i:=1) Q8.nd rfl (XE rfl) (pc0 (zi3 T Q9) hr Q9 (za (pvS 1) (za (pc0 (jP T zG zO zv) hr zG (za (pvS 0) (za (pvS 2) zc))) zc)))))) (zh (zH (zu (GS.Y8 hr.units) (by rfl) T.yC Wp (za (pvS 1) zc)))))),?_⟩;refine⟨Jw,fun k0 hk0=>?_⟩;have s0:zq H (upd H k0 (.lst [])):=zd hk0;have hk00:upd H k0 (.lst []) k0=some (.lst []):=zb;generalize upd H k0 (.lst [])=H0 at *
  refine⟨_,rfl,p,l,rs,n,rfl,b.mono s0,R,fun dc wc H1 hdc zpM hcc s1=>⟨dc,rfl,⟨_,SqL.of zpM⟩,?_⟩⟩;have s01:=s0.trans s1;have b1:=b.mono s01;have hcc:Cel H1 wc (qf rs):=hcc;have o64:=zdq R;refine xB (K:=K) (a:=dc) (xs:=wc) (fun i σ H'=>∃(k:Addr) (ws:List V) (gs:List (List (Nat×Nat))) (v2:Option V),σ=[some (.ref p),some (.ref k),v2]/\zq H1 H'/\H' k=some (.lst ws)/\xM H' ws gs/\ws.Nodup/\(∀v∈ws,∃a,v=V.ref a/\H a=none)/\Parts.Good (clA rs) ((qf rs).take i) gs)
   ⟨k0,[],[],_,rfl,zq.refl _,s1 _ _ hk00,.nil,VA,(fun v h=>nomatch h),Parts.Good.start _⟩ (fun i σ H' _ ⟨_,_,_,_,_,z,_⟩=>SqL.of (z _ _ zpM)) ?_ ?_
  ·rintro i x σ H2 hx ⟨k,ws,gs,v2,rfl,s2,hk,hG,wnd,wnew,G⟩;obtain⟨c,hc,ca,rfl,hca⟩:=Cel.get (Cel.mono s2 hcc) hx;have cm:=X7 hc;obtain⟨t,sg,ht,hj,_,es⟩:=zV cm;obtain⟨l1,l2⟩:=j9 R ht hj;have tk:(qf rs).take (i+1)=(qf rs).take i++[c]:=by
    rw[Xc,hc];rfl
   have lshut:(zK rs).length<=63:=by
    have:=S1 cm;lia
   have gB:∀x∈gs.flatten,x∈zK rs:=fun x hx=>by
    obtain⟨o,_,h2⟩:=G.from_ x hx;exact jY h2
   refine⟨_,rfl,_,rfl,_,rfl,p,l,ca,rs,n,c,rfl,(b1.mono s2),R,hca,l1,l2,fun d ws1 H3 hd hd3 hc3 s3=>?_⟩;have s03:=s01.trans (s2.trans s3);refine⟨k,d,ws,ws1,gs,clA rs c,zK rs,rfl,s3 _ _ hk,hG.mono s3,hd3,hc3,Zu rs c,G.nd,(fun x hx=>jY hx),gB,(fun x hx=>zgL R hx),lshut,XX (Parts.QZ G.ne) (XX (Parts.yj G.nd gB) lshut),(fun ze1 H' s'=>?_),fun hne d2 wa va wc2 H' hd2 hwa hd2' hsub hG' zqm hmem s'=>?_⟩
   ·refine⟨k,ws,gs,_,rfl,s2.trans (s3.trans s'),s' _ _ (s3 _ _ hk),(hG.mono s3).mono s',wnd,wnew,?_⟩;rw[tk];exact G.skip ze1
   ·refine⟨d2,_,_,_,rfl,s2.trans (s3.trans s'),hd2',hG',?_,(fun v hv=>?_),?_⟩
    ·rw[WN];refine⟨wnd.sublist hsub,by simp,fun a ha b hb e=>?_⟩;have hb':b=V.ref wa:=by simpa using hb
     subst e;obtain⟨a',us',e1,e2⟩:=xM.some (hG.mono s3) a (hsub.subset ha);rw[hb'] at e1;injection e1 with e1
     rw[<- e1,hwa] at e2;cases e2
    ·rcases XO.mp hv with hv | hv
     ·exact wnew v (hsub.subset hv)
     ·have hb':v=V.ref wa:=by simpa using hv
      exact⟨wa,hb',s03.free hwa⟩
    ·rw[tk];exact zgI G hne (Zu rs c) zqm hmem
  ·rintro σ H2 ⟨k,ws,gs,v2,rfl,s2,hk,hG,wnd,wnew,G⟩;rw[hcc.length,XA] at G;have gsh:∀x∈gs.flatten,x∈zK rs:=fun x hx=>by
    obtain⟨o,_,h2⟩:=G.from_ x hx;exact jY h2
   have wl:gs.length<=63:=by
    cases gs with
    | nil=>exact WZ _
    | cons g r =>
     have m1:=head_mem (G.ne g XW);obtain⟨o,ho,_⟩:=G.from_ _ (Wf.mpr ⟨g,XW,m1⟩);have:=S1 ho;have h3:=XX (Parts.QZ G.ne) (Parts.yj (b:=zK rs) G.nd gsh);lia
   refine⟨_,rfl,k,ws,_,rfl,SqL.of hk,zkC hG,(by rw[hG.length];lia),fun d us' ks' hd hl zdr zpN pw=>?_⟩;have s3:=zd (o:=.lst us') hd;obtain⟨ds,rfl,pg⟩:=zfr zdr;have G':=G.perm pg;refine q d us' ds _ ((s01.trans s2).free hd) zb ((zkD hl).mono s3) (pw.nodup_iff.mpr wnd) (fun v hv=>?_) G' (zkE zpN G'.ne (zaX G'.ne G'.nd)) ((s01.trans s2).trans s3);have hv':=pw.mem_iff.mp hv;obtain⟨a,e1,e2⟩:=wnew v hv';obtain⟨a',us',e3,e4⟩:=xM.some hG v hv';refine⟨a,e1,e2,fun z=>?_⟩;rw[e1] at e3;injection e3 with e3
   rw[<- e3,z,hd] at e4;cases e4
def PR (H:Hp)(v:V)(p:Int×Int):Prop:=∃a,v=V.ref a/\H a=some (.tup [.int p.1,.int p.2])
theorem PR.mono {H H':Hp}(s:zq H H'){v:V}{p:Int×Int}(h:PR H v p):PR H' v p:=let ⟨a,e,h⟩:=h;⟨a,e,s _ _ h⟩
theorem zaG {H H':Hp}(s:zq H H'){us:List V}{ps:List (Int×Int)}(hp:yI H us ps):yI H' us ps:=by
 induction hp with
 | nil=>exact .nil
 | cons h _ ih =>
  exact .cons (PR.mono s h) ih
theorem zfs {H:Hp}{us:List V}{ps:List (Int×Int)}(h:yI H us ps):us.length=ps.length:=Paired.length h
theorem zb6 {H:Hp}{a z:Addr}{o o':HO}(h:H a=some o)(hz:H z=some o')(hne:o≠o'):a≠z:=fun e=>by
 subst e;rw[h] at hz;exact hne (Option.some.inj hz)
theorem zmu {H:Hp}{z:Addr}{ys ys':List V}(hz:H z=some (.lst ys)){v:V}{p:Int×Int}(h:PR H v p):PR (upd H z (.lst ys')) v p:=by
 obtain⟨a,e,h⟩:=h;refine⟨a,e,?_⟩;rw[zk (zb6 h hz (fun z=>nomatch z))];exact h
theorem zaH {H:Hp}{z:Addr}{ys ys':List V}(hz:H z=some (.lst ys)){us:List V}{ps:List (Int×Int)}(hp:yI H us ps):yI (upd H z (.lst ys')) us ps:=by
 induction hp with
 | nil=>exact .nil
 | cons h _ ih =>
  exact .cons (zmu hz h) ih
def jZ (N:Addr->Prop)(H:Hp):List V->List (List (Int×Int))->Prop:=Xj fun v k=>∃a ws,v=V.ref a/\N a/\H a=some (.lst ws)/\yI H ws k
theorem jK {N:Addr->Prop}{H H':Hp}(s:zq H H'){us:List V}{ks:List (List (Int×Int))}(hp:jZ N H us ks):jZ N H' us ks:=by
 induction hp with
 | nil=>exact .nil
 | cons q _ ih =>
  obtain⟨a,ws,e,n,h,t⟩:=q;exact .cons ⟨a,ws,e,n,s _ _ h,zaG s t⟩ ih
theorem zb7 {N M:Addr->Prop}{H:Hp}(w:∀a,N a->M a){us:List V}{ks:List (List (Int×Int))}(hp:jZ N H us ks):jZ M H us ks:=by
 induction hp with
 | nil=>exact .nil
 | cons q _ ih =>
  obtain⟨a,ws,e,n,h,t⟩:=q;exact .cons ⟨a,ws,e,w a n,h,t⟩ ih
theorem zb8 {N:Addr->Prop}{H:Hp}{z:Addr}{ys ys':List V}(hz:H z=some (.lst ys))(w:∀a,N a->a≠z){us:List V}{ks:List (List (Int×Int))}(hp:jZ N H us ks):jZ N (upd H z (.lst ys')) us ks:=by
 induction hp with
 | nil=>exact .nil
 | cons q _ ih =>
  obtain⟨a,ws,e,n,h,t⟩:=q;exact .cons ⟨a,ws,e,n,by rw[zk (w a n)];exact h,zaH hz t⟩ ih
theorem zaI {N:Addr->Prop}{H:Hp}{us:List V}{ks:List (List (Int×Int))}{us':List V}{ks':List (List (Int×Int))}(h:jZ N H us ks)(k:jZ N H us' ks'):jZ N H (us++us') (ks++ks'):=zbB h k
theorem yk {N:Addr->Prop}{H:Hp}{us:List V}{ks:List (List (Int×Int))}(h:jZ N H us ks):us.length=ks.length:=Paired.length h
theorem zb9 {N:Addr->Prop}{H:Hp}{us:List V}{ks:List (List (Int×Int))}{i:Nat}{v:V}(h:jZ N H us ks)(e:us[i]?=some v):∃k a ws,ks[i]?=some k/\v=V.ref a/\N a/\H a=some (.lst ws)/\yI H ws k:=by
 obtain⟨k,h1,a,ws,h2⟩:=Y0 h e;exact⟨k,a,ws,h1,h2⟩
theorem zi4 {N:Addr->Prop}{H:Hp}{us:List V}{ks:List (List (Int×Int))}(hp:jZ N H us ks):Xj (GS.LstAt H) us ks:=by
 induction hp with
 | nil=>exact .nil
 | cons q _ ih =>
  obtain⟨a,ws,e,_,h,t⟩:=q;exact .cons ⟨a,ws,e,h,t⟩ ih
theorem zkG {N:Addr->Prop}{H:Hp}{us:List V}{ks:List (List (Int×Int))}(hp:Xj (GS.LstAt H) us ks)(n:∀v∈us,∃a,v=V.ref a/\N a):jZ N H us ks:=by
 induction hp with
 | nil=>exact .nil
 | cons q _ ih =>
  obtain⟨a,ws,e,h,t⟩:=q;obtain⟨b,e2,n2⟩:=n _ XW;subst e;cases e2;exact .cons ⟨_,ws,rfl,n2,h,t⟩ (ih fun v hv=>n v (XR _ hv))
theorem YR {N:Addr->Prop}{H:Hp}{us:List V}{ks:List (List (Int×Int))}{v:V}(h:jZ N H us ks)(e:v∈us):∃a ws,v=V.ref a/\N a/\H a=some (.lst ws):=by
 obtain⟨k,_,a,ws,h1,h2,h3,_⟩:=zjG h e;exact⟨a,ws,h1,h2,h3⟩
theorem zkH {H:Hp}{us:List V}{ps:List (Int×Int)}{us':List V}{ps':List (Int×Int)}(h:yI H us ps)(k:yI H us' ps'):yI H (us++us') (ps++ps'):=zbB h k
def nearF (rs:List Str)(c x:Nat×Nat):Bool:=(zI rs c).any fun z=>decide (z=x)
def jj (rs:List Str)(c:Nat×Nat):Int:=((Cells.sgn (codes rs) c:Nat):Int)-48
theorem zi5 (rs:List Str)(c:Nat×Nat):(zI rs c).Nodup:=(ql (Cells.Jh _ 0 (codes rs))).sublist Xa
theorem zkI {rs:List Str}{o:Nat×Nat}{q:List (Nat×Nat)}(hq:q.Nodup):((zI rs o).filter fun x=>q.any fun z=>decide (z=x)).length=Grow.cnt (nearF rs) o q:=by
 unfold Grow.cnt;refine UD ((W2 ((zi5 rs o).sublist Xa) (hq.sublist Xa)).mpr fun x=>?_);rw[X9,X9];unfold nearF;rw[WF,WF];constructor
 ·rintro⟨h1,y,hy,e⟩;have e2:y=x:=of_decide_eq_true e;subst e2;exact⟨hy,y,h1,decide_eq_true rfl⟩
 ·rintro⟨h1,y,hy,e⟩;have e2:y=x:=of_decide_eq_true e;subst e2;exact⟨hy,y,h1,decide_eq_true rfl⟩
def zft (H:Hp)(rs:List Str)(v:V)(o:Nat×Nat):Prop:=∃a na wn,v=V.ref a/\H a=some (.tup [.int (jj rs o),.ref na])/\H na=some (.lst wn)/\Cel H wn (zI rs o)
def zfu (H:Hp)(rs:List Str)(rest:List (Nat×Nat))(v:V)(o:Nat×Nat):Prop:=∃a na wn,v=V.ref a/\H a=some (.tup [.int (jj rs o-((Grow.cnt (nearF rs) o rest:Nat):Int)),.int (jj rs o),.ref na])/\H na=some (.lst wn)/\Cel H wn (zI rs o)
theorem zi6 {H H':Hp}(s:zq H H'){rs:List Str}{vs:List V}{cs:List (Nat×Nat)}(hp:Xj (zft H rs) vs cs):Xj (zft H' rs) vs cs:=by
 induction hp with
 | nil=>exact .nil
 | cons q _ ih =>
  obtain⟨a,na,wn,e,h1,h3,h4⟩:=q;exact .cons ⟨a,na,wn,e,s _ _ h1,s _ _ h3,h4.mono s⟩ ih
theorem zaJ {H H':Hp}(s:zq H H'){rs:List Str}{rest:List (Nat×Nat)}{vs:List V}{cs:List (Nat×Nat)}(hp:Xj (zfu H rs rest) vs cs):Xj (zfu H' rs rest) vs cs:=by
 induction hp with
 | nil=>exact .nil
 | cons q _ ih =>
  obtain⟨a,na,wn,e,h1,h3,h4⟩:=q;exact .cons ⟨a,na,wn,e,s _ _ h1,s _ _ h3,h4.mono s⟩ ih
theorem Zm {α β:Type}{R:α->β->Prop}{vs:List α}{cs:List β}{i:Nat}{v:α}(h:Xj R vs cs)(e:vs[i]?=some v):∃c,cs[i]?=some c/\R v c:=Y0 h e
theorem zgM {α β:Type}{R:α->β->Prop}{us:List α}{cs:List β}{us':List α}{cs':List β}(h:Xj R us cs)(k:Xj R us' cs'):Xj R (us++us') (cs++cs'):=zbB h k
def zds (H H':Hp)(rs:List Str)(rest:List (Nat×Nat))(v:V)(o:Nat×Nat):Prop:=∃a na wn,v=V.ref a/\H' a=some (.tup [.int (jj rs o-((Grow.cnt (nearF rs) o rest:Nat):Int)),.int (jj rs o),.ref na])/\H na=some (.lst wn)/\Cel H wn (zI rs o)
theorem zgN {H H1 H2:Hp}(s:zq H1 H2){rs:List Str}{rest:List (Nat×Nat)}{vs:List V}{cs:List (Nat×Nat)}(hp:Xj (zds H H1 rs rest) vs cs):Xj (zds H H2 rs rest) vs cs:=by
 induction hp with
 | nil=>exact .nil
 | cons q _ ih =>
  obtain⟨a,na,wn,e,h1,h3,h4⟩:=q;exact .cons ⟨a,na,wn,e,s _ _ h1,h3,h4⟩ ih
theorem zca {H H1:Hp}{z:Addr}{ys ys':List V}(hz:H1 z=some (.lst ys)){rs:List Str}{rest:List (Nat×Nat)}:∀{vs:List V} {cs:List (Nat×Nat)},Xj (zds H H1 rs rest) vs cs->Xj (zds H (upd H1 z (.lst ys')) rs rest) vs cs
 | _,_,.nil=>.nil
 | _,_,.cons ⟨a,na,wn,e,h1,h3,h4⟩ t=>.cons ⟨a,na,wn,e,by
   have ne:a≠z:=fun e=>by
    subst e;rw[h1] at hz;cases hz
   rw[zk ne];exact h1,h3,h4⟩ (zca hz t)
theorem zgO {H H1:Hp}(s:zq H H1){rs:List Str}{rest:List (Nat×Nat)}{vs:List V}{cs:List (Nat×Nat)}(hp:Xj (zds H H1 rs rest) vs cs):Xj (zfu H1 rs rest) vs cs:=by
 induction hp with
 | nil=>exact .nil
 | cons q _ ih =>
  obtain⟨a,na,wn,e,h1,h3,h4⟩:=q;exact .cons ⟨a,na,wn,e,h1,s _ _ h3,h4.mono s⟩ ih
def zmv:Sp:=fun vs H Q _=>∃(ta ca ra:Addr) (ut ur:List V) (rs:List Str) (O rest:List (Nat×Nat)) (c:Nat×Nat),vs=[.ref ta,.ref ca,.ref ra]/\H ta=some (.lst ut)/\Xj (zft H rs) ut O/\O.length<=64/\Rows bd.cps.toList rs/\H ca=some (.tup [.int (c.1:Nat),.int (c.2:Nat)])/\H ra=some (.lst ur)/\Cel H ur rest/\rest.Nodup /\
 ∀(d:Addr) (uw:List V) (H':Hp),H' d=some (.lst uw)->Xj (zfu H' rs rest) uw (O.filter fun o=>nearF rs o c)->zq H H'->Q (.ref d) H'
def zpO:Sp:=fun vs H Q _=>∃(na pa:Addr) (un up:List V) (rs:List Str) (rest O q:List (Nat×Nat)),vs=[.ref na,.ref pa]/\H na=some (.lst un)/\Xj (zfu H rs rest) un O/\H pa=some (.lst up)/\Cel H up q/\q.length<=64 /\
 ∀H':Hp,zq H H'->Q (.bl (O.all fun o=>Grow.zbT (nearF rs) (jj rs) rest o q)) H'
theorem xN:zF ["told","cell","rest","needs","number","near","left"] ["told","cell","rest"] (zf j8):=⟨rfl,rfl,rfl,by decide +kernel,rfl,by decide +kernel,by decide +kernel⟩
theorem zfv (T:Txt mg)(D:zm K mg "needs_at" j8 ["told","cell","rest"] f fd):qb P w K mg base CX0 1 f fd ["told","cell","rest"] zmv:=by
 refine D.F.ok xN (fun vs H Q E h=>?_) (fun cdv A outer s H vs Q E hr h=>?_)
 ·obtain⟨ta,ca,ra,ut,ur,rs,O,rest,c,rfl,_⟩:=h;rfl
 ·obtain⟨ta,ca,ra,ut,ur,rs,O,rest,c,rfl,hta,hT,ol,R,hca,hra,hcr,rnd,q⟩:=h;refine⟨_,(@ze _ _ _ _ _ (@zz _ _ 3 _ _ _ _ xN.nd rfl (XE rfl) (@qd _ _ _ _ zc) (by rfl) (.inr rfl)) (ze (qD W1 rfl (zJ (pvS 0)) (yN rfl (zM (zo (i:=4) xN.nd rfl (XE rfl)) (zM (zo (i:=5) xN.nd rfl (XE rfl)) jD))) (zh (jg (qt (zbx hr.units) (pvS 1) (pvS 5) (by rfl)) (ze (zz (i:=6) xN.nd rfl (XE rfl) (zu zT (by rfl) T.qZ W3 (za (z9 (N:=["place","rest"]) (src:=[none,some 2]) (zP.free (O:=(zf j8).names) (XN:=["told","cell","rest","needs","number","near","left"]) rfl rfl ⟨_,rfl⟩ rfl rfl (by decide +kernel) (by decide +kernel) (by decide +kernel) rfl (by decide +kernel)) rfl (zJ (pvS 5)) (fun _ _ _ _ _=>(zo (i:=0) (by show W7 (["place","rest"]:List Str);decide +kernel) rfl (XE rfl))) (fun _ _ _ _ _=>(qE (qt (jH (K:=K) (by rfl) hr.units) (pvS 0) (pvS 1) (by rfl)))) (fun _ _ _ _ _=>(pvS 0))) zc))) (zh (jC (Jk WQ Wr Wq Jv (pvS 3) (za (qm (za (zE xx (pvS 4) (pvS 6)) (za (pvS 4) (za (pvS 5) zc)))) zc))))) qi))) (zh (zH (pvS 3))))),?_⟩;refine⟨Jw,fun d hd=>?_⟩;have s0:=zd (o:=.lst []) hd;refine⟨_,rfl,ta,rfl,⟨_,SqL.of (s0 _ _ hta)⟩,?_⟩;refine xB (K:=K) (a:=ta) (xs:=ut) (fun i σ H'=>∃(uw:List V) (v4 v5 v6:Option V),σ=[some (.ref ta),some (.ref ca),some (.ref ra),some (.ref d),v4,v5,v6]/\zq H H'/\H' d=some (.lst uw)/\Xj (zds H H' rs rest) uw ((O.take i).filter fun o=>nearF rs o c))
   ⟨[],_,_,_,rfl,s0,zb,.nil⟩ (fun i σ H' _ ⟨_,_,_,_,_,z,_⟩=>SqL.of (z _ _ hta)) ?_ ?_
  ·rintro i x σ H1 hx ⟨uw,v4,v5,v6,rfl,s1,hd1,hN⟩;obtain⟨o,ho,a,na,wn,rfl,ha0,hna0,hcn0⟩:=Zm hT hx;have ha:=s1 _ _ ha0;have hna:=s1 _ _ hna0;have hcn:=hcn0.mono s1;have tk:O.take (i+1)=O.take i++[o]:=by
    rw[Xc,ho];rfl
   refine⟨a,_,rfl,SqT.of ha,rfl,_,_,rfl,_,_,rfl,rfl,?_⟩;refine⟨_,rfl,_,rfl,zp c,(zI rs o).map zp,yK.rdv ⟨ca,rfl,s1 _ _ hca⟩,.lst (SqL.of hna) (zkA hcn),rfl,YZ _,(by show 1<=60;decide),_,rfl,?_⟩;have ei:(if false=true then !((zI rs o).map zp).any (fun z=>WL z (zp c)) else ((zI rs o).map zp).any fun z=>WL z (zp c))=nearF rs o c:=xK _ _;rw[ei,tk,WY];by_cases hp:nearF rs o c=true
   ·have ef:[o].filter (fun o=>nearF rs o c)=[o]:=by
     rw[WD,if_pos hp];rfl
    rw[ef];refine jT hp ⟨_,rfl,na,rfl,⟨_,SqL.of hna⟩,fun z hz=>?_⟩;refine qk (K:=K) (a:=na) (xs:=wn) (fun a=>a≠z) ((zI rs o).map fun x=>if (rest.any fun z=>decide (z=x))=true then some (zp x) else none) (fun σ=>∃u0,σ=[u0,some (.ref ra)]) hz (fun _ h=>h) ⟨_,rfl⟩ (by rw[Y1];exact hcn.length.symm) (by rw[hcn.length];exact XX (J9 R o) (by decide)) (SqL.of hna) ?_ ?_
    ·rintro m v u σ H2 hv hu s2 _ ⟨u1,rfl⟩ Y Z yes no;obtain⟨e,he,rc⟩:=Cel.get (hcn.mono s2) hv;have eo:=jA he hu;refine⟨_,rfl,_,rfl,zp e,rest.map zp,rc.rdv,.lst (SqL.of (s2 _ _ (s1 _ _ hra))) (zkA ((hcr.mono s1).mono s2)),rfl,YZ _,(by show 1<=60;decide),_,rfl,?_⟩;have ei:(if false=true then !(rest.map zp).any (fun z=>WL z (zp e)) else (rest.map zp).any fun z=>WL z (zp e))=rest.any fun z=>decide (z=e):=xK _ _;rw[ei];by_cases hp:(rest.any fun z=>decide (z=e))=true
     ·rw[if_pos hp] at eo;exact jT hp ⟨_,rfl,yes _ _ _ _ eo ⟨_,rfl⟩ (zq.refl _) rc.rdn⟩
     ·rw[if_neg hp] at eo;exact jE (Xh.mpr hp) (no _ _ eo ⟨_,rfl⟩ (zq.refl _))
    rintro ys H2 s2 hz2 hr2;have er:((zI rs o).map fun x=>if (rest.any fun z=>decide (z=x))=true then some (zp x) else none).filterMap id=((zI rs o).filter fun x=>rest.any fun z=>decide (z=x)).map zp:=qc _ _ _;rw[er] at hr2;have yl:ys.length=Grow.cnt (nearF rs) o rest:=(zw.cel hr2).length.trans (zkI rnd);have hd2:=s2 _ _ hd1;refine⟨z,ys,rfl,.inl (SqL.of hz2),?_⟩;rw[yl];refine⟨_,rfl,.inl ⟨rfl,_,SqL.of hd2⟩,_,rfl,_,rfl,_,_,rfl,rfl,_,rfl,_,rfl,ziQ,fun tt htt=>?_⟩;have z3:=zd (o:=.tup [.int (jj rs o-((Grow.cnt (nearF rs) o rest:Nat):Int)),.int (jj rs o),.ref na]) htt;have s23:=s2.trans z3;have uwl:uw.length<=64:=by
     rw[Paired.length hN];refine XX (Xe _ _) ?_;rw[XM];lia
    have hd3:=z3 _ _ hd2;refine⟨d,uw,_,rfl,rfl,hd3,XG uwl (by decide),uw++[.ref tt],_,_,_,rfl,fun b e' h'=>?_,zb,zgM (zca hd3 (zgN s23 hN)) (.cons ⟨tt,na,wn,rfl,?_,hna0,hcn0⟩ .nil)⟩
    ·rw[zk (zj h' hd)];exact s23 _ _ (s1 _ _ h')
    ·have ne:tt≠d:=fun e=>by
      subst e;rw[hd2] at htt;cases htt
     rw[zk ne,zb]
   ·have ef:[o].filter (fun o=>nearF rs o c)=[]:=by
     rw[WD,if_neg hp];rfl
    rw[ef,W9];exact jE (Xh.mpr hp) ⟨uw,_,_,_,rfl,s1,hd1,hN⟩
  ·rintro σ H1 ⟨uw,v4,v5,v6,rfl,s1,hd1,hN⟩;rw[Paired.length hT,XA] at hN;exact⟨_,rfl,q d uw H1 hd1 (zgO s1 hN) s1⟩
theorem ZZ:zF ["needs","pick","least","most","near"] ["needs","pick"] (zf yR):=⟨rfl,rfl,rfl,by decide +kernel,rfl,by decide +kernel,by decide +kernel⟩
theorem zgP (T:Txt mg)(D:zm K mg "may_fit" yR ["needs","pick"] f fd):qb P w K mg base CX0 1 f fd ["needs","pick"] zpO:=by
 refine D.F.ok ZZ (fun vs H Q E h=>?_) (fun cdv A outer s H vs Q E hr h=>?_)
 ·obtain⟨na,pa,un,up,rs,rest,O,p,rfl,_⟩:=h;rfl
 ·obtain⟨na,pa,un,up,rs,rest,O,p,rfl,hna,hN,hpa,hcp,pl,q⟩:=h;refine⟨_,(ze (qD W1 rfl (zJ (pvS 0)) (yN rfl (zM (zo (i:=2) ZZ.nd rfl (XE rfl)) (zM (zo (i:=3) ZZ.nd rfl (XE rfl)) (zM (zo (i:=4) ZZ.nd rfl (Vp rfl)) jD)))) (zh (jg (zf7 (zeD zd9 zd9 (pvS 2) (zu zT (by rfl) T.qZ W3 (za (z9 (N:=["cell","near"]) (src:=[none,some 4]) (zP.free (O:=(zf yR).names) (XN:=["needs","pick","least","most","near"]) rfl rfl ⟨_,rfl⟩ rfl rfl (by decide +kernel) (by decide +kernel) (by decide +kernel) rfl (by decide +kernel)) rfl (zJ (pvS 1)) (fun _ _ _ _ _=>(zo (i:=0) (by show W7 (["cell","near"]:List Str);decide +kernel) rfl (XE rfl))) (fun _ _ _ _ _=>(qE (qt (jH (K:=K) (by rfl) hr.units) (pvS 0) (pvS 1) (by rfl)))) (fun _ _ _ _ _=>(pvS 0))) zc)) (pvS 3))) (@zh _ _ _ (@zH _ _ _ _ zhd)) qi))) (@zh _ _ _ (@zH _ _ _ _ zhd))),?_⟩;refine⟨_,rfl,na,rfl,⟨_,SqL.of hna⟩,?_⟩;refine xB (K:=K) (a:=na) (xs:=un) (fun i σ H'=>∃(v2 v3 v4:Option V),σ=[some (.ref na),some (.ref pa),v2,v3,v4]/\zq H H'/\∀o∈O.take i,Grow.zbT (nearF rs) (jj rs) rest o p=true)
   ⟨_,_,_,rfl,zq.refl _,fun o ho=>by simp at ho⟩ (fun i σ H' _ ⟨_,_,_,_,z,_⟩=>SqL.of (z _ _ hna)) ?_ ?_
  ·rintro i x σ H1 hx ⟨v2,v3,v4,rfl,s1,hall⟩;obtain⟨o,ho,a,ra,wn,rfl,ha,hra,hcn⟩:=Zm (zaJ s1 hN) hx;refine⟨a,_,rfl,SqT.of ha,rfl,_,_,rfl,_,_,rfl,_,_,rfl,rfl,?_⟩;refine⟨_,rfl,_,rfl,pa,rfl,⟨_,SqL.of (s1 _ _ hpa)⟩,fun z hz=>?_⟩;refine qk (K:=K) (a:=pa) (xs:=up) (fun a=>a≠z) (p.map fun x=>if nearF rs o x=true then some (zp x) else none) (fun σ=>∃u0,σ=[u0,some (.ref ra)]) hz (fun _ h=>h) ⟨_,rfl⟩ (by rw[Y1];exact hcp.length.symm) (by rw[hcp.length];exact XX pl (by decide)) (SqL.of (s1 _ _ hpa)) ?_ ?_
   ·rintro m v u σ H2 hv hu s2 _ ⟨u1,rfl⟩ Y Z yes no;obtain⟨e,he,rc⟩:=Cel.get ((hcp.mono s1).mono s2) hv;have eo:=jA he hu;refine⟨_,rfl,_,rfl,zp e,(zI rs o).map zp,rc.rdv,.lst (SqL.of (s2 _ _ hra)) (zkA (hcn.mono s2)),rfl,YZ _,(by show 1<=60;decide),_,rfl,?_⟩;have ei:(if false=true then !((zI rs o).map zp).any (fun z=>WL z (zp e)) else ((zI rs o).map zp).any fun z=>WL z (zp e))=nearF rs o e:=xK _ _;rw[ei];by_cases hp:nearF rs o e=true
    ·rw[if_pos hp] at eo;exact jT hp ⟨_,rfl,yes _ _ _ _ eo ⟨_,rfl⟩ (zq.refl _) rc.rdn⟩
    ·rw[if_neg hp] at eo;exact jE (Xh.mpr hp) (no _ _ eo ⟨_,rfl⟩ (zq.refl _))
   rintro ys H2 s2 hz2 hr2;have er:(p.map fun x=>if nearF rs o x=true then some (zp x) else none).filterMap id=(p.filter (nearF rs o)).map zp:=qc _ _ _;rw[er] at hr2;have yl:ys.length=Grow.cnt (nearF rs) o p:=(zw.cel hr2).length;refine⟨z,ys,rfl,.inl (SqL.of hz2),?_⟩;rw[yl];have om:=X7 ho;have tk:O.take (i+1)=O.take i++[o]:=by
    rw[Xc,ho];rfl
   have bad:Grow.zbT (nearF rs) (jj rs) rest o p=false->Q (.bl false) H2:=fun e=>by
    have e2:(O.all fun o=>Grow.zbT (nearF rs) (jj rs) rest o p)=false:=Xh.mpr fun z=>by
     have:=WG.mp z o om;rw[e] at this;cases this
    rw[e2] at q;exact q _ (s1.trans s2)
   refine⟨_,_,rfl,rfl,_,rfl,?_⟩;by_cases h1:jj rs o-((Grow.cnt (nearF rs) o rest:Nat):Int)<=((Grow.cnt (nearF rs) o p:Nat):Int)
   ·rw[decide_eq_true h1];refine QI ⟨_,rfl,_,_,rfl,rfl,_,rfl,?_⟩;by_cases h2:((Grow.cnt (nearF rs) o p:Nat):Int)<=jj rs o
    ·rw[decide_eq_true h2];refine QH ⟨_,_,_,rfl,s1.trans s2,fun o' ho'=>?_⟩;rw[tk] at ho';rcases XO.mp ho' with ho' | ho'
     ·exact hall o' ho'
     ·have e:o'=o:=by simpa using ho'
      rw[e];exact Grow.j7.mpr ⟨h1,h2⟩
    ·rw[decide_eq_false h2];exact QI (bad (Xh.mpr fun z=>h2 (Grow.j7.mp z).2))
   ·rw[decide_eq_false h1];refine QH ⟨_,rfl,?_⟩;exact QI (bad (Xh.mpr fun z=>h1 (Grow.j7.mp z).1))
  ·rintro σ H1 ⟨v2,v3,v4,rfl,s1,hall⟩;rw[Paired.length hN,XA] at hall;have e:(O.all fun o=>Grow.zbT (nearF rs) (jj rs) rest o p)=true:=WG.mpr hall;rw[e] at q;exact q H1 s1
def toL (q:List (Nat×Nat)):List (Int×Int):=q.map toI
def zqn:Sp:=fun vs H Q _=>∃(a l pa:Addr) (rs:List Str) (n:Int) (ups:List V) (part:List (Nat×Nat)),vs=[.ref a,.ref pa]/\qJ H a l rs n/\Rows bd.cps.toList rs/\H pa=some (.lst ups)/\Cel H ups part/\part.Nodup/\part.length<=14 /\
 ∀(d:Addr) (ws:List V) (ks:List (List (Int×Int))) (H':Hp),H d=none->H' d=some (.lst ws)->jZ (fun a=>H a=none/\a≠d) H' ws ks->ws.Nodup->ks.Perm (((Subs.subs part).filter (Grow.fits (nearF rs) (jj rs) (JD rs part) part)).map toL)->ks.Pairwise (fun p q=>PySem.SeqAt.ltL q p=false)->zq H H'->Q (.ref d) H'
def jr (rs:List Str)(part:List (Nat×Nat)):Nat->List (List (Nat×Nat))
 | 0=>[[]]
 | i+1=>match part[i]? with
  | some c=>(Subs.step (jr rs part i) c).filter (Grow.chk (nearF rs) (jj rs) (JD rs part) c (part.drop (i+1)))
  | none=>jr rs part i
theorem zcb {rs:List Str}{part:List (Nat×Nat)}{i:Nat}{c:Nat×Nat}(h:part[i]?=some c):jr rs part (i+1)=(Subs.step (jr rs part i) c).filter (Grow.chk (nearF rs) (jj rs) (JD rs part) c (part.drop (i+1))):=by
 show (match part[i]? with | some c=>_ | none=>_)=_;rw[h]
theorem zcc {rs:List Str}{part:List (Nat×Nat)}:∀(k i:Nat),part.length-i=k->i<=part.length->Grow.grow (nearF rs) (jj rs) (JD rs part) (jr rs part i) (part.drop i)=jr rs part part.length
 | 0,i,h,hi=>by
  have e:i=part.length:=by lia
  subst e;rw[List.drop_length];rfl
 | k+1,i,h,hi=>by
  have hl:i<part.length:=by lia
  rw[WA hl];show Grow.grow _ _ _ ((Subs.step (jr rs part i) part[i]).filter _) (part.drop (i+1))=_;rw[<- zcb (XZ hl)];exact zcc k (i+1) (by lia) (by lia)
theorem zdu (rs:List Str)(part:List (Nat×Nat)):jr rs part part.length=(Subs.subs part).filter (Grow.fits (nearF rs) (jj rs) (JD rs part) part):=by
 rw[<- Grow.zme];exact(zcc (rs:=rs) (part:=part) part.length 0 (by lia) (WZ _)).symm
theorem YS (rs:List Str)(part:List (Nat×Nat)):∀i,(jr rs part i).length<=2^i
 | 0=>XU _
 | i+1=>by
  have ih:=YS rs part i;show (match part[i]? with | some c=>_ | none=>_:List (List (Nat×Nat))).length<=_;rw[Ut];split
  ·refine XX (Xe _ _) ?_;unfold Subs.step;rw[X4,Y1];lia
  ·lia
theorem zcd (rs:List Str)(part:List (Nat×Nat)):∀i,∀q∈jr rs part i,q.length<=i
 | 0,q,h=>by
  have e:q=[]:=by simpa[jr] using h
  rw[e];exact XU _
 | i+1,q,h=>by
  have ih:=zcd rs part i;cases e:part[i]? with
  | none =>
   have e2:jr rs part (i+1)=jr rs part i:=by
    show (match part[i]? with | some c=>_ | none=>_)=_;rw[e]
   rw[e2] at h;exact Ue (ih q h)
  | some c =>
   rw[zcb e] at h;have h:=(X9.mp h).1;rcases XO.mp h with h | h
   ·exact Ue (ih q h)
   ·obtain⟨p,hp,rfl⟩:=XQ.mp h;rw[X4];exact Nat.succ_le_succ (ih p hp)
def tD2 (rs:List Str)(c:Nat×Nat):Wa:=.tuple [.int (jj rs c),.list ((zI rs c).map zp)]
theorem zkJ {N:Addr->Prop}{H:Hp}{rs:List Str}{v:V}{c:Nat×Nat}(h:Rdn N H v (tD2 rs c)):zft H rs v c:=by
 unfold tD2 at h;generalize ed:(zI rs c).map zp=ds at h;cases h with
 | tup h t =>
  cases t with
  | cons b t =>
   cases b;cases t with
   | cons d t =>
    cases t;cases d with
    | lst n h1 h2 =>
     subst ed;exact⟨_,_,_,rfl,h,h1,zw.cel h2⟩
theorem zdv {N:Addr->Prop}{H:Hp}{rs:List Str}:∀{cs:List (Nat×Nat)} {vs:List V},zw N H vs (cs.map (tD2 rs))->Xj (zft H rs) vs cs
 | [],_,.nil=>.nil
 | _::_,_,.cons h t=>.cons (zkJ h) (zdv t)
theorem Za {σ:St}{H:Hp}{A B:Hp->Prop}(h:A H):zjB σ H fun b H4=>if b=true then A H4 else B H4:=by
 show if true=true then A H else B H
 rw[if_pos rfl];exact h
theorem zkK {F:List (List (Nat×Nat))}{j:Nat}{k:List (Int×Int)}(h:(F.map toL)[j]?=some k):∃q,F[j]?=some q/\k=toL q:=by
 rw[XD] at h;cases e:F[j]? with
 | none=>rw[e] at h;cases h
 | some q =>
  rw[e] at h;cases h;exact⟨q,rfl,rfl⟩
theorem zkL (xs:List V)(i:Nat)(hi:i<xs.length):zih xs (some (((i:Nat):Int)+1)) none=xs.drop (i+1):=by
 have e:HT.sIx xs.length 0 (some (((i:Nat):Int)+1))=i+1:=by
  have:=HT.zlC xs.length 0 (i+1);rw[Qr] at this;rw[show (((i:Nat):Int)+1)=((i:Nat):Int)+((1:Nat):Int) from rfl,this];lia
 unfold zih;rw[e];show (xs.drop (i+1)).take (xs.length-(i+1))=_;rw[WE (by rw[U8];lia)]
theorem zfw {H:Hp}:∀{us:List V} {cs:List (Nat×Nat)} (i:Nat),Cel H us cs->Cel H (us.drop i) (cs.drop i)
 | _,_,0,h=>h
 | _,_,i+1,.nil=>.nil
 | _,_,i+1,.cons _ t=>zfw i t
theorem qA:zF ["board","part","told","found","place","cell","needs","grown"] ["board","part"] (zf qF):=⟨rfl,rfl,rfl,by decide +kernel,rfl,by decide +kernel,by decide +kernel⟩
theorem zbb {f1 f2 f3 f4 f5 f6 f7 f8:Addr}{fd1 fd2 fd3 fd4 fd5 fd6 fd7 fd8:Xz}(T:Txt mg)(D:zm K mg "part_layings" qF ["board","part"] f fd)(zO:zm K mg "around" jw ["board","cell"] f1 fd1)(zv:zm K mg "sign_at" qC ["board","cell"] f2 fd2)
  (zD:zm K mg "cells_of" qy ["board"] f3 fd3) (zC:zm K mg "open_cells" qx ["board"] f4 fd4) (zY:zm K mg "number_at" jn ["board","cell"] f5 fd5) (jQ:zm K mg "numbers_of" jo ["board","part"] f6 fd6)
  (yS:zm K mg "needs_at" j8 ["told","cell","rest"] f7 fd7) (Ji:zm K mg "may_fit" yR ["needs","pick"] f8 fd8):qb P w K mg base CX0 4 f fd ["board","part"] zqn:=by
 refine D.F.ok qA (fun vs H Q E h=>?_) (fun cdv A outer s H vs Q E hr h=>?_)
 ·obtain⟨a,l,pa,rs,n,ups,part,rfl,_⟩:=h;rfl
 ·obtain⟨a,l,pa,rs,n,ups,part,rfl,b,R,hpa,hcp,pnd,pl,q⟩:=h;have ul:=hcp.length;refine⟨_,(ze (jg (qt zkf (zu zT (by rfl) T.qZ W3 (za (pvS 1) zc)) (xY (v:=.int 14) (by rfl) T.zb1.choose_spec (by exact⟨_,rfl⟩)) (qa _)) (zh zjr) qi) (ze (JQ (i:=2) qA.nd rfl rfl (N:=["cell","board"]) (src:=[none,some 0]) (zP.free (O:=(zf qF).names) (XN:=["board","part","told","found","place","cell","needs","grown"]) rfl rfl ⟨_,rfl⟩ rfl rfl (by decide +kernel) (by decide +kernel) (by decide +kernel) rfl (by decide +kernel)) rfl (zJ (pc0 (zcL T jQ zO zv zD zC) hr jQ (za (pvS 0) (za (pvS 1) zc)))) (fun _ _ _ _ _=>(zo (i:=0) (by show W7 (["cell","board"]:List Str);decide +kernel) rfl (XE rfl))) (fun _ _ _ _ _=>qo) (fun _ _ _ _ _=>(qm (za (pc0 (ZX T zY zv) hr zY (za (pvS 1) (za (pvS 0) zc))) (za (pc0 (YO T zO) hr zO (za (pvS 1) (za (pvS 0) zc))) zc))))) (@ze _ _ _ _ _ (@zz _ _ 3 _ _ _ _ qA.nd rfl (XE rfl) (@qd _ _ _ _ (@za _ _ _ _ _ (@qd _ _ _ _ zc) zc rfl)) (by rfl) (.inr rfl)) (ze (qD W1 rfl (Zd (by rfl) T.jJ (za (pvS 1) zc)) (yN rfl (zM (zo (i:=4) qA.nd rfl (XE rfl)) (zM (zo (i:=5) qA.nd rfl (Vp rfl)) jD))) (ze (zz (i:=6) qA.nd rfl (Vp rfl) (pc0 (zfv T yS) hr yS (za (pvS 2) (za (pvS 5) (za (zjv zlH (pvS 1) (zlF (zE JU (pvS 4) zg)) zlE) zc))))) (ze (zz (i:=7) qA.nd rfl (XE rfl) (zE Qh (pvS 3) (z9 (N:=["pick","cell"]) (src:=[none,some 5]) (zP.free (O:=(zf qF).names) (XN:=["board","part","told","found","place","cell","needs","grown"]) rfl rfl ⟨_,rfl⟩ rfl rfl (by decide +kernel) (by decide +kernel) (by decide +kernel) rfl (by decide +kernel)) rfl (zJ (pvS 3)) (fun _ _ _ _ _=>(zo (i:=0) (by show W7 (["pick","cell"]:List Str);decide +kernel) rfl (XE rfl))) (fun _ _ _ _ _=>qo) (fun _ _ _ _ _=>(zE Qh (pvS 0) (qd (za (pvS 1) zc))))))) (zh (JQ (i:=3) qA.nd rfl rfl (N:=["pick","needs"]) (src:=[none,some 6]) (zP.free (O:=(zf qF).names) (XN:=["board","part","told","found","place","cell","needs","grown"]) rfl rfl ⟨_,rfl⟩ rfl rfl (by decide +kernel) (by decide +kernel) (by decide +kernel) rfl (by decide +kernel)) rfl (zJ (pvS 7)) (fun _ _ _ _ _=>(zo (i:=0) (by show W7 (["pick","needs"]:List Str);decide +kernel) rfl (XE rfl))) (fun _ _ _ _ _=>(qE (YI (K:=K) (by rfl) (pc0 (zgP T Ji) hr Ji (za (pvS 1) (za (pvS 0) zc))) (fun _=>rfl)))) (fun _ _ _ _ _=>(pvS 0))))))) (zh (zH (zu (GS.Y8 hr.units) (by rfl) T.yC Wp (za (pvS 3) zc)))))))),?_⟩;refine⟨_,rfl,pa,ups,rfl,.inl (SqL.of hpa),_,_,rfl,rfl,_,rfl,?_⟩;refine jE (decide_eq_false (by lia)) ?_;refine⟨_,rfl,_,rfl,a,l,pa,rs,n,ups,part,rfl,b,R,hpa,hcp,fun d ws H1 hd hd1 hc1 s1=>⟨d,rfl,⟨_,SqL.of hd1⟩,fun z hz=>?_⟩⟩;have b1:=b.mono s1;have nl:(JD rs part).length<=64:=XX (Xe _ _) (jz (p:=Q6) R);refine qk (K:=K) (a:=d) (xs:=ws) (fun a=>a≠z) ((JD rs part).map fun c=>some (tD2 rs c)) (fun σ=>∃u0,σ=[u0,some (.ref a)]) hz (fun _ h=>h) ⟨_,rfl⟩ (by rw[Y1];exact hc1.length.symm) (by rw[hc1.length];exact XX nl (by decide)) (SqL.of hd1) ?_ ?_
  ·rintro k x o σ H2 hx ho s2 hzn ⟨u0,rfl⟩ Y Z yes no;obtain⟨y,hy,r1⟩:=Cel.get hc1 hx;have eo:=jA hy ho;have yo:y∈qf rs:=(X9.mp (X7 hy)).1;obtain⟨t,sg,ht,hj,hop,es⟩:=zV yo;obtain⟨ya,rfl,hya⟩:=r1;obtain⟨l1,l2⟩:=j9 R ht hj;obtain⟨o1,o2⟩:=zaE (zhH R ht hj) hop;have b2:=b1.mono s2;have hya2:=s2 _ _ hya;refine x6 ⟨_,rfl,_,rfl,a,l,ya,rs,n,y.1,y.2,t,sg,rfl,b2,hya2,ht,hj,R.tlen ht,o1,o2,_,rfl,_,rfl,a,l,ya,rs,n,y.1,y.2,rfl,b2,R,hya2,l1,l2,fun d2 ws2 H3 hd2 hd3 hc2 s3=>⟨yJ,fun tt htt=>?_⟩⟩;have s4:=zd (o:=.tup [.int (((sg:Nat):Int)-48),.ref d2]) htt;have en:jj rs y=((sg:Nat):Int)-48:=by
    unfold jj;rw[es]
   refine yes _ _ _ _ eo ⟨_,rfl⟩ (s3.trans s4) (.tup zb (.cons ?_ (.cons (.lst (fun e=>hzn (e ▸ hd2)) (s4 _ _ hd3) (Cel.rdn (hc2.mono s4))) .nil)));rw[en];exact .int _
  rintro ut H2 s2 hz2 hr2;rw[Zt] at hr2;have hT:=zdv hr2;have s02:=s1.trans s2;refine⟨Jw,fun e0 he0=>⟨sz_1,fun f0 hf0=>?_⟩⟩;have y1:=zd (o:=.lst []) he0;have y2:=zd (o:=.lst [.ref e0]) hf0;have y12:=y1.trans y2;have hL0:jZ (fun a=>H2 a=none) (upd (upd H2 e0 (.lst [])) f0 (.lst [.ref e0])) [.ref e0] ([[]]:List (List (Int×Int))):=.cons ⟨e0,[],rfl,he0,y2 _ _ zb,.nil⟩ .nil;have hf3:upd (upd H2 e0 (.lst [])) f0 (.lst [.ref e0]) f0=some (.lst [.ref e0]):=zb;generalize upd (upd H2 e0 (.lst [])) f0 (.lst [.ref e0])=H3 at *
  have hpa2:=s02 _ _ hpa;refine⟨_,rfl,pa,rfl,⟨_,SqL.of (y12 _ _ hpa2)⟩,?_⟩;refine Ze (K:=K) (l:=pa) (xs:=ups) (fun i σ H'=>∃(fa:Addr) (fs:List V) (v4 v5 v6 v7:Option V),σ=[some (.ref a),some (.ref pa),some (.ref z),some (.ref fa),v4,v5,v6,v7]/\zq H2 H'/\H' fa=some (.lst fs)/\jZ (fun a=>H2 a=none) H' fs ((jr rs part i).map toL)/\fs.Nodup)
   ⟨f0,_,_,_,_,_,rfl,y12,hf3,hL0,by simp⟩ (fun i σ H' _ ⟨_,_,_,_,_,_,_,y,_⟩=>SqL.of (y _ _ hpa2)) ?_ ?_
  ·rintro i x tt σ H4 hx htt ⟨fa,fs,v4,v5,v6,v7,rfl,s4,hfa,hL,hnd⟩;obtain⟨c,hc,ca,rfl,hca⟩:=Cel.get ((hcp.mono s02).mono s4) hx;have il:=(X0.mp hx).1;have z5:=zd (o:=.tup [.int (i:Nat),.ref ca]) htt;refine⟨tt,_,rfl,SqT.of zb,rfl,_,_,rfl,_,_,rfl,rfl,?_⟩;have s5:=s4.trans z5;have hca5:=z5 _ _ hca;have hfa5:=z5 _ _ hfa;have hL5:=jK z5 hL;generalize upd H4 tt (.tup [.int (i:Nat),.ref ca])=H5 at *
   refine⟨_,rfl,_,rfl,_,rfl,_,rfl,_,_,rfl,rfl,_,rfl,pa,ups,rfl,SqL.of (s5 _ _ hpa2),fun x1 hx1=>?_⟩;have e1:=zkL ups i il;rw[e1] at *
   have z6:=zd (o:=.lst (ups.drop (i+1))) hx1;have s6:=s5.trans z6;refine⟨z,ca,x1,ut,ups.drop (i+1),rs,JD rs part,part.drop (i+1),c,rfl,s6 _ _ hz2,zi6 s6 hT,nl,R,z6 _ _ hca5,zb,zfw _ ((hcp.mono s02).mono s6),pnd.sublist (RZ _ _),fun nd un H6 zqo hN s7=>?_⟩;have s56:=z6.trans s7;have s26:=s5.trans s56;have hfa6:=s56 _ _ hfa5;have hL6:=jK s56 hL5;have hca6:=s56 _ _ hca5;have i14:i<=13:=by lia
   have fl:fs.length<=8192:=by
    rw[yk hL,Y1];exact XX (YS rs part i) (T5 (by decide) i14)
   have dp:=zcd rs part i;have eG:=zcb (rs:=rs) hc;have gl:=YS rs part i;generalize jr rs part i=F at *
   refine⟨_,rfl,_,rfl,fa,rfl,⟨_,SqL.of hfa6⟩,fun y hy=>?_⟩;refine qB (K:=K) (a:=fa) (xs:=fs) (fun j σ' H'=>∃(u0:Option V) (ys:List V),σ'=[u0,some (.ref ca)]/\zq H6 H'/\H' y=some (.lst ys)/\jZ (fun a=>H6 a=none/\a≠y) H' ys (((F.take j).map (·++[c])).map toL)/\ys.Nodup)
    ⟨_,[],rfl,zd hy,zb,.nil,VA⟩ (fun j σ' H' _ ⟨_,_,_,z,_⟩=>SqL.of (z _ _ hfa6)) ?_ ?_
   ·rintro j v σ' H7 hv ⟨u0,ys,rfl,s8,hy7,hL7,nd7⟩;obtain⟨k,a1,w1,hk,rfl,an,ha1,t1⟩:=zb9 hL6 hv;obtain⟨q1,hq1,rfl⟩:=zkK hk;have kd:=dp q1 (X7 hq1);have wl:w1.length=q1.length:=(zfs t1).trans (Y1 _);have tj:((F.take (j+1)).map (·++[c])).map toL=((F.take j).map (·++[c])).map toL++[toL q1++[toI c]]:=by
     rw[Xc,hq1,Xs,Xs];simp[toL]
    rw[tj];unfold JO;refine Za ?_;refine⟨_,rfl,_,rfl,sz_1,fun t2 ht2=>?_⟩;have y5:=zd (o:=.lst [.ref ca]) ht2;refine⟨a1,t2,w1,[.ref ca],rfl,rfl,y5 _ _ (s8 _ _ ha1),zb,XX (show w1.length+1<=100 by lia) (by decide),fun t3 ht3=>?_⟩;have y6:=zd (o:=.lst (w1++[.ref ca])) ht3;have y56:=y5.trans y6;have h6:upd (upd H7 t2 (.lst [.ref ca])) t3 (.lst (w1++[.ref ca])) t3=some (.lst (w1++[.ref ca])):=zb;have tz:t3≠y:=fun e=>by
     subst e;rw[y5 _ _ hy7] at ht3;cases ht3
    have n4:=y5.free ht3;have n3:=s8.free n4;have c1:yI (upd (upd H7 t2 (.lst [.ref ca])) t3 (.lst (w1++[.ref ca]))) [.ref ca] [toI c]:=.cons ⟨ca,rfl,y56 _ _ (s8 _ _ hca6)⟩ .nil;have tw6:=zkH (zaG (s8.trans y56) t1) c1;generalize upd (upd H7 t2 (.lst [.ref ca])) t3 (.lst (w1++[.ref ca]))=H8 at *
    have hy8:=y56 _ _ hy7;have yl:ys.length<=8192:=by
     rw[yk hL7,Y1,Y1,XM];have:=yk hL;rw[Y1] at this;lia
    refine⟨ys,hy8,XG yl (by decide),_,ys++[.ref t3],rfl,fun b' o e=>?_,zb,zaI (zb8 hy8 (fun a h=>h.2) (jK y56 hL7)) (.cons ⟨t3,w1++[.ref ca],rfl,⟨n3,tz⟩,by rw[zk tz];exact h6,zaH hy8 tw6⟩ .nil),?_⟩
    ·rw[zk (zj e hy)];exact y56 _ _ (s8 _ _ e)
    ·refine WN.mpr ⟨nd7,by simp,fun u hu u' hu' e=>?_⟩;obtain⟨b',wb,rfl,_,hb⟩:=YR hL7 hu;have e2:u'=.ref t3:=by simpa using hu'
     rw[e2] at e;cases e;rw[hb] at n4;cases n4
   rintro σ' H7 ⟨u0,ys,rfl,s8,hy7,hL7,nd7⟩;have fsl:fs.length=F.length:=(yk hL).trans (Y1 _);rw[fsl,XA] at hL7;have yl:ys.length<=8192:=by
    rw[yk hL7,Y1,Y1];lia
   refine⟨fa,y,fs,ys,rfl,rfl,s8 _ _ hfa6,hy7,XX (Nat.add_le_add fl yl) (by decide),fun g hg=>?_⟩;have y9:=zd (o:=.lst (fs++ys)) hg;have s27:=s26.trans s8;have s28:=s27.trans y9;have hg8:upd H7 g (.lst (fs++ys)) g=some (.lst (fs++ys)):=zb;have hLg:jZ (fun a=>H2 a=none) (upd H7 g (.lst (fs++ys))) (fs++ys) ((Subs.step F c).map toL):=by
    unfold Subs.step;rw[Xs];exact zaI (jK (s8.trans y9) hL6) (jK y9 (zb7 (fun a h=>s26.free h.1) hL7))
   have gnd:(fs++ys).Nodup:=by
    refine WN.mpr ⟨hnd,nd7,fun u hu u' hu' e=>?_⟩;obtain⟨b',wb,rfl,_,hb⟩:=YR hL6 hu;obtain⟨b2,wb2,rfl,hb2,_⟩:=YR hL7 hu';cases e;rw[hb] at hb2;cases hb2.1
   have hnd8:=(s8.trans y9) _ _ zqo;have hN8:=zaJ (s8.trans y9) hN;have gll:(fs++ys).length<=16384:=by
    rw[X4];lia
   have dps:∀q∈Subs.step F c,q.length<=64:=fun q hq=>by
    rcases XO.mp hq with hq | hq
    ·have:=dp q hq;lia
    ·obtain⟨p',hp',rfl⟩:=XQ.mp hq;have:=dp p' hp';rw[X4];show p'.length+1<=64;lia
   generalize fs++ys=gs at *
   generalize Subs.step F c=S at *
   generalize upd H7 g (.lst gs)=H8 at *
   refine⟨_,rfl,g,rfl,⟨_,SqL.of hg8⟩,fun y2 hy2=>?_⟩;refine qB (K:=K) (a:=g) (xs:=gs) (fun j σ' H'=>∃(u0:Option V) (ys:List V),σ'=[u0,some (.ref nd)]/\zq H8 H'/\H' y2=some (.lst ys)/\jZ (fun a=>H2 a=none/\a≠y2) H' ys (((S.take j).filter (Grow.chk (nearF rs) (jj rs) (JD rs part) c (part.drop (i+1)))).map toL)/\ys.Sublist (gs.take j))
    ⟨_,[],rfl,zd hy2,zb,.nil,List.Sublist.slnil⟩ (fun j σ' H' _ ⟨_,_,_,z,_⟩=>SqL.of (z _ _ hg8)) ?_ ?_
   ·rintro j v σ' H9 hv ⟨u0,ys,rfl,s9,hz9,hL9,sb9⟩;obtain⟨k,a1,w1,hk,rfl,an,ha1,t1⟩:=zb9 hLg hv;obtain⟨q1,hq1,rfl⟩:=zkK hk;have tf:gs.take (j+1)=gs.take j++[.ref a1]:=by
     rw[Xc,hv];rfl
    refine⟨_,rfl,_,rfl,nd,a1,un,w1,rs,part.drop (i+1),_,q1,rfl,s9 _ _ hnd8,zaJ s9 hN8,s9 _ _ ha1,(qL t1).mono s9,dps q1 (X7 hq1),fun H10 s10=>⟨_,rfl,?_⟩⟩;rw[tf];have hz10:=s10 _ _ hz9;show if Grow.chk (nearF rs) (jj rs) (JD rs part) c (part.drop (i+1)) q1=true then _ else _
    by_cases hlt:Grow.chk (nearF rs) (jj rs) (JD rs part) c (part.drop (i+1)) q1=true
    ·have e1:((S.take (j+1)).filter (Grow.chk (nearF rs) (jj rs) (JD rs part) c (part.drop (i+1)))).map toL=((S.take j).filter (Grow.chk (nearF rs) (jj rs) (JD rs part) c (part.drop (i+1)))).map toL++[toL q1]:=by
      rw[Xc,hq1,WY,Xs];simp[hlt]
     rw[e1];have az:a1≠y2:=zj ha1 hy2;have yl:ys.length<=16384:=by
      have:=sb9.length_le;rw[XM] at this;lia
     refine jT hlt ⟨_,rfl,ys,hz10,XG yl (by decide),_,ys++[.ref a1],rfl,fun b' o e=>?_,zb,zaI (zb8 hz10 (fun a h=>h.2) (jK s10 hL9)) (.cons ⟨a1,w1,rfl,⟨an,az⟩,by rw[zk az];exact s10 _ _ (s9 _ _ ha1),zaH hz10 (zaG (s9.trans s10) t1)⟩ .nil),List.Sublist.append sb9 (List.Sublist.refl _)⟩;rw[zk (zj e hy2)];exact s10 _ _ (s9 _ _ e)
    ·have e1:((S.take (j+1)).filter (Grow.chk (nearF rs) (jj rs) (JD rs part) c (part.drop (i+1)))).map toL=((S.take j).filter (Grow.chk (nearF rs) (jj rs) (JD rs part) c (part.drop (i+1)))).map toL:=by
      rw[Xc,hq1,WY,Xs];simp[hlt]
     rw[e1];exact jE (Xh.mpr hlt) ⟨_,ys,rfl,s9.trans s10,hz10,jK s10 hL9,sb9.trans (UI _ _)⟩
   ·rintro σ' H9 ⟨u0,ys,rfl,s9,hz9,hL9,sb9⟩;have gsl:gs.length=S.length:=(yk hLg).trans (Y1 _);rw[gsl,XA,<- eG] at hL9;rw[gsl,<- gsl,XA] at sb9;exact⟨y2,ys,_,_,_,_,rfl,s28.trans s9,hz9,zb7 (fun a h=>h.1) hL9,gnd.sublist sb9⟩
  ·rintro σ H4 ⟨fa,fs,v4,v5,v6,v7,rfl,s4,hfa,hL,hnd⟩;have gl:=YS rs part part.length;rw[ul,zdu] at hL;rw[zdu] at gl;have fl:fs.length<=16384:=by
    rw[yk hL,Y1];exact XX gl (T5 (by decide) pl)
   refine⟨_,rfl,fa,fs,_,rfl,SqL.of hfa,zi4 hL,by lia,fun d' us' ks' hd' hp' zdr hpw hup=>?_⟩;have y5:=zd (o:=.lst us') hd';have s04:=s02.trans s4;refine q d' us' ks' _ (s04.free hd') zb (jK y5 (zkG hp' fun v hv=>?_)) (hup.nodup_iff.mpr hnd) zdr hpw (s04.trans y5);obtain⟨a1,wa,e,na,ha⟩:=YR hL (hup.mem_iff.mp hv);exact⟨a1,e,s02.free na,zj ha hd'⟩
abbrev iL (xs:List Int):List V:=xs.map V.int
theorem ints_get {xs:List Int}{i:Nat}{v:V}(h:(iL xs)[i]?=some v):∃x,xs[i]?=some x/\v=.int x:=by
 rw[XD] at h;cases e:xs[i]? with
 | none=>rw[e] at h;cases h
 | some x =>
  rw[e] at h;cases h;exact⟨x,rfl,rfl⟩
theorem zhK {xs:List Int}{i:Nat}{x:Int}(h:xs[i]?=some x):(iL xs)[i]?=some (.int x):=by
 rw[XD,h];rfl
theorem zkM {n:Nat}{k:Int}(h0:0<=k)(h1:k<n):ixN n k=some k.toNat:=by
 unfold ixN;rw[if_pos h0,if_pos h1]
theorem zmw (xs:List Int)(z:Int):iL (xs++[z])=iL xs++[.int z]:=by
 show Ua V.int (xs++[z])=_;rw[Xs];rfl
def zeg (rs:List Str)(part:List (Nat×Nat)):List (List (Int×Int)):=((Subs.subs part).filter (Grow.fits (nearF rs) (jj rs) (JD rs part) part)).map toL
def zpP:Sp:=fun vs H Q _=>∃(fa:Addr) (us:List V) (ks:List (List (Int×Int))) (N:Addr->Prop) (g:Nat),vs=[.ref fa,.int (g:Nat)]/\H fa=some (.lst us)/\jZ N H us ks/\(∀k∈ks,k.length<=g)/\g<=64 /\
 ∀(d:Addr) (H':Hp),H d=none->H' d=some (.lst (iL (Cnt.Jx g ks)))->zq H H'->Q (.ref d) H'
def zqp:Sp:=fun vs H Q _=>∃(a l pa:Addr) (rs:List Str) (n:Int) (ups:List V) (part:List (Nat×Nat)),vs=[.ref a,.ref pa]/\qJ H a l rs n/\Rows bd.cps.toList rs/\H pa=some (.lst ups)/\Cel H ups part/\part.Nodup/\part.length<=14 /\
 ∀(d:Addr) (H':Hp),H d=none->H' d=some (.lst (iL (Cnt.Jx part.length (zeg rs part))))->zq H H'->Q (.ref d) H'
theorem zfx (n:Nat):(Wu n [V.int 0]).flatten=iL (Wu n 0):=by
 induction n with
 | zero=>rfl
 | succ n ih =>
  rw[Vg,V0,ih];rfl
theorem zfy {α:Type}:∀(cs:List α) (b:Nat),(Subs.pick cs b).length<=cs.length
 | [],_=>WZ _
 | c::r,b=>by
  have:=zfy r (b/2);show ((if b%2=1 then [c] else [])++Subs.pick r (b/2)).length<=r.length+1;rw[X4];split
  ·show 1+_<=_;lia
  ·show 0+_<=_;lia
theorem zkN {α:Type}{cs q:List α}(h:q∈Subs.subs cs):q.length<=cs.length:=by
 rw[Subs.zdj] at h;obtain⟨b,_,rfl⟩:=XQ.mp h;exact zfy cs b
theorem zkO {rs:List Str}{part:List (Nat×Nat)}{k:List (Int×Int)}(h:k∈zeg rs part):k.length<=part.length:=by
 obtain⟨q1,h1,rfl⟩:=XQ.mp h;show (q1.map toI).length<=_;rw[Y1];exact zkN (X9.mp h1).1
theorem Qt:zF ["found","greatest","counts","laying"] ["found","greatest"] (zf Zq):=⟨rfl,rfl,rfl,by decide +kernel,rfl,by decide +kernel,by decide +kernel⟩
theorem zgQ (T:Txt mg)(D:zm K mg "counted" Zq ["found","greatest"] f fd):qb P w K mg base CX0 1 f fd ["found","greatest"] zpP:=by
 refine D.F.ok Qt (fun vs H Q E h=>?_) (fun cdv A outer s H vs Q E hr h=>?_)
 ·obtain⟨fa,us,ks,N,g,rfl,_⟩:=h;rfl
 ·obtain⟨fa,us,ks,N,g,rfl,hfa,hL,hk,g64,q⟩:=h;refine⟨_,(@ze _ _ _ _ _ (@zz _ _ 2 _ _ _ _ Qt.nd rfl (XE rfl) (@zE _ _ _ _ _ _ _ _ zjx (@qd _ _ _ _ (@za _ _ _ _ _ zg zc rfl)) (zE JU (pvS 1) zg)) (by rfl) (.inr rfl)) (ze (qD W1 rfl (zJ (pvS 0)) (zo (i:=3) Qt.nd rfl (XE rfl)) (zh (zhe (pvS 2) (zu zT (by rfl) T.qZ W3 (za (pvS 3) zc)) zeO zg zjs set_list))) (zh (zH (pvS 2))))),?_⟩;refine⟨sz_1,fun l0 hl0=>?_⟩;have s0:zq H (upd H l0 (.lst [.int 0])):=zd hl0;refine⟨_,rfl,_,_,rfl,rfl,l0,_,_,rfl,rfl,zb,by lia,by lia,?_,fun p hp=>?_⟩
  ·exact XX (show 1*((g:Int)+1).toNat<=120 by lia) (by decide)
  rw[show ((g:Int)+1).toNat=g+1 by lia,zfx,<- Cnt.zkj (α:=Int×Int)];have s1:=s0.trans (zd (o:=.lst (iL (Cnt.Jx g ([]:List (List (Int×Int)))))) hp);have hp0:H p=none:=s0.free hp;refine⟨_,rfl,fa,rfl,⟨_,SqL.of (s1 _ _ hfa)⟩,?_⟩;refine xB (K:=K) (a:=fa) (xs:=us) (fun i σ H'=>∃v3,σ=[some (.ref fa),some (.int (g:Nat)),some (.ref p),v3]/\zq H H'/\H' p=some (.lst (iL (Cnt.Jx g (ks.take i)))))
   ⟨_,rfl,s1,zb⟩ (fun i σ H' _ ⟨_,_,y,_⟩=>SqL.of (y _ _ hfa)) ?_ ?_
  ·rintro i v σ H1 hv ⟨v3,rfl,s2,hp2⟩;obtain⟨k,a1,wa,hk1,rfl,_,ha1,t1⟩:=zb9 hL hv;have kl:=hk k (X7 hk1);have wl:=zfs t1;refine⟨_,rfl,_,rfl,a1,wa,rfl,.inl (SqL.of (s2 _ _ ha1)),p,_,_,_,rfl,rfl,SqL.of hp2,zgd (by lia) (zhK (Cnt.zbU (n:=wa.length) _ (by lia))),_,_,rfl,rfl,p,_,_,_,rfl,rfl,hp2,zkM (by lia) (by rw[Y1,Cnt.Q0];lia),?_⟩;refine⟨_,rfl,fun c o e=>?_,?_⟩
   ·rw[zk (zj e hp0)];exact s2 _ _ e
   ·rw[zb,Xc,hk1];show _=some (HO.lst (iL (Cnt.Jx g (ks.take i++[k]))));rw[Cnt.ziV _ kl,wl];show some (HO.lst ((Ua V.int _).set _ (V.int _)))=_;rw[<- List.map_set];rfl
  ·rintro σ H1 ⟨v3,rfl,s2,hp2⟩;rw[yk hL,XA] at hp2;exact⟨_,rfl,q p H1 hp0 hp2 s2⟩
theorem zce:zF ["board","part"] ["board","part"] (zf xy):=⟨rfl,rfl,rfl,by decide +kernel,rfl,by decide +kernel,by decide +kernel⟩
theorem zcf {f1 f2 f3 f4 f5 f6 f7 f8 f9 f10:Addr}{fd1 fd2 fd3 fd4 fd5 fd6 fd7 fd8 fd9 fd10:Xz}(T:Txt mg)(D:zm K mg "part_counts" xy ["board","part"] f fd)(zO:zm K mg "around" jw ["board","cell"] f1 fd1)(zv:zm K mg "sign_at" qC ["board","cell"] f2 fd2)
  (zD:zm K mg "cells_of" qy ["board"] f3 fd3) (zC:zm K mg "open_cells" qx ["board"] f4 fd4) (zY:zm K mg "number_at" jn ["board","cell"] f5 fd5) (jQ:zm K mg "numbers_of" jo ["board","part"] f6 fd6)
  (yS:zm K mg "needs_at" j8 ["told","cell","rest"] f7 fd7) (Ji:zm K mg "may_fit" yR ["needs","pick"] f8 fd8) (yE:zm K mg "part_layings" qF ["board","part"] f9 fd9) (YT:zm K mg "counted" Zq ["found","greatest"] f10 fd10):qb P w K mg base CX0 5 f fd ["board","part"] zqp:=by
 refine D.F.ok zce (fun vs H Q E h=>?_) (fun cdv A outer s H vs Q E hr h=>?_)
 ·obtain⟨a,l,pa,rs,n,ups,part,rfl,_⟩:=h;rfl
 ·obtain⟨a,l,pa,rs,n,ups,part,rfl,b,R,hpa,hcp,pnd,pl,q⟩:=h;refine⟨_,(zh (zH (pc0 (zgQ T YT) hr YT (za (pc0 (zbb T yE zO zv zD zC zY jQ yS Ji) hr yE (za (pvS 0) (za (pvS 1) zc))) (za (zu zT (by rfl) T.qZ W3 (za (pvS 1) zc)) zc))))),?_⟩;refine⟨_,rfl,_,rfl,a,l,pa,rs,n,ups,part,rfl,b,R,hpa,hcp,pnd,pl,fun d ws ks H1 hd hd1 hL _ hpm _ s1=>?_⟩;refine⟨_,rfl,pa,ups,rfl,.inl (SqL.of (s1 _ _ hpa)),d,ws,ks,_,ups.length,rfl,hd1,hL,fun k hk=>?_,?_,fun e H2 he he2 s2=>?_⟩
  ·rw[hcp.length];exact zkO (hpm.mem_iff.mp hk)
  ·rw[hcp.length];lia
  ·rw[hcp.length,Cnt.ziW hpm] at he2;exact q e H2 (s1.free he) he2 (s1.trans s2)
def Ys (rs:List Str)(g S:List (Nat×Nat)):Bool:=Grow.fits (nearF rs) (jj rs) (JD rs g) g S
theorem zaK {rs:List Str}{o x:Nat×Nat}:nearF rs o x=true↔x∈zI rs o:=Parts.QY _ _
theorem zou {rs:List Str}{x:Nat×Nat}(h:x∈zK rs):Cells.sgn (codes rs) x=63:=by
 obtain⟨t,k,ht,hj,hk,es⟩:=zV h;have:k=63:=by
  unfold yM at hk;simpa using hk
 rw[es,this]
theorem Jc {rs:List Str}{o x:Nat×Nat}(hx:x∈zK rs):nearF rs o x=true↔x∈clA rs o:=by
 rw[zaK];constructor
 ·exact fun h=>X9.mpr ⟨h,decide_eq_true (zou hx)⟩
 ·exact fun h=>(X9.mp h).1
theorem zeh {rs:List Str}{g:List (Nat×Nat)}{o:Nat×Nat}:o∈JD rs g↔o∈qf rs/\∃x∈g,nearF rs o x=true:=by
 unfold JD;rw[X9,T3,WF];refine and_congr_right fun _=>?_;constructor
 ·rintro⟨z,hz,h⟩;have h':(g.any fun x=>decide (x=z))=true:=h;exact⟨z,(Parts.QY _ _).mp h',zaK.mpr hz⟩
 ·rintro⟨x,hx,h⟩;exact⟨x,zaK.mp h,(Parts.QY _ _).mpr hx⟩
section
variable {rs:List Str}{gs:List (List (Nat×Nat))}(G:Parts.Good (clA rs) (qf rs) gs)
include G
theorem Z0:∀c∈gs.flatten,c∈zK rs:=fun c hc=>by
 obtain⟨o,_,h⟩:=G.from_ c hc;exact jY h
theorem zmx {g:List (Nat×Nat)}(hg:g∈gs){o x:Nat×Nat}(ho:o∈JD rs g)(hx:x∈zK rs)(hn:nearF rs o x=true):x∈g:=by
 obtain⟨h1,y,hy,h2⟩:=zeh.mp ho;have hys:=Z0 G y (Wf.mpr ⟨g,hg,hy⟩);have hyc:=(Jc hys).mp h2;obtain⟨g',hg',hall⟩:=G.cov o h1 (Ts hyc);have e:=Parts.zdi G.nd hg' hg (hall y hyc) hy;rw[<- e];exact hall x ((Jc hx).mp hn)
theorem zhL {g:List (Nat×Nat)}(hg:g∈gs){o:Nat×Nat}(ho:o∈JD rs g){a:List (Nat×Nat)}(h:∀c∈a,c∈zK rs/\c ∉ g):Grow.cnt (nearF rs) o a=0:=by
 unfold Grow.cnt;rw[Wj,We];intro c hc hn;exact(h c hc).2 (zmx G hg ho (h c hc).1 hn)
theorem zhM {g:List (Nat×Nat)}(hg:g∈gs):Tally.Loc (zK rs) (Ys rs g) g:=by
 have key:∀S S':List (Nat×Nat),(∀o∈JD rs g,Grow.cnt (nearF rs) o S=Grow.cnt (nearF rs) o S')->Ys rs g S=Ys rs g S':=fun S S' h=>by
  unfold Ys Grow.fits;rw[WV,WG,WG];constructor
  ·intro k o ho;have:=k o ho;rwa [h o (X9.mp ho).1] at this
  ·intro k o ho;have:=k o ho;rwa [<- h o (X9.mp ho).1] at this
 have app:∀(o:Nat×Nat) (a b:List (Nat×Nat)),Grow.cnt (nearF rs) o (a++b)=Grow.cnt (nearF rs) o a+Grow.cnt (nearF rs) o b:=fun o a b=>by
  unfold Grow.cnt;rw[WY,X4]
 refine⟨fun a b h=>key _ _ fun o ho=>?_,fun a b h=>key _ _ fun o ho=>?_⟩
 ·rw[app,zhL G hg ho h,VC]
 ·rw[app,zhL G hg ho h,Rn]
theorem zkP:(gs.map fun g=>Tally.tl g (Ys rs g)).foldl Pour.YY [1]=Tally.tl gs.flatten (Tally.ZR (Ys rs) gs):=Tally.zkq G.nd (Z0 G) fun g hg=>zhM G hg
theorem zi7 (i:Nat):((gs.take i).map fun g=>Tally.tl g (Ys rs g)).foldl Pour.YY [1]=Tally.tl (gs.take i).flatten (Tally.ZR (Ys rs) (gs.take i)):=by
 have sub:(gs.take i).flatten.Sublist gs.flatten:=by
  have e:gs.flatten=(gs.take i).flatten++(gs.drop i).flatten:=by rw[<- V3,WT]
  rw[e];exact UI _ _
 exact Tally.zkq (G.nd.sublist sub) (fun c hc=>Z0 G c (sub.subset hc)) fun g hg=>zhM G (V9 hg)
theorem zcg (R:Rows bd.cps.toList rs):gs.flatten.length<=64:=by
 have h1:=Parts.yj G.nd (Z0 G);have h2:=zdq R;lia
end
theorem zi8 (rs:List Str)(part:List (Nat×Nat)):Cnt.Jx part.length (zeg rs part)=Tally.tl part (Ys rs part):=by
 unfold zeg;rw[Tally.zkr part.length toL (fun k=>Y1 _)];exact Tally.zmp part _
def zi9 (xs:List Int):Prop:=∀z∈xs,z.natAbs<2^8000
theorem zmy {cs:List (Nat×Nat)}{p:List (Nat×Nat)->Bool}{k:Nat}(h:cs.length<=64):Tally.T cs p k<=2^64:=by
 refine XX List.countP_le_length ?_;rw[Subs.zdj,Y1,WU];exact T5 (by decide) h
theorem zgR {cs:List (Nat×Nat)}{p:List (Nat×Nat)->Bool}(h:cs.length<=64):zi9 (Tally.tl cs p):=fun z hz=>by
 unfold Tally.tl at hz;obtain⟨k,_,rfl⟩:=XQ.mp hz;rw[Sa];exact XG (zmy h) (Ps (by decide) (by decide))
def Zw (rs:List Str)(S:List (Nat×Nat)):Bool:=((qf rs).filter fun o=>!(clA rs o).isEmpty).all fun o=>decide (((Grow.cnt (nearF rs) o S:Nat):Int)=jj rs o)
theorem Jd {rs:List Str}{S:List (Nat×Nat)}:Zw rs S=true ↔ ∀o∈qf rs,clA rs o ≠ []->((Grow.cnt (nearF rs) o S:Nat):Int)=jj rs o:=by
 unfold Zw;rw[WG];constructor
 ·intro h o ho hc;exact of_decide_eq_true (h o (X9.mpr ⟨ho,by rw[WI];exact VR.mpr hc⟩))
 ·intro h o ho;obtain⟨h1,h2⟩:=X9.mp ho;rw[WI] at h2;exact decide_eq_true (h o h1 (VR.mp h2))
theorem zja {rs:List Str}{gs:List (List (Nat×Nat))}(G:Parts.Good (clA rs) (qf rs) gs)(S:List (Nat×Nat)):Tally.ZR (Ys rs) gs S=Zw rs S:=by
 rw[WV,Jd];unfold Tally.ZR Ys Grow.fits;rw[WG];constructor
 ·intro h o ho hc;obtain⟨x,hx⟩:=TZ _ hc;obtain⟨g,hg,hall⟩:=G.cov o ho hc;have hn:nearF rs o x=true:=(Jc (jY hx)).mpr hx;have:=h g hg;rw[WG] at this;exact of_decide_eq_true (this o (X9.mpr ⟨zeh.mpr ⟨ho,x,hall x hx,hn⟩,WF.mpr ⟨x,hall x hx,hn⟩⟩))
 ·intro h g hg;rw[WG];intro o ho;obtain⟨h1,x,hx,hn⟩:=zeh.mp (X9.mp ho).1;have hxs:=Z0 G x (Wf.mpr ⟨g,hg,hx⟩);exact decide_eq_true (h o h1 (Ts ((Jc hxs).mp hn)))
theorem zkQ {rs:List Str}{gs:List (List (Nat×Nat))}(G:Parts.Good (clA rs) (qf rs) gs){c:Nat×Nat}:c∈gs.flatten↔c∈zK rs/\∃o∈qf rs,nearF rs o c=true:=by
 constructor
 ·intro h;obtain⟨o,ho,hc⟩:=G.from_ c h;have hs:=jY hc;exact⟨hs,o,ho,(Jc hs).mpr hc⟩
 ·rintro⟨hs,o,ho,hn⟩;have hc:=(Jc hs).mp hn;obtain⟨g,hg,hall⟩:=G.cov o ho (Ts hc);exact Wf.mpr ⟨g,hg,hall c hc⟩
def Z1 (rs:List Str)(S:List (Nat×Nat)):Bool:=(qf rs).all fun o=>decide (((Grow.cnt (nearF rs) o S:Nat):Int)=jj rs o)
theorem Z3 {rs:List Str}{S:List (Nat×Nat)}:Z1 rs S=true ↔ ∀o∈qf rs,((Grow.cnt (nearF rs) o S:Nat):Int)=jj rs o:=by
 unfold Z1;rw[WG];exact⟨fun h o ho=>of_decide_eq_true (h o ho),fun h o ho=>decide_eq_true (h o ho)⟩
theorem zgS (rs:List Str):Tally.Inv (Z1 rs):=fun a b e=>by
 rw[WV,Z3,Z3];have:∀o,Grow.cnt (nearF rs) o a=Grow.cnt (nearF rs) o b:=fun o=>(e.filter _).length_eq;constructor
 ·intro h o ho;rw[<- this o];exact h o ho
 ·intro h o ho;rw[this o];exact h o ho
theorem zkR {rs:List Str}:(Yd rs).isEmpty=true ↔ ∀o∈qf rs,clA rs o=[]->jj rs o=0:=by
 rw[List.isEmpty_iff];unfold Yd jj;rw[We];constructor
 ·intro h o ho hc;have:=h o (X9.mpr ⟨ho,by rw[hc];rfl⟩);rw[WI,Bool.not_eq_false] at this;rw[of_decide_eq_true this];rfl
 ·intro h o ho;obtain⟨h1,h2⟩:=X9.mp ho;have:=h o h1 (List.isEmpty_iff.mp h2);rw[WI,Bool.not_eq_false];exact decide_eq_true (by lia)
theorem zkS {rs:List Str}{S:List (Nat×Nat)}(hS:∀c∈S,c∈zK rs):Z1 rs S=((Yd rs).isEmpty&&Zw rs S):=by
 have z:∀o,clA rs o=[]->Grow.cnt (nearF rs) o S=0:=fun o ho=>by
  unfold Grow.cnt;rw[Wj,We];intro c hc hn;have:=(Jc (hS c hc)).mp hn;rw[ho] at this;cases this
 rw[WV,Wo,Z3,zkR,Jd];constructor
 ·intro h;refine⟨fun o ho hc=>?_,fun o ho _=>h o ho⟩;rw[<- h o ho,z o hc];rfl
 ·rintro⟨h1,h2⟩ o ho;by_cases hc:clA rs o=[]
  ·rw[z o hc,h1 o ho hc];rfl
  ·exact h2 o ho hc
theorem zhN {rs:List Str}{c o:Nat×Nat}(hc:c∈zba rs)(ho:o∈qf rs):nearF rs o c=false:=by
 unfold zba at hc;have h:=(X9.mp hc).2;rw[WI,T3,List.any_eq_false] at h;exact Xh.mpr (h o ho)
theorem zkT {rs:List Str}{a b:List (Nat×Nat)}(hb:∀c∈b,c∈zba rs):Zw rs (a++b)=Zw rs a:=by
 have e:∀o∈qf rs,Grow.cnt (nearF rs) o (a++b)=Grow.cnt (nearF rs) o a:=fun o ho=>by
  unfold Grow.cnt;rw[WY,X4];have:b.filter (nearF rs o)=[]:=We.mpr fun c hc hn=>by
   rw[zhN (hb c hc) ho] at hn;cases hn
  rw[this];rfl
 rw[WV,Jd,Jd];constructor
 ·intro h o ho hc;rw[<- e o ho];exact h o ho hc
 ·intro h o ho hc;rw[e o ho];exact h o ho hc
theorem zfz {rs:List Str}{c:Nat×Nat}(h:c∈zba rs):c∈zK rs:=(X9.mp h).1
theorem jd (rs:List Str):(zK rs).Nodup:=ql (Cells.Jh _ 0 (codes rs))
theorem zjb (rs:List Str):(zba rs).Nodup:=(jd rs).sublist Xa
section
variable {rs:List Str}{gs:List (List (Nat×Nat))}(G:Parts.Good (clA rs) (qf rs) gs)
include G
theorem zhO {c:Nat×Nat}:c∈zba rs↔c∈zK rs/\c ∉ gs.flatten:=by
 rw[zkQ G];constructor
 ·intro h;refine⟨zfz h,?_⟩;rintro⟨_,o,ho,hn⟩;rw[zhN h ho] at hn;cases hn
 ·rintro⟨h1,h2⟩;unfold zba;refine X9.mpr ⟨h1,?_⟩;rw[WI,T3,List.any_eq_false];intro o ho hn;exact h2 ⟨h1,o,ho,hn⟩
theorem yT:(zK rs).Perm (gs.flatten++zba rs):=by
 refine(W2 (jd rs) (WN.mpr ⟨G.nd,zjb rs,fun a ha b hb e=>?_⟩)).mpr fun c=>?_
 ·subst e;exact((zhO G).mp hb).2 ha
 ·rw[XO,zhO G];constructor
  ·intro h;by_cases hc:c∈gs.flatten
   ·exact .inl hc
   ·exact .inr ⟨h,hc⟩
  ·rintro(h | h)
   ·exact Z0 G c h
   ·exact h.1
theorem count_is (s:Nat):(if (Yd rs).isEmpty=true then Tally.dl (Tally.tl gs.flatten (Tally.ZR (Ys rs) gs)) (zba rs).length ((s:Nat):Int) else 0)=((Tally.T (zK rs) (Z1 rs) s:Nat):Int):=by
 rw[Tally.zom (yT G) (zgS rs)];have key:∀a∈Subs.subs gs.flatten,∀b∈Subs.subs (zba rs),Z1 rs (a++b)=((Yd rs).isEmpty&&Tally.ZR (Ys rs) gs a):=fun a ha b hb=>by
  have sa:=(Tally.Q3 ha).subset;have sb:=(Tally.Q3 hb).subset;rw[zkS fun c hc=>(XO.mp hc).elim (fun h=>Z0 G c (sa h)) fun h=>zfz (sb h),zkT fun c hc=>sb hc,zja G]
 cases hb:(Yd rs).isEmpty with
 | true =>
  rw[if_pos rfl];refine Tally.zpJ (fun a ha b hb'=>?_) s;rw[key a ha b hb',hb,Bool.true_and]
 | false =>
  rw[if_neg (by decide),Tally.zmo fun S hS=>?_]
  ·rfl
  ·rw[Tally.zfh] at hS;obtain⟨b,hb',hS⟩:=U3.mp hS;obtain⟨a,ha,rfl⟩:=XQ.mp hS;rw[key a ha b hb',hb,PL]
end
def zov (K:XT):Sp:=fun vs H Q _=>∃(a b:Addr) (xs ys:List Int),vs=[.ref a,.ref b]/\SqL K H a (iL xs)/\SqL K H b (iL ys)/\1<=xs.length/\xs.length<=70/\1<=ys.length/\ys.length<=70/\zi9 xs/\zi9 ys /\
 ∀(l:Addr) (H':Hp),H l=none->H' l=some (.lst (iL (Pour.YY xs ys)))->zq H H'->Q (.ref l) H'
def zaY (H:Hp):List V->List (List Int)->Prop:=Xj fun v xs=>∃a,v=V.ref a/\H a=some (.lst (iL xs))
theorem zgT {H H':Hp}(s:zq H H'){us:List V}{xss:List (List Int)}(hp:zaY H us xss):zaY H' us xss:=by
 induction hp with
 | nil=>exact .nil
 | cons q _ ih =>
  obtain⟨a,e,h⟩:=q;exact .cons ⟨a,e,s _ _ h⟩ ih
theorem zdw {H:Hp}{us:List V}{xss:List (List Int)}(h:zaY H us xss):us.length=xss.length:=Paired.length h
theorem zkU {H:Hp}{us:List V}{xss:List (List Int)}{i:Nat}{v:V}(h:zaY H us xss)(e:us[i]?=some v):∃xs a,xss[i]?=some xs/\v=V.ref a/\H a=some (.lst (iL xs)):=by
 obtain⟨S,h1,a,h2⟩:=Y0 h e;exact⟨S,a,h1,h2⟩
structure zkV (xss:List (List Int)):Prop where
 one:∀xs∈xss,1<=xs.length/\xs.length<=70/\zi9 xs
 acc:∀i,1<=((xss.take i).foldl Pour.YY [1]).length/\((xss.take i).foldl Pour.YY [1]).length<=70/\zi9 ((xss.take i).foldl Pour.YY [1])
def zow:Sp:=fun vs H Q _=>∃(la:Addr) (us:List V) (xss:List (List Int)),vs=[.ref la]/\H la=some (.lst us)/\zaY H us xss/\zkV xss /\
 ∀(d:Addr) (H':Hp),H d=none->H' d=some (.lst (iL (xss.foldl Pour.YY [1])))->zq H H'->Q (.ref d) H'
def Small (rs:List Str):Prop:=∀gs,Parts.Good (clA rs) (qf rs) gs->∀g∈gs,g.length<=14
def tls (rs:List Str)(gs:List (List (Nat×Nat))):List (List Int):=gs.map fun g=>Tally.tl g (Ys rs g)
theorem zox {rs:List Str}(R:Rows bd.cps.toList rs){gs:List (List (Nat×Nat))}(G:Parts.Good (clA rs) (qf rs) gs):zkV (tls rs gs):=by
 have n64:=zcg G R;refine⟨fun xs hx=>?_,fun i=>?_⟩
 ·obtain⟨g,hg,rfl⟩:=XQ.mp hx;have gl:g.length<=64:=XX (Vb (VF hg)) n64;rw[Tally.Yq];exact⟨by lia,by lia,zgR gl⟩
 ·unfold tls;rw[<- O4,zi7 G i];have tl64:(gs.take i).flatten.length<=64:=by
   have e:gs.flatten=(gs.take i).flatten++(gs.drop i).flatten:=by rw[<- V3,WT]
   rw[e,X4] at n64;lia
  rw[Tally.Yq];exact⟨by lia,by lia,zgR tl64⟩
def zoy:Sp:=fun vs H Q _=>∃(p l:Addr) (rs:List Str) (n:Int),vs=[.ref p]/\qJ H p l rs n/\Rows bd.cps.toList rs/\Small rs /\
 ∀(d:Addr) (gs:List (List (Nat×Nat))) (H':Hp),H d=none->Parts.Good (clA rs) (qf rs) gs->Up2 (heads gs)->H' d=some (.lst (iL (Tally.tl gs.flatten (Tally.ZR (Ys rs) gs))))->zq H H'->Q (.ref d) H'
theorem Jj:zF ["one","other","counts","i","many","j","more"] ["one","other"] (zf Q4):=⟨rfl,rfl,rfl,by decide +kernel,rfl,by decide +kernel,by decide +kernel⟩
theorem zjc (T:Txt mg)(D:zm K mg "poured" Q4 ["one","other"] f fd):qb P w K mg base CX0 1 f fd ["one","other"] (zov K):=by
 refine D.F.ok Jj (fun vs H Q E h=>?_) (fun cdv A outer s H vs Q E hr h=>?_)
 ·obtain⟨a,b,xs,ys,rfl,_⟩:=h;rfl
 ·obtain⟨a,b,xs,ys,rfl,ha,hb,x1,x2,y1,y2,bx,bY,q⟩:=h;refine⟨_,(@ze _ _ _ _ _ (@zz _ _ 2 _ _ _ _ Jj.nd rfl (XE rfl) (@zE _ _ _ _ _ _ _ _ zjx (@qd _ _ _ _ (@za _ _ _ _ _ zg zc rfl)) (zE xx (zE JU (zu zT (by rfl) T.qZ W3 (za (pvS 0) zc)) (zu zT (by rfl) T.qZ W3 (za (pvS 1) zc))) zg)) (by rfl) (.inr rfl)) (ze (qD W1 rfl (Zd (by rfl) T.jJ (za (pvS 0) zc)) (yN rfl (zM (zo (i:=3) Jj.nd rfl (XE rfl)) (zM (zo (i:=4) Jj.nd rfl (XE rfl)) jD))) (zh (qD W1 rfl (Zd (by rfl) T.jJ (za (pvS 1) zc)) (yN rfl (zM (zo (i:=5) Jj.nd rfl (XE rfl)) (zM (zo (i:=6) Jj.nd rfl (XE rfl)) jD))) (zh (zhe (pvS 2) (zE JU (pvS 3) (pvS 5)) zeO (zE ZI (pvS 4) (pvS 6)) zjs set_list))))) (zh (zH (pvS 2))))),?_⟩;refine⟨sz_1,fun l0 hl0=>?_⟩;have s0:zq H (upd H l0 (.lst [.int 0])):=zd hl0;refine⟨_,rfl,a,_,rfl,.inl (s0.seq ha),_,rfl,b,_,rfl,.inl (s0.seq hb),_,_,rfl,rfl,_,_,rfl,rfl,l0,_,_,rfl,rfl,zb,?_,?_,?_,fun p hp=>?_⟩
  ·rw[Y1,Y1];lia
  ·rw[Y1,Y1];lia
  ·rw[Y1,Y1];exact XX (show 1*((xs.length:Int)+(ys.length:Int)-1).toNat<=140 by lia) (by decide)
  have en:(((iL xs).length:Nat)+((iL ys).length:Nat)-1:Int).toNat=xs.length+ys.length-1:=by
   rw[Y1,Y1];lia
  rw[en,zfx,<- Pour.zkl];have s1:zq H (upd (upd H l0 (.lst [.int 0])) p (.lst (iL (Pour.st xs ys 0 0)))):=s0.trans (zd hp);have hp0:H p=none:=s0.free hp;refine⟨_,rfl,a,rfl,⟨_,s1.seq ha⟩,?_⟩;refine Ze (K:=K) (l:=a) (xs:=iL xs) (fun i σ H'=>∃v3 v4 v5 v6,σ=[some (.ref a),some (.ref b),some (.ref p),v3,v4,v5,v6]/\zq H H'/\H' p=some (.lst (iL (Pour.st xs ys i 0))))
   ⟨_,_,_,_,rfl,s1,zb⟩ (fun i σ H' _ ⟨_,_,_,_,_,s,_⟩=>s.seq ha) ?_ ?_
  ·rintro i v t σ H1 hv ht ⟨v3,v4,v5,v6,rfl,s2,hp2⟩;obtain⟨x,hx,rfl⟩:=ints_get hv;have st:zq H1 (upd H1 t (.tup [.int (i:Nat),.int x])):=zd ht;refine⟨t,_,rfl,SqT.of zb,rfl,_,_,rfl,_,_,rfl,rfl,?_⟩;refine⟨_,rfl,b,rfl,⟨_,(s2.trans st).seq hb⟩,?_⟩;refine Ze (K:=K) (l:=b) (xs:=iL ys) (fun j σ H'=>∃v5 v6,σ=[some (.ref a),some (.ref b),some (.ref p),some (.int (i:Nat)),some (.int x),v5,v6]/\zq H H'/\H' p=some (.lst (iL (Pour.st xs ys i j))))
    ⟨_,_,rfl,s2.trans st,st _ _ hp2⟩ (fun j σ H' _ ⟨_,_,_,s,_⟩=>s.seq hb) ?_ ?_
   ·rintro j v t2 σ H2 hv2 ht2 ⟨v5,v6,rfl,s3,hp3⟩;obtain⟨y,hy,rfl⟩:=ints_get hv2;have st2:zq H2 (upd H2 t2 (.tup [.int (j:Nat),.int y])):=zd ht2;have hp4:=st2 _ _ hp3;have hi:i<xs.length:=(X0.mp hx).1;have hj:j<ys.length:=(X0.mp hy).1;have en2:((i:Int)+(j:Int)).toNat=i+j:=by lia
    refine⟨t2,_,rfl,SqT.of zb,rfl,_,_,rfl,_,_,rfl,rfl,?_⟩;refine⟨_,rfl,_,rfl,_,rfl,_,_,rfl,rfl,p,_,_,_,rfl,rfl,SqL.of hp4,zgd (by lia) (by rw[en2];exact zhK (Pour.zgB (by lia))),?_⟩;refine⟨_,rfl,_,rfl,_,_,rfl,rfl,zpr (bx _ (X7 hx)) (bY _ (X7 hy)),_,_,rfl,rfl,p,_,_,_,rfl,rfl,hp4,zkM (by lia) (by rw[Y1,Pour.zgA];lia),?_⟩;refine⟨_,_,rfl,fun c o e=>?_,?_⟩
    ·have hc:c≠p:=fun z=>by
      subst z;rw[hp0] at e;cases e
     rw[zk hc];exact st2 _ _ (s3 _ _ e)
    ·rw[zb,en2,<- Pour.zmh hx hy];show some (HO.lst ((Ua V.int _).set _ (V.int _)))=_;rw[<- List.map_set]
   ·rintro σ H2 ⟨v5,v6,rfl,s3,hp3⟩;rw[Y1,Pour.zok] at hp3;exact⟨_,_,_,_,rfl,s3,hp3⟩
  ·rintro σ H1 ⟨v3,v4,v5,v6,rfl,s2,hp2⟩;rw[Y1,Pour.zol] at hp2;exact⟨_,rfl,q p H1 hp0 hp2 s2⟩
theorem xA:zF ["lists","counts","others"] ["lists"] (zf x9):=⟨rfl,rfl,rfl,by decide +kernel,rfl,by decide +kernel,by decide +kernel⟩
theorem zcM (T:Txt mg)(Z:Prog K mg)(D:zm K mg "all_poured" x9 ["lists"] f fd):qb P w K mg base CX0 2 f fd ["lists"] zow:=by
 obtain⟨zpQ,zoY,zfA⟩:=Z.poured;refine D.F.ok xA (fun vs H Q E h=>?_) (fun cdv A outer s H vs Q E hr h=>?_)
 ·obtain⟨la,us,xss,rfl,_⟩:=h;rfl
 ·obtain⟨la,us,xss,rfl,hla,hx,ok,q⟩:=h;refine⟨_,(@ze _ _ _ _ _ (@zz _ _ 1 _ _ _ _ xA.nd rfl (XE rfl) (@qd _ _ _ _ (@za _ _ _ _ _ zg zc rfl)) (by rfl) (.inr rfl)) (ze (qD W1 rfl (zJ (pvS 0)) (zo (i:=2) xA.nd rfl (XE rfl)) (zh (zz (i:=1) xA.nd rfl (XE rfl) (pc0 (zjc T zfA) hr zfA (za (pvS 1) (za (pvS 2) zc)))))) (zh (zH (pvS 1))))),?_⟩;refine⟨sz_1,fun c0 hc0=>?_⟩;have s0:zq H (upd H c0 (.lst [.int 1])):=zd hc0;refine⟨_,rfl,la,rfl,⟨_,SqL.of (s0 _ _ hla)⟩,?_⟩;refine xB (K:=K) (a:=la) (xs:=us) (fun i σ H'=>∃(c:Addr) (v2:Option V),σ=[some (.ref la),some (.ref c),v2]/\zq H H'/\H c=none/\H' c=some (.lst (iL ((xss.take i).foldl Pour.YY [1]))))
   ⟨c0,_,rfl,s0,hc0,zb⟩ (fun i σ H' _ ⟨_,_,_,y,_⟩=>SqL.of (y _ _ hla)) ?_ ?_
  ·rintro i v σ H1 hv ⟨c,v2,rfl,s1,hc,hc1⟩;obtain⟨xs,a1,hxs,rfl,ha1⟩:=zkU hx hv;obtain⟨o1,o2,o3⟩:=ok.one xs (X7 hxs);obtain⟨p1,p2,p3⟩:=ok.acc i;refine⟨_,rfl,_,rfl,c,a1,_,xs,rfl,SqL.of hc1,SqL.of (s1 _ _ ha1),p1,p2,o1,o2,p3,o3,fun d H2 hd hd2 s2=>?_⟩;refine⟨d,_,rfl,s1.trans s2,s1.free hd,?_⟩;rw[hd2,Xc,hxs,UP];rfl
  ·rintro σ H1 ⟨c,v2,rfl,s1,hc,hc1⟩;rw[zdw hx,XA] at hc1;exact⟨_,rfl,q c H1 hc hc1 s1⟩
theorem zch:zF ["board"] ["board"] (zf jU):=⟨rfl,rfl,rfl,by decide +kernel,rfl,by decide +kernel,by decide +kernel⟩
theorem zci (T:Txt mg)(Z:Prog K mg)(D:zm K mg "near_counts" jU ["board"] f fd):qb P w K mg base CX0 6 f fd ["board"] zoy:=by
 obtain⟨zcj,zaL,zO⟩:=Z.around;obtain⟨zaM,Qu,zv⟩:=Z.sign_at;obtain⟨Qv,Yt,zD⟩:=Z.cells_of;obtain⟨zaa,Qa,zC⟩:=Z.open_cells;obtain⟨zaZ,zab,zY⟩:=Z.number_at;obtain⟨zmz,zlp,jQ⟩:=Z.numbers_of;obtain⟨zoz,znk,yS⟩:=Z.needs_at;obtain⟨zoZ,zoA,Ji⟩:=Z.may_fit;obtain⟨zkW,zjm,yE⟩:=Z.part_layings;obtain⟨zo0,zoB,YT⟩:=Z.counted;obtain⟨zlq,zkX,Qc⟩:=Z.part_counts;obtain⟨xR,yU,zG⟩:=Z.closed_around;obtain⟨zpR,zo1,Q9⟩:=Z.joined;obtain⟨zp1,zpS,zhP⟩:=Z.parts;obtain⟨zmA,zlr,zac⟩:=Z.all_poured;refine D.F.ok zch (fun vs H Q E h=>?_) (fun cdv A outer s H vs Q E hr h=>?_)
 ·obtain⟨p,l,rs,n,rfl,_⟩:=h;rfl
 ·obtain⟨p,l,rs,n,rfl,b,R,sm,q⟩:=h;refine⟨_,(zh (zH (pc0 (zcM T Z zac) hr zac (za (z9 (N:=["part","board"]) (src:=[none,some 0]) (zP.free (O:=(zf jU).names) (XN:=["board"]) rfl rfl ⟨_,rfl⟩ rfl rfl (by decide +kernel) (by decide +kernel) (by decide +kernel) rfl (by decide +kernel)) rfl (zJ (pc0 (zkF T zhP zO zv zD zC zG Q9) hr zhP (za (pvS 0) zc))) (fun _ _ _ _ _=>(zo (i:=0) (by show W7 (["part","board"]:List Str);decide +kernel) rfl (XE rfl))) (fun _ _ _ _ _=>qo) (fun _ _ _ _ _=>(pc0 (zcf T Qc zO zv zD zC zY jQ yS Ji yE YT) hr Qc (za (pvS 1) (za (pvS 0) zc))))) zc)))),?_⟩;refine⟨_,rfl,p,l,rs,n,rfl,b,R,fun d ws gs H1 hd hd1 hG _ _ G up s1=>⟨d,rfl,⟨_,SqL.of hd1⟩,fun z hz=>?_⟩⟩;have g64:gs.length<=64:=XX (Parts.QZ G.ne) (zcg G R);refine qB (K:=K) (a:=d) (xs:=ws) (fun j σ' H'=>∃(u0:Option V) (ys:List V),σ'=[u0,some (.ref p)]/\zq H1 H'/\H' z=some (.lst ys)/\(∀v∈ys,∀a,v=V.ref a->a≠z)/\zaY H' ys (tls rs (gs.take j)))
   ⟨_,[],rfl,zd hz,zb,(fun _ h=>nomatch h),.nil⟩ (fun j σ' H' _ ⟨_,_,_,y,_⟩=>SqL.of (y _ _ hd1)) ?_ ?_
  ·rintro j v σ' H2 hv ⟨u0,ys,rfl,s2,hz2,nz,hy2⟩;obtain⟨g,hg,ga,ug,rfl,hga,hcg⟩:=xM.get (hG.mono s2) hv;have gm:=X7 hg;have il:=(X0.mp hg).1;unfold JO;refine Za ?_;refine⟨_,rfl,_,rfl,p,l,ga,rs,n,ug,g,rfl,(b.mono s1).mono s2,R,hga,hcg,ql (G.srt g gm),sm gs G g gm,fun e H3 he he3 s3=>?_⟩;rw[zi8] at he3;have ez:e≠z:=fun y=>by
    subst y;rw[hz2] at he;cases he
   refine⟨_,s3 _ _ hz2,?_,_,ys++[.ref e],rfl,fun b o e'=>?_,zb,fun v hv a ea=>?_,?_⟩
   ·rw[zdw hy2];unfold tls;rw[Y1,XM];exact XG (show _<=64 by lia) (by decide)
   ·rw[zk (zj e' hz)];exact s3 _ _ (s2 _ _ e')
   ·rcases XO.mp hv with hv | hv
    ·exact nz v hv a ea
    ·have:v=V.ref e:=by simpa using hv
     rw[this] at ea;cases ea;exact ez
   ·have t1:tls rs (gs.take (j+1))=tls rs (gs.take j)++[Tally.tl g (Ys rs g)]:=by
     unfold tls;rw[Xc,hg,Xs];rfl
    rw[t1];have into:∀{us:List V} {xss:List (List Int)},zaY H3 us xss->(∀v∈us,∀a,v=V.ref a->a≠z)->zaY (upd H3 z (.lst (ys++[.ref e]))) us xss:=by
     intro us xss h;induction h with
     | nil=>exact fun _=>.nil
     | cons h t ih =>
      intro nz;obtain⟨a,rfl,ha⟩:=h;exact .cons ⟨a,rfl,by rw[zk (nz _ XW a rfl)];exact ha⟩ (ih fun v hv=>nz v (XR _ hv))
    exact Paired.snoc (into (zgT s3 hy2) nz) ⟨e,rfl,by rw[zk ez];exact he3⟩
  rintro σ' H2 ⟨u0,ys,rfl,s2,hz2,_,hy2⟩;rw[hG.length,XA] at hy2;refine⟨z,ys,tls rs gs,rfl,hz2,hy2,zox R G,fun e H3 he he3 s3=>?_⟩;have s12:=s1.trans s2;rw[show (tls rs gs).foldl Pour.YY [1]=Tally.tl gs.flatten (Tally.ZR (Ys rs) gs) from zkP G] at he3;exact q e gs H3 (s12.free he) G up he3 (s12.trans s3)
def chV (n k:Int):Int:=if 0<=k/\k<=n then ((Choose.ch n.toNat k.toNat:Nat):Int) else 0
theorem zmB (m:Nat)(k:Int):chV (m:Nat) k=Tally.chZ m k:=by
 unfold chV Tally.chZ;rw[UR];by_cases h0:k<0
 ·rw[if_neg (by lia),if_pos h0]
 ·rw[if_neg h0];by_cases h1:k<=(m:Int)
  ·rw[if_pos ⟨by lia,h1⟩]
  ·rw[if_neg (by lia),Choose.zaz m k.toNat (by lia)];rfl
theorem zmC {n k:Int}(h:n<=64):(chV n k).natAbs<2^8000:=by
 have h1:(2:Nat)^64<2^8000:=Ps (by decide) (by decide);have hz:(0:Nat)<2^8000:=XG (WZ _) h1;unfold chV;split
 ·rw[Sa];exact XG (XX (Choose.zpI _ _) (T5 (by decide) (show n.toNat<=64 by lia))) h1
 ·exact hz
def dlV (xs:List Int)(m st:Int):Int:=Pour.S (fun k=>Pour.F xs k*chV m (st-(k:Nat))) xs.length
theorem zmD (xs:List Int)(m:Nat)(st:Int):dlV xs (m:Nat) st=Tally.dl xs m st:=by
 unfold dlV Tally.dl;exact Pour.ZQ _ fun i _=>by rw[zmB]
theorem znl (h:Nat->Int):∀n,((WC n).map h).sum=Pour.S h n
 | 0=>rfl
 | n+1=>by
  rw[Uk,Xs,List.sum_append,znl h n];show _+(h n+0)=Pour.S h n+h n;lia
def zqq:Sp:=fun vs H Q _=>∃(n k:Int),vs=[.int n,.int k]/\n<=64/\Q (.int (chV n k)) H
def zmE:Sp:=fun vs H Q _=>∃(c:Addr) (xs:List Int) (m st:Int),vs=[.ref c,.int m,.int st]/\H c=some (.lst (iL xs))/\zi9 xs/\xs.length<=150/\m<=64/\∀H',zq H H'->Q (.int (dlV xs m st)) H'
def zmF (rs:List Str)(n:Int):Int:=((Tally.T (zK rs) (Z1 rs) n.toNat:Nat):Int)
def zhQ:Sp:=fun vs H Q _=>∃(p l:Addr) (rs:List Str) (n:Int),vs=[.ref p]/\qJ H p l rs n/\Rows bd.cps.toList rs/\Small rs/\0<=n/\∀H',zq H H'->Q (.int (zmF rs n)) H'
theorem Z4:zF ["n","k","found","step"] ["n","k"] (zf YM):=⟨rfl,rfl,rfl,by decide +kernel,rfl,by decide +kernel,by decide +kernel⟩
theorem zgU (T:Txt mg)(D:zm K mg "choices" YM ["n","k"] f fd):qb P w K mg base CX0 1 f fd ["n","k"] zqq:=by
 refine D.F.ok Z4 (fun vs H Q E h=>?_) (fun cdv A outer s H vs Q E hr h=>?_)
 ·obtain⟨n,k,rfl,_⟩:=h;rfl
 ·obtain⟨n,k,rfl,n1,q⟩:=h;refine⟨_,(ze (jg (zf7 (zeD zd9 zd9 zg (pvS 1) (pvS 0))) (@zh _ _ _ (@zH _ _ _ _ zg)) qi) (@ze _ _ _ _ _ (@zz _ _ 2 _ _ _ _ Z4.nd rfl (XE rfl) zg (by rfl) (.inr rfl)) (ze (qD W1 rfl (qU (by rfl) T.jf (za (pvS 1) zc)) (zo (i:=3) Z4.nd rfl (XE rfl)) (zh (zz (i:=2) Z4.nd rfl (XE rfl) (zE YK (zE ZI (pvS 2) (zE xx (pvS 0) (pvS 3))) (zE JU (pvS 3) zg))))) (zh (zH (pvS 2)))))),?_⟩;refine⟨_,rfl,_,_,rfl,rfl,_,rfl,?_⟩;unfold chV at q;refine zgc (fun c=>?_) (fun c=>?_)
  ·have k0:(0:Int)<=k:=of_decide_eq_true c;refine⟨_,rfl,_,_,rfl,rfl,_,rfl,?_⟩;by_cases c:k<=n
   ·rw[if_pos ⟨k0,c⟩] at q;rw[decide_eq_true c];refine QH ?_;refine⟨_,rfl,k,rfl,by lia,by lia,?_⟩;refine qO (lo:=0) (n:=k.toNat) (fun i σ H'=>∃v,σ=[some (.int n),some (.int k),some (.int (Choose.ch n.toNat i)),v]/\H'=H) ⟨_,by rw[Choose.YL];rfl,rfl⟩ ?_ ?_
    ·rintro i σ H' hi ⟨v,rfl,rfl⟩;refine⟨_,rfl,_,rfl,_,rfl,_,_,rfl,rfl,_,_,rfl,rfl,zpq (by lia) (by lia),_,rfl,_,_,rfl,rfl,_,_,rfl,rfl,JP.small (by lia) (by lia),?_⟩;refine⟨some (.int (0+(i:Int))),?_,rfl⟩;have e:=Choose.zmi (n:=n.toNat) (k:=i) (by lia);have e1:((n.toNat:Nat):Int)=n:=Sz (by lia);rw[e1] at e;have e2:(Choose.ch n.toNat i:Int)*(n-(0+(i:Int)))/(0+(i:Int)+1)=Choose.ch n.toNat (i+1):=by
      rw[V1];exact e
     show [_,_,some (V.int ((Choose.ch n.toNat i:Int)*(n-(0+(i:Int)))/(0+(i:Int)+1))),_]=_;rw[e2]
    ·rintro σ H' ⟨v,rfl,rfl⟩;exact⟨_,rfl,q⟩
   ·rw[if_neg (fun h=>c h.2)] at q;rw[decide_eq_false c];exact QI q
  ·have k0:¬ (0:Int)<=k:=fun z=>c (decide_eq_true z);rw[if_neg (fun h=>k0 h.1)] at q;exact⟨_,rfl,QI q⟩
theorem zkY:zF ["counts","cells","stones"] ["counts","cells","stones"] (zf Q5):=⟨rfl,rfl,rfl,by decide +kernel,rfl,by decide +kernel,by decide +kernel⟩
theorem zkZ (T:Txt mg)(Z:Prog K mg)(D:zm K mg "dealt" Q5 ["counts","cells","stones"] f fd):qb P w K mg base CX0 2 f fd ["counts","cells","stones"] zmE:=by
 obtain⟨zo2,zoC,zdx⟩:=Z.choices;refine D.F.ok zkY (fun vs H Q E h=>?_) (fun cdv A outer s H vs Q E hr h=>?_)
 ·obtain⟨c,xs,m,st,rfl,_⟩:=h;rfl
 ·obtain⟨c,xs,m,st,rfl,hc,bx,xl,m1,q⟩:=h;refine⟨_,(zh (zH (zu (zeQ rfl) (by rfl) T.zng PX (za (z9 (N:=["k","many","cells","stones"]) (src:=[none,none,some 1,some 2]) (zP.free (O:=(zf Q5).names) (XN:=["counts","cells","stones"]) rfl rfl ⟨_,rfl⟩ rfl rfl (by decide +kernel) (by decide +kernel) (by decide +kernel) rfl (by decide +kernel)) rfl (Zd (by rfl) T.jJ (za (pvS 0) zc)) (fun _ _ _ _ _=>(zhk (n:=2) (K:=K) (by rfl) rfl (zM (zo (i:=0) (by show W7 (["k","many","cells","stones"]:List Str);decide +kernel) rfl (XE rfl)) (zM (zo (i:=1) (by show W7 (["k","many","cells","stones"]:List Str);decide +kernel) rfl (XE rfl)) jD)))) (fun _ _ _ _ _=>qo) (fun _ _ _ _ _=>(zE ZI (pvS 1) (pc0 (zgU T zdx) hr zdx (za (pvS 2) (za (zE xx (pvS 3) (pvS 0)) zc)))))) zc)))),?_⟩;refine⟨_,rfl,c,rfl,⟨_,SqL.of hc⟩,fun z hz=>?_⟩;refine zgg (K:=K) (a:=c) (xs:=iL xs) (fun i σ H'=>(∃u0 u1,σ=[u0,u1,some (.int m),some (.int st)])/\zq H H'/\H' z=some (.lst (iL ((WC i).map fun k=>Pour.F xs k*chV m (st-(k:Nat)))))) ⟨⟨_,_,rfl⟩,zd hz,zb⟩ (fun i σ H' _ ⟨_,s3,_⟩=>SqL.of (s3 _ _ hc)) ?_ ?_
  ·rintro i x tt σ H3 hx htt ⟨⟨u0,u1,rfl⟩,s3,hz3⟩;obtain⟨y,hy,rfl⟩:=ints_get hx;have il:=(X0.mp hy).1;have s4:=zd (o:=.tup [.int ((i:Nat):Int),.int y]) htt;refine⟨tt,_,rfl,SqT.of zb,rfl,_,_,rfl,_,_,rfl,rfl,?_⟩;unfold zjB;refine QI ⟨_,rfl,_,rfl,_,rfl,_,rfl,_,_,rfl,rfl,m,_,rfl,m1,_,_,rfl,rfl,zpr (bx y (X7 hy)) (zmC m1),_,s4 _ _ hz3,?_,⟨_,_,rfl⟩,fun b' o e'=>?_,?_⟩
   ·rw[Y1,Y1,WU];exact Xq (show i<150 by lia) (by decide)
   ·rw[zk (zj e' hz)];exact s4 _ _ (s3 _ _ e')
   ·rw[zb,Uk,Xs];show _=some (HO.lst (iL (_++[Pour.F xs i*chV m (st-(i:Nat))])));rw[zmw,Pour.zmf hy]
  ·rintro σ H3 ⟨_,s3,hz3⟩;refine⟨z,_,rfl,SqL.of hz3,?_⟩;rw[Y1,znl];exact q _ s3
theorem zfB:zF ["board","near"] ["board"] (zf zbs):=⟨rfl,rfl,rfl,by decide +kernel,rfl,by decide +kernel,by decide +kernel⟩
theorem zk0 (T:Txt mg)(Z:Prog K mg)(D:zm K mg "count" zbs ["board"] f fd):qb P w K mg base CX0 7 f fd ["board"] zhQ:=by
 obtain⟨zcj,zaL,zO⟩:=Z.around;obtain⟨zaM,Qu,zv⟩:=Z.sign_at;obtain⟨Qv,Yt,zD⟩:=Z.cells_of;obtain⟨zk1,zjd,yD⟩:=Z.closed;obtain⟨zaa,Qa,zC⟩:=Z.open_cells;obtain⟨zaZ,zab,zY⟩:=Z.number_at;obtain⟨xR,yU,zG⟩:=Z.closed_around;obtain⟨zqG,zqr,znm⟩:=Z.far;obtain⟨zmG,zls,zad⟩:=Z.bare_wrong;obtain⟨zlt,zk2,Qd⟩:=Z.near_counts;obtain⟨zp2,zpT,zhR⟩:=Z.dealt;refine D.F.ok zfB (fun vs H Q E h=>?_) (fun cdv A outer s H vs Q E hr h=>?_)
 ·obtain⟨p,l,rs,n,rfl,_⟩:=h;rfl
 ·obtain⟨p,l,rs,n,rfl,b,R,sm,n0,q⟩:=h;refine⟨_,(ze (zz (i:=1) zfB.nd rfl (XE rfl) (pc0 (zci T Z Qd) hr Qd (za (pvS 0) zc))) (ze (jg (qt (yP hr.units) (pc0 (zcJ T zad zO zv zD zG zC zY) hr zad (za (pvS 0) zc)) (@qd _ _ _ _ zc) (qa _)) (@zh _ _ _ (@zH _ _ _ _ zg)) qi) (zh (zH (pc0 (zkZ T Z zhR) hr zhR (za (pvS 1) (za (zu zT (by rfl) T.qZ W3 (za (pc0 (zor T znm zO zv zD yD zC) hr znm (za (pvS 0) zc)) zc)) (za (zL qG (pvS 0) zg (fun _ _=>rfl)) zc)))))))),?_⟩;refine⟨_,rfl,p,l,rs,n,rfl,b,R,sm,fun d1 gs H1 hd1 G up zqs s1=>?_⟩;refine⟨_,rfl,p,l,rs,n,rfl,b.mono s1,R,fun d2 w2 H2 hd2 zqt hc2 s2=>⟨Jw,fun e he=>?_⟩⟩;have s3:=zd (o:=.lst []) he;have ci:=count_is G n.toNat;rw[Sz n0] at ci;unfold zmF at q;rw[<- ci] at q;refine⟨.list ((Yd rs).map zp),.list [],.lst (SqL.of (s3 _ _ zqt)) (zw.rdv (N:=fun _=>True) (Cel.rdn (Cel.mono s3 hc2))),.lst (SqL.of zb) .nil,zee _ [],_,rfl,?_⟩;have ee:(if true=true then !PyData.eqv (.list ((Yd rs).map zp)) (.list []) else WL (.list ((Yd rs).map zp)) (.list []))=!(Yd rs).isEmpty:=by
   show (!PyData.eqv _ _)=_;rw[eq_nil]
  rw[ee];have s13:=(s1.trans s2).trans s3;have hd13:=s3 _ _ (s2 _ _ zqs);generalize upd H2 e (.lst [])=H3 at *
  cases hb:(Yd rs).isEmpty with
  | false =>
   rw[hb,if_neg XV] at q;exact QI (q _ s13)
  | true =>
   rw[hb,if_pos rfl] at q;refine QH ?_;have b3:=b.mono s13;refine⟨_,rfl,_,rfl,p,l,rs,n,rfl,b3,R,fun d4 ws4 H4 _ hd4 hc4 s4=>⟨d4,_,rfl,.inl (SqL.of hd4),?_⟩⟩;have hl:=hc4.length;have h64:(zba rs).length<=64:=XX (Xe _ _) (jz (p:=yM) R);have g64:=zcg G R;refine⟨_,rfl,p,_,1,_,rfl,rfl,SqT.of (b3.mono s4).tp,rfl,d1,_,(ws4.length:Nat),n,rfl,s4 _ _ hd13,zgR g64,by rw[Tally.Yq];lia,by lia,fun H' s'=>?_⟩;rw[hl,zmD];exact q _ ((s13.trans s4).trans s')
abbrev KV1:=List (List Key×V)
def yL (c:Nat×Nat):List Key:=[.inl ((c.1:Nat):Int),.inl ((c.2:Nat):Int)]
theorem zk3 {c d:Nat×Nat}(h:yL c=yL d):c=d:=by
 unfold yL at h;obtain⟨a,b⟩:=c;obtain⟨x,y⟩:=d;simp only[List.cons.injEq,Sum.inl.injEq,and_true] at h;obtain⟨h1,h2⟩:=h;have e1:a=x:=by lia
 have e2:b=y:=by lia
 rw[e1,e2]
theorem zk4 {kvs:KV1}{k:List Key}{v:V}(h:jb kvs k=some v):(k,v)∈kvs:=by
 unfold jb at h;cases e:kvs.find? (fun kv=>decide (kv.1=k)) with
 | none =>
  rw[e] at h;cases h
 | some kv =>
  rw[e] at h;have h1:kv.2=v:=by simpa using h
  have h2:kv.1=k:=of_decide_eq_true (show decide (kv.1=k)=true from List.find?_some (p:=fun (kv:List Key×V)=>decide (kv.1=k)) e);have h3:=List.mem_of_find?_eq_some e;rw[<- h1,<- h2];exact h3
theorem zfC (kvs:KV1)(k:List Key)(v:V):(k∈kvs.map (·.1)/\(putK kvs k v).map (·.1)=kvs.map (·.1))\/(¬ k∈kvs.map (·.1)/\(putK kvs k v).map (·.1)=kvs.map (·.1)++[k]):=by
 unfold putK;by_cases h:(kvs.any fun kv=>decide (kv.1=k))=true
 ·refine .inl ⟨?_,?_⟩
  ·obtain⟨kv,h1,h2⟩:=WF.mp h;exact XQ.mpr ⟨kv,h1,of_decide_eq_true h2⟩
  ·rw[if_pos h,Ws];refine Xb fun kv _=>?_;show (if kv.1=k then (kv.1,v) else kv).1=kv.1;split<;>rfl
 ·refine .inr ⟨fun hm=>?_,?_⟩
  ·obtain⟨kv,h1,h2⟩:=XQ.mp hm;exact h (WF.mpr ⟨kv,h1,decide_eq_true h2⟩)
  ·rw[if_neg h,Xs];rfl
theorem zoD {kvs:KV1}(k:List Key)(v:V)(h:(kvs.map (·.1)).Nodup):((putK kvs k v).map (·.1)).Nodup:=by
 rcases zfC kvs k v with ⟨_,e⟩ | ⟨hn,e⟩
 ·rw[e];exact h
 ·rw[e,WN];refine⟨h,by simp,fun a ha b hb z=>hn ?_⟩;have eb:b=k:=by simpa using hb
  rw[<- eb,<- z];exact ha
theorem zhS:∀(ps acc:KV1),(acc.map (·.1)).Nodup->((ps.foldl (fun acc kv=>putK acc kv.1 kv.2) acc).map (·.1)).Nodup
 | [],_,h=>h
 | p::r,acc,h=>zhS r _ (zoD p.1 p.2 h)
theorem zdy:∀(ps acc:KV1) (k:List Key),k∈(ps.foldl (fun acc kv=>putK acc kv.1 kv.2) acc).map (·.1)->k∈acc.map (·.1)\/k∈ps.map (·.1)
 | [],_,_,h=>.inl h
 | p::r,acc,k,h=>by
  rcases zdy r _ k h with h | h
  ·rcases zfC acc p.1 p.2 with ⟨_,e⟩ | ⟨_,e⟩
   ·rw[e] at h;exact .inl h
   ·rw[e] at h;rcases XO.mp h with h | h
    ·exact .inl h
    ·exact .inr (by
      have:k=p.1:=by simpa using h
      rw[this];exact XW)
  ·exact .inr (XR _ h)
theorem zfD:∀(ps acc:KV1),(ps.foldl (fun acc kv=>putK acc kv.1 kv.2) acc).length<=acc.length+ps.length
 | [],_=>XU _
 | p::r,acc=>by
  have h1:=zfD r (putK acc p.1 p.2);have h2:=xC acc p.1 p.2;rw[VT,Xm];lia
theorem zdz:∀(b a:KV1) (k:List Key),(b.map (·.1)).Nodup->jb (Ql a b) k=(jb b k).or (jb a k)
 | [],a,k,_=>rfl
 | kv::r,a,k,hn=>by
  rw[XB,Wg] at hn;show jb (Ql (putK a kv.1 kv.2) r) k=_;rw[zdz r _ k hn.2,zbE];by_cases e:kv.1=k
  ·rw[jt e,if_pos e.symm];have:jb r k=none:=by
    cases hr:jb r k with
    | none=>rfl
    | some v=>exact absurd (XQ.mpr ⟨(k,v),zk4 hr,by rw[e]⟩) hn.1
   rw[this];rfl
  ·rw[ju e,if_neg (fun z=>e z.symm)]
def JZ (cs:List (Nat×Nat))(v:V):KV1:=zeY (cs.map fun c=>(yL c,v))
theorem zck (v:V)(x:Nat×Nat):∀(cs:List (Nat×Nat)) (acc:KV1),jb ((cs.map fun c=>(yL c,v)).foldl (fun acc kv=>putK acc kv.1 kv.2) acc) (yL x)=if x∈cs then some v else jb acc (yL x)
 | [],acc=>by simp
 | c::r,acc=>by
  rw[XB,VT,zck v x r,zbE];by_cases h:x∈r
  ·rw[if_pos h,if_pos (XR _ h)]
  ·rw[if_neg h];by_cases e:x=c
   ·subst e;rw[if_pos rfl,if_pos XW]
   ·rw[if_neg (fun z=>e (zk3 z)),if_neg (fun z=>by rcases XF.mp z with z | z;exact e z;exact h z)]
theorem zfE {cs:List (Nat×Nat)}{v:V}(h:∀c∈cs,c.1<8/\c.2<8):L2.Small ((JZ cs v).map (·.1)):=fun k hk=>by
 rcases zdy _ [] k hk with h1 | h1
 ·exact nomatch h1
 ·rw[Ws] at h1;obtain⟨c,hc,rfl⟩:=XQ.mp h1;exact⟨c.1,c.2,(h c hc).1,(h c hc).2,rfl⟩
theorem zdA (cs:List (Nat×Nat))(v:V):(JZ cs v).length<=cs.length:=by
 have:=zfD (cs.map fun c=>(yL c,v)) [];rw[Y1] at this;unfold JZ zeY;simpa using this
structure yc (H:Hp)(fa fc fs:Addr)(us ws:List V)(cl st:List (Nat×Nat)):Prop where
 tp:H fa=some (.tup [.ref fc,.ref fs])
 h1:H fc=some (.lst us)
 h2:H fs=some (.lst ws)
 c1:Cel H us cl
 c2:Cel H ws st
theorem yc.mono {H H':Hp}{fa fc fs:Addr}{us ws:List V}{cl st:List (Nat×Nat)}(x:yc H fa fc fs us ws cl st)(s:zq H H'):yc H' fa fc fs us ws cl st:=⟨s _ _ x.tp,s _ _ x.h1,s _ _ x.h2,x.c1.mono s,x.c2.mono s⟩
structure zpU (cl st:List (Nat×Nat)):Prop where
 b1:∀c∈cl,c.1<8/\c.2<8
 b2:∀c∈st,c.1<8/\c.2<8
 l1:cl.length<=64
 l2:st.length<=64
def zhT (kvs:KV1)(cl st:List (Nat×Nat)):Prop:=∀c,jb kvs (yL c)=if c∈st then some (V.int 1) else if c∈cl then some (V.int 0) else none
def zhU:Sp:=fun vs H Q _=>∃(fa fc fs:Addr) (us ws:List V) (cl st:List (Nat×Nat)),vs=[.ref fa]/\yc H fa fc fs us ws cl st/\zpU cl st /\
 ∀(d:Addr) (kvs:KV1) (H':Hp),H d=none->H' d=some (.dT kvs)->zhT kvs cl st->zq H H'->Q (.ref d) H'
def zae (st cs:List (Nat×Nat)):List Int:=cs.map fun c=>if c∈st then 1 else 0
def zZ (cl st cs:List (Nat×Nat)):List (Nat×Nat):=cs.filter fun c=>!(decide (c∈st) || decide (c∈cl))
def zhV:Sp:=fun vs H Q _=>∃(t la kd:Addr) (a0:Int) (us:List V) (cs cl st:List (Nat×Nat)) (kvs:KV1),vs=[.ref t,.ref kd]/\H t=some (.tup [.int a0,.ref la])/\H la=some (.lst us)/\Cel H us cs/\cs.length<=64/\H kd=some (.dT kvs)/\zhT kvs cl st /\
 ∀(r l2:Addr) (ws:List V) (H':Hp),H r=none->H l2=none->H' r=some (.tup [.int (a0-(zae st cs).sum),.ref l2])->H' l2=some (.lst ws)->Cel H' ws (zZ cl st cs)->zq H H'->Q (.ref r) H'
theorem za0:zF ["finding","known"] ["finding"] (zf ZV):=⟨rfl,rfl,rfl,by decide +kernel,rfl,by decide +kernel,by decide +kernel⟩
theorem zfF (T:Txt mg)(D:zm K mg "known_of" ZV ["finding"] f fd):qb P w K mg base CX0 1 f fd ["finding"] zhU:=by
 refine D.F.ok za0 (fun vs H Q E h=>?_) (fun cdv A outer s H vs Q E hr h=>?_)
 ·obtain⟨fa,fc,fs,us,ws,cl,st,rfl,_⟩:=h;rfl
 ·obtain⟨fa,fc,fs,us,ws,cl,st,rfl,X,Fi,q⟩:=h;refine⟨_,(ze (zz (i:=1) za0.nd rfl (XE rfl) (yO (Yc hr.units hr.hd) (by rfl) T.zku Ra (za (z9 (N:=["cell"]) (src:=[none]) (zP.plain rfl (by decide +kernel) (by decide +kernel) (by decide +kernel) rfl (by decide)) rfl (zJ (zL qP (pv 0) zg (fun _ _=>rfl))) (fun _ _ _ _ _=>(zo (i:=0) (by show W7 (["cell"]:List Str);decide +kernel) rfl (XE rfl))) (fun _ _ _ _ _=>qo) (fun _ _ _ _ _=>(qm (za (pv 0) (@za _ _ _ _ _ zg zc rfl))))) zc))) (ze (jC (Jk Rx RO PySem.F.type_dict_update (zgp hr.units) (pv 1) (za (yO (Yc hr.units hr.hd) (by rfl) T.zku Ra (za (z9 (N:=["cell"]) (src:=[none]) (zP.plain rfl (by decide +kernel) (by decide +kernel) (by decide +kernel) rfl (by decide)) rfl (zJ (zL qP (pv 0) zg (fun _ _=>rfl))) (fun _ _ _ _ _=>(zo (i:=0) (by show W7 (["cell"]:List Str);decide +kernel) rfl (XE rfl))) (fun _ _ _ _ _=>qo) (fun _ _ _ _ _=>(qm (za (pv 0) (@za _ _ _ _ _ zg zc rfl))))) zc)) zc))) (zh (zH (pv 1))))),?_⟩;refine⟨_,rfl,fa,_,0,_,rfl,rfl,SqT.of X.tp,rfl,fc,rfl,⟨_,SqL.of X.h1⟩,fun y hy=>?_⟩;have l1:=Fi.l1;have l2:=Fi.l2;refine qB (K:=K) (a:=fc) (xs:=us) (fun i σ H'=>(∃u0,σ=[u0])/\zq H H'/\∃ys,H' y=some (.lst ys)/\yg H' ys ((cl.take i).map fun c=>(yL c,V.int 0))) ⟨⟨_,rfl⟩,zd hy,[],zb,.nil⟩ (fun i σ H' _ ⟨_,s6,_⟩=>SqL.of (s6 _ _ X.h1)) ?_ ?_
  ·rintro i x σ H6 hx ⟨⟨u0,rfl⟩,s6,ys,hy6,hp6⟩;obtain⟨c,hci,ca,rfl,hca⟩:=Cel.get (Cel.mono s6 X.c1) hx;refine x6 ⟨_,rfl,yJ,fun p hp=>?_⟩;have s7:=zd (o:=.tup [.ref ca,.int 0]) hp;have hlen:ys.length<=64:=by
    rw[hp6.length,Y1,XM];lia
   refine⟨ys,s7 _ _ hy6,XG hlen (by decide),⟨_,rfl⟩,fun b' o e'=>?_,ys++[.ref p],zb,?_⟩
   ·rw[zk (zj e' hy)];exact s7 _ _ (s6 _ _ e')
   ·rw[Xc,hci,Xs];exact yg.into y _ (s7 _ _ hy6) (yg.snoc (hp6.mono s7) ⟨p,ca,rfl,zb,s7 _ _ hca⟩)
  rintro σ H1 ⟨_,s1,ys,hy1,hp1⟩;rw[X.c1.length,XA] at hp1;refine⟨y,ys,_,rfl,hy1,hp1,fun d hd=>?_⟩;have z2:=zd (o:=.dT (JZ cl (.int 0))) hd;have hd2:upd H1 d (.dT (JZ cl (.int 0))) d=some (.dT (JZ cl (.int 0))):=zb;have s2:=s1.trans z2;have X2:=X.mono s2;have fd0:=s1.free hd;show _;refine⟨_,rfl,.inr (.inr (.inl ⟨rfl,.inr ⟨_,zb⟩⟩)),_,rfl,fa,_,1,_,rfl,rfl,SqT.of X2.tp,rfl,fs,rfl,⟨_,SqL.of X2.h2⟩,fun y2 hy2=>?_⟩;refine qB (K:=K) (a:=fs) (xs:=ws) (fun i σ H'=>(∃u0,σ=[u0])/\zq (upd H1 d (.dT (JZ cl (.int 0)))) H'/\∃ys,H' y2=some (.lst ys)/\yg H' ys ((st.take i).map fun c=>(yL c,V.int 1))) ⟨⟨_,rfl⟩,zd hy2,[],zb,.nil⟩ (fun i σ H' _ ⟨_,s6,_⟩=>SqL.of (s6 _ _ X2.h2)) ?_ ?_
  ·rintro i x σ H6 hx ⟨⟨u0,rfl⟩,s6,ys,hy6,hp6⟩;obtain⟨c,hci,ca,rfl,hca⟩:=Cel.get (Cel.mono s6 X2.c2) hx;refine x6 ⟨_,rfl,yJ,fun p hp=>?_⟩;have s7:=zd (o:=.tup [.ref ca,.int 1]) hp;have hlen:ys.length<=64:=by
    rw[hp6.length,Y1,XM];lia
   refine⟨ys,s7 _ _ hy6,XG hlen (by decide),⟨_,rfl⟩,fun b' o e'=>?_,ys++[.ref p],zb,?_⟩
   ·rw[zk (zj e' hy2)];exact s7 _ _ (s6 _ _ e')
   ·rw[Xc,hci,Xs];exact yg.into y2 _ (s7 _ _ hy6) (yg.snoc (hp6.mono s7) ⟨p,ca,rfl,zb,s7 _ _ hca⟩)
  rintro σ H3 ⟨_,s3,ys2,hy3,hp3⟩;rw[X.c2.length,XA] at hp3;refine⟨y2,ys2,_,rfl,hy3,hp3,fun d2 hd2'=>?_⟩;have z4:=zd (o:=.dT (JZ st (.int 1))) hd2';have ne:d≠d2:=zj (s3 _ _ hd2) hd2';have hd4:=z4 _ _ (s3 _ _ hd2);refine⟨d,d2,JZ cl (.int 0),JZ st (.int 1),rfl,rfl,ne,hd4,zb,zfE Fi.b2,?_,_,rfl,?_⟩
  ·have a1:=zdA cl (.int 0);have a2:=zdA st (.int 1);exact XX (show _<=128 by lia) (by decide)
  ·refine q d _ _ fd0 zb (fun c=>?_) fun b o e=>?_
   ·rw[zdz (JZ st (.int 1)) (JZ cl (.int 0)) (yL c) (zhS _ [] VA)];have e1:jb (JZ st (.int 1)) (yL c)=if c∈st then some (V.int 1) else none:=zck _ c st []
    have e2:jb (JZ cl (.int 0)) (yL c)=if c∈cl then some (V.int 0) else none:=zck _ c cl []
    rw[e1,e2];by_cases h1:c∈st
    ·rw[if_pos h1,if_pos h1];rfl
    ·rw[if_neg h1,if_neg h1];rfl
   ·rw[zk (zj e fd0)];exact z4 _ _ (s3 _ _ (s2 _ _ e))
theorem Yu:zF ["asked","known","lying"] ["asked","known"] (zf jy):=⟨rfl,rfl,rfl,by decide +kernel,rfl,by decide +kernel,by decide +kernel⟩
theorem zcl (T:Txt mg)(D:zm K mg "still_asked" jy ["asked","known"] f fd):qb P w K mg base CX0 1 f fd ["asked","known"] zhV:=by
 refine D.F.ok Yu (fun vs H Q E h=>?_) (fun cdv A outer s H vs Q E hr h=>?_)
 ·obtain⟨t,la,kd,a0,us,cs,cl,st,kvs,rfl,_⟩:=h;rfl
 ·obtain⟨t,la,kd,a0,us,cs,cl,st,kvs,rfl,ht,hla,hcs,c64,hkd,hK,q⟩:=h;refine⟨_,(ze (zz (i:=2) Yu.nd rfl (XE rfl) (zu (zeQ rfl) (by rfl) T.zng PX (za (z9 (N:=["cell","known"]) (src:=[none,some 1]) (zP.free (O:=(zf jy).names) (XN:=["asked","known","lying"]) rfl rfl ⟨_,rfl⟩ rfl rfl (by decide +kernel) (by decide +kernel) (by decide +kernel) rfl (by decide +kernel)) rfl (zJ (zL qP (pv 0) zg (fun _ _=>rfl))) (fun _ _ _ _ _=>(zo (i:=0) (by show W7 (["cell","known"]:List Str);decide +kernel) rfl (XE rfl))) (fun _ _ _ _ _=>qo) (fun _ _ _ _ _=>(zeX (u1 hr.units) (pv 1) (pv 0) zg ⟨rfl,rfl,rfl,rfl⟩))) zc))) (zh (zH (qm (za (zE J5 (zL qP (pv 0) zg (fun _ _=>rfl)) (pv 2)) (za (z9 (N:=["cell","known"]) (src:=[none,some 1]) (zP.free (O:=(zf jy).names) (XN:=["asked","known","lying"]) rfl rfl ⟨_,rfl⟩ rfl rfl (by decide +kernel) (by decide +kernel) (by decide +kernel) rfl (by decide +kernel)) rfl (zJ (zL qP (pv 0) zg (fun _ _=>rfl))) (fun _ _ _ _ _=>(zo (i:=0) (by show W7 (["cell","known"]:List Str);decide +kernel) rfl (XE rfl))) (fun _ _ _ _ _=>(qE (znG (zit (u1 hr.units) (pv 0) (pv 1))))) (fun _ _ _ _ _=>(pv 0))) zc)))))),?_⟩;refine⟨_,rfl,t,_,1,_,rfl,rfl,SqT.of ht,rfl,la,rfl,⟨_,SqL.of hla⟩,fun y hy=>?_⟩;refine qB (K:=K) (a:=la) (xs:=us) (fun i σ H'=>(∃u0,σ=[u0,some (.ref kd)])/\zq H H'/\H' y=some (.lst ((zae st (cs.take i)).map V.int))) ⟨⟨_,rfl⟩,zd hy,zb⟩ (fun i σ H' _ ⟨_,s6,_⟩=>SqL.of (s6 _ _ hla)) ?_ ?_
  ·rintro i x σ H6 hx ⟨⟨u0,rfl⟩,s6,hy6⟩;obtain⟨c,hci,ca,rfl,hca⟩:=Cel.get (Cel.mono s6 hcs) hx;refine x6 ⟨_,rfl,kd,rfl,.inr ⟨kvs,.inl (s6 _ _ hkd)⟩,_,rfl,jb kvs (yL c),YX.t (k:=yL c) (s6 _ _ hkd) hca,?_⟩;have eg:(jb kvs (yL c)).getD (V.int 0)=V.int (if c∈st then 1 else 0):=by
    rw[hK c];by_cases h1:c∈st
    ·rw[if_pos h1,if_pos h1];rfl
    ·rw[if_neg h1,if_neg h1];by_cases h2:c∈cl
     ·rw[if_pos h2];rfl
     ·rw[if_neg h2];rfl
   rw[eg];refine⟨_,hy6,?_,⟨_,rfl⟩,fun b' o e'=>?_,?_⟩
   ·unfold zae;rw[Y1,Y1,XM];exact XG (show _<=64 by lia) (by decide)
   ·rw[zk (zj e' hy)];exact s6 _ _ e'
   ·rw[zb,Xc,hci];unfold zae;rw[Xs,Xs];rfl
  rintro σ H1 ⟨_,s1,hy1⟩;rw[hcs.length,XA] at hy1;refine⟨y,_,rfl,SqL.of hy1,?_⟩;refine⟨_,rfl,t,_,0,_,rfl,rfl,SqT.of (s1 _ _ ht),rfl,_,rfl,_,_,rfl,rfl,_,rfl,t,_,1,_,rfl,rfl,SqT.of (s1 _ _ ht),rfl,la,rfl,⟨_,SqL.of (s1 _ _ hla)⟩,fun z hz=>?_⟩;refine qk (K:=K) (a:=la) (xs:=us) (fun a=>a≠z) (cs.map fun c=>if (!(decide (c∈st) || decide (c∈cl)))=true then some (zp c) else none) (fun σ=>∃u0,σ=[u0,some (.ref kd)]) hz (fun _ h=>h) ⟨_,rfl⟩ (by rw[Y1];exact hcs.length.symm) (by rw[hcs.length];exact XX c64 (by decide)) (SqL.of (s1 _ _ hla)) ?_ ?_
  ·rintro k x o σ H2 hx ho s2 _ ⟨u0,rfl⟩ Y Z yes no;obtain⟨c,hc,r1⟩:=Cel.get (Cel.mono (s1.trans s2) hcs) hx;have eo:=jA hc ho;obtain⟨ca,rfl,hca⟩:=r1;refine⟨_,rfl,_,rfl,kd,jb kvs (yL c),rfl,YX.t (k:=yL c) (s2 _ _ (s1 _ _ hkd)) hca,_,rfl,?_⟩;have ei:(!(jb kvs (yL c)).isSome)=!(decide (c∈st) || decide (c∈cl)):=by
    rw[hK c];by_cases h1:c∈st
    ·rw[if_pos h1,decide_eq_true h1];rfl
    ·rw[if_neg h1,decide_eq_false h1];by_cases h2:c∈cl
     ·rw[if_pos h2,decide_eq_true h2];rfl
     ·rw[if_neg h2,decide_eq_false h2];rfl
   rw[ei];by_cases hp:(!(decide (c∈st) || decide (c∈cl)))=true
   ·rw[if_pos hp] at eo;exact jT hp ⟨_,rfl,yes _ _ _ _ eo ⟨_,rfl⟩ (zq.refl _) (yK.rdn ⟨ca,rfl,hca⟩)⟩
   ·rw[if_neg hp] at eo;exact jE (Xh.mpr hp) (no _ _ eo ⟨_,rfl⟩ (zq.refl _))
  ·rintro ys H2 s2 hz2 hr2;rw[qc] at hr2;have hc2:Cel H2 ys (zZ cl st cs):=zw.cel hr2;refine⟨yJ,fun r hr3=>?_⟩;have z3:=zd (o:=.tup [.int (a0-(zae st cs).sum),.ref z]) hr3;exact q r z ys _ ((s1.trans s2).free hr3) (s1.free hz) zb (z3 _ _ hz2) (hc2.mono z3) ((s1.trans s2).trans z3)
def zbc (H:Hp)(v:V):Option (Nat×Nat)->Prop
 | none=>v=V.str "all"
 | some c=>yK H v c
theorem zbc.mono {H H':Hp}{v:V}(s:zq H H'):∀{th:Option (Nat×Nat)},zbc H v th->zbc H' v th
 | none,h=>h
 | some _,⟨a,e,h⟩=>⟨a,e,s _ _ h⟩
def zpV (rs:List Str)(n:Int):Option (Nat×Nat)->Int
 | none=>n
 | some c=>((Cells.sgn (codes rs) c:Nat):Int)-48
def zoE (rs:List Str):Option (Nat×Nat)->List (Nat×Nat)
 | none=>zK rs
 | some c=>clA rs c
def zhW:Sp:=fun vs H Q _=>∃(p l:Addr) (rs:List Str) (n:Int) (v:V) (th:Option (Nat×Nat)),vs=[.ref p,v]/\qJ H p l rs n/\Rows bd.cps.toList rs/\zbc H v th/\(∀c,th=some c->c∈qf rs) /\
 ∀(t l2:Addr) (us:List V) (H':Hp),H t=none->H l2=none->H' t=some (.tup [.int (zpV rs n th),.ref l2])->H' l2=some (.lst us)->Cel H' us (zoE rs th)->zq H H'->Q (.ref t) H'
abbrev Rg:=List (Nat×Nat)×Int×Int
def RgR (H:Hp)(v:V)(g:Rg):Prop:=∃t l us,v=V.ref t/\H t=some (.tup [.ref l,.int g.2.1,.int g.2.2])/\H l=some (.lst us)/\Cel H us g.1
def zfG (H:Hp):List V->List Rg->Prop:=Xj (RgR H)
theorem zfG.get {H:Hp}:∀{vs:List V} {gs:List Rg} {i:Nat} {v:V},zfG H vs gs->vs[i]?=some v->∃g,gs[i]?=some g/\RgR H v g
 | _,_,_,_,.nil,e=>by simp at e
 | _,_,0,_,.cons r _,e=>by
  simp at e;subst e;exact⟨_,rfl,r⟩
 | _,_,i+1,v,.cons _ t,e=>by
  obtain⟨c,h1,h2⟩:=zfG.get (i:=i) (v:=v) t (by simpa using e);exact⟨c,by simpa using h1,h2⟩
def qg (gs:List Rg):List (Nat×Nat):=gs.flatMap fun g=>if g.2.2=0 then g.1 else []
def qh (gs:List Rg):List (Nat×Nat):=gs.flatMap fun g=>if g.2.1=((g.1.length:Nat):Int) then g.1 else []
theorem zcm (p:Rg->Bool):∀gs:List Rg,(gs.flatMap fun g=>if p g=true then g.1 else []).Sublist (gs.flatMap fun g=>g.1)
 | []=>List.Sublist.refl _
 | g::r=>by
  rw[UO,UO];refine List.Sublist.append ?_ (zcm p r);split
  ·exact List.Sublist.refl _
  ·exact RA _
theorem yV (gs:List Rg):(qg gs).Sublist (gs.flatMap fun g=>g.1):=by
 have:=zcm (fun g=>decide (g.2.2=0)) gs;simpa[qg] using this
theorem yW (gs:List Rg):(qh gs).Sublist (gs.flatMap fun g=>g.1):=by
 have:=zcm (fun g=>decide (g.2.1=((g.1.length:Nat):Int))) gs;simpa[qh] using this
theorem zdB {α:Type}(f:Rg->List α){gs:List Rg}{i:Nat}{g:Rg}(h:gs[i]?=some g):(gs.take (i+1)).flatMap f=(gs.take i).flatMap f++f g:=by
 rw[Xc,h,Vf];simp
def zje:Sp:=fun vs H Q _=>∃(r:Addr) (us:List V) (gs:List Rg),vs=[.ref r]/\H r=some (.lst us)/\zfG H us gs/\(gs.flatMap fun g=>g.1).Nodup/\(gs.flatMap fun g=>g.1).length<64 /\
 ∀(t d1 d2:Addr) (w1 w2:List V) (c1 c2:List (Nat×Nat)) (H':Hp),H t=none->H d1=none->H d2=none->d1≠d2->H' t=some (.tup [.ref d1,.ref d2])->H' d1=some (.lst w1)->H' d2=some (.lst w2)->Cel H' w1 c1->Cel H' w2 c2 ->
  c1.Perm (qg gs)->c2.Perm (qh gs)->c1.Pairwise Cells.lex->c2.Pairwise Cells.lex->zq H H'->Q (.ref t) H'
theorem zaN {cs:List (Nat×Nat)}(nd:cs.Nodup)(h:(cs.map toI).Pairwise fun p q=>lt2 q p=false):cs.Pairwise Cells.lex:=by
 rw[Wm] at h;refine(h.and nd).imp fun {c d} ⟨a,ne⟩=>?_;have b:¬ Cells.lex d c:=fun z=>by
  rw[zhJ.mpr z] at a;cases a
 have e:¬ (c.1=d.1/\c.2=d.2):=fun z=>ne (Prod.ext z.1 z.2);unfold Cells.lex at *
 lia
theorem zfH:zF ["board","thing"] ["board","thing"] (zf ZU):=⟨rfl,rfl,rfl,by decide +kernel,rfl,by decide +kernel,by decide +kernel⟩
theorem zfI {f1 f2 f3 f4 f5 f6:Addr}{fd1 fd2 fd3 fd4 fd5 fd6:Xz}(T:Txt mg)(D:zm K mg "asked_by" ZU ["board","thing"] f fd)(zO:zm K mg "around" jw ["board","cell"] f1 fd1)(zv:zm K mg "sign_at" qC ["board","cell"] f2 fd2)(zD:zm K mg "cells_of" qy ["board"] f3 fd3)
  (yD:zm K mg "closed" Jy ["board"] f4 fd4) (zY:zm K mg "number_at" jn ["board","cell"] f5 fd5) (zG:zm K mg "closed_around" qz ["board","cell"] f6 fd6):qb P w K mg base CX0 3 f fd ["board","thing"] zhW:=by
 refine D.F.ok zfH (fun vs H Q E h=>?_) (fun cdv A outer s H vs Q E hr h=>?_)
 ·obtain⟨p,l,rs,n,v,th,rfl,_⟩:=h;rfl
 ·obtain⟨p,l,rs,n,v,th,rfl,b,R,hth,hop,q⟩:=h;refine⟨_,(ze (jg (jL (Qi hr.units) (pv 1) (xY (v:=.str "all") (by rfl) T.znh.choose_spec (by exact⟨_,rfl⟩)) (qa _)) (zh (zH (qm (za (zL qP (pv 0) zg (fun _ _=>rfl)) (za (pc0 (zdn T yD zD zv) hr yD (za (pv 0) zc)) zc))))) qi) (zh (zH (qm (za (pc0 (ZX T zY zv) hr zY (za (pv 0) (za (pv 1) zc))) (za (pc0 (jP T zG zO zv) hr zG (za (pv 0) (za (pv 1) zc))) zc)))))),?_⟩;cases th with
  | none =>
   have ev:v=V.str "all":=hth;subst ev;refine⟨_,rfl,.str "all",.str "all",.str _,.str _,⟨by decide +kernel,by decide +kernel,by decide +kernel⟩,_,rfl,jT (by decide +kernel) ?_⟩;refine⟨_,rfl,p,_,1,_,rfl,rfl,SqT.of b.tp,rfl,_,rfl,p,l,rs,n,rfl,b,R,fun d ws H1 hd hd1 hc1 s1=>⟨yJ,fun t ht=>?_⟩⟩;have z2:=zd (o:=.tup [.int n,.ref d]) ht;exact q t d ws _ (s1.free ht) hd zb (z2 _ _ hd1) (hc1.mono z2) (s1.trans z2)
  | some c =>
   obtain⟨ca,rfl,hca⟩:=hth;have hc:=hop c rfl;obtain⟨t0,k,ht0,hk,hpo,hkin,tln⟩:=R.openAt hc;obtain⟨k1,k2⟩:=zaE hkin hpo;obtain⟨s1',s2'⟩:=j9 R ht0 hk;have es:Cells.sgn (codes rs) c=k:=Cells.Qo (qV ht0) hk;refine⟨_,rfl,zp c,.str "all",yK.rdv ⟨ca,rfl,hca⟩,.str _,⟨rfl,by decide +kernel,by show max 0 (max 0 0)+1<=64;decide⟩,_,rfl,jE rfl ?_⟩;refine⟨_,rfl,_,rfl,p,l,ca,rs,n,c.1,c.2,t0,k,rfl,b,hca,ht0,hk,tln,k1,k2,_,rfl,_,rfl,p,l,ca,rs,n,c,rfl,b,R,hca,s1',s2',fun d ws H1 hd hd1 hc1 s1=>⟨yJ,fun t ht=>?_⟩⟩;have z2:=zd (o:=.tup [.int ((k:Int)-48),.ref d]) ht;refine q t d ws _ (s1.free ht) hd ?_ (z2 _ _ hd1) (hc1.mono z2) (s1.trans z2);rw[zb];show some (HO.tup [.int ((k:Int)-48),.ref d])=some (.tup [.int (((Cells.sgn (codes rs) c:Nat):Int)-48),.ref d]);rw[es]
theorem yX:zF ["regions","clears","stones","cells","least","most"] ["regions"] (zf Zr):=⟨rfl,rfl,rfl,by decide +kernel,rfl,by decide +kernel,by decide +kernel⟩
theorem zgV (T:Txt mg)(D:zm K mg "settled" Zr ["regions"] f fd):qb P w K mg base CX0 1 f fd ["regions"] zje:=by
 refine D.F.ok yX (fun vs H Q E h=>?_) (fun cdv A outer s H vs Q E hr h=>?_)
 ·obtain⟨r,us,gs,rfl,_⟩:=h;rfl
 ·obtain⟨r,us,gs,rfl,hr0,hgs,hnd,h64,q⟩:=h;have lc:∀i,(qg (gs.take i)).length<64:=fun i=>XG (XX (yV (gs.take i)).length_le (by
   have:gs=gs.take i++gs.drop i:=(WT i gs).symm;conv=>rhs;rw[this,Vf,X4]
   exact U7 _ _)) h64
  have ls:∀i,(qh (gs.take i)).length<64:=fun i=>XG (XX (yW (gs.take i)).length_le (by
   have:gs=gs.take i++gs.drop i:=(WT i gs).symm;conv=>rhs;rw[this,Vf,X4]
   exact U7 _ _)) h64
  have lg:∀{g:Rg},g∈gs->g.1.length<64:=fun {g} hg=>XG (by
   obtain⟨i,hi⟩:=UL hg;obtain⟨hl,e⟩:=X0.mp hi;have e1:gs=gs.take i++g::gs.drop (i+1):=by
    rw[<- e,List.getElem_cons_drop,WT]
   rw[e1,Vf,UO,X4,X4];lia) h64
  refine⟨_,(@ze _ _ _ _ _ (@zz _ _ 1 _ _ _ _ yX.nd rfl (XE rfl) (@qd _ _ _ _ zc) (by rfl) (.inr rfl)) (@ze _ _ _ _ _ (@zz _ _ 2 _ _ _ _ yX.nd rfl (XE rfl) (@qd _ _ _ _ zc) (by rfl) (.inr rfl)) (ze (qD W1 rfl (zJ (pv 0)) (yN rfl (zM (zo (i:=3) yX.nd rfl (XE rfl)) (zM (zo (i:=4) yX.nd rfl (XE rfl)) (zM (zo (i:=5) yX.nd rfl (XE rfl)) jD)))) (QJ (jg (jL Zc (pv 5) zg (qa _)) (zh (jC (Jk WQ UH UG YH (pv 1) (za (pv 3) zc)))) qi) (zh (jg (jL Zc (pv 4) (zu qq (by rfl) T.qZ W3 (za (pv 3) zc)) (qa _)) (zh (jC (Jk WQ UH UG YH (pv 2) (za (pv 3) zc)))) qi)))) (zh (zH (qm (za (zu GS.jx (by rfl) T.yC Wp (za (pv 1) zc)) (za (zu GS.jx (by rfl) T.yC Wp (za (pv 2) zc)) zc)))))))),?_⟩;refine⟨Jw,fun d1 hd1=>⟨Jw,fun d2 hd2=>?_⟩⟩;have z1:=zd (o:=.lst []) hd1;have z2:=zd (o:=.lst []) hd2;have n12:d1≠d2:=zj (show upd H d1 (.lst []) d1=some (.lst []) from zb) hd2;have f2:=z1.free hd2;have s0:=z1.trans z2;refine⟨_,rfl,r,rfl,⟨_,SqL.of (s0 _ _ hr0)⟩,?_⟩;refine xB (K:=K) (a:=r) (xs:=us) (fun i σ H'=>∃(v3 v4 v5:Option V) (w1 w2:List V),σ=[some (.ref r),some (.ref d1),some (.ref d2),v3,v4,v5]/\zq H H'/\H' d1=some (.lst w1)/\H' d2=some (.lst w2)/\Cel H' w1 (qg (gs.take i))/\Cel H' w2 (qh (gs.take i)))
   ⟨_,_,_,[],[],rfl,s0,z2 _ _ zb,zb,.nil,.nil⟩ (fun i σ H' _ ⟨_,_,_,_,_,_,s',_⟩=>SqL.of (s' _ _ hr0)) ?_ ?_
  ·rintro i x σ H1 hx ⟨v3,v4,v5,w1,w2,rfl,s1,h1,h2,hc1,hc2⟩;obtain⟨g,hg,t,l,ws,rfl,ht0,hl0,hcl0⟩:=zfG.get hgs hx;have ht:=s1 _ _ ht0;have hl:=s1 _ _ hl0;have hcl:=hcl0.mono s1;have nl1:l≠d1:=zj hl0 hd1;have nl2:l≠d2:=zj hl0 f2;have gm:=X7 hg;have g64:=lg gm;have e1:qg (gs.take (i+1))=qg (gs.take i)++(if g.2.2=0 then g.1 else []):=zdB _ hg;have e2:qh (gs.take (i+1))=qh (gs.take i)++(if g.2.1=((g.1.length:Nat):Int) then g.1 else []):=zdB _ hg;have c1l:=lc i;have c2l:=ls i;refine⟨t,_,rfl,SqT.of ht,rfl,_,_,rfl,_,_,rfl,_,_,rfl,rfl,?_⟩;refine⟨fun σ' H'=>∃(w1':List V),σ'=[some (.ref r),some (.ref d1),some (.ref d2),some (.ref l),some (.int g.2.1),some (.int g.2.2)]/\zq H H'/\H' d1=some (.lst w1')/\H' d2=some (.lst w2)/\Cel H' w1' (qg (gs.take (i+1)))/\Cel H' w2 (qh (gs.take i))/\H' l=some (.lst ws)/\Cel H' ws g.1,?_,?_⟩
   ·refine⟨_,rfl,rfl,_,rfl,zgc (fun hp=>?_) (fun hp=>?_)⟩
    ·have hp':g.2.2=0:=V.int.inj (of_decide_eq_true hp);rw[if_pos hp'] at e1;refine⟨_,rfl,.inl ⟨rfl,_,SqL.of h1⟩,_,rfl,d1,l,w1,ws,rfl,rfl,h1,hl,?_,w1++ws,rfl,fun b o e=>?_,zb,?_,?_,Cel.into d1 _ h1 hc2,?_,Cel.into d1 _ h1 hcl⟩
     ·rw[hc1.length,hcl.length];exact XX (show _<=200 by lia) (by decide)
     ·rw[zk (zj e hd1)];exact s1 _ _ e
     ·rw[zk (Vd n12)];exact h2
     ·rw[e1];exact Cel.into d1 _ h1 (Cel.append hc1 hcl)
     ·rw[zk nl1];exact hl
    ·have hp':¬ g.2.2=0:=fun z=>hp (decide_eq_true (by rw[z]));rw[if_neg hp',W9] at e1;exact⟨w1,rfl,s1,h1,h2,by rw[e1];exact hc1,hc2,hl,hcl⟩
   ·rintro σ' H2 ⟨w1',rfl,s2,h1',h2',hc1',hc2',hl',hcl'⟩;refine⟨_,rfl,_,rfl,l,_,rfl,.inl (SqL.of hl'),rfl,_,rfl,zgc (fun hp=>?_) (fun hp=>?_)⟩
    ·have hp':g.2.1=((g.1.length:Nat):Int):=by
      have:=V.int.inj (of_decide_eq_true hp);rw[hcl'.length] at this;exact this
     rw[if_pos hp'] at e2;refine⟨_,rfl,.inl ⟨rfl,_,SqL.of h2'⟩,_,rfl,d2,l,w2,ws,rfl,rfl,h2',hl',?_,_,_,_,w1',w2++ws,rfl,fun b o e=>?_,?_,zb,Cel.into d2 _ h2' hc1',?_⟩
     ·rw[hc2'.length,hcl'.length];exact XX (show _<=200 by lia) (by decide)
     ·rw[zk (zj e f2)];exact s2 _ _ e
     ·rw[zk n12];exact h1'
     ·rw[e2];exact Cel.into d2 _ h2' (Cel.append hc2' hcl')
    ·have hp':¬ g.2.1=((g.1.length:Nat):Int):=fun z=>hp (decide_eq_true (by rw[z,hcl'.length]));rw[if_neg hp',W9] at e2;exact⟨_,_,_,w1',w2,rfl,s2,h1',h2',hc1',by rw[e2];exact hc2'⟩
  ·rintro σ H1 ⟨v3,v4,v5,w1,w2,rfl,s1,h1,h2,hc1,hc2⟩;have gl:us.length=gs.length:=Paired.length hgs;rw[gl,XA] at hc1 hc2;have n1:(qg gs).Nodup:=hnd.sublist (yV gs);have n2:(qh gs).Nodup:=hnd.sublist (yW gs);have m1:(qg gs).length<64:=XG (yV gs).length_le h64;have m2:(qh gs).length<64:=XG (yW gs).length_le h64;refine⟨_,rfl,d1,w1,_,rfl,SqL.of h1,Cel.tup2 hc1,(by rw[hc1.length];lia),fun a1 u1 p1 ha1 ht1 zoF zqu=>?_⟩;obtain⟨q1,rfl,hp1⟩:=ZY zoF;have z3:=zd (o:=.lst u1) ha1;refine⟨_,rfl,d2,w2,_,rfl,SqL.of (z3 _ _ h2),Cel.tup2 (hc2.mono z3),(by rw[hc2.length];lia),fun a2 u2 p2 ha2 ht2 zgK hup2=>?_⟩;obtain⟨q2,rfl,hp2⟩:=ZY zgK;have z4:=zd (o:=.lst u2) ha2;have na:a1≠a2:=zj (show upd H1 a1 (.lst u1) a1=some (.lst u1) from zb) ha2;refine⟨yJ,fun t ht=>?_⟩;have z5:=zd (o:=.tup [.ref a1,.ref a2]) ht;have s35:=(s1.trans z3).trans z4;exact q t a1 a2 u1 u2 q1 q2 _ (s35.free ht) (s1.free ha1) ((s1.trans z3).free ha2) na zb (z5 _ _ (z4 _ _ zb)) (z5 _ _ zb) (Cel.mono ((z3.trans z4).trans z5) (qL ht1)) (Cel.mono (z4.trans z5) (qL ht2)) hp1 hp2 (zaN (hp1.nodup_iff.mpr n1) zqu) (zaN (hp2.nodup_iff.mpr n2) hup2) (s35.trans z5)
def Z5 (A B:List (Nat×Nat))(a b:Int):Int:=mx3 0 (a-((Two.alone A B).length:Nat)) (b-((Two.alone B A).length:Nat))
def Z6 (A B:List (Nat×Nat))(a b:Int):Int:=mn3 ((Two.both A B).length:Nat) a b
def zgW (A B:List (Nat×Nat))(a b:Int):List Rg:=[(Two.both A B,Z5 A B a b,Z6 A B a b),(Two.alone A B,a-Z6 A B a b,a-Z5 A B a b),(Two.alone B A,b-Z6 A B a b,b-Z5 A B a b)]
abbrev Ak:=Int×List (Nat×Nat)
def AkV (H:Hp)(v:V)(k:Ak):Prop:=∃(t l:Addr) (us:List V),v=V.ref t/\H t=some (.tup [.int k.1,.ref l])/\H l=some (.lst us)/\Cel H us k.2
def ak1 (ks:List Ak):Ak:=ks.getD 0 (0,[])
def ak2 (ks:List Ak):Ak:=ks.getD 1 (0,[])
def gsU (ks:List Ak):List Rg:=zgW (ak1 ks).2 (ak2 ks).2 (ak1 ks).1 (ak2 ks).1
def zoG (ks:List Ak):Prop:=Z5 (ak1 ks).2 (ak2 ks).2 (ak1 ks).1 (ak2 ks).1<=Z6 (ak1 ks).2 (ak2 ks).2 (ak1 ks).1 (ak2 ks).1
def zdC (C:Addr):Sp:=fun vs H Q E=>∃(la:Addr) (ls:List V) (ks:List Ak),vs=[.ref la]/\H la=some (.lst ls)/\Xj (AkV H) ls ks/\(ks.length=1\/ks.length=2)/\(∀k∈ks,k.2.Nodup/\k.2.length<=20) /\
 (zoG ks->∀(t d1 d2:Addr) (w1 w2:List V) (c1 c2:List (Nat×Nat)) (H':Hp),H d1=none->H d2=none->H' t=some (.tup [.ref d1,.ref d2])->H' d1=some (.lst w1)->H' d2=some (.lst w2)->Cel H' w1 c1->Cel H' w2 c2->c1.Perm (qg (gsU ks))->c2.Perm (qh (gsU ks))->c1.Pairwise Cells.lex->c2.Pairwise Cells.lex->zq H H'->Q (.ref t) H') /\
 (¬ zoG ks->∀H',zq H H'->E (.ref C) none H')
theorem zmH (A B:List (Nat×Nat)):(A.filter fun c=>!decide (c∈Two.both A B))=Two.alone A B:=by
 unfold Two.alone Two.both;refine VZ fun x hx=>?_;congr 1;rw[decide_eq_decide,X9,decide_eq_true_eq];exact⟨fun h=>h.2,fun h=>⟨hx,h⟩⟩
theorem zk5 (A B:List (Nat×Nat)):(B.filter fun c=>!decide (c∈Two.both A B))=Two.alone B A:=by
 unfold Two.alone Two.both;refine VZ fun x hx=>?_;congr 1;rw[decide_eq_decide,X9,decide_eq_true_eq];exact⟨fun h=>h.1,fun h=>⟨h,hx⟩⟩
theorem zhX (cs:List (Nat×Nat))(c:Nat×Nat):(cs.any fun z=>decide (z=c))=decide (c∈cs):=by
 rw[WV,WF,decide_eq_true_eq];constructor
 ·rintro⟨x,h1,h2⟩;have e:x=c:=of_decide_eq_true h2;rw[<- e];exact h1
 ·intro h;exact⟨c,h,decide_eq_true rfl⟩
theorem zei {K:XT}{H:Hp}{vs:List V}{cs:List (Nat×Nat)}(hp:Cel H vs cs):J7 K H vs (cs.map zp):=by
 induction hp with
 | nil=>exact .nil
 | cons h _ ih=>exact .cons (yK.rdv h) ih
theorem znn (g:List (Nat×Nat))(c:Nat×Nat):(if false=true then !(g.map zp).any (fun z=>WL z (zp c)) else (g.map zp).any fun z=>WL z (zp c))=decide (c∈g):=(xK _ _).trans (zhX _ _)
theorem zfJ (g:List (Nat×Nat))(c:Nat×Nat):(if true=true then !(g.map zp).any (fun z=>WL z (zp c)) else (g.map zp).any fun z=>WL z (zp c))=!decide (c∈g):=congrArg (fun b=>!b) ((xK _ _).trans (zhX _ _))
theorem zk6 {a b:List (Nat×Nat)}(p:a.Perm b)(ha:a.Pairwise Cells.lex)(hb:b.Pairwise Cells.lex):a=b:=p.eq_of_pairwise (fun x y _ _ h1 h2=>by
 unfold Cells.lex at h1 h2;lia) ha hb
theorem zqv {A:Hp->Addr->Prop}{G:Hp->Addr->Prop}{R:Prop}(k:∀H t,A H t->G H t)(h:(∀H t,A H t->G H t)->R):R:=h k
section
variable {P:Xn}{w:WW}{K:XT}{mg:Str->Option X8}{base:Heap}{f:Addr}{fd:Xz}{jaa:Addr}
theorem yp:zF ["asked","one","other","both","one_alone","other_alone","least","most"] ["asked"] (zf Jz):=⟨rfl,rfl,rfl,by decide +kernel,rfl,by decide +kernel,by decide +kernel⟩
theorem zjf {f1:Addr}{fd1:Xz}(T:Txt mg)(jac:Y4 K mg "NoLaying" jaa)(D:zm K mg "gained" Jz ["asked"] f fd)(YU:zm K mg "settled" Zr ["regions"] f1 fd1):qb P w K mg base (CXE P w) 2 f fd ["asked"] (zdC jaa):=by
 refine D.F.okX yp (fun vs H Q E h=>?_) (fun cdv A outer s H vs Q E hr h=>?_)
 ·obtain⟨la,ls,ks,rfl,_⟩:=h;rfl
 ·obtain⟨la,ls,ks,rfl,hla0,hP,hk2,hkn,q0,e0⟩:=h;refine⟨_,(ze (zz (i:=1) yp.nd rfl (XE rfl) (zL xw (pv 0) zg (fun _ _=>rfl))) (ze (zz (i:=2) yp.nd rfl (Vp rfl) (zjq (jL Zc (zu qq (by rfl) T.qZ W3 (za (pv 0) zc)) zg (qa _)) (zL xw (pv 0) zg (fun _ _=>rfl)) (@qm _ _ _ _ _ (@za _ _ _ _ _ zg (@za _ _ _ _ _ (@qd _ _ _ _ zc) zc rfl) rfl)))) (ze (zz (i:=3) yp.nd rfl (Vp rfl) (z9 (N:=["cell","other"]) (src:=[none,some 2]) (zP.free (O:=(zf Jz).names) (XN:=["asked","one","other","both","one_alone","other_alone","least","most"]) rfl rfl ⟨_,rfl⟩ rfl rfl (by decide +kernel) (by decide +kernel) (by decide +kernel) rfl (by decide +kernel)) rfl (zJ (zL qP (pv 1) zg (fun _ _=>rfl))) (fun _ _ _ _ _=>(zo (i:=0) (by show W7 (["cell","other"]:List Str);decide +kernel) rfl (XE rfl))) (fun _ _ _ _ _=>(qE (jL (jH (K:=K) (by rfl) hr.units) (pv 0) (zL (zlN (K:=K) (by rfl)) (pv 1) zg (fun _ _=>rfl)) (by rfl)))) (fun _ _ _ _ _=>(pv 0)))) (ze (JQ (i:=4) yp.nd rfl rfl (N:=["cell","both"]) (src:=[none,some 3]) (zP.free (O:=(zf Jz).names) (XN:=["asked","one","other","both","one_alone","other_alone","least","most"]) rfl rfl ⟨_,rfl⟩ rfl rfl (by decide +kernel) (by decide +kernel) (by decide +kernel) rfl (by decide +kernel)) rfl (zJ (zL qP (pv 1) zg (fun _ _=>rfl))) (fun _ _ _ _ _=>(zo (i:=0) (by show W7 (["cell","both"]:List Str);decide +kernel) rfl (XE rfl))) (fun _ _ _ _ _=>(qE (jL (Yi (K:=K) (by rfl) hr.units) (pv 0) (pv 1) (by rfl)))) (fun _ _ _ _ _=>(pv 0))) (ze (JQ (i:=5) yp.nd rfl rfl (N:=["cell","both"]) (src:=[none,some 3]) (zP.free (O:=(zf Jz).names) (XN:=["asked","one","other","both","one_alone","other_alone","least","most"]) rfl rfl ⟨_,rfl⟩ rfl rfl (by decide +kernel) (by decide +kernel) (by decide +kernel) rfl (by decide +kernel)) rfl (zJ (zL qP (pv 2) zg (fun _ _=>rfl))) (fun _ _ _ _ _=>(zo (i:=0) (by show W7 (["cell","both"]:List Str);decide +kernel) rfl (XE rfl))) (fun _ _ _ _ _=>(qE (jL (Yi (K:=K) (by rfl) hr.units) (pv 0) (pv 1) (by rfl)))) (fun _ _ _ _ _=>(pv 0))) (ze (zz (i:=6) yp.nd rfl (XE rfl) (zu (ziy rfl) (by rfl) T.zkv SU (@za _ _ _ _ _ zg (za (zE J5 (zL qP (pv 1) zg (fun _ _=>rfl)) (zu qq (by rfl) T.qZ W3 (za (pv 4) zc))) (za (zE J5 (zL qP (pv 2) zg (fun _ _=>rfl)) (zu qq (by rfl) T.qZ W3 (za (pv 5) zc))) zc)) rfl))) (ze (zz (i:=7) yp.nd rfl (XE rfl) (zu (ziz rfl) (by rfl) T.zfn UX (za (zu qq (by rfl) T.qZ W3 (za (pv 3) zc)) (za (zL qP (pv 1) zg (fun _ _=>rfl)) (za (zL qP (pv 2) zg (fun _ _=>rfl)) zc))))) (ze (jg (jL zm3 (pv 6) (pv 7) (qa _)) (zh (zbD jM jac (by rfl) rfl (@za _ _ _ _ _ jF zc rfl))) qi) (zh (zH (pc0 (zgV T YU) hr YU (za (qd (za (qm (za (pv 3) (za (pv 6) (za (pv 7) zc)))) (za (qm (za (pv 4) (za (zE J5 (zL qP (pv 1) zg (fun _ _=>rfl)) (pv 7)) (za (zE J5 (zL qP (pv 1) zg (fun _ _=>rfl)) (pv 6)) zc)))) (za (qm (za (pv 5) (za (zE J5 (zL qP (pv 2) zg (fun _ _=>rfl)) (pv 7)) (za (zE J5 (zL qP (pv 2) zg (fun _ _=>rfl)) (pv 6)) zc)))) zc)))) zc)))))))))))),?_⟩;obtain⟨t1,l1,us,a,A,ht10,hl10,hA0,nA,lA,hrest⟩:∃(t1 l1:Addr) (us:List V) (a:Int) (A:List (Nat×Nat)),H t1=some (.tup [.int a,.ref l1])/\H l1=some (.lst us)/\Cel H us A/\A.Nodup/\A.length<=20/\((ls=[.ref t1]/\ks=[(a,A)])\/∃(t2 l2:Addr) (ws:List V) (b:Int) (B:List (Nat×Nat)),ls=[.ref t1,.ref t2]/\ks=[(a,A),(b,B)]/\H t2=some (.tup [.int b,.ref l2])/\H l2=some (.lst ws)/\Cel H ws B/\B.Nodup/\B.length<=20):=by
   cases hP with
   | nil=>rcases hk2 with h | h<;>cases h
   | cons x xs =>
    obtain⟨t1,l1,us,rfl,h1,h2,h3⟩:=x;have n1:=hkn _ XW;refine⟨t1,l1,us,_,_,h1,h2,h3,n1.1,n1.2,?_⟩;cases xs with
    | nil=>exact .inl ⟨rfl,rfl⟩
    | cons y ys =>
     obtain⟨t2,l2,ws,rfl,g1,g2,g3⟩:=y;cases ys with
     | nil =>
      have n2:=hkn _ (XR _ XW);exact .inr ⟨t2,l2,ws,_,_,rfl,rfl,g1,g2,g3,n2.1,n2.2⟩
     | cons z zs =>
      rcases hk2 with h | h<;>simp at h
  have hone:atI ls 0=some (.ref t1):=by
   rcases hrest with ⟨rfl,_⟩ | ⟨_,_,_,_,_,rfl,_⟩<;>rfl
  refine⟨_,rfl,la,_,_,.ref t1,rfl,rfl,SqL.of hla0,hone,?_⟩;refine' zqv (A:=fun (H:Hp) (t2:Addr)=>∃(l2:Addr) (b:Int) (ws:List V) (B:List (Nat×Nat)),H t1=some (.tup [.int a,.ref l1])/\H l1=some (.lst us)/\Cel H us A/\H t2=some (.tup [.int b,.ref l2])/\H l2=some (.lst ws)/\Cel H ws B/\B.Nodup/\B.length<=20/\(Z5 A B a b<=Z6 A B a b->∀(t d1 d2:Addr) (w1 w2:List V) (c1 c2:List (Nat×Nat)) (H':Hp),H d1=none->H d2=none->H' t=some (.tup [.ref d1,.ref d2])->H' d1=some (.lst w1)->H' d2=some (.lst w2)->Cel H' w1 c1->Cel H' w2 c2->c1.Perm (qg (zgW A B a b))->c2.Perm (qh (zgW A B a b))->c1.Pairwise Cells.lex->c2.Pairwise Cells.lex->zq H H'->Q (.ref t) H')/\(Z6 A B a b<Z5 A B a b->∀H',zq H H'->E (.ref jaa) none H')) ?rest (fun key=>?tail)
  case tail =>
   have hr2:=hrest
   rcases hr2 with ⟨els,eks⟩ | ⟨t2,l2,ws,b,B,els,eks,ht2,hl2,hB,nB,lB⟩
   ·have hla1:H la=some (.lst [.ref t1]):=by rw[<- els];exact hla0
    have q1:=q0;have x1:=e0;rw[eks] at q1 x1;refine⟨_,rfl,la,_,rfl,.inl (SqL.of hla1),rfl,_,rfl,jE (by show decide (V.int ((1:Nat):Int)=V.int 2)=false;decide) ⟨Jw,fun e1 he1=>⟨yJ,fun t2 ht2=>?_⟩⟩⟩;have z1:=zd (o:=.lst []) he1;have z2:=zd (o:=.tup [.int 0,.ref e1]) ht2;have s2:=z1.trans z2;have he2:upd (upd H e1 (.lst [])) t2 (.tup [.int 0,.ref e1]) e1=some (.lst []):=z2 _ _ zb;have ht2':upd (upd H e1 (.lst [])) t2 (.tup [.int 0,.ref e1]) t2=some (.tup [.int 0,.ref e1]):=zb;clear z1 z2;revert s2 he2 ht2';generalize upd (upd H e1 (.lst [])) t2 (.tup [.int 0,.ref e1])=H2;intro s2 he2 ht2';exact key H2 t2 ⟨e1,0,[],[],s2 _ _ ht10,s2 _ _ hl10,hA0.mono s2,ht2',he2,.nil,VA,by decide,fun h t d1 d2 w1 w2 c1 c2 H' f1 f2 g1 g2 g3 g4 g5 g6 g7 g8 g9 s'=>q1 h t d1 d2 w1 w2 c1 c2 H' (s2.free f1) (s2.free f2) g1 g2 g3 g4 g5 g6 g7 g8 g9 (s2.trans s'),fun h H' s'=>x1 (fun z=>absurd z (Int.not_le.mpr h)) H' (s2.trans s')⟩
   ·have hla1:H la=some (.lst [.ref t1,.ref t2]):=by rw[<- els];exact hla0
    have q1:=q0;have x1:=e0;rw[eks] at q1 x1;refine⟨_,rfl,la,_,rfl,.inl (SqL.of hla1),rfl,_,rfl,jT (by show decide (V.int ((2:Nat):Int)=V.int 2)=true;decide) ⟨_,rfl,la,_,_,.ref t2,rfl,rfl,SqL.of hla1,rfl,?_⟩⟩;exact key H t2 ⟨l2,b,ws,B,ht10,hl10,hA0,ht2,hl2,hB,nB,lB,q1,fun h H' s'=>x1 (fun z=>absurd z (Int.not_le.mpr h)) H' s'⟩
  intro H t2 ⟨l2,b,ws,B,ht1,hl1,hA,ht2,hl2,hB,nB,lB,q,e⟩;refine⟨_,rfl,t1,_,1,_,rfl,rfl,SqT.of ht1,rfl,l1,rfl,⟨_,SqL.of hl1⟩,fun z hz=>?_⟩;refine qk (K:=K) (a:=l1) (xs:=us) (fun a=>a≠z) (A.map fun c=>if decide (c∈B)=true then some (zp c) else none) (fun σ=>∃u0,σ=[u0,some (.ref t2)]) hz (fun _ h=>h) ⟨_,rfl⟩ (by rw[Y1];exact hA.length.symm) (by rw[hA.length];exact XX lA (by decide)) (SqL.of hl1) ?_ ?_
  ·rintro k x o σ H4 hx ho s4 _ ⟨u0,rfl⟩ Y Z yes no;obtain⟨c,hc,rc⟩:=Cel.get (Cel.mono s4 hA) hx;have eo:=jA hc ho;refine⟨_,rfl,_,rfl,t2,_,1,_,rfl,rfl,SqT.of (s4 _ _ ht2),rfl,zp c,B.map zp,rc.rdv,.lst (SqL.of (s4 _ _ hl2)) (zei (hB.mono s4)),rfl,YZ _,(by show 1<=60;decide),_,rfl,?_⟩;rw[znn];by_cases hp:decide (c∈B)=true
   ·rw[if_pos hp] at eo;exact jT hp ⟨_,rfl,yes _ _ _ _ eo ⟨_,rfl⟩ (zq.refl _) rc.rdn⟩
   ·rw[if_neg hp] at eo;exact jE (Xh.mpr hp) (no _ _ eo ⟨_,rfl⟩ (zq.refl _))
  rintro yb H3 s3 hz3 hr3;rw[qc] at hr3;have hcb:Cel H3 yb (Two.both A B):=zw.cel hr3;refine⟨_,rfl,t1,_,1,_,rfl,rfl,SqT.of (s3 _ _ ht1),rfl,l1,rfl,⟨_,SqL.of (s3 _ _ hl1)⟩,fun o1 ho1=>?_⟩;refine qk (K:=K) (a:=l1) (xs:=us) (fun a=>a≠o1) (A.map fun c=>if (!decide (c∈Two.both A B))=true then some (zp c) else none) (fun σ=>∃u0,σ=[u0,some (.ref z)]) ho1 (fun _ h=>h) ⟨_,rfl⟩ (by rw[Y1];exact hA.length.symm) (by rw[hA.length];exact XX lA (by decide)) (SqL.of (s3 _ _ hl1)) ?_ ?_
  ·rintro k x o σ H4 hx ho s4 _ ⟨u0,rfl⟩ Y Z yes no;obtain⟨c,hc,rc⟩:=Cel.get (Cel.mono (s3.trans s4) hA) hx;have eo:=jA hc ho;refine⟨_,rfl,_,rfl,zp c,(Two.both A B).map zp,rc.rdv,.lst (SqL.of (s4 _ _ hz3)) (zei (hcb.mono s4)),rfl,YZ _,(by show 1<=60;decide),_,rfl,?_⟩;rw[zfJ];by_cases hp:(!decide (c∈Two.both A B))=true
   ·rw[if_pos hp] at eo;exact jT hp ⟨_,rfl,yes _ _ _ _ eo ⟨_,rfl⟩ (zq.refl _) rc.rdn⟩
   ·rw[if_neg hp] at eo;exact jE (Xh.mpr hp) (no _ _ eo ⟨_,rfl⟩ (zq.refl _))
  rintro yo H4 s4 ho4 hr4;rw[qc,zmH] at hr4;have hco:Cel H4 yo (Two.alone A B):=zw.cel hr4;have s24:=s3.trans s4;refine⟨_,rfl,t2,_,1,_,rfl,rfl,SqT.of (s24 _ _ ht2),rfl,l2,rfl,⟨_,SqL.of (s24 _ _ hl2)⟩,fun o2 ho2=>?_⟩;refine qk (K:=K) (a:=l2) (xs:=ws) (fun a=>a≠o2) (B.map fun c=>if (!decide (c∈Two.both A B))=true then some (zp c) else none) (fun σ=>∃u0,σ=[u0,some (.ref z)]) ho2 (fun _ h=>h) ⟨_,rfl⟩ (by rw[Y1];exact hB.length.symm) (by rw[hB.length];exact XX lB (by decide)) (SqL.of (s24 _ _ hl2)) ?_ ?_
  ·rintro k x o σ H5 hx ho s5 _ ⟨u0,rfl⟩ Y Z yes no;obtain⟨c,hc,rc⟩:=Cel.get (Cel.mono (s24.trans s5) hB) hx;have eo:=jA hc ho;refine⟨_,rfl,_,rfl,zp c,(Two.both A B).map zp,rc.rdv,.lst (SqL.of (s5 _ _ (s4 _ _ hz3))) (zei (hcb.mono (s4.trans s5))),rfl,YZ _,(by show 1<=60;decide),_,rfl,?_⟩;rw[zfJ];by_cases hp:(!decide (c∈Two.both A B))=true
   ·rw[if_pos hp] at eo;exact jT hp ⟨_,rfl,yes _ _ _ _ eo ⟨_,rfl⟩ (zq.refl _) rc.rdn⟩
   ·rw[if_neg hp] at eo;exact jE (Xh.mpr hp) (no _ _ eo ⟨_,rfl⟩ (zq.refl _))
  rintro y2 H5 s5 ho5 hr5;rw[qc,zk5] at hr5;have hc2:Cel H5 y2 (Two.alone B A):=zw.cel hr5;have s25:=s24.trans s5;have ho15:=s5 _ _ ho4;have hz5:=s5 _ _ (s4 _ _ hz3);have hcb5:=hcb.mono (s4.trans s5);have ht25:=s25 _ _ ht2;have ht15:=s25 _ _ ht1;have hco5:=hco.mono s5;refine⟨_,rfl,t1,_,0,_,rfl,rfl,SqT.of ht15,rfl,_,rfl,o1,_,rfl,.inl (SqL.of ho15),_,_,rfl,rfl,_,rfl,t2,_,0,_,rfl,rfl,SqT.of ht25,rfl,_,rfl,o2,_,rfl,.inl (SqL.of ho5),_,_,rfl,rfl,_,_,_,rfl,?_⟩;refine⟨_,rfl,z,_,rfl,.inl (SqL.of hz5),_,rfl,t1,_,0,_,rfl,rfl,SqT.of ht15,rfl,_,rfl,t2,_,0,_,rfl,rfl,SqT.of ht25,rfl,_,_,_,rfl,?_⟩;refine⟨_,rfl,_,rfl,_,_,rfl,rfl,_,rfl,?_⟩;have eL:mx3 0 (a-((yo.length:Nat):Int)) (b-((y2.length:Nat):Int))=Z5 A B a b:=by
   unfold Z5;rw[hco5.length,hc2.length]
  have eM:mn3 ((yb.length:Nat):Int) a b=Z6 A B a b:=by
   unfold Z6;rw[hcb5.length]
  rw[eL,eM];by_cases hg:Z5 A B a b<=Z6 A B a b
  ·refine jE (decide_eq_false (by lia)) ?_;have q':=q hg;unfold zgW at q';generalize Z5 A B a b=lo at *
   generalize Z6 A B a b=hi at *
   refine⟨_,rfl,_,rfl,_,rfl,ziQ,fun r1 hr1=>?_⟩;have y1:=zd (o:=.tup [.ref z,.int lo,.int hi]) hr1;have x1:upd H5 r1 (.tup [.ref z,.int lo,.int hi]) r1=some (.tup [.ref z,.int lo,.int hi]):=zb;refine⟨_,rfl,_,rfl,t1,_,0,_,rfl,rfl,SqT.of (y1 _ _ ht15),rfl,_,rfl,_,_,rfl,rfl,_,rfl,t1,_,0,_,rfl,rfl,SqT.of (y1 _ _ ht15),rfl,_,rfl,_,_,rfl,rfl,ziQ,fun r2 hr2=>?_⟩;have y22:=zd (o:=.tup [.ref o1,.int (a-hi),.int (a-lo)]) hr2;have y12:=y1.trans y22;refine⟨_,rfl,_,rfl,t2,_,0,_,rfl,rfl,SqT.of (y12 _ _ ht25),rfl,_,rfl,_,_,rfl,rfl,_,rfl,t2,_,0,_,rfl,rfl,SqT.of (y12 _ _ ht25),rfl,_,rfl,_,_,rfl,rfl,ziQ,fun r3 hr3=>⟨ziQ,fun rl hrl=>?_⟩⟩;have y3:=zd (o:=.tup [.ref o2,.int (b-hi),.int (b-lo)]) hr3;have y4:=zd (o:=.lst [.ref r1,.ref r2,.ref r3]) hrl;have y34:=y3.trans y4;have y14:=y12.trans y34;have mB:∀{x:Nat×Nat},x∈Two.both A B->x∈A/\x∈B:=fun h=>⟨(X9.mp h).1,of_decide_eq_true (X9.mp h).2⟩;have mA:∀{x:Nat×Nat} {A B:List (Nat×Nat)},x∈Two.alone A B->x∈A/\x ∉ B:=fun {x A B} h=>⟨(X9.mp h).1,by
    have:=(X9.mp h).2;simpa using this⟩
   have l1':(Two.both A B).length<=20:=XX (Xe _ _) lA;have l2':(Two.alone A B).length<=20:=XX (Xe _ _) lA;have l3':(Two.alone B A).length<=20:=XX (Xe _ _) lB;refine⟨rl,_,[(Two.both A B,lo,hi),(Two.alone A B,a-hi,a-lo),(Two.alone B A,b-hi,b-lo)],rfl,zb,.cons ⟨r1,z,yb,rfl,y34 _ _ (y22 _ _ x1),y14 _ _ hz5,hcb5.mono y14⟩ (.cons ⟨r2,o1,yo,rfl,y34 _ _ zb,y14 _ _ ho15,hco5.mono y14⟩ (.cons ⟨r3,o2,y2,rfl,y4 _ _ zb,y14 _ _ ho5,hc2.mono y14⟩ .nil)),?_,?_,fun t d1 d2 w1 w2 c1 c2 H6 ht hd1 hd2 hne h1 h2 h3 k1 k2 p1 p2 x1' x2' s6=>?_⟩
   ·show (Two.both A B++(Two.alone A B++(Two.alone B A++[]))).Nodup;rw[W9,WN,WN];refine⟨Two.zW _ nA,⟨Two.zW _ nA,Two.zW _ nB,fun x hx y hy e=>?_⟩,fun x hx y hy e=>?_⟩
    ·subst e;exact(mA hx).2 (mA hy).1
    ·subst e;rcases XO.mp hy with hy | hy
     ·exact(mA hy).2 (mB hx).2
     ·exact(mA hy).2 (mB hx).1
   ·show (Two.both A B++(Two.alone A B++(Two.alone B A++[]))).length<64;rw[W9,X4,X4];lia
   ·have sA:=s25.trans y14;exact q' t d1 d2 w1 w2 c1 c2 H6 (sA.free hd1) (sA.free hd2) h1 h2 h3 k1 k2 p1 p2 x1' x2' (sA.trans s6)
  ·exact jT (decide_eq_true (by lia)) ⟨by decide,e (by lia) _ s25⟩
end
def yF (cl st:List (Nat×Nat))(k:Ak):Ak:=(k.1-(zae st k.2).sum,zZ cl st k.2)
structure Yv (cl st:List (Nat×Nat))(k1 k2:Ak)(p:Nat×Nat->Bool):Prop where
 no:∀c∈cl,p c=false
 ye:∀c∈st,p c=true
 c1:((k1.2.countP p:Nat):Int)=k1.1
 c2:((k2.2.countP p:Nat):Int)=k2.1
def Det (b:Bool)(cl st:List (Nat×Nat))(k1 k2:Ak)(c:Nat×Nat):Prop:=∀p,Yv cl st k1 k2 p->p c=b
def gsP (cl st:List (Nat×Nat))(k1 k2:Ak):List Rg:=zgW (zZ cl st k1.2) (zZ cl st k2.2) (yF cl st k1).1 (yF cl st k2).1
theorem zaO {cl st:List (Nat×Nat)}{p:Nat×Nat->Bool}(no:∀c∈cl,p c=false)(ye:∀c∈st,p c=true):∀cs:List (Nat×Nat),((cs.countP p:Nat):Int)=(zae st cs).sum+(((zZ cl st cs).countP p:Nat):Int)
 | []=>rfl
 | c::r=>by
  have ih:=zaO no ye r;have el:(zae st (c::r)).sum=(if c∈st then 1 else 0)+(zae st r).sum:=by
   show (((c::r).map _).sum:Int)=_;rw[XB,RS];rfl
  have ef:zZ cl st (c::r)=if (!(decide (c∈st) || decide (c∈cl)))=true then c::zZ cl st r else zZ cl st r:=by
   unfold zZ;rw[WD]
  rw[Wn,el,ef];by_cases h1:c∈st
  ·rw[ye c h1,if_pos h1,decide_eq_true h1];show ((r.countP p+1:Nat):Int)=1+(zae st r).sum+(((zZ cl st r).countP p:Nat):Int);lia
  ·rw[if_neg h1,decide_eq_false h1];by_cases h2:c∈cl
   ·rw[no c h2,decide_eq_true h2];show ((r.countP p+0:Nat):Int)=0+(zae st r).sum+(((zZ cl st r).countP p:Nat):Int);lia
   ·rw[decide_eq_false h2];show ((r.countP p+(if p c=true then 1 else 0):Nat):Int)=0+(zae st r).sum+(((c::zZ cl st r).countP p:Nat):Int);rw[Wn];lia
theorem zcn (A B:List (Nat×Nat))(a b:Int):Two.Ends A B a b (Z5 A B a b) (Z6 A B a b):=by
 unfold Z5 Z6 mx3 mn3;refine⟨?_,?_,?_,?_,?_,?_,?_,?_⟩;all_goals
  repeat' split
  all_goals lia
theorem JE {cl st cs:List (Nat×Nat)}{c:Nat×Nat}:c∈zZ cl st cs↔c∈cs/\c ∉ st/\c ∉ cl:=by
 unfold zZ;rw[X9];simp
theorem zmI {A B:List (Nat×Nat)}{a b:Int}{c:Nat×Nat}:c∈qg (zgW A B a b)↔(c∈Two.both A B/\Z6 A B a b=0)\/(c∈Two.alone A B/\a-Z5 A B a b=0)\/(c∈Two.alone B A/\b-Z5 A B a b=0):=by
 show c∈(if Z6 A B a b=0 then Two.both A B else [])++((if a-Z5 A B a b=0 then Two.alone A B else [])++((if b-Z5 A B a b=0 then Two.alone B A else [])++[]))↔_;have e:∀(q:Prop) [Decidable q] (l:List (Nat×Nat)),c∈(if q then l else [])↔c∈l/\q:=fun q _ l=>by
  by_cases h:q<;>simp[h]
 rw[W9,XO,XO,e,e,e]
theorem zmJ {A B:List (Nat×Nat)}{a b:Int}{c:Nat×Nat}:c∈qh (zgW A B a b)↔(c∈Two.both A B/\Z5 A B a b=(Two.both A B).length)\/(c∈Two.alone A B/\a-Z6 A B a b=(Two.alone A B).length)\/(c∈Two.alone B A/\b-Z6 A B a b=(Two.alone B A).length):=by
 show c∈(if Z5 A B a b=_ then Two.both A B else [])++((if a-Z6 A B a b=_ then Two.alone A B else [])++((if b-Z6 A B a b=_ then Two.alone B A else [])++[]))↔_;have e:∀(q:Prop) [Decidable q] (l:List (Nat×Nat)),c∈(if q then l else [])↔c∈l/\q:=fun q _ l=>by
  by_cases h:q<;>simp[h]
 rw[W9,XO,XO,e,e,e]
structure InA (cs cl st:List (Nat×Nat))(k1 k2:Ak):Prop where
 nd:cs.Nodup
 n1:k1.2.Nodup
 n2:k2.2.Nodup
 s1:∀c∈k1.2,c∈cs
 s2:∀c∈k2.2,c∈cs
 ap:∀c∈cl,c ∉ st
section
variable {cs cl st:List (Nat×Nat)}{k1 k2:Ak}
theorem InA.two (I:InA cs cl st k1 k2):Two.In cl st cs (zZ cl st k1.2) (zZ cl st k2.2) :=
 ⟨I.nd,I.n1.sublist Xa,I.n2.sublist Xa,fun c h=>let z:=JE.mp h;⟨I.s1 c z.1,z.2⟩,fun c h=>let z:=JE.mp h;⟨I.s2 c z.1,z.2⟩,I.ap⟩
theorem Yv.to (I:InA cs cl st k1 k2){p:Nat×Nat->Bool}(h:Yv cl st k1 k2 p):Two.Fit cl st cs (zZ cl st k1.2) (zZ cl st k2.2) (yF cl st k1).1 (yF cl st k2).1 (cs.filter p):=by
 have key:∀k:Ak,(∀c∈k.2,c∈cs)->((k.2.countP p:Nat):Int)=k.1->((Two.cnt (zZ cl st k.2) (cs.filter p):Nat):Int)=(yF cl st k).1:=fun k hk e=>by
  have:=zaO h.no h.ye k.2;have e2:Two.cnt (zZ cl st k.2) (cs.filter p)=(zZ cl st k.2).countP p:=by
   unfold Two.cnt;rw[VI];congr 1;refine VZ fun c hc=>?_;rw[WV,decide_eq_true_eq,X9];exact⟨fun z=>z.2,fun z=>⟨hk c (JE.mp hc).1,z⟩⟩
  rw[e2];show _=k.1-(zae st k.2).sum;lia
 exact⟨Two.zks p cs (fun c _ z=>h.ye c z) (fun c _ z=>h.no c z),key k1 I.s1 h.c1,key k2 I.s2 h.c2⟩
theorem Yv.of (I:InA cs cl st k1 k2){S:List (Nat×Nat)}(h:Two.Fit cl st cs (zZ cl st k1.2) (zZ cl st k2.2) (yF cl st k1).1 (yF cl st k2).1 S):Yv cl st k1 k2 fun c=>decide (c∈S) || decide (c∈st):=by
 obtain⟨h1,h2,h3⟩:=Two.zoo h.ch;have no:∀c∈cl,(decide (c∈S) || decide (c∈st))=false:=fun c hc=>by
  rw[decide_eq_false fun z=>h3 c z hc,decide_eq_false (I.ap c hc)];rfl
 have ye:∀c∈st,(decide (c∈S) || decide (c∈st))=true:=fun c hc=>by
  rw[decide_eq_true hc,Bool.or_true]
 have key:∀k:Ak,((Two.cnt (zZ cl st k.2) S:Nat):Int)=(yF cl st k).1->((k.2.countP (fun c=>decide (c∈S) || decide (c∈st)):Nat):Int)=k.1:=fun k e=>by
  have e2:Two.cnt (zZ cl st k.2) S=(zZ cl st k.2).countP fun c=>decide (c∈S) || decide (c∈st):=by
   unfold Two.cnt;rw[VI];congr 1;refine VZ fun c hc=>?_;rw[decide_eq_false (JE.mp hc).2.1,O9]
  have:=zaO no ye k.2;rw[e2] at e;have e:_=k.1-(zae st k.2).sum:=e;lia
 exact⟨no,ye,key k1 h.fa,key k2 h.fb⟩
theorem zej (I:InA cs cl st k1 k2){p:Nat×Nat->Bool}(h:Yv cl st k1 k2 p):Z5 (zZ cl st k1.2) (zZ cl st k2.2) (yF cl st k1).1 (yF cl st k2).1<=Z6 (zZ cl st k1.2) (zZ cl st k2.2) (yF cl st k1).1 (yF cl st k2).1 :=
 (Two.zmq I.two (zcn _ _ _ _)).mp ⟨_,h.to I⟩
theorem YV {c:Nat×Nat}(I:InA cs cl st k1 k2)(h:c∈(gsP cl st k1 k2).flatMap fun g=>g.1):(c∈k1.2\/c∈k2.2)/\c ∉ st/\c ∉ cl:=by
 have h':c∈Two.both (zZ cl st k1.2) (zZ cl st k2.2)++(Two.alone (zZ cl st k1.2) (zZ cl st k2.2)++(Two.alone (zZ cl st k2.2) (zZ cl st k1.2)++[])):=h;rw[W9,XO,XO] at h';rcases h' with h | h | h
 ·have z:=JE.mp (X9.mp h).1;exact⟨.inl z.1,z.2⟩
 ·have z:=JE.mp (X9.mp h).1;exact⟨.inl z.1,z.2⟩
 ·have z:=JE.mp (X9.mp h).1;exact⟨.inr z.1,z.2⟩
theorem zco (I:InA cs cl st k1 k2){p:Nat×Nat->Bool}(h:Yv cl st k1 k2 p){c:Nat×Nat}:c∈qg (gsP cl st k1 k2)↔(c∈k1.2\/c∈k2.2)/\c ∉ st/\c ∉ cl/\Det false cl st k1 k2 c:=by
 have key:(c∈k1.2\/c∈k2.2)->c ∉ st->c ∉ cl->(c∈qg (gsP cl st k1 k2)↔Det false cl st k1 k2 c):=fun hc hs hl=>by
  have hcs:c∈cs:=hc.elim (I.s1 c) (I.s2 c);unfold gsP;rw[zmI,<- Two.ziY I.two (zcn _ _ _ _) (zej I h) hcs hs hl];constructor
  ·intro z q hq;have:=z _ (hq.to I);rw[X9] at this;exact Xh.mpr fun e=>this ⟨hcs,e⟩
  ·intro z S hS hm;have:=z _ (Yv.of I hS);rw[decide_eq_true hm] at this;cases this
 constructor
 ·intro z;obtain⟨a,b,d⟩:=YV I ((yV _).subset z);exact⟨a,b,d,(key a b d).mp z⟩
 ·rintro⟨a,b,d,e⟩;exact(key a b d).mpr e
theorem zcp (I:InA cs cl st k1 k2){p:Nat×Nat->Bool}(h:Yv cl st k1 k2 p){c:Nat×Nat}:c∈qh (gsP cl st k1 k2)↔(c∈k1.2\/c∈k2.2)/\c ∉ st/\c ∉ cl/\Det true cl st k1 k2 c:=by
 have key:(c∈k1.2\/c∈k2.2)->c ∉ st->c ∉ cl->(c∈qh (gsP cl st k1 k2)↔Det true cl st k1 k2 c):=fun hc hs hl=>by
  have hcs:c∈cs:=hc.elim (I.s1 c) (I.s2 c);unfold gsP;rw[zmJ,<- Two.ziZ I.two (zcn _ _ _ _) (zej I h) hcs hs hl];constructor
  ·intro z q hq;exact(X9.mp (z _ (hq.to I))).2
  ·intro z S hS;have:=z _ (Yv.of I hS);rw[decide_eq_false hs,O9] at this;exact of_decide_eq_true this
 constructor
 ·intro z;obtain⟨a,b,d⟩:=YV I ((yW _).subset z);exact⟨a,b,d,(key a b d).mp z⟩
 ·rintro⟨a,b,d,e⟩;exact(key a b d).mpr e
end
abbrev K0:Ak:=(0,[])
structure yG (As:List Ak)(L:Nat×Nat->Bool)(cl st:List (Nat×Nat)):Prop where
 no:∀c∈cl,L c=false
 ye:∀c∈st,L c=true
 ct:∀k∈As,((k.2.countP L:Nat):Int)=k.1
theorem yG.fit {As:List Ak}{L:Nat×Nat->Bool}{cl st:List (Nat×Nat)}(h:yG As L cl st){k1 k2:Ak}(h1:k1∈As)(h2:k2∈As\/k2=K0):Yv cl st k1 k2 L :=
 ⟨h.no,h.ye,h.ct k1 h1,h2.elim (h.ct k2) fun e=>by rw[e];rfl⟩
theorem yG.ap {As:List Ak}{L:Nat×Nat->Bool}{cl st:List (Nat×Nat)}(h:yG As L cl st):∀c∈cl,c ∉ st:=fun c hc hs=>by
 have:=h.ye c hs;rw[h.no c hc] at this;cases this
def Yw (cl st:List (Nat×Nat))(k1 k2:Ak):Prop:=∀c b,(c∈k1.2\/c∈k2.2)->c ∉ cl->c ∉ st->¬ Det b cl st k1 k2 c
def Qw (As:List Ak)(cl st:List (Nat×Nat)):Prop:=∀k1∈As,∀k2,(k2∈As\/k2=K0)->Yw cl st k1 k2
def za1 (As:List Ak)(L:Nat×Nat->Bool)(cl st:List (Nat×Nat)):Prop:=∀cl' st',yG As L cl' st'->Qw As cl' st'->(∀c∈cl,c∈cl')/\∀c∈st,c∈st'
theorem zfK (As:List Ak)(L:Nat×Nat->Bool):za1 As L [] []:=fun _ _ _ _=>⟨(fun _ h=>nomatch h),fun _ h=>nomatch h⟩
theorem zjg {As:List Ak}{L:Nat×Nat->Bool}{cs cl st c1 c2:List (Nat×Nat)}{k1 k2:Ak}(h:yG As L cl st)(m:za1 As L cl st)(h1:k1∈As)(h2:k2∈As\/k2=K0)(I:InA cs cl st k1 k2)
  (e1:∀c∈c1,c∈qg (gsP cl st k1 k2)) (e2:∀c∈c2,c∈qh (gsP cl st k1 k2)):yG As L (cl++c1) (st++c2)/\za1 As L (cl++c1) (st++c2):=by
 have f:=h.fit h1 h2;have d1:∀c∈c1,(c∈k1.2\/c∈k2.2)/\c ∉ st/\c ∉ cl/\Det false cl st k1 k2 c:=fun c hc=>(zco I f).mp (e1 c hc);have d2:∀c∈c2,(c∈k1.2\/c∈k2.2)/\c ∉ st/\c ∉ cl/\Det true cl st k1 k2 c:=fun c hc=>(zcp I f).mp (e2 c hc);refine⟨⟨fun c hc=>?_,fun c hc=>?_,h.ct⟩,fun cl' st' t' c'=>?_⟩
 ·exact(XO.mp hc).elim (h.no c) fun z=>(d1 c z).2.2.2 _ f
 ·exact(XO.mp hc).elim (h.ye c) fun z=>(d2 c z).2.2.2 _ f
 ·obtain⟨m1,m2⟩:=m cl' st' t' c';have up:∀p,Yv cl' st' k1 k2 p->Yv cl st k1 k2 p:=fun p q=>⟨fun c z=>q.no c (m1 c z),fun c z=>q.ye c (m2 c z),q.c1,q.c2⟩;refine⟨fun c hc=>(XO.mp hc).elim (m1 c) fun z=>?_,fun c hc=>(XO.mp hc).elim (m2 c) fun z=>?_⟩
  ·obtain⟨a,_,_,b⟩:=d1 c z;by_cases hz:c∈cl'
   ·exact hz
   ·refine absurd (fun p q=>b p (up p q)) (c' k1 h1 k2 h2 c false a hz fun y=>?_);have:=t'.ye c y;rw[b _ f] at this;cases this
  ·obtain⟨a,_,_,b⟩:=d2 c z;by_cases hz:c∈st'
   ·exact hz
   ·refine absurd (fun p q=>b p (up p q)) (c' k1 h1 k2 h2 c true a (fun y=>?_) hz);have:=t'.no c y;rw[b _ f] at this;cases this
theorem zhY {As:List Ak}{L:Nat×Nat->Bool}{cs cl st:List (Nat×Nat)}{k1 k2:Ak}(h:yG As L cl st)(h1:k1∈As)(h2:k2∈As\/k2=K0)(I:InA cs cl st k1 k2)(e1:qg (gsP cl st k1 k2)=[])(e2:qh (gsP cl st k1 k2)=[]):Yw cl st k1 k2:=fun c b hc hl hs hd=>by
 have f:=h.fit h1 h2;cases b with
 | false =>
  have:=(zco I f).mpr ⟨hc,hs,hl,hd⟩;rw[e1] at this;cases this
 | true =>
  have:=(zcp I f).mpr ⟨hc,hs,hl,hd⟩;rw[e2] at this;cases this
theorem zk7 {As:List Ak}{L:Nat×Nat->Bool}{cl st:List (Nat×Nat)}{k1 k2:Ak}(h:yG As L cl st)(h1:k1∈As)(h2:k2∈As)(z1:Yw cl st k1 K0)(z2:Yw cl st k2 K0)(ap:∀c∈k1.2,c ∉ k2.2):Yw cl st k1 k2:=fun c b hc hl hs hd=>by
 have mix:∀(k k':Ak),k∈As->k'∈As->(∀c∈k.2,c ∉ k'.2)->∀p,Yv cl st k K0 p->∃q:Nat×Nat->Bool,(∀c∈k.2,q c=p c)/\(∀c∈cl,q c=false)/\(∀c∈st,q c=true)/\((k.2.countP q:Nat):Int)=k.1/\((k'.2.countP q:Nat):Int)=k'.1:=fun k k' hk hk' a p f=>by
  refine⟨fun c=>if c∈k.2 then p c else L c,fun c z=>if_pos z,fun c z=>?_,fun c z=>?_,?_,?_⟩
  ·show (if c∈k.2 then p c else L c)=false;rw[f.no c z,h.no c z];exact ite_self _
  ·show (if c∈k.2 then p c else L c)=true;rw[f.ye c z,h.ye c z];exact ite_self _
  ·rw[<- f.c1];congr 1;exact Vl fun c z=>by rw[if_pos z]
  ·rw[<- h.ct k' hk'];congr 1;exact Vl fun c z=>by rw[if_neg fun y=>a c y z]
 rcases hc with hc | hc
 ·refine z1 c b (.inl hc) hl hs fun p f=>?_;obtain⟨q,e,q1,q2,q3,q4⟩:=mix k1 k2 h1 h2 ap p f;rw[<- e c hc];exact hd q ⟨q1,q2,q3,q4⟩
 ·refine z2 c b (.inl hc) hl hs fun p f=>?_;obtain⟨q,e,q1,q2,q3,q4⟩:=mix k2 k1 h2 h1 (fun c y z=>ap c z y) p f;rw[<- e c hc];exact hd q ⟨q1,q2,q4,q3⟩
structure Turn (φ:Nat×Nat->Nat×Nat)(cs:List (Nat×Nat))(As Bs:List Ak)(L M:Nat×Nat->Bool):Prop where
 to:∀k∈As,∃k'∈Bs,k'.1=k.1/\k'.2.Perm (k.2.map φ)
 sub:∀k∈As,∀c∈k.2,c∈cs
 lay:∀c∈cs,M (φ c)=L c
theorem zfL {φ:Nat×Nat->Nat×Nat}{cs:List (Nat×Nat)}{As Bs:List Ak}{L M:Nat×Nat->Bool}(U:Turn φ cs As Bs L M){cl st cl' st':List (Nat×Nat)}(t0:∀k∈As,((k.2.countP L:Nat):Int)=k.1)(m:za1 As L cl st)(t':yG Bs M cl' st')(c':Qw Bs cl' st'):(∀c∈cl,φ c∈cl')/\∀c∈st,φ c∈st':=by
 have sh:∀k1∈As,∀k2,(k2∈As\/k2=K0)->Yw (cs.filter fun c=>decide (φ c∈cl')) (cs.filter fun c=>decide (φ c∈st')) k1 k2:=by
  intro k1 h1 k2 h2 c b hc hl hs hd;obtain⟨k1',m1,e1,p1⟩:=U.to k1 h1;obtain⟨k2',m2,e2,p2⟩:∃k2',(k2'∈Bs\/k2'=K0)/\k2'.1=k2.1/\k2'.2.Perm (k2.2.map φ):=by
   rcases h2 with h2 | rfl
   ·obtain⟨k,a,b⟩:=U.to k2 h2;exact⟨k,.inl a,b⟩
   ·exact⟨K0,.inr rfl,rfl,.nil⟩
  have hcs:c∈cs:=hc.elim (U.sub k1 h1 c) fun z=>h2.elim (fun y=>U.sub k2 y c z) fun y=>by
   rw[y] at z;cases z
  refine c' k1' m1 k2' m2 (φ c) b ?_ (fun z=>hl (X9.mpr ⟨hcs,decide_eq_true z⟩)) (fun z=>hs (X9.mpr ⟨hcs,decide_eq_true z⟩)) fun p f=>?_
  ·exact hc.imp (fun z=>p1.mem_iff.mpr (XQ.mpr ⟨c,z,rfl⟩)) fun z=>p2.mem_iff.mpr (XQ.mpr ⟨c,z,rfl⟩)
  ·have cn:∀{k k':Ak},k'.1=k.1->k'.2.Perm (k.2.map φ)->((k'.2.countP p:Nat):Int)=k'.1->((k.2.countP (fun c=>p (φ c)):Nat):Int)=k.1:=fun {k k'} e q z=>by
    rw[<- e,<- z,q.countP_eq,SC];rfl
   exact hd (fun c=>p (φ c)) ⟨fun c z=>f.no _ (of_decide_eq_true (X9.mp z).2),fun c z=>f.ye _ (of_decide_eq_true (X9.mp z).2),cn e1 p1 f.c1,cn e2 p2 f.c2⟩
 have tr:yG As L (cs.filter fun c=>decide (φ c∈cl')) (cs.filter fun c=>decide (φ c∈st')):=by
  refine⟨fun c hc=>?_,fun c hc=>?_,t0⟩
  ·obtain⟨a,b⟩:=X9.mp hc;rw[<- U.lay c a];exact t'.no _ (of_decide_eq_true b)
  ·obtain⟨a,b⟩:=X9.mp hc;rw[<- U.lay c a];exact t'.ye _ (of_decide_eq_true b)
 obtain⟨a,b⟩:=m _ _ tr sh;exact⟨fun c hc=>of_decide_eq_true (X9.mp (a c hc)).2,fun c hc=>of_decide_eq_true (X9.mp (b c hc)).2⟩
abbrev nlI (t:List Nat):List Int:=t.map fun x=>((x:Nat):Int)
def PlR (N:Addr->Prop)(H:Hp)(v:V)(t:List Nat):Prop:=∃a,v=V.ref a/\N a/\H a=some (.lst (iL (nlI t)))
abbrev NT:Addr->Prop:=fun _=>True
section
variable {N:Addr->Prop}{H H':Hp}{us:List V}{ts:List (List Nat)}{z:Addr}{ys ys':List V}
theorem xO (s:zq H H')(h:Xj (PlR N H) us ts):Xj (PlR N H') us ts:=Paired.imp' (fun _ _ ⟨a,e,n,h⟩=>⟨a,e,n,s _ _ h⟩) h
theorem zhZ (h:Xj (PlR N H) us ts):Xj (PlR NT H) us ts:=Paired.imp' (fun _ _ ⟨a,e,_,h⟩=>⟨a,e,trivial,h⟩) h
theorem zfM (h:Xj (PlR (· ≠ z) H) us ts):Xj (PlR (· ≠ z) (upd H z (.lst ys'))) us ts:=Paired.imp' (fun _ _ ⟨a,e,n,h⟩=>⟨a,e,n,by rw[zk n];exact h⟩) h
theorem zcq {ks:List Ak}(s:zq H H')(h:Xj (AkV H) us ks):Xj (AkV H') us ks:=Paired.imp' (fun _ _ ⟨t,l,ws,e,h1,h2,h3⟩=>⟨t,l,ws,e,s _ _ h1,s _ _ h2,h3.mono s⟩) h
theorem zk8 {ks:List Ak}(h:Xj (AkV H) us ks){i:Nat}{k:Ak}(e:ks[i]?=some k):∃v,us[i]?=some v/\AkV H v k:=by
 have l:=Paired.length h;have i1:=(X0.mp e).1;obtain⟨v,hv⟩:∃v,us[i]?=some v:=⟨_,XZ (by lia)⟩;obtain⟨k',hk,r⟩:=Y0 h hv;rw[e] at hk;cases hk;exact⟨v,hv,r⟩
theorem take_snoc {α:Type}{l:List α}{i:Nat}{x:α}(h:l[i]?=some x):l.take (i+1)=l.take i++[x]:=by
 rw[Xc,h];rfl
end
def zaf (ks:List Ak)(i j:Nat):Bool:=((ks.getD i (0,[])).2).any fun c=>decide (c∈(ks.getD j (0,[])).2)
def zfN (ks:List Ak)(i m:Nat):List (List Nat):=((WC m).filter fun j=>zaf ks i (i+1+j)).map fun j=>[i,i+1+j]
def Je (ks:List Ak)(i:Nat):List (List Nat):=(WC i).flatMap fun i=>zfN ks i (ks.length-(i+1))
def Yx (ks:List Ak):List (List Nat):=(WC ks.length).map (fun i=>[i])++Je ks ks.length
theorem zk9 (ks:List Ak)(i m:Nat):(zfN ks i m).length<=m:=by
 unfold zfN;rw[Y1];have:=Xe (fun j=>zaf ks i (i+1+j)) (WC m);rwa [WU] at this
theorem pairs_len (ks:List Ak):∀i,(Je ks i).length<=i*ks.length
 | 0=>WZ _
 | i+1=>by
  unfold Je;rw[Uk,Vf,X4];have a:=pairs_len ks i;unfold Je at a;have b:=zk9 ks i (ks.length-(i+1));rw[UO,List.flatMap_nil,W9,OU];lia
theorem zoH (ks:List Ak)(h:ks.length<=32):(Yx ks).length<=1056:=by
 unfold Yx;rw[X4,Y1,WU];have a:=pairs_len ks ks.length;have b:ks.length*ks.length<=32*32:=Nat.mul_le_mul h h;lia
def zh0:Sp:=fun vs H Q _=>∃(la:Addr) (ls:List V) (ks:List Ak),vs=[.ref la]/\H la=some (.lst ls)/\Xj (AkV H) ls ks/\ks.length<=32/\(∀k∈ks,k.2.length<=64) /\
 ∀(d:Addr) (us:List V) (H':Hp),H' d=some (.lst us)->Xj (PlR NT H') us (Yx ks)->zq H H'->Q (.ref d) H'
theorem jh:zF ["asked","singles","pairs","place","one","other"] ["asked"] (zf jV):=⟨rfl,rfl,rfl,by decide +kernel,rfl,by decide +kernel,by decide +kernel⟩
theorem zcr (T:Txt mg){f:Addr}{fd:Xz}(D:zm K mg "place_lists" jV ["asked"] f fd):qb P w K mg base CX0 1 f fd ["asked"] zh0:=by
 refine D.F.ok jh (fun vs H Q E h=>?_) (fun cdv A outer s H vs Q E hr h=>?_)
 ·obtain⟨la,ls,ks,rfl,_⟩:=h;rfl
 ·obtain⟨la,ls,ks,rfl,hla,hA,k32,k64,q⟩:=h;refine⟨_,(ze (JQ (i:=1) jh.nd rfl rfl (N:=["place"]) (src:=[none]) (zP.plain rfl (by decide +kernel) (by decide +kernel) (by decide +kernel) rfl (by decide)) rfl (qU (by rfl) T.jf (za (zu zT (by rfl) T.qZ W3 (za (pvS 0) zc)) zc)) (fun _ _ _ _ _=>(zo (i:=0) (by show W7 (["place"]:List Str);decide +kernel) rfl (XE rfl))) (fun _ _ _ _ _=>qo) (fun _ _ _ _ _=>(qd (za (pvS 0) zc)))) (@ze _ _ _ _ _ (@zz _ _ 2 _ _ _ _ jh.nd rfl (XE rfl) (@qd _ _ _ _ zc) (by rfl) (.inr rfl)) (ze (qD W1 rfl (Zd (by rfl) T.jJ (za (pvS 0) zc)) (yN rfl (zM (zo (i:=3) jh.nd rfl (XE rfl)) (zM (zo (i:=4) jh.nd rfl (XE rfl)) jD))) (zh (qD W1 rfl (YF (by rfl) T.jf (za (zE JU (pvS 3) zg) (za (zu zT (by rfl) T.qZ W3 (za (pvS 0) zc)) zc))) (zo (i:=5) jh.nd rfl (Vp rfl)) (zh (jg (Yh (zu (zbC rfl) (by rfl) T.zhG Uf (za (z9 (N:=["cell","asked","other"]) (src:=[none,some 0,some 5]) (zP.free (O:=(zf jV).names) (XN:=["asked","singles","pairs","place","one","other"]) rfl rfl ⟨_,rfl⟩ rfl rfl (by decide +kernel) (by decide +kernel) (by decide +kernel) rfl (by decide +kernel)) rfl (zJ (zL qG (pvS 4) zg (fun _ _=>rfl))) (fun _ _ _ _ _=>(zo (i:=0) (by show W7 (["cell","asked","other"]:List Str);decide +kernel) rfl (XE rfl))) (fun _ _ _ _ _=>qo) (fun _ _ _ _ _=>(xZ (jH (K:=K) (by rfl) hr.units) (pvS 0) (zL (zkg (K:=K) (by rfl)) (zL (zax (K:=K) (by rfl)) (pvS 1) (pvS 2) (fun _ _=>rfl)) zg (fun _ _=>rfl)) (by rfl)))) zc)) (fun _=>rfl)) (zh (jC (Jk WQ Wr Wq Jv (pvS 2) (za (qd (za (pvS 3) (za (pvS 5) zc))) zc)))) qi))))) (zh (zH (zE Qh (pvS 1) (pvS 2))))))),?_⟩;have ll:ls.length=ks.length:=Paired.length hA;refine⟨_,rfl,la,_,rfl,.inl (SqL.of hla),_,rfl,by lia,by lia,fun sg hsg=>?_⟩;rw[show (((ls.length:Nat):Int)).toNat=ls.length by lia];refine Qj (lo:=0) (n:=ls.length) (fun i σ' H'=>∃(u0:Option V) (ys:List V),σ'=[u0]/\zq H H'/\H' sg=some (.lst ys)/\Xj (PlR (· ≠ sg) H') ys ((WC i).map fun i=>[i])) ⟨none,[],rfl,zd hsg,zb,.nil⟩ ?_ ?_
  ·rintro i σ' H1 hi ⟨u0,ys,rfl,s1,hs1,hP⟩;rw[V1];unfold JO;refine Za ?_;refine⟨_,rfl,sz_1,fun x hx=>?_⟩;have y2:=zd (o:=.lst [V.int (i:Nat)]) hx;have nx:x≠sg:=fun e=>by
    rw[e,hs1] at hx;cases hx
   have yl:ys.length=i:=by rw[Paired.length hP,Y1,WU]
   refine⟨ys,y2 _ _ hs1,Xq (show ys.length<100 by lia) (by decide),_,ys++[.ref x],rfl,fun b o e=>?_,zb,?_⟩
   ·rw[zk (zj e hsg)];exact y2 _ _ (s1 _ _ e)
   ·rw[Uk,Xs];refine Paired.snoc (zfM (xO y2 hP)) ⟨x,rfl,nx,?_⟩;rw[zk nx];exact zb
  rintro σ' H1 ⟨u0,ys,rfl,s1,hs1,hS⟩;refine⟨Jw,fun pz hpz=>?_⟩;have y2:=zd (o:=.lst []) hpz;refine⟨_,rfl,la,rfl,⟨_,SqL.of (y2 _ _ (s1 _ _ hla))⟩,?_⟩;refine Ze (K:=K) (l:=la) (xs:=ls) (fun i σ H'=>∃(w3 w4 w5:Option V) (zs:List V),σ=[some (.ref la),some (.ref sg),some (.ref pz),w3,w4,w5]/\zq H1 H'/\H' pz=some (.lst zs)/\Xj (PlR (· ≠ pz) H') zs (Je ks i))
   ⟨_,_,_,[],rfl,y2,zb,.nil⟩ (fun i σ H' _ ⟨_,_,_,_,_,s',_⟩=>SqL.of (s' _ _ (s1 _ _ hla))) ?_ ?_
  ·rintro i x tt σ H2 hx htt ⟨w3,w4,w5,zs,rfl,s2,hz2,hZ⟩;obtain⟨k1,hk1,t1,l1,u1,rfl,ht1,hl1,hc1⟩:=Y0 hA hx;have i1:i<ls.length:=(X0.mp hx).1;have y3:=zd (o:=.tup [.int (i:Nat),.ref t1]) htt;have s3:=s2.trans y3;have hz3:=y3 _ _ hz2;have hZ3:=xO y3 hZ;refine⟨tt,_,rfl,SqT.of zb,rfl,_,_,rfl,_,_,rfl,rfl,?_⟩;generalize upd H2 tt (.tup [.int (i:Nat),.ref t1])=H3 at *
   refine⟨_,rfl,_,_,rfl,rfl,_,rfl,la,_,rfl,.inl (SqL.of (s3 _ _ (s1 _ _ hla))),((i+1:Nat):Int),((ls.length:Nat):Int),rfl,⟨by lia,by lia,by lia,by lia⟩,?_⟩;rw[show (((ls.length:Nat):Int)-((i+1:Nat):Int)).toNat=ls.length-(i+1) by lia];refine qO (lo:=((i+1:Nat):Int)) (n:=ls.length-(i+1)) (fun m σ H'=>∃(w5:Option V) (zs:List V),σ=[some (.ref la),some (.ref sg),some (.ref pz),some (.int (i:Nat)),some (.ref t1),w5]/\zq H1 H'/\H' pz=some (.lst zs)/\Xj (PlR (· ≠ pz) H') zs (Je ks i++zfN ks i m))
    ⟨_,zs,rfl,s3,hz3,by show Xj _ zs (Je ks i++[]);rw[W9];exact hZ3⟩ ?_ ?_
   ·rintro m σ H4 hm ⟨w5,zs,rfl,s4,hz4,hZ⟩;obtain⟨j,hj,hjl⟩:∃j:Nat,((i+1:Nat):Int)+((m:Nat):Int)=((j:Nat):Int)/\j=i+1+m:=⟨i+1+m,by lia,rfl⟩;rw[hj];have jl:j<ls.length:=by lia
    obtain⟨k2,hk2⟩:∃k,ks[j]?=some k:=⟨_,XZ (by lia)⟩;obtain⟨v2,hv2,t2,l2,u2,rfl,ht2,hl2,hc2⟩:=zk8 hA hk2;have s14:=s1.trans s4;refine⟨_,rfl,t1,_,1,_,rfl,rfl,SqT.of (s14 _ _ ht1),rfl,l1,rfl,⟨_,SqL.of (s14 _ _ hl1)⟩,fun z hz=>?_⟩;have l64:=k64 k1 (X7 hk1);refine qB (K:=K) (a:=l1) (xs:=u1) (fun r σ' H'=>∃(u0:Option V),σ'=[u0,some (.ref la),some (.int (j:Nat))]/\zq H4 H'/\H' z=some (.lst (((k1.2.take r).map fun c=>decide (c∈k2.2)).map V.bl))) ⟨_,rfl,zd hz,zb⟩ (fun r σ' H' _ ⟨_,_,s',_⟩=>SqL.of (s' _ _ (s14 _ _ hl1))) ?_ ?_
    ·rintro r v σ' H5 hv ⟨u0,rfl,s5,hz5⟩;have s15:=s14.trans s5;obtain⟨c,hc,rc⟩:=Cel.get (Cel.mono s15 hc1) hv;unfold JO;refine Za ?_;refine⟨_,rfl,_,rfl,_,rfl,la,_,_,_,rfl,rfl,SqL.of (s15 _ _ hla),je hv2,t2,_,1,_,rfl,rfl,SqT.of (s15 _ _ ht2),rfl,zp c,k2.2.map zp,rc.rdv,.lst (SqL.of (s15 _ _ hl2)) (zei (hc2.mono s15)),rfl,YZ _,(by show 1<=60;decide),?_⟩;rw[znn];refine⟨_,hz5,?_,_,rfl,fun b o e=>?_,?_⟩
     ·rw[Y1,Y1,XM];exact Xq (show min r k1.2.length<100 by lia) (by decide)
     ·rw[zk (zj e hz)];exact s5 _ _ e
     ·rw[zb,take_snoc hc,Xs,Xs];rfl
    rintro σ' H5 ⟨u0,rfl,s5,hz5⟩;rw[hc1.length,XA] at hz5;have em:((k1.2.map fun c=>decide (c∈k2.2)).any id)=zaf ks i j:=by
     unfold zaf;rw[Xo,Xo,hk1,hk2,T3];rfl
    refine⟨z,_,rfl,SqL.of hz5,_,rfl,?_⟩;rw[em];have e1:zfN ks i (m+1)=zfN ks i m++if zaf ks i j=true then [[i,j]] else []:=by
     unfold zfN;rw[Uk,WY,Xs,WD,<- hjl];split
     ·rw[List.filter_nil,XB,<- hjl];rfl
     ·rfl
    rw[e1];have hz45:=s5 _ _ hz4;by_cases hm:zaf ks i j=true
    ·refine jT hm ?_;refine⟨_,rfl,.inl ⟨rfl,_,SqL.of hz45⟩,_,rfl,_,rfl,yJ,fun x hx=>?_⟩;have y6:=zd (o:=.lst [V.int (i:Nat),.int (j:Nat)]) hx;have nx:x≠pz:=fun e=>by
      rw[e,hz45] at hx;cases hx
     have zl:zs.length<=2000:=by
      have a:=Paired.length hZ;have b:=zk9 ks i m;have c:=pairs_len ks i;have d:i*ks.length<=32*32:=Nat.mul_le_mul (by lia) k32;rw[X4] at a;lia
     refine⟨pz,_,_,rfl,rfl,y6 _ _ hz45,XG zl (by decide),some (.int (j:Nat)),zs++[.ref x],rfl,fun b o e=>?_,zb,?_⟩
     ·rw[zk (zj e hpz)];exact y6 _ _ (s5 _ _ (s4 _ _ e))
     ·rw[if_pos hm,<- WX];refine Paired.snoc (zfM (xO (s5.trans y6) hZ)) ⟨x,rfl,nx,?_⟩;rw[zk nx];exact zb
    ·refine jE (Xh.mpr hm) ?_;rw[if_neg hm,W9];exact⟨some (.int (j:Nat)),zs,rfl,s4.trans s5,hz45,xO s5 hZ⟩
   ·rintro σ H4 ⟨w5,zs,rfl,s4,hz4,hZ⟩;refine⟨_,_,_,zs,rfl,s4,hz4,?_⟩;unfold Je at *
    rw[Uk,Vf,UO,List.flatMap_nil,W9];rw[ll] at hZ;exact hZ
  ·rintro σ H2 ⟨w3,w4,w5,zs,rfl,s2,hz2,hZ⟩;rw[ll] at hZ;have hS2:=xO s2 hS;have yl:ys.length<=32:=by rw[Paired.length hS,Y1,WU];lia
   have zl:zs.length<=1056:=by
    have:=zoH ks k32;unfold Yx at this;rw[X4] at this;rw[Paired.length hZ];lia
   refine⟨_,rfl,_,rfl,sg,pz,_,_,rfl,rfl,s2 _ _ hs1,hz2,XX (show ys.length+zs.length<=2000 by lia) (by decide),fun d hd=>?_⟩;have y5:=zd (o:=.lst (ys++zs)) hd;refine q d _ _ zb ?_ (s1.trans (s2.trans y5));unfold Yx;rw[<- ll];exact zbB (zhZ (xO y5 hS2)) (zhZ (xO y5 (by rw[ll];exact hZ)))
def pk1 (ks:List Ak)(t:List Nat):Ak:=ks.getD (t.getD 0 0) K0
def pk2 (ks:List Ak)(t:List Nat):Ak:=match t with
 | [_,j]=>ks.getD j K0
 | _=>K0
def Emp (cl st:List (Nat×Nat))(ks:List Ak)(t:List Nat):Prop:=qg (gsP cl st (pk1 ks t) (pk2 ks t))=[]/\qh (gsP cl st (pk1 ks t) (pk2 ks t))=[]
theorem Qx {ks:List Ak}{t:List Nat}:t∈Yx ks↔(∃i,i<ks.length/\t=[i])\/∃i j,i<j/\j<ks.length/\zaf ks i j=true/\t=[i,j]:=by
 unfold Yx Je zfN;rw[XO,XQ,U3];constructor
 ·rintro(⟨i,hi,e⟩ | ⟨i,hi,h⟩)
  ·exact .inl ⟨i,Wz.mp hi,e.symm⟩
  ·obtain⟨m,hm,e⟩:=XQ.mp h;obtain⟨h1,h2⟩:=X9.mp hm;have:=Wz.mp h1;exact .inr ⟨i,i+1+m,by lia,by lia,h2,e.symm⟩
 ·rintro(⟨i,hi,e⟩ | ⟨i,j,hij,hj,hm,e⟩)
  ·exact .inl ⟨i,Wz.mpr hi,e.symm⟩
  ·refine .inr ⟨i,Wz.mpr (by lia),XQ.mpr ⟨j-(i+1),X9.mpr ⟨Wz.mpr (by lia),?_⟩,?_⟩⟩
   ·rw[show i+1+(j-(i+1))=j by lia];exact hm
   ·rw[show i+1+(j-(i+1))=j by lia,e]
structure zjh (cs:List (Nat×Nat))(ks:List Ak):Prop where
 nd:cs.Nodup
 n:∀k∈ks,k.2.Nodup/\k.2.length<=20/\∀c∈k.2,c∈cs
 l:ks.length<=32
theorem getD_mem {ks:List Ak}{i:Nat}(h:i<ks.length):ks.getD i K0∈ks/\ks[i]?=some (ks.getD i K0):=by
 have e:ks[i]?=some (ks.getD i K0):=by
  rw[Xo,XZ h];rfl
 exact⟨X7 e,e⟩
theorem zjh.two {cs:List (Nat×Nat)}{ks:List Ak}(X:zjh cs ks){cl st:List (Nat×Nat)}(ap:∀c∈cl,c ∉ st){k1 k2:Ak}(h1:k1∈ks)(h2:k2∈ks\/k2=K0):InA cs cl st k1 k2:=by
 have a:=X.n k1 h1;rcases h2 with h2 | rfl
 ·have b:=X.n k2 h2;exact⟨X.nd,a.1,b.1,a.2.2,b.2.2,ap⟩
 ·exact⟨X.nd,a.1,VA,a.2.2,(fun _ h=>nomatch h),ap⟩
theorem zh1 {ks:List Ak}{t:List Nat}(h:t∈Yx ks):pk1 ks t∈ks/\(pk2 ks t∈ks\/pk2 ks t=K0):=by
 rcases Qx.mp h with ⟨i,hi,rfl⟩ | ⟨i,j,hij,hj,_,rfl⟩
 ·exact⟨(getD_mem hi).1,.inr rfl⟩
 ·exact⟨(getD_mem (show i<ks.length by lia)).1,.inl (getD_mem hj).1⟩
def AkN (N:Addr->Prop)(H:Hp)(v:V)(k:Ak):Prop:=∃(t l:Addr) (us:List V),v=V.ref t/\N t/\N l/\H t=some (.tup [.int k.1,.ref l])/\H l=some (.lst us)/\Cel H us k.2
theorem zno {N:Addr->Prop}{H:Hp}{us:List V}{ks:List Ak}(h:Xj (AkN N H) us ks):Xj (AkV H) us ks:=Paired.imp' (fun _ _ ⟨t,l,ws,e,_,_,h1,h2,h3⟩=>⟨t,l,ws,e,h1,h2,h3⟩) h
theorem Cel.one {H H':Hp}{d:Addr}{xs:List V}(s:∀b o,b≠d->H b=some o->H' b=some o)(hd:H d=some (.lst xs)){vs:List V}{cs:List (Nat×Nat)}(hp:Cel H vs cs):Cel H' vs cs:=by
 induction hp with
 | nil=>exact .nil
 | cons q _ ih =>
  obtain⟨a,e,h⟩:=q;exact .cons ⟨a,e,s a _ (fun z=>by rw[z,hd] at h;cases h) h⟩ ih
theorem zfO {y:Addr}{H H':Hp}{old:List V}(hy:H y=some (.lst old))(s:∀b o,b≠y->H b=some o->H' b=some o){us:List V}{ks:List Ak}(h:Xj (AkN (· ≠ y) H) us ks):Xj (AkN (· ≠ y) H') us ks :=
 Paired.imp' (fun _ _ ⟨t,l,ws,e,n1,n2,h1,h2,h3⟩=>⟨t,l,ws,e,n1,n2,s _ _ n1 h1,s _ _ n2 h2,Cel.one s hy h3⟩) h
theorem zmK:∀c1 c2:List (Nat×Nat),WL (.tuple [.list (c1.map zp),.list (c2.map zp)]) (.tuple [.list [],.list []])=decide (c1=[]/\c2=[])
 | [],[]=>by decide +kernel
 | [],c::r=>rfl
 | c::r,d=>rfl
structure zh2 (H:Hp)(th la pl fa fc fs:Addr)(ths ls us u w':List V)(tgs:List (Option (Nat×Nat)))(ks:List Ak)(cl st:List (Nat×Nat)):Prop where
 h1:H th=some (.lst ths)
 t:Xj (zbc H) ths tgs
 h2:H la=some (.lst ls)
 k:Xj (AkV H) ls ks
 h3:H pl=some (.lst us)
 p:Xj (PlR NT H) us (Yx ks)
 f:yc H fa fc fs u w' cl st
 fi:zpU cl st
 l:tgs.length=ks.length
def zh3 (C:Addr):Sp:=fun vs H Q E=>∃(th la pl fa fc fs:Addr) (ths ls us u w':List V) (tgs:List (Option (Nat×Nat))) (ks:List Ak) (cs cl st:List (Nat×Nat)) (L:Nat×Nat->Bool),vs=[.ref th,.ref la,.ref pl,.ref fa]/\zh2 H th la pl fa fc fs ths ls us u w' tgs ks cl st/\zjh cs ks/\yG ks L cl st /\
 ((∀t∈Yx ks,Emp cl st ks t)->∀H',zq H H'->Q .non H') /\
 ∀(i:Nat) (t:List Nat) (c1 c2:List (Nat×Nat)) (r tl d1 d2:Addr) (tv w1 w2:List V) (H':Hp),(Yx ks)[i]?=some t->(∀j,j<i->∀t',(Yx ks)[j]?=some t'->Emp cl st ks t')->c1.Perm (qg (gsP cl st (pk1 ks t) (pk2 ks t)))->c2.Perm (qh (gsP cl st (pk1 ks t) (pk2 ks t)))->c1.Pairwise Cells.lex->c2.Pairwise Cells.lex->¬ (c1=[]/\c2=[])->H d1=none->H d2=none ->
  H' r=some (.tup [.ref tl,.ref d1,.ref d2])->H' tl=some (.lst tv)->Xj (zbc H') tv (t.map fun i=>tgs.getD i none)->H' d1=some (.lst w1)->H' d2=some (.lst w2)->Cel H' w1 c1->Cel H' w2 c2->zq H H'->Q (.ref r) H'
section
variable {P:Xn}{w:WW}{K:XT}{mg:Str->Option X8}{base:Heap}{f:Addr}{fd:Xz}{jaa:Addr}
theorem j3:zF ["things","asked","lists","finding","known","left","places","told"] ["things","asked","lists","finding"] (zf jq):=⟨rfl,rfl,rfl,by decide +kernel,rfl,by decide +kernel,by decide +kernel⟩
theorem zcN (T:Txt mg)(Z:Prog K mg)(jac:Y4 K mg "NoLaying" jaa){f:Addr}{fd:Xz}(D:zm K mg "first_step" jq ["things","asked","lists","finding"] f fd):qb P w K mg base (CXE P w) 3 f fd ["things","asked","lists","finding"] (zh3 jaa):=by
 obtain⟨zoI,znp,zcs⟩:=Z.known_of;obtain⟨zlu,zla,Qe⟩:=Z.still_asked;obtain⟨zo3,zoJ,YU⟩:=Z.settled;obtain⟨zpW,zo4,zfP⟩:=Z.gained;have  zgX:qb P w K mg base CX0 1 _ _ ["finding"] zhU:=zfF T zcs;have  zcO:qb P w K mg base CX0 1 _ _ ["asked","known"] zhV:=zcl T Qe;have  zlb:qb P w K mg base (CXE P w) 2 _ _ ["asked"] (zdC jaa):=zjf T jac zfP YU;refine D.F.okX j3 (fun vs H Q E h=>?_) (fun cdv A outer s H vs Q E hr h=>?_)
 ·obtain⟨th,la,pl,fa,fc,fs,ths,ls,us,u,w',tgs,ks,cs,cl,st,L,rfl,_⟩:=h;rfl
 ·obtain⟨th,la,pl,fa,fc,fs,ths,ls,us,u,w',tgs,ks,cs,cl,st,L,rfl,X,A',tr,qn,qs⟩:=h;refine⟨_,(ze (zz (i:=4) j3.nd rfl (Vp rfl) (pc0 zgX hr zcs (za (pvS 3) zc))) (ze (zz (i:=5) j3.nd rfl (Vp rfl) (z9 (N:=["some","known"]) (src:=[none,some 4]) (zP.free (O:=(zf jq).names) (XN:=["things","asked","lists","finding","known","left","places","told"]) rfl rfl ⟨_,rfl⟩ rfl rfl (by decide +kernel) (by decide +kernel) (by decide +kernel) rfl (by decide +kernel)) rfl (zJ (pvS 1)) (fun _ _ _ _ _=>(zo (i:=0) (by show W7 (["some","known"]:List Str);decide +kernel) rfl (XE rfl))) (fun _ _ _ _ _=>qo) (fun _ _ _ _ _=>(pc0 zcO hr Qe (za (pvS 0) (za (pvS 1) zc)))))) (ze (qD (xQ.own jM) rfl (zJ (pvS 2)) (zo (i:=6) j3.nd rfl (XE rfl)) (ze (zz (i:=7) j3.nd rfl (XE rfl) (pcL jM zlb hr zfP (za (z9 (N:=["place","left"]) (src:=[none,some 5]) (zP.free (O:=(zf jq).names) (XN:=["things","asked","lists","finding","known","left","places","told"]) rfl rfl ⟨_,rfl⟩ rfl rfl (by decide +kernel) (by decide +kernel) (by decide +kernel) rfl (by decide +kernel)) rfl (zJ (pvS 6)) (fun _ _ _ _ _=>(zo (i:=0) (by show W7 (["place","left"]:List Str);decide +kernel) rfl (XE rfl))) (fun _ _ _ _ _=>qo) (fun _ _ _ _ _=>(zL (zax (K:=K) (by rfl)) (pvS 1) (pvS 0) (fun _ _=>rfl)))) zc))) (zh (jg (qt (yP hr.units) (pvS 7) (@qm _ _ _ _ _ (@za _ _ _ _ _ (@qd _ _ _ _ zc) (@za _ _ _ _ _ (@qd _ _ _ _ zc) zc rfl) rfl)) (qa _)) (zh (zH (qm (za (z9 (N:=["place","things"]) (src:=[none,some 0]) (zP.free (O:=(zf jq).names) (XN:=["things","asked","lists","finding","known","left","places","told"]) rfl rfl ⟨_,rfl⟩ rfl rfl (by decide +kernel) (by decide +kernel) (by decide +kernel) rfl (by decide +kernel)) rfl (zJ (pvS 6)) (fun _ _ _ _ _=>(zo (i:=0) (by show W7 (["place","things"]:List Str);decide +kernel) rfl (XE rfl))) (fun _ _ _ _ _=>qo) (fun _ _ _ _ _=>(zL (zax (K:=K) (by rfl)) (pvS 1) (pvS 0) (fun _ _=>rfl)))) (za (zL qG (pvS 7) zg (fun _ _=>rfl)) (za (zL qG (pvS 7) zg (fun _ _=>rfl)) zc)))))) qi)))) (@zh _ _ _ (@zH _ _ _ _ zjo))))),?_⟩;refine⟨_,rfl,fa,fc,fs,u,w',cl,st,rfl,X.f,X.fi,fun kd kvs H1 hkd zqw hK s1=>?_⟩;refine⟨_,rfl,la,rfl,⟨_,SqL.of (s1 _ _ X.h2)⟩,fun y hy=>?_⟩;refine qB (K:=K) (a:=la) (xs:=ls) (fun i σ H'=>(∃u0,σ=[u0,some (.ref kd)])/\zq H1 H'/\∃ys,H' y=some (.lst ys)/\Xj (AkN (· ≠ y) H') ys ((ks.take i).map (yF cl st))) ⟨⟨_,rfl⟩,zd hy,[],zb,.nil⟩ (fun i σ H' _ ⟨_,s',_⟩=>SqL.of (s' _ _ (s1 _ _ X.h2))) ?_ ?_
  ·rintro i x σ H2 hx ⟨⟨u0,rfl⟩,s2,ys,hy2,hP⟩;have s12:=s1.trans s2;obtain⟨k,hk,t,l,us3,rfl,ht,hl,hc⟩:=Y0 X.k hx;have kn:=A'.n k (X7 hk);refine x6 ⟨_,rfl,_,rfl,t,l,kd,k.1,us3,k.2,cl,st,kvs,rfl,s12 _ _ ht,s12 _ _ hl,hc.mono s12,XX kn.2.1 (by decide),s2 _ _ zqw,hK,fun r l2 ws2 H4 hr4 hl0 hr4' hl2 hc4 s4=>?_⟩;have hy4:=s4 _ _ hy2;have nry:r≠y:=zb6 hr4' hy4 (by intro q;cases q);have nly:l2≠y:=fun z=>by
    rw[z,hy2] at hl0;cases hl0
   have ysl:ys.length<=32:=by
    rw[Paired.length hP,Y1,XM];have:=A'.l;lia
   refine⟨ys,hy4,XG ysl (by decide),⟨_,rfl⟩,fun b o e'=>?_,ys++[.ref r],zb,?_⟩
   ·rw[zk (zj e' hy)];exact s4 _ _ (s2 _ _ e')
   ·rw[take_snoc hk,Xs];have kk:∀b o,b≠y->H4 b=some o->upd H4 y (.lst (ys++[.ref r])) b=some o:=fun b o nb e=>by
     rw[zk nb];exact e
    exact Paired.snoc (zfO hy2 (fun b o nb e=>by rw[zk nb];exact s4 _ _ e) hP) ⟨r,l2,ws2,rfl,nry,nly,kk _ _ nry hr4',kk _ _ nly hl2,Cel.into y _ hy4 hc4⟩
  rintro σ H2 ⟨_,s2,ys,hy2,hP⟩;rw[Paired.length X.k,XA] at hP;have hV:=zno hP;have s12:=s1.trans s2;refine⟨_,rfl,pl,rfl,⟨_,SqL.of (s12 _ _ X.h3)⟩,?_⟩;refine xB (K:=K) (a:=pl) (xs:=us) (fun i σ H'=>∃(w6 w7:Option V),σ=[some (.ref th),some (.ref la),some (.ref pl),some (.ref fa),some (.ref kd),some (.ref y),w6,w7]/\zq H2 H'/\∀j,j<i->∀t',(Yx ks)[j]?=some t'->Emp cl st ks t')
   ⟨_,_,rfl,zq.refl _,fun j hj=>by lia⟩ (fun i σ H' _ ⟨_,_,_,s',_⟩=>SqL.of (s' _ _ (s12 _ _ X.h3))) ?_ ?_
  ·rintro i x σ H3 hx ⟨w6,w7,rfl,s3,hE⟩;obtain⟨t,ht,ta,rfl,_,hta⟩:=Y0 X.p hx;have s13:=s12.trans s3;have hta3:=s13 _ _ hta;have tm:=X7 ht;have tb:∀j∈t,j<ks.length:=fun j hj=>by
    rcases Qx.mp tm with ⟨i,hi,rfl⟩ | ⟨i,j',hij,hj',_,rfl⟩
    ·rw[VH.mp hj];exact hi
    ·rcases XF.mp hj with rfl | hj
     ·lia
     ·rw[VH.mp hj];exact hj'
   have tl2:t.length=1\/t.length=2:=by
    rcases Qx.mp tm with ⟨i,hi,rfl⟩ | ⟨i,j',hij,hj',_,rfl⟩
    ·exact .inl rfl
    ·exact .inr rfl
   refine⟨_,rfl,ta,rfl,⟨_,SqL.of hta3⟩,fun g hg=>?_⟩;refine qB (K:=K) (a:=ta) (xs:=iL (nlI t)) (fun r σ' H'=>∃(u0:Option V) (gv:List V),σ'=[u0,some (.ref y)]/\zq H3 H'/\H' g=some (.lst gv)/\Xj (AkV H3) gv ((t.take r).map fun i=>yF cl st (ks.getD i K0))) ⟨_,[],rfl,zd hg,zb,.nil⟩ (fun r σ' H' _ ⟨_,_,_,s',_⟩=>SqL.of (s' _ _ hta3)) ?_ ?_
   ·rintro r v σ' H4 hv ⟨u0,gv,rfl,s4,hg4,hG⟩;obtain⟨x0,hx0,rfl⟩:=ints_get hv;rw[XD] at hx0;obtain⟨j,hj,rfl⟩:=Vc.mp hx0;have jm:=tb j (X7 hj);have ek:(ks.map (yF cl st))[j]?=some (yF cl st (ks.getD j K0)):=by
     rw[XD,(getD_mem jm).2];rfl
    obtain⟨v2,hv2,r2⟩:=zk8 (zcq s3 hV) ek;unfold JO;refine Za ?_;have r1:r<t.length:=(X0.mp hj).1;refine⟨_,rfl,_,rfl,y,_,_,_,rfl,rfl,SqL.of (s4 _ _ (s3 _ _ hy2)),je hv2,_,hg4,?_,_,gv++[v2],rfl,fun b o e=>?_,zb,?_⟩
    ·rw[Paired.length hG,Y1,XM];exact Xq (show min r t.length<100 by lia) (by decide)
    ·rw[zk (zj e hg)];exact s4 _ _ e
    ·rw[take_snoc hj,Xs];exact Paired.snoc hG r2
   rintro σ' H4 ⟨u0,gv,rfl,s4,hg4,hG⟩;rw[Y1,Y1,XA] at hG;have s14:=s13.trans s4;have eg:gsU (t.map fun i=>yF cl st (ks.getD i K0))=gsP cl st (pk1 ks t) (pk2 ks t):=by
    rcases Qx.mp tm with ⟨i,hi,rfl⟩ | ⟨i,j',hij,hj',_,rfl⟩
    ·rfl
    ·rfl
   obtain⟨m1,m2⟩:=zh1 tm;have I:=A'.two tr.ap m1 m2;have fit:zoG (t.map fun i=>yF cl st (ks.getD i K0)):=by
    have:=zej I (tr.fit m1 m2);rcases Qx.mp tm with ⟨i,hi,rfl⟩ | ⟨i,j',hij,hj',_,rfl⟩
    ·exact this
    ·exact this
   refine⟨g,gv,t.map fun i=>yF cl st (ks.getD i K0),rfl,hg4,zcq s4 hG,by rw[Y1];exact tl2,fun k hk=>?_,fun _ tt d1 d2 w1 w2 c1 c2 H5 f1 f2 k1 k2 k3 g1 g2 p1 p2 x1 x2 s5=>?_,fun hn=>absurd fit hn⟩
   ·obtain⟨j,hj,rfl⟩:=XQ.mp hk;have kn:=A'.n _ (getD_mem (tb j hj)).1;exact⟨kn.1.sublist Xa,XX (Xe _ _) kn.2.1⟩
   rw[eg] at p1 p2;refine⟨_,rfl,Jw,fun e1 he1=>⟨Jw,fun e2 he2=>⟨yJ,fun e3 he3=>?_⟩⟩⟩;have y1:=zd (o:=.lst []) he1;have y2:=zd (o:=.lst []) he2;have y3:=zd (o:=.tup [.ref e1,.ref e2]) he3;have y13:=y1.trans (y2.trans y3);have s56:=s5.trans y13;refine⟨.tuple [.list (c1.map zp),.list (c2.map zp)],.tuple [.list [],.list []],.tup (SqT.of (y13 _ _ k1)) (.cons (.lst (SqL.of (y13 _ _ k2)) (zei (g1.mono y13))) (.cons (.lst (SqL.of (y13 _ _ k3)) (zei (g2.mono y13))) .nil)),.tup (SqT.of zb) (.cons (.lst (SqL.of (y3 _ _ (y2 _ _ zb))) .nil) (.cons (.lst (SqL.of (y3 _ _ zb)) .nil) .nil)),⟨?_,rfl,?_⟩,_,rfl,?_⟩
   ·show (UQ (c1.map zp)&&(UQ (c2.map zp)&&true))=true;rw[YZ,YZ];rfl
   ·show max (UU (c1.map zp)+1) (max (UU (c2.map zp)+1) 0)+1<=64;have a:=zb5 c1;have b:=zb5 c2;lia
   rw[if_pos rfl,zmK];by_cases he:c1=[]/\c2=[]
   ·refine jE (by rw[decide_eq_true he];rfl) ?_;refine⟨_,_,rfl,s3.trans (s4.trans s56),fun j hj t' ht'=>?_⟩;by_cases ji:j<i
    ·exact hE j ji t' ht'
    ·have:j=i:=by lia
     subst this;rw[ht] at ht';cases ht';rw[he.1] at p1;rw[he.2] at p2;exact⟨p1.symm.eq_nil,p2.symm.eq_nil⟩
   ·refine jT (by rw[decide_eq_false he];rfl) ?_;generalize upd (upd (upd H5 e1 (.lst [])) e2 (.lst [])) e3 (.tup [.ref e1,.ref e2])=H6 at *
    have s16:=s13.trans (s4.trans s56);have hta6:=s16 _ _ hta;refine⟨_,rfl,ta,rfl,⟨_,SqL.of hta6⟩,fun tl htl=>?_⟩;have tl2':tgs.length=ks.length:=X.l;refine qB (K:=K) (a:=ta) (xs:=iL (nlI t)) (fun r σ' H'=>∃(u0:Option V) (tv:List V),σ'=[u0,some (.ref th)]/\zq H6 H'/\H' tl=some (.lst tv)/\Xj (zbc H6) tv ((t.take r).map fun i=>tgs.getD i none)) ⟨_,[],rfl,zd htl,zb,.nil⟩ (fun r σ' H' _ ⟨_,_,_,s',_⟩=>SqL.of (s' _ _ hta6)) ?_ ?_
    ·rintro r v σ' H7 hv ⟨u0,tv,rfl,s7,ht7,hT⟩;obtain⟨x0,hx0,rfl⟩:=ints_get hv;rw[XD] at hx0;obtain⟨j,hj,rfl⟩:=Vc.mp hx0;have jm:=tb j (X7 hj);have tht:ths.length=tgs.length:=Paired.length X.t;obtain⟨v2,hv2⟩:∃v,ths[j]?=some v:=⟨_,XZ (by lia)⟩;obtain⟨tg,htg,r2⟩:=Y0 X.t hv2;unfold JO;refine Za ?_;have r1:r<t.length:=(X0.mp hj).1;refine⟨_,rfl,_,rfl,th,_,_,_,rfl,rfl,SqL.of (s7 _ _ (s16 _ _ X.h1)),je hv2,_,ht7,?_,_,tv++[v2],rfl,fun b o e=>?_,zb,?_⟩
     ·rw[Paired.length hT,Y1,XM];exact Xq (show min r t.length<100 by lia) (by decide)
     ·rw[zk (zj e htl)];exact s7 _ _ e
     ·rw[take_snoc hj,Xs];refine Paired.snoc hT ?_;have:tgs.getD j none=tg:=by
       rw[Xo,htg];rfl
      show zbc H6 v2 (tgs.getD j none);rw[this];exact r2.mono s16
    rintro σ' H7 ⟨u0,tv,rfl,s7,ht7,hT⟩;rw[Y1,Y1,XA] at hT;have y67:=y13.trans s7;refine⟨_,rfl,tt,_,0,_,rfl,rfl,SqT.of (y67 _ _ k1),rfl,_,rfl,tt,_,1,_,rfl,rfl,SqT.of (y67 _ _ k1),rfl,ziQ,fun r hr'=>?_⟩;have y8:=zd (o:=.tup [.ref tl,.ref d1,.ref d2]) hr';have y68:=y67.trans y8;exact qs i t c1 c2 r tl d1 d2 tv w1 w2 _ ht hE p1 p2 x1 x2 he (s14.free f1) (s14.free f2) zb (y8 _ _ ht7) (Paired.imp' (fun _ _ h=>zbc.mono (s7.trans y8) h) hT) (y68 _ _ k2) (y68 _ _ k3) (g1.mono y68) (g2.mono y68) (s16.trans (s7.trans y8))
  ·rintro σ H3 ⟨w6,w7,rfl,s3,hE⟩;refine qn (fun t ht=>?_) H3 (s12.trans s3);obtain⟨j,hj⟩:=UL ht;exact hE j (by rw[Paired.length X.p];exact(X0.mp hj).1) t hj
end
theorem Yv.turn {cl st:List (Nat×Nat)}{k1 k2:Ak}{p:Nat×Nat->Bool}(h:Yv cl st k1 k2 p):Yv cl st k2 k1 p:=⟨h.no,h.ye,h.c2,h.c1⟩
theorem Yw.turn {cl st:List (Nat×Nat)}{k1 k2:Ak}(h:Yw cl st k1 k2):Yw cl st k2 k1:=fun c b hc hl hs hd=>h c b hc.symm hl hs fun p f=>hd p f.turn
theorem zji {cs cl st:List (Nat×Nat)}{ks:List Ak}{L:Nat×Nat->Bool}(X:zjh cs ks)(tr:yG ks L cl st)(h:∀t∈Yx ks,Emp cl st ks t):Qw ks cl st:=by
 have one:∀k∈ks,Yw cl st k K0:=fun k hk=>by
  obtain⟨i,hi⟩:=UL hk;have il:=(X0.mp hi).1;have e:ks.getD i K0=k:=by
   rw[Xo,hi];rfl
  have:=h [i] (Qx.mpr (.inl ⟨i,il,rfl⟩));obtain⟨a,b⟩:qg (gsP cl st (ks.getD i K0) K0)=[]/\qh (gsP cl st (ks.getD i K0) K0)=[]:=this;rw[e] at a b;exact zhY tr hk (.inr rfl) (X.two tr.ap hk (.inr rfl)) a b
 have two:∀i j,i<j->j<ks.length->Yw cl st (ks.getD i K0) (ks.getD j K0):=fun i j hij hj=>by
  have mi:=(getD_mem (ks:=ks) (show i<ks.length by lia)).1;have mj:=(getD_mem (ks:=ks) hj).1;by_cases hm:zaf ks i j=true
  ·have:=h [i,j] (Qx.mpr (.inr ⟨i,j,hij,hj,hm,rfl⟩));exact zhY tr mi (.inl mj) (X.two tr.ap mi (.inl mj)) this.1 this.2
  ·refine zk7 tr mi mj (one _ mi) (one _ mj) fun c hc hd=>hm ?_;unfold zaf;exact WF.mpr ⟨c,hc,decide_eq_true hd⟩
 intro k1 h1 k2 h2;rcases h2 with h2 | rfl
 ·obtain⟨i,hi⟩:=UL h1;obtain⟨j,hj⟩:=UL h2;have il:=(X0.mp hi).1;have jl:=(X0.mp hj).1;have ei:ks.getD i K0=k1:=by
   rw[Xo,hi];rfl
  have ej:ks.getD j K0=k2:=by
   rw[Xo,hj];rfl
  by_cases e:i=j
  ·subst e;rw[hi] at hj;cases hj;intro c b hc hl hs hd;exact one k1 h1 c b (.inl (hc.elim id id)) hl hs fun p f=>hd p ⟨f.no,f.ye,f.c1,f.c1⟩
  ·by_cases l:i<j
   ·have:=two i j l jl;rwa [ei,ej] at this
   ·have:=two j i (by lia) il;rw[ei,ej] at this;exact this.turn
 ·exact one k1 h1
theorem yG.congr {As:List Ak}{L:Nat×Nat->Bool}{cl st cl' st':List (Nat×Nat)}(h:yG As L cl st)(a:∀c∈cl',c∈cl)(b:∀c∈st',c∈st):yG As L cl' st':=⟨fun c z=>h.no c (a c z),fun c z=>h.ye c (b c z),h.ct⟩
theorem za1.congr {As:List Ak}{L:Nat×Nat->Bool}{cl st cl' st':List (Nat×Nat)}(h:za1 As L cl st)(a:∀c∈cl',c∈cl)(b:∀c∈st',c∈st):za1 As L cl' st':=fun x y t c=>let z:=h x y t c;⟨fun c m=>z.1 c (a c m),fun c m=>z.2 c (b c m)⟩
def qp (rs:List Str)(n:Int)(tgs:List (Option (Nat×Nat))):List Ak:=tgs.map fun tg=>(zpV rs n tg,zoE rs tg)
theorem zek {rs:List Str}{tg:Option (Nat×Nat)}:(zoE rs tg).Sublist (zK rs):=by
 cases tg with
 | none=>exact List.Sublist.refl _
 | some c =>
  show (clA rs c).Sublist (zK rs);unfold clA zI zK;have e:(Cells.zB qj 0 (codes rs)).filter (fun x=>decide (Cells.sgn (codes rs) x=63))=Cells.zB yM 0 (codes rs):=by
   rw[Cells.all_filter (p:=qj) (q:=fun k=>decide (k=63)) (codes rs)];refine Cells.Yn (fun k=>?_) 0 _;unfold yM qj;by_cases h:k=63
   ·subst h;rfl
   ·rw[decide_eq_false h,Si]
  rw[<- e,VX];have e2:(fun x=>decide (Cells.sgn (codes rs) x=63)&&Cells.near x c)=fun x=>Cells.near x c&&decide (Cells.sgn (codes rs) x=63):=by
   funext x;exact RT _ _
  rw[e2,<- VX];exact Xa
theorem zmL {rs:List Str}{n:Int}{tgs:List (Option (Nat×Nat))}(l:tgs.length<=32)(s20:(zK rs).length<=20):zjh (zK rs) (qp rs n tgs):=by
 refine⟨jd rs,fun k hk=>?_,by unfold qp;rw[Y1];exact l⟩;obtain⟨tg,_,rfl⟩:=XQ.mp hk;have s:=zek (rs:=rs) (tg:=tg);exact⟨(jd rs).sublist s,XX s.length_le s20,fun c hc=>s.subset hc⟩
def zlc (H:Hp)(sa:Addr)(ks:List Ak)(cl st:List (Nat×Nat))(v:V):Prop:=(v=.non/\∀t∈Yx ks,Emp cl st ks t)\/∃(t:List Nat) (c1 c2:List (Nat×Nat)) (r tl d1 d2:Addr) (w1 w2:List V),v=.ref r/\t∈Yx ks/\c1.Perm (qg (gsP cl st (pk1 ks t) (pk2 ks t)))/\c2.Perm (qh (gsP cl st (pk1 ks t) (pk2 ks t)))/\c1.Pairwise Cells.lex/\c2.Pairwise Cells.lex/\¬ (c1=[]/\c2=[])/\H r=some (.tup [.ref tl,.ref d1,.ref d2])/\H d1=some (.lst w1)/\H d2=some (.lst w2)/\Cel H w1 c1/\Cel H w2 c2/\d1≠sa/\d2≠sa
structure Way (cs:List (Nat×Nat))(ks:List Ak)(L:Nat×Nat->Bool)(cl st:List (Nat×Nat)):Prop where
 tr:yG ks L cl st
 le:za1 ks L cl st
 x1:cl.Pairwise Cells.lex
 x2:st.Pairwise Cells.lex
 s1:∀c∈cl,c∈cs
 s2:∀c∈st,c∈cs
theorem Way.len {cs cl st:List (Nat×Nat)}{ks:List Ak}{L:Nat×Nat->Bool}(W:Way cs ks L cl st)(nd:cs.Nodup)(h:cs.length<=20):cl.length+st.length<=20:=by
 have n:(cl++st).Nodup:=WN.mpr ⟨ql W.x1,ql W.x2,fun a ha b hb e=>by
  subst e;exact W.tr.ap a ha hb⟩
 have:=((W2 n (nd.sublist (Xa (p:=fun x=>decide (x∈cl++st))))).mpr fun x=>by
  rw[X9,decide_eq_true_eq];exact⟨fun z=>⟨(XO.mp z).elim (W.s1 x) (W.s2 x),z⟩,fun z=>z.2⟩).length_eq
 rw[X4] at this;have:=Xe (fun x=>decide (x∈cl++st)) cs;lia
theorem Way.next {cs cl st c1 c2 q1 q2:List (Nat×Nat)}{ks:List Ak}{L:Nat×Nat->Bool}(W:Way cs ks L cl st)(X:zjh cs ks){t:List Nat}(ht:t∈Yx ks)(p1:c1.Perm (qg (gsP cl st (pk1 ks t) (pk2 ks t))))(p2:c2.Perm (qh (gsP cl st (pk1 ks t) (pk2 ks t))))(x1:c1.Pairwise Cells.lex)(x2:c2.Pairwise Cells.lex)(e1:q1.Perm (cl++c1))(e2:q2.Perm (st++c2))
  (u1:(q1.map toI).Pairwise fun p q=>lt2 q p=false) (u2:(q2.map toI).Pairwise fun p q=>lt2 q p=false):Way cs ks L q1 q2:=by
 obtain⟨m1,m2⟩:=zh1 ht;have I:=X.two W.tr.ap m1 m2;have g1:∀c∈c1,(c∈(pk1 ks t).2\/c∈(pk2 ks t).2)/\c ∉ st/\c ∉ cl:=fun c hc=>YV I ((yV _).subset (p1.mem_iff.mp hc));have g2:∀c∈c2,(c∈(pk1 ks t).2\/c∈(pk2 ks t).2)/\c ∉ st/\c ∉ cl:=fun c hc=>YV I ((yW _).subset (p2.mem_iff.mp hc));have inn:∀c,(c∈(pk1 ks t).2\/c∈(pk2 ks t).2)->c∈cs:=fun c hc=>hc.elim (I.s1 c) (I.s2 c);obtain⟨a,b⟩:=zjg W.tr W.le m1 m2 I (fun c hc=>p1.mem_iff.mp hc) (fun c hc=>p2.mem_iff.mp hc);have n1:(cl++c1).Nodup:=WN.mpr ⟨ql W.x1,ql x1,fun c hc d hd e=>by
  subst e;exact(g1 c hd).2.2 hc⟩
 have n2:(st++c2).Nodup:=WN.mpr ⟨ql W.x2,ql x2,fun c hc d hd e=>by
  subst e;exact(g2 c hd).2.1 hc⟩
 exact⟨a.congr (fun c z=>e1.mem_iff.mp z) (fun c z=>e2.mem_iff.mp z),b.congr (fun c z=>e1.mem_iff.mp z) (fun c z=>e2.mem_iff.mp z),zaN (e1.nodup_iff.mpr n1) u1,zaN (e2.nodup_iff.mpr n2) u2,
  fun c hc=>(XO.mp (e1.mem_iff.mp hc)).elim (W.s1 c) fun z=>inn c (g1 c z).1,fun c hc=>(XO.mp (e2.mem_iff.mp hc)).elim (W.s2 c) fun z=>inn c (g2 c z).1⟩
theorem zqx {R:Prop}{G:V->Hp->Prop}(A:V->Hp->Prop)(h:(∀v H,A v H->G v H)->R)(k:∀v H,A v H->G v H):R:=h k
def zld (C:Addr):Sp:=fun vs H Q E=>∃(p l th:Addr) (rs:List Str) (n:Int) (ths:List V) (tgs:List (Option (Nat×Nat))) (L:Nat×Nat->Bool),vs=[.ref p,.ref th]/\qJ H p l rs n/\Rows bd.cps.toList rs/\H th=some (.lst ths)/\Xj (zbc H) ths tgs/\tgs.length<=32/\(∀c,some c∈tgs->c∈qf rs)/\(zK rs).length<=20/\yG (qp rs n tgs) L [] [] /\
 ∀(t sa fa fc fs:Addr) (sv us ws:List V) (cl st:List (Nat×Nat)) (H':Hp),H' t=some (.tup [.ref sa,.ref fa])->H' sa=some (.lst sv)->yc H' fa fc fs us ws cl st->Way (zK rs) (qp rs n tgs) L cl st->Qw (qp rs n tgs) cl st->zq H H'->Q (.ref t) H'
theorem za2 {rs:List Str}(R:Rows bd.cps.toList rs){c:Nat×Nat}(h:c∈zK rs):c.1<8/\c.2<8:=by
 obtain⟨t,k,ht,hk,_,_⟩:=zV h;have a:=R.hi;obtain⟨m,_,m8,hr8⟩:=R.ex;have e:=(hr8 t (X7 ht)).len;have b:=(X0.mp ht).1;have d:=(X0.mp hk).1;rw[X5] at d;lia
section
variable {P:Xn}{w:WW}{K:XT}{mg:Str->Option X8}{base:Heap}{f:Addr}{fd:Xz}{jaa:Addr}
theorem ja:zF ["board","things","asked","lists","steps","finding","step"] ["board","things"] (zf xF):=⟨rfl,rfl,rfl,by decide +kernel,rfl,by decide +kernel,by decide +kernel⟩
theorem zel (T:Txt mg)(Z:Prog K mg)(jac:Y4 K mg "NoLaying" jaa){f:Addr}{fd:Xz}(D:zm K mg "all_steps" xF ["board","things"] f fd):qb P w K mg base (CXE P w) 4 f fd ["board","things"] (zld jaa):=by
 obtain⟨zcj,zaL,zO⟩:=Z.around;obtain⟨zaM,Qu,zv⟩:=Z.sign_at;obtain⟨Qv,Yt,zD⟩:=Z.cells_of;obtain⟨zk1,zjd,yD⟩:=Z.closed;obtain⟨zaZ,zab,zY⟩:=Z.number_at;obtain⟨xR,yU,zG⟩:=Z.closed_around;obtain⟨zoK,znq,zct⟩:=Z.asked_by;obtain⟨zlv,zlf,Qf⟩:=Z.place_lists;obtain⟨zmM,zlw,Z7⟩:=Z.first_step;have  zgY:qb P w K mg base CX0 3 _ _ ["board","thing"] zhW:=zfI T zct zO zv zD yD zY zG;have  zcP:qb P w K mg base CX0 1 _ _ ["asked"] zh0:=zcr T Qf;have  zag:qb P w K mg base (CXE P w) 3 _ _ ["things","asked","lists","finding"] (zh3 jaa):=zcN T Z jac Z7;refine D.F.okX ja (fun vs H Q E h=>?_) (fun cdv A outer s H vs Q E hr h=>?_)
 ·obtain⟨p,l,th,rs,n,ths,tgs,L,rfl,_⟩:=h;rfl
 ·obtain⟨p,l,th,rs,n,ths,tgs,L,rfl,B,R,hth,hT,t32,hop,s20,tr0,q⟩:=h;refine⟨_,(ze (JQ (i:=2) ja.nd rfl rfl (N:=["thing","board"]) (src:=[none,some 0]) (zP.free (O:=(zf xF).names) (XN:=["board","things","asked","lists","steps","finding","step"]) rfl rfl ⟨_,rfl⟩ rfl rfl (by decide +kernel) (by decide +kernel) (by decide +kernel) rfl (by decide +kernel)) rfl (zJ (pvS 1)) (fun _ _ _ _ _=>(zo (i:=0) (by show W7 (["thing","board"]:List Str);decide +kernel) rfl (XE rfl))) (fun _ _ _ _ _=>qo) (fun _ _ _ _ _=>(pc0 zgY hr zct (za (pvS 1) (za (pvS 0) zc))))) (ze (zz (i:=3) ja.nd rfl (XE rfl) (pc0 zcP hr Qf (za (pvS 2) zc))) (@ze _ _ _ _ _ (@zz _ _ 4 _ _ _ _ ja.nd rfl (XE rfl) (@qd _ _ _ _ zc) (by rfl) (.inr rfl)) (@ze _ _ _ _ _ (@zz _ _ 5 _ _ _ _ ja.nd rfl (XE rfl) (@qm _ _ _ _ _ (@za _ _ _ _ _ (@qd _ _ _ _ zc) (@za _ _ _ _ _ (@qd _ _ _ _ zc) zc rfl) rfl)) (by rfl) (.inr rfl)) (ze (zz (i:=6) ja.nd rfl (XE rfl) (pcL jM zag hr Z7 (za (pvS 1) (za (pvS 2) (za (pvS 3) (za (pvS 5) zc)))))) (ze (zjt (xQ.own jM) (qt zlA (pvS 6) zjo (qa _)) (ze (jC (Jk WQ Wr Wq Jv (pvS 4) (za (pvS 6) zc))) (ze (zz (i:=5) ja.nd rfl (XE rfl) (qm (za (zu GS.jx (by rfl) T.yC Wp (za (zE Qh (zL qG (pvS 5) zg (fun _ _=>rfl)) (zL qG (pvS 6) zg (fun _ _=>rfl))) zc)) (za (zu GS.jx (by rfl) T.yC Wp (za (zE Qh (zL qG (pvS 5) zg (fun _ _=>rfl)) (zL qG (pvS 6) zg (fun _ _=>rfl))) zc)) zc)))) (zh (zz (i:=6) ja.nd rfl (XE rfl) (pcL jM zag hr Z7 (za (pvS 1) (za (pvS 2) (za (pvS 3) (za (pvS 5) zc)))))))))) (zh (zH (qm (za (pvS 4) (za (pvS 5) zc))))))))))),?_⟩;have X:=zmL (n:=n) t32 s20;have kl:(qp rs n tgs).length=tgs.length:=by
   unfold qp;rw[Y1]
  refine⟨_,rfl,th,rfl,⟨_,SqL.of hth⟩,fun la hla=>?_⟩;refine qB (K:=K) (a:=th) (xs:=ths) (fun i σ H'=>∃(u0:Option V) (ys:List V),σ=[u0,some (.ref p)]/\zq H H'/\H' la=some (.lst ys)/\Xj (AkN (· ≠ la) H') ys (qp rs n (tgs.take i))) ⟨_,[],rfl,zd hla,zb,.nil⟩ (fun i σ H' _ ⟨_,_,_,s',_⟩=>SqL.of (s' _ _ hth)) ?_ ?_
  ·rintro i x σ H2 hx ⟨u0,ys,rfl,s2,hy2,hP⟩;obtain⟨tg,hti,ht0⟩:=Y0 hT hx;have ho:∀c,tg=some c->c∈qf rs:=fun c e=>hop c (by rw[<- e];exact X7 hti);unfold JO;refine Za ?_;refine⟨_,rfl,_,rfl,p,l,rs,n,x,tg,rfl,B.mono s2,R,ht0.mono s2,ho,fun t l2 us3 H3 f1 f2 ht3 hl3 zqy s3=>?_⟩;have hy3:=s3 _ _ hy2;have n1:t≠la:=zb6 ht3 hy3 (by intro q;cases q);have n2:l2≠la:=fun z=>by
    rw[z,hy2] at f2;cases f2
   have yl:ys.length<=32:=by
    rw[Paired.length hP];unfold qp;rw[Y1,XM];lia
   refine⟨ys,hy3,XG yl (by decide),_,ys++[.ref t],rfl,fun b o e'=>?_,zb,?_⟩
   ·rw[zk (zj e' hla)];exact s3 _ _ (s2 _ _ e')
   ·unfold qp at *
    rw[take_snoc hti,Xs];refine Paired.snoc (zfO hy2 (fun b o nb e=>by rw[zk nb];exact s3 _ _ e) hP) ⟨t,l2,us3,rfl,n1,n2,?_,?_,Cel.into la _ hy3 zqy⟩
    ·rw[zk n1];exact ht3
    ·rw[zk n2];exact hl3
  rintro σ H2 ⟨u0,ys,rfl,s2,hla2,hP⟩;rw[Paired.length hT,XA] at hP;have hV:=zno hP;have k64:∀k∈qp rs n tgs,k.2.length<=64:=fun k hk=>XX (X.n k hk).2.1 (by decide);refine⟨_,rfl,la,ys,qp rs n tgs,rfl,hla2,hV,by lia,k64,fun pl us H3 zqz hpl s3=>?_⟩;refine⟨Jw,fun sa hsa=>⟨Jw,fun fc0 zoL=>⟨Jw,fun fs0 zoM=>⟨yJ,fun fa0 zqA=>?_⟩⟩⟩⟩;have y1:=zd (o:=.lst []) hsa;have y2:=zd (o:=.lst []) zoL;have y3:=zd (o:=.lst []) zoM;have y4:=zd (o:=.tup [.ref fc0,.ref fs0]) zqA;have s04:=s2.trans (s3.trans (y1.trans (y2.trans (y3.trans y4))));have n1:fc0≠sa:=fun e=>by
   rw[e,zb] at zoL;cases zoL
  have n2:fs0≠sa:=fun e=>by
   rw[e,y2 _ _ zb] at zoM;cases zoM
  have F0:yc (upd (upd (upd (upd H3 sa (.lst [])) fc0 (.lst [])) fs0 (.lst [])) fa0 (.tup [.ref fc0,.ref fs0])) fa0 fc0 fs0 [] [] [] []:=⟨zb,y4 _ _ (y3 _ _ zb),y4 _ _ zb,.nil,.nil⟩;have hsa4:(upd (upd (upd (upd H3 sa (.lst [])) fc0 (.lst [])) fs0 (.lst [])) fa0 (.tup [.ref fc0,.ref fs0])) sa=some (.lst []):=y4 _ _ (y3 _ _ (y2 _ _ zb));have s34:zq H3 (upd (upd (upd (upd H3 sa (.lst [])) fc0 (.lst [])) fs0 (.lst [])) fa0 (.tup [.ref fc0,.ref fs0])):=y1.trans (y2.trans (y3.trans y4));generalize upd (upd (upd (upd H3 sa (.lst [])) fc0 (.lst [])) fs0 (.lst [])) fa0 (.tup [.ref fc0,.ref fs0])=H4 at *
  have first:∀(Hc:Hp) (fa fc fs:Addr) (u w':List V) (cl st:List (Nat×Nat)),zq H3 Hc->yc Hc fa fc fs u w' cl st->Way (zK rs) (qp rs n tgs) L cl st->zh2 Hc th la pl fa fc fs ths ys us u w' tgs (qp rs n tgs) cl st:=by
   intro Hc fa fc fs u w' cl st sc F W;have s0c:=s2.trans (s3.trans sc);have s2c:=s3.trans sc;have wl:=W.len X.nd s20;exact⟨s0c _ _ hth,Paired.imp' (fun _ _ h=>zbc.mono s0c h) hT,s2c _ _ hla2,zcq s2c hV,sc _ _ zqz,xO sc hpl,F,⟨fun c hc=>za2 R (W.s1 c hc),fun c hc=>za2 R (W.s2 c hc),by lia,by lia⟩,kl.symm⟩
  have nsa:∀{Hc:Hp} {sv:List V} {d:Addr},Hc sa=some (.lst sv)->Hc d=none->d≠sa:=fun h f e=>by
   rw[e,h] at f;cases f
  have W0:Way (zK rs) (qp rs n tgs) L [] []:=⟨tr0,zfK _ _,.nil,.nil,(fun _ h=>nomatch h),fun _ h=>nomatch h⟩;refine' zqx (fun v H5=>zlc H5 sa (qp rs n tgs) [] [] v/\zq H4 H5) (fun go=>?gTail) ?gRest
  case gTail =>
   refine⟨_,rfl,_,rfl,_,rfl,_,rfl,th,la,pl,fa0,fc0,fs0,ths,ys,us,[],[],tgs,qp rs n tgs,zK rs,[],[],L,rfl,first H4 fa0 fc0 fs0 [] [] [] [] s34 F0 W0,X,tr0,?gN,fun i t c1 c2 r tl d1 d2 tv w1 w2 H' ht _ p1 p2 x1 x2 he f1 f2 hr' _ _ hd1 hd2 g1 g2 s'=>?gS⟩
   case gS =>
    have hv:zlc H' sa (qp rs n tgs) [] [] (.ref r):=.inr ⟨t,c1,c2,r,tl,d1,d2,w1,w2,rfl,X7 ht,p1,p2,x1,x2,he,hr',hd1,hd2,g1,g2,nsa hsa4 f1,nsa hsa4 f2⟩
    clear hr'
    revert hv
    generalize V.ref r=v
    intro hv
    exact go v H' ⟨hv,s'⟩
   case gN=>exact fun hE H' s'=>go _ _ ⟨.inl ⟨rfl,hE⟩,s'⟩
  rintro v H5 ⟨hv,s45⟩;refine⟨fun m σ H'=>∃(fa fc fs:Addr) (sv u w':List V) (cl st:List (Nat×Nat)) (v:V),m=20-(cl.length+st.length)/\σ=[some (.ref p),some (.ref th),some (.ref la),some (.ref pl),some (.ref sa),some (.ref fa),some v]/\zq H3 H'/\H' sa=some (.lst sv)/\sv.length<=cl.length+st.length/\yc H' fa fc fs u w' cl st/\fc≠sa/\fs≠sa/\Way (zK rs) (qp rs n tgs) L cl st/\zlc H' sa (qp rs n tgs) cl st v,⟨_,fa0,fc0,fs0,[],[],[],[],[],v,rfl,rfl,s34.trans s45,s45 _ _ hsa4,XU _,F0.mono s45,n1,n2,W0,hv⟩,?_⟩;rintro m σ H6 ⟨fa,fc,fs,sv,u,w',cl,st,v,rfl,rfl,s6,hsa6,svl,F,nc,ns,W,hv⟩;have wl:=W.len X.nd s20;refine⟨_,rfl,rfl,_,rfl,?_⟩;rcases hv with ⟨rfl,hE⟩ | ⟨t,c1,c2,r,tl,d1,d2,w1,w2,rfl,ht,p1,p2,x1,x2,he,hr6,hd1,hd2,g1,g2,e1,e2⟩
  ·refine jE (by decide) ?_;refine⟨_,rfl,_,rfl,yJ,fun tt htt=>?_⟩;have y:=zd (o:=.tup [.ref sa,.ref fa]) htt;exact q tt sa fa fc fs sv u w' cl st _ zb (y _ _ hsa6) (F.mono y) W (zji X W.tr hE) (s2.trans (s3.trans (s6.trans y)))
  ·refine jT (by rw[decide_eq_false (fun z=>nomatch z)];rfl) ?_;refine⟨_,fun σ' H' h=>h,?_⟩;have l20:(20:Nat)<=Xx:=by decide
   have hr7:upd H6 sa (.lst (sv++[.ref r])) r=some (.tup [.ref tl,.ref d1,.ref d2]):=by
    rw[zk (zb6 hr6 hsa6 (by intro q;cases q))];exact hr6
   refine⟨_,rfl,.inl ⟨rfl,_,SqL.of hsa6⟩,_,rfl,sa,_,_,rfl,rfl,hsa6,XG (show sv.length<=20 by lia) (by decide),?_⟩;have F7:yc (upd H6 sa (.lst (sv++[.ref r]))) fa fc fs u w' cl st:=⟨by rw[zk (zb6 F.tp hsa6 (by intro q;cases q))];exact F.tp,by rw[zk nc];exact F.h1,by rw[zk ns];exact F.h2,Cel.into sa _ hsa6 F.c1,Cel.into sa _ hsa6 F.c2⟩;have hd17:upd H6 sa (.lst (sv++[.ref r])) d1=some (.lst w1):=by rw[zk e1];exact hd1
   have hd27:upd H6 sa (.lst (sv++[.ref r])) d2=some (.lst w2):=by rw[zk e2];exact hd2
   have g17:=Cel.into sa (HO.lst (sv++[.ref r])) hsa6 g1;have g27:=Cel.into sa (HO.lst (sv++[.ref r])) hsa6 g2;have s7:zq H3 (upd H6 sa (.lst (sv++[.ref r]))):=fun b o e=>by
    rw[zk (zj e hsa)];exact s6 _ _ e
   have hsa7:upd H6 sa (.lst (sv++[.ref r])) sa=some (.lst (sv++[.ref r])):=zb;generalize upd H6 sa (.lst (sv++[.ref r]))=H7 at *
   have I:=X.two W.tr.ap (zh1 ht).1 (zh1 ht).2;have cs20:∀c:List (Nat×Nat),c.Pairwise Cells.lex->(∀x∈c,x∈zK rs)->c.length<=20:=fun c x h=>by
    have:=((W2 (ql x) ((jd rs).sublist (Xa (p:=fun x=>decide (x∈c))))).mpr fun x=>by
     rw[X9,decide_eq_true_eq];exact⟨fun z=>⟨h x z,z⟩,fun z=>z.2⟩).length_eq
    have:=Xe (fun x=>decide (x∈c)) (zK rs);lia
   have m1:c1.length<=20:=cs20 c1 x1 fun c hc=>(YV I ((yV _).subset (p1.mem_iff.mp hc))).1.elim (I.s1 c) (I.s2 c);have m2:c2.length<=20:=cs20 c2 x2 fun c hc=>(YV I ((yW _).subset (p2.mem_iff.mp hc))).1.elim (I.s1 c) (I.s2 c);have a1:=F7.c1.length;have a2:=F7.c2.length;have a3:=g17.length;have a4:=g27.length;refine⟨_,rfl,fa,_,0,_,rfl,rfl,SqT.of F7.tp,rfl,_,rfl,r,_,1,_,rfl,rfl,SqT.of hr7,rfl,fc,d1,_,_,rfl,rfl,F7.h1,hd17,XX (show u.length+w1.length<=100 by lia) (by decide),fun x hx=>?_⟩;have y1:=zd (o:=.lst (u++w1)) hx;refine⟨x,_,_,rfl,SqL.of zb,Cel.tup2 ((F7.c1.append g17).mono y1),by rw[X4];lia,fun fc' u1 z1 hfc' ht1 pm1 up1=>?_⟩;obtain⟨q1,rfl,hp1⟩:=ZY pm1;have y2:=zd (o:=.lst u1) hfc';have y12:=y1.trans y2;refine⟨_,rfl,fa,_,1,_,rfl,rfl,SqT.of (y12 _ _ F7.tp),rfl,_,rfl,r,_,2,_,rfl,rfl,SqT.of (y12 _ _ hr7),rfl,fs,d2,_,_,rfl,rfl,y12 _ _ F7.h2,y12 _ _ hd27,XX (show w'.length+w2.length<=100 by lia) (by decide),fun x' hx'=>?_⟩;have y3:=zd (o:=.lst (w'++w2)) hx';have y13:=y12.trans y3;refine⟨x',_,_,rfl,SqL.of zb,Cel.tup2 ((F7.c2.append g27).mono y13),by rw[X4];lia,fun fs' u2 z2 hfs' ht2 pm2 up2=>?_⟩;obtain⟨q2,rfl,hp2⟩:=ZY pm2;have y4:=zd (o:=.lst u2) hfs';have y14:=y13.trans y4;refine⟨yJ,fun fa' hfa'=>?_⟩;have y5:=zd (o:=.tup [.ref fc',.ref fs']) hfa';have y15:=y14.trans y5;have hfc1:=(y3.trans (y4.trans y5)) _ _ (zb (H:=upd H7 x (.lst (u++w1))) (a:=fc') (o:=.lst u1));have F8:yc _ fa' fc' fs' u1 u2 q1 q2:=⟨zb,hfc1,y5 _ _ zb,Cel.mono (y2.trans (y3.trans (y4.trans y5))) (qL ht1),Cel.mono (y4.trans y5) (qL ht2)⟩;have nc':fc'≠sa:=nsa (y1 _ _ hsa7) hfc';have ns':fs'≠sa:=nsa (y13 _ _ hsa7) hfs';have W8:=W.next X ht p1 p2 x1 x2 hp1 hp2 up1 up2;have hsa8:=y15 _ _ hsa7;have s8:=s7.trans y15;generalize upd (upd (upd (upd (upd H7 x (.lst (u++w1))) fc' (.lst u1)) x' (.lst (w'++w2))) fs' (.lst u2)) fa' (.tup [.ref fc',.ref fs'])=H8 at *
   have k1:=hp1.length_eq;have k2:=hp2.length_eq;rw[X4] at k1 k2;have k3:1<=c1.length+c2.length:=by
    by_cases z:c1.length+c2.length=0
    ·exact absurd ⟨Wj.mp (by lia),Wj.mp (by lia)⟩ he
    ·lia
   have wl8:=W8.len X.nd s20;refine⟨_,rfl,_,rfl,_,rfl,_,rfl,th,la,pl,fa',fc',fs',ths,ys,us,u1,u2,tgs,qp rs n tgs,zK rs,q1,q2,L,rfl,first H8 fa' fc' fs' u1 u2 q1 q2 s8 F8 W8,X,W8.tr,fun hE H9 s9=>?_,fun i t' c1' c2' r' tl' d1' d2' tv' w1' w2' H9 ht' _ p1' p2' x1' x2' he' f1 f2 hr' _ _ hd1' hd2' g1' g2' s9=>?_⟩
   ·exact⟨_,by lia,fa',fc',fs',sv++[.ref r],u1,u2,q1,q2,.non,rfl,rfl,s8.trans s9,s9 _ _ hsa8,by rw[X4];show sv.length+1<=_;lia,F8.mono s9,nc',ns',W8,.inl ⟨rfl,hE⟩⟩
   ·exact⟨_,by lia,fa',fc',fs',sv++[.ref r],u1,u2,q1,q2,.ref r',rfl,rfl,s8.trans s9,s9 _ _ hsa8,by rw[X4];show sv.length+1<=_;lia,F8.mono s9,nc',ns',W8,.inr ⟨t',c1',c2',r',tl',d1',d2',w1',w2',rfl,X7 ht',p1',p2',x1',x2',he',hr',hd1',hd2',g1',g2',nsa hsa8 f1,nsa hsa8 f2⟩⟩
end
def nbC (rs:List Str):List (Nat×Nat):=(qf rs).filter fun o=>!(clA rs o).isEmpty
def Zx (rs:List Str):List (Option (Nat×Nat)):=(nbC rs).map some++[none]
structure Lay (rs:List Str)(n:Int)(L:Nat×Nat->Bool):Prop where
 a:(((zK rs).countP L:Nat):Int)=n
 o:∀o∈qf rs,(((clA rs o).countP L:Nat):Int)=jj rs o
theorem Lay.tr {rs:List Str}{n:Int}{L:Nat×Nat->Bool}(h:Lay rs n L):yG (qp rs n (Zx rs)) L [] []:=by
 refine⟨(fun _ z=>nomatch z),(fun _ z=>nomatch z),fun k hk=>?_⟩;obtain⟨tg,ht,rfl⟩:=XQ.mp hk;rcases XO.mp ht with ht | ht
 ·obtain⟨o,ho,rfl⟩:=XQ.mp ht;exact h.o o (X9.mp ho).1
 ·rw[VH.mp ht];exact h.a
theorem Lay.count {rs:List Str}{n:Int}{L:Nat×Nat->Bool}(h:Lay rs n L):zmF rs n≠0:=by
 have ha:=h.a;have hl:((zK rs).filter L).length=n.toNat:=by
  rw[<- VI];lia
 have hw:Z1 rs ((zK rs).filter L)=true:=Z3.mpr fun o ho=>by
  rw[<- h.o o ho];congr 1;unfold Grow.cnt;rw[VX,VI];refine UD ((W2 ((jd rs).sublist Xa) ((Zu rs o).sublist Xa)).mpr fun c=>?_);rw[X9,X9,Wo];constructor
  ·rintro⟨a,b,d⟩;exact⟨(Jc a).mp b,d⟩
  ·rintro⟨a,d⟩;have z:=jY a;exact⟨z,(Jc z).mpr a,d⟩
 unfold zmF Tally.T;have:0<(Subs.subs (zK rs)).countP fun S=>decide (S.length=n.toNat)&&Z1 rs S:=Pg.mpr ⟨_,Tally.zmk Xa,by rw[hw,decide_eq_true hl];rfl⟩;lia
def zcu:Sp:=fun vs H Q _=>∃(p l:Addr) (rs:List Str) (n:Int) (L:Nat×Nat->Bool),vs=[.ref p]/\qJ H p l rs n/\Rows bd.cps.toList rs/\0<=n/\(nbC rs).length<=30/\Small rs/\Lay rs n L/\(zK rs).length<=20 /\
 ∀(t sa fa fc fs:Addr) (sv us ws:List V) (cl st:List (Nat×Nat)) (H':Hp),H' t=some (.tup [.ref sa,.ref fa])->H' sa=some (.lst sv)->yc H' fa fc fs us ws cl st->Way (zK rs) (qp rs n (Zx rs)) L cl st->Qw (qp rs n (Zx rs)) cl st->zq H H'->Q (.ref t) H'
theorem zlg {H:Hp}{vs:List V}{cs:List (Nat×Nat)}(h:Cel H vs cs):Xj (zbc H) vs (cs.map some):=by
 induction h with
 | nil=>exact .nil
 | cons r _ ih=>exact .cons r ih
section
variable {P:Xn}{w:WW}{K:XT}{mg:Str->Option X8}{base:Heap}{f:Addr}{fd:Xz}{jaa jab:Addr}
theorem za3:zF ["board","cells"] ["board"] (zf JA):=⟨rfl,rfl,rfl,by decide +kernel,rfl,by decide +kernel,by decide +kernel⟩
theorem zfQ (T:Txt mg)(Z:Prog K mg)(jac:Y4 K mg "NoLaying" jaa)(jad:Y4 K mg "TooGreat" jab){f:Addr}{fd:Xz}(D:zm K mg "thoughts" JA ["board"] f fd):qb P w K mg base (CXE P w) 8 f fd ["board"] zcu:=by
 obtain⟨zcj,zaL,zO⟩:=Z.around;obtain⟨zaM,Qu,zv⟩:=Z.sign_at;obtain⟨Qv,Yt,zD⟩:=Z.cells_of;obtain⟨zaa,Qa,zC⟩:=Z.open_cells;obtain⟨xR,yU,zG⟩:=Z.closed_around;obtain⟨zp3,zpX,zh4⟩:=Z.count;obtain⟨znr,zmN,za4⟩:=Z.all_steps;have  zbd:qb P w K mg base CX0 2 _ _ ["board","cell"] zni:=jP T zG zO zv;have  zem:qb P w K mg base CX0 2 _ _ ["board"] (zec Q6):=jX T zC zD zv;have  zmO:qb P w K mg base CX0 7 _ _ ["board"] zhQ:=zk0 T Z zh4;have  zfR:qb P w K mg base (CXE P w) 4 _ _ ["board","things"] (zld jaa):=zel T Z jac za4;refine D.F.okX za3 (fun vs H Q E h=>?_) (fun cdv A outer s H vs Q E hr h=>?_)
 ·obtain⟨p,l,rs,n,L,rfl,_⟩:=h;rfl
 ·obtain⟨p,l,rs,n,L,rfl,B,R,n0,h30,sm,hL,s20,q⟩:=h;refine⟨_,(ze (JQ (i:=1) za3.nd rfl rfl (N:=["cell","board"]) (src:=[none,some 0]) (zP.free (O:=(zf JA).names) (XN:=["board","cells"]) rfl rfl ⟨_,rfl⟩ rfl rfl (by decide +kernel) (by decide +kernel) (by decide +kernel) rfl (by decide +kernel)) rfl (zJ (pc0 zem hr zC (za (pvS 0) zc))) (fun _ _ _ _ _=>(zo (i:=0) (by show W7 (["cell","board"]:List Str);decide +kernel) rfl (XE rfl))) (fun _ _ _ _ _=>(qE (qt (zeN (K:=K) (by rfl) hr.units) (pc0 zbd hr zG (za (pvS 1) (za (pvS 0) zc))) (@qd _ _ _ _ zc) (qa _)))) (fun _ _ _ _ _=>(pvS 0))) (ze (jg (qt zkf (zu zT (by rfl) T.qZ W3 (za (pvS 1) zc)) (xY (v:=.int 30) (by rfl) T.zcH.choose_spec (by exact⟨_,rfl⟩)) (qa _)) (zh (zbD jM jad (by rfl) rfl (@za _ _ _ _ _ jF zc rfl))) qi) (ze (jg (qt Zc (pc0 zmO hr zh4 (za (pvS 0) zc)) zg (qa _)) (zh (zbD jM jac (by rfl) rfl (@za _ _ _ _ _ jF zc rfl))) qi) (zh (zH (pcL jM zfR hr za4 (za (pvS 0) (za (zE Qh (pvS 1) (qd (za (xY (v:=.str "all") (by rfl) T.znh.choose_spec (by exact⟨_,rfl⟩)) zc))) zc)))))))),?_⟩;refine⟨_,rfl,p,l,rs,n,rfl,B,R,fun d ws H1 hd hd1 hc1 s1=>⟨d,rfl,⟨_,SqL.of hd1⟩,fun z hz=>?_⟩⟩;have b1:=B.mono s1;refine qk (K:=K) (a:=d) (xs:=ws) (fun a=>a≠z) ((qf rs).map fun o=>if (!(clA rs o).isEmpty)=true then some (zp o) else none) (fun σ=>∃u0,σ=[u0,some (.ref p)]) hz (fun _ h=>h) ⟨_,rfl⟩ (by rw[Y1];exact hc1.length.symm) (by rw[hc1.length];exact XX (jz R) (by decide)) (SqL.of hd1) ?_ ?_
  ·rintro k x o σ H2 hx ho s2 hzn ⟨u0,rfl⟩ Y Z yes no;obtain⟨y,hy,r1⟩:=Cel.get hc1 hx;have eo:=jA hy ho;obtain⟨t,sg,ht,hj,_,es⟩:=zV (X7 hy);obtain⟨ya,rfl,hya⟩:=r1;obtain⟨l1,l2⟩:=j9 R ht hj;refine⟨_,rfl,_,rfl,p,l,ya,rs,n,y,rfl,b1.mono s2,R,s2 _ _ hya,l1,l2,fun d2 ws2 H3 hd2 hd3 hc2 s3=>⟨Jw,fun e he=>?_⟩⟩;have s4:=zd (o:=.lst []) he;refine⟨.list ((clA rs y).map zp),.list [],.lst (SqL.of (s4 _ _ hd3)) (zei (hc2.mono s4)),.lst (SqL.of zb) .nil,zee _ [],_,rfl,?_⟩;have ee:(if true=true then !PyData.eqv (.list ((clA rs y).map zp)) (.list []) else WL (.list ((clA rs y).map zp)) (.list []))=!(clA rs y).isEmpty:=congrArg (fun b=>!b) (eq_nil _);rw[ee];by_cases hp:(!(clA rs y).isEmpty)=true
   ·rw[if_pos hp] at eo;exact jT hp ⟨_,rfl,yes _ _ _ _ eo ⟨_,rfl⟩ (s3.trans s4) (yK.rdn ⟨ya,rfl,s4 _ _ (s3 _ _ (s2 _ _ hya))⟩)⟩
   ·rw[if_neg hp] at eo;exact jE (Xh.mpr hp) (no _ _ eo ⟨_,rfl⟩ (s3.trans s4))
  rintro ys H2 s2 hz2 hr2;rw[qc] at hr2;have hc2:Cel H2 ys (nbC rs):=zw.cel hr2;have s12:=s1.trans s2;have B2:=B.mono s12;have yl:ys.length=(nbC rs).length:=hc2.length;refine⟨_,rfl,z,_,rfl,.inl (SqL.of hz2),_,_,rfl,rfl,_,rfl,?_⟩;refine jE (decide_eq_false (by lia)) ?_;refine⟨_,rfl,p,l,rs,n,rfl,B2,R,sm,n0,fun H3 s3=>?_⟩;have s13:=s12.trans s3;refine⟨rfl,_,rfl,jE (decide_eq_false fun e=>hL.count (V.int.inj e)) ?_⟩;refine⟨_,rfl,_,rfl,sz_1,fun x hx=>?_⟩;have y4:=zd (o:=.lst [V.str "all"]) hx;refine⟨z,x,_,_,rfl,rfl,y4 _ _ (s3 _ _ hz2),zb,XX (show ys.length+1<=40 by lia) (by decide),fun th hth=>?_⟩;have y5:=zd (o:=.lst (ys++[V.str "all"])) hth;have s25:=s3.trans (y4.trans y5);have s15:=s12.trans s25;refine⟨p,l,th,rs,n,ys++[V.str "all"],Zx rs,L,rfl,B.mono s15,R,zb,Paired.snoc (zlg (hc2.mono s25)) rfl,?_,fun c hc=>?_,s20,hL.tr,fun t sa fa fc fs sv us ws' cl st H' k1 k2 k3 k4 k5 s'=>q t sa fa fc fs sv us ws' cl st H' k1 k2 k3 k4 k5 (s15.trans s')⟩
  ·unfold Zx;rw[X4,Y1];show (nbC rs).length+1<=32;lia
  ·rcases XO.mp hc with hc | hc
   ·obtain⟨o,ho,e⟩:=XQ.mp hc;cases e;exact(X9.mp ho).1
   ·cases VH.mp hc
end
def pZ (zs:List Nat)(k:Nat):Bool:=decide (k∈zs)
theorem zdD (k c:Nat):eqV (V.str ⟨#[c]⟩) (V.str ⟨#[k]⟩)=decide (c=k):=by
 have e0:eqV (V.str ⟨#[c]⟩) (V.str ⟨#[k]⟩)=((⟨#[c]⟩:Str)==(⟨#[k]⟩:Str)):=rfl;rw[e0,WV,beq_iff_eq,decide_eq_true_eq];constructor
 ·intro h;have h3:(#[c]:Array Nat)=#[k]:=congrArg Str.cps h;simpa using h3
 ·rintro rfl;rfl
theorem zlh (k:Nat)(zs:List Nat):inV (V.str ⟨#[k]⟩) (zs.map fun c=>V.str ⟨#[c]⟩)=pZ zs k:=by
 unfold inV pZ;rw[T3,WV,WF,decide_eq_true_eq];constructor
 ·rintro⟨c,hc,h⟩;have e:c=k:=of_decide_eq_true ((zdD k c).symm.trans h);rw[<- e];exact hc
 ·intro h;exact⟨k,h,(zdD k k).trans (decide_eq_true rfl)⟩
theorem zgZ (zs:List Nat):(zs.map fun c=>V.str ⟨#[c]⟩).all QG=true:=by
 rw[WG];intro v hv;obtain⟨c,_,rfl⟩:=XQ.mp hv;rfl
def zns (H H':Hp)(d:Addr):Prop:=∀b o,b≠d->H b=some o->H' b=some o
def zqB (H:Hp)(v:V)(t:List Nat):Prop:=∃a,v=V.ref a/\H a=some (.lst (t.map fun c=>V.str ⟨#[c]⟩))
def J0 (H:Hp):List V->List (List Nat)->Prop:=Xj (zqB H)
theorem J0.mono {H H':Hp}(s:zq H H'):∀{vs:List V} {gs:List (List Nat)},J0 H vs gs->J0 H' vs gs
 | _,_,.nil=>.nil
 | _,_,.cons ⟨a,e,h⟩ t=>.cons ⟨a,e,s _ _ h⟩ (J0.mono s t)
theorem J0.keep {H H':Hp}{d:Addr}(k:∀b o,b≠d->H b=some o->H' b=some o):∀{vs:List V} {gs:List (List Nat)},J0 H vs gs->(∀v∈vs,v≠V.ref d)->J0 H' vs gs
 | _,_,.nil,_=>.nil
 | _,_,.cons ⟨a,e,h⟩ t,hn=>.cons ⟨a,e,k a _ (fun z=>hn _ XW (by rw[e,z])) h⟩ (J0.keep k t fun v hv=>hn v (XR _ hv))
theorem zen {H:Hp}:∀{vs:List V} {gs:List (List Nat)} {i:Nat} {t:List Nat},J0 H vs gs->gs[i]?=some t->∃a,vs[i]?=some (V.ref a)/\H a=some (.lst (t.map fun c=>V.str ⟨#[c]⟩))
 | _,_,_,_,.nil,e=>by simp at e
 | _,_,0,_,.cons ⟨a,r,h⟩ _,e=>by
  simp at e;subst e;exact⟨a,by rw[r];rfl,h⟩
 | _,_,i+1,t,.cons _ q,e=>by
  obtain⟨c,h1,h2⟩:=zen (i:=i) (t:=t) q (by simpa using e);exact⟨c,by simpa using h1,h2⟩
def zli:Sp:=fun vs H Q _=>∃(l sg:Addr) (us:List V) (gs:List (List Nat)) (zs:List Nat),vs=[.ref l,.ref sg]/\H l=some (.lst us)/\J0 H us gs/\gs.length<=8/\(∀t∈gs,t.length<=8)/\H sg=some (.lst (zs.map fun c=>V.str ⟨#[c]⟩)) /\
 ∀(d:Addr) (ws:List V) (H':Hp),H d=none->H' d=some (.lst ws)->Cel H' ws (Cells.zB (pZ zs) 0 gs)->zq H H'->Q (.ref d) H'
theorem Jf:zF ["_law_rows","_law_signs","_law_found","_law_row","_law_column"] ["_law_rows","_law_signs"] (zf xH):=⟨rfl,rfl,rfl,by decide +kernel,rfl,by decide +kernel,by decide +kernel⟩
theorem zeo (T:Txt mg)(D:zm K mg "_law_cells" xH ["_law_rows","_law_signs"] f fd):qb P w K mg base CX0 1 f fd ["_law_rows","_law_signs"] zli:=by
 refine D.F.ok Jf (fun vs H Q E h=>?_) (fun cdv A outer s H vs Q E hr h=>?_)
 ·obtain⟨l,sg,us,gs,zs,rfl,_⟩:=h;rfl
 ·obtain⟨l,sg,us,gs,zs,rfl,hl,hG,g8,t8,hsg,q⟩:=h;have ul:us.length=gs.length:=Paired.length hG;refine⟨_,(@ze _ _ _ _ _ (@zz _ _ 2 _ _ _ _ Jf.nd rfl (XE rfl) (@qd _ _ _ _ zc) (by rfl) (.inr rfl)) (ze (qD W1 rfl (qU (by rfl) T.jf (za (zu qq (by rfl) T.qZ W3 (za (pv 0) zc)) zc)) (zo (i:=3) Jf.nd rfl (XE rfl)) (zh (qD W1 rfl (qU (by rfl) T.jf (za (zu qq (by rfl) T.qZ W3 (za (zL xw (pv 0) (pv 3) (fun _ _=>rfl)) zc)) zc)) (zo (i:=4) Jf.nd rfl (XE rfl)) (zh (jg (jL zii (zL xw (zL xw (pv 0) (pv 3) (fun _ _=>rfl)) (pv 4) (fun _ _=>rfl)) (pv 1) (by rfl)) (zh (jC (Jk WQ Wr Wq yd (pv 2) (za (qm (za (pv 3) (za (pv 4) zc))) zc)))) qi))))) (zh (zH (pv 2))))),?_⟩;refine⟨Jw,fun d hd=>?_⟩;have s0:zq H (upd H d (.lst [])):=zd hd;refine⟨_,rfl,l,_,rfl,.inl (SqL.of (s0 _ _ hl)),_,rfl,by lia,by lia,?_⟩;rw[UR,ul];refine qO (lo:=0) (n:=gs.length) (fun i σ H'=>∃(v3 v4:Option V) (ws:List V),σ=[some (.ref l),some (.ref sg),some (.ref d),v3,v4]/\zq H H'/\H' d=some (.lst ws)/\Cel H' ws (Cells.zB (pZ zs) 0 (gs.take i))) ⟨_,_,[],rfl,s0,zb,.nil⟩ ?_ ?_
  ·rintro i σ H1 hi ⟨v3,v4,ws,rfl,s1,hd1,hc1⟩;obtain⟨t,ht⟩:∃t,gs[i]?=some t:=⟨_,XZ hi⟩;have tl:=t8 t (X7 ht);obtain⟨ra,hv,hra0⟩:=zen hG ht;have hat:atI us (0+(i:Int))=some (.ref ra):=by
    rw[V1];exact je hv
   refine⟨_,rfl,_,rfl,l,_,_,_,rfl,rfl,SqL.of (s1 _ _ hl),hat,?_⟩;have hra:=s1 _ _ hra0;have nra:ra≠d:=zj hra0 hd;have zl:(t.map fun c=>V.str ⟨#[c]⟩).length=t.length:=Y1 _;refine⟨ra,_,rfl,.inl (SqL.of hra),_,rfl,by rw[zl];lia,by rw[zl];lia,?_⟩;rw[UR,zl];refine qO (lo:=0) (n:=t.length) (fun j σ H'=>∃(v4:Option V) (ws:List V),σ=[some (.ref l),some (.ref sg),some (.ref d),some (.int (0+(i:Int))),v4]/\zq H H'/\zns H1 H' d/\H' d=some (.lst ws)/\Cel H' ws (Cells.zB (pZ zs) 0 (gs.take i)++Cells.zR (pZ zs) i 0 (t.take j))) ⟨_,ws,rfl,s1,fun b o _ e=>e,hd1,by rw[List.take_zero];rw[show Cells.zR (pZ zs) i 0 []=[] from rfl,W9];exact hc1⟩ ?_ ?_
   ·rintro j σ H2 hj ⟨v4,ws2,rfl,s2,s12,hd2,hc2⟩;obtain⟨k,hk⟩:∃k,t[j]?=some k:=⟨_,XZ hj⟩;have st:=Cells.Qm (p:=pZ zs) (i:=i) hk;refine⟨_,rfl,_,rfl,l,_,_,_,rfl,rfl,SqL.of (s2 _ _ hl),hat,_,rfl,ra,_,_,V.str ⟨#[k]⟩,rfl,rfl,SqL.of (s12 _ _ nra hra),(by rw[V1];exact je (by rw[XD,hk];rfl)),_,rfl,sg,_,rfl,.inl (SqL.of (s2 _ _ hsg)),rfl,zgZ zs,_,rfl,?_⟩;have ein:(if false=true then !inV (V.str ⟨#[k]⟩) (zs.map fun c=>V.str ⟨#[c]⟩) else inV (V.str ⟨#[k]⟩) (zs.map fun c=>V.str ⟨#[c]⟩))=pZ zs k:=zlh k zs;rw[ein];have hlen:ws2.length<=200:=by
     rw[hc2.length,X4];have a1:=Cells.jN (pZ zs) i 0 (t.take j);have a2:=Cells.qY (pZ zs) 0 (gs.take i) fun u hu=>t8 u (V9 hu);rw[XM] at a1 a2;lia
    by_cases hp:pZ zs k=true
    ·rw[if_pos hp] at st;refine jT hp ⟨_,rfl,.inl ⟨rfl,_,SqL.of hd2⟩,_,rfl,_,rfl,yJ,fun tq htq=>?_⟩;have s3:=zd (o:=.tup [.int (0+(i:Int)),.int (0+(j:Int))]) htq;refine⟨d,_,_,rfl,rfl,s3 _ _ hd2,XG hlen (by decide),_,ws2++[.ref tq],rfl,fun b o e=>?_,fun b o nb e=>?_,zb,?_⟩
     ·rw[zk (zj e hd)];exact s3 _ _ (s2 _ _ e)
     ·rw[zk nb];exact s3 _ _ (s12 b o nb e)
     ·rw[st,<- WX];refine Cel.into d _ (s3 _ _ hd2) (Cel.snoc (Cel.mono s3 hc2) ⟨tq,rfl,?_⟩);rw[zb,V1,V1]
    ·rw[if_neg hp,W9] at st;refine jE (Xh.mpr hp) ⟨_,ws2,rfl,s2,s12,hd2,?_⟩;rw[st];exact hc2
   ·rintro σ H2 ⟨v4,ws2,rfl,s2,_,hd2,hc2⟩;refine⟨_,_,ws2,rfl,s2,hd2,?_⟩;rw[Cells.Qn ht];rw[XA] at hc2;exact hc2
  ·rintro σ H1 ⟨v3,v4,ws,rfl,s1,hd1,hc1⟩;rw[XA] at hc1;exact⟨_,rfl,q d ws H1 hd hd1 hc1 s1⟩
def zmP:Sp:=fun vs H Q _=>∃(a b:Addr) (c d:Nat×Nat),vs=[.ref a,.ref b]/\H a=some (.tup [.int (c.1:Nat),.int (c.2:Nat)])/\H b=some (.tup [.int (d.1:Nat),.int (d.2:Nat)])/\Q (.bl (Cells.near c d)) H
theorem zpY (i j:Nat):decide ((if ((i:Nat):Int)-((j:Nat):Int)<0 then -(((i:Nat):Int)-((j:Nat):Int)) else ((i:Nat):Int)-((j:Nat):Int))<2)=decide (i<=j+1/\j<=i+1):=by
 rw[decide_eq_decide];split<;>lia
theorem zfS:zF ["_law_one","_law_other"] ["_law_one","_law_other"] (zf JC):=⟨rfl,rfl,rfl,by decide +kernel,rfl,by decide +kernel,by decide +kernel⟩
theorem zfT (T:Txt mg)(D:zm K mg "_law_near" JC ["_law_one","_law_other"] f fd):qb P w K mg base CX0 1 f fd ["_law_one","_law_other"] zmP:=by
 refine D.F.ok zfS (fun vs H Q E h=>?_) (fun cdv A outer s H vs Q E hr h=>?_)
 ·obtain⟨a,b,c,d,rfl,_⟩:=h;rfl
 ·obtain⟨a,b,c,d,rfl,ha,hb,q⟩:=h;refine⟨_,(zh (zH (zjp (xZ (yP hr.units) (pv 0) (pv 1) (qa _)) (zjp (xZ zeC (zu zeE (by rfl) T.zne PV (za (zE J5 (zL qP (pv 0) zg (fun _ _=>rfl)) (zL qP (pv 1) zg (fun _ _=>rfl))) zc)) zg (qa _)) (znH (xZ zeC (zu zeE (by rfl) T.zne PV (za (zE J5 (zL qP (pv 0) zg (fun _ _=>rfl)) (zL qP (pv 1) zg (fun _ _=>rfl))) zc)) zg (qa _))))))),?_⟩;have nf:∀x:Bool,(x=true↔Cells.near c d=true)->Cells.near c d=x:=fun x h=>WV.mpr h.symm;have ni:=Cells.yy (x:=c) (y:=d);refine⟨_,rfl,_,rfl,zp c,zp d,yK.rdv ⟨a,rfl,ha⟩,yK.rdv ⟨b,rfl,hb⟩,zdm c d,?_⟩;have e1:(if true=true then !PyData.eqv (zp c) (zp d) else WL (zp c) (zp d))=!decide (c=d):=by
   show (!PyData.eqv _ _)=_;rw[zaD]
  rw[e1];refine⟨_,rfl,?_⟩;by_cases hcd:c=d
  ·rw[decide_eq_true hcd];refine QH ?_;have:Cells.near c d=false:=by
    rw[Xh,ne_eq,ni];exact fun h=>h.2.2 hcd
   rw[this] at q;exact q
  ·rw[decide_eq_false hcd];refine QI ?_;refine⟨_,rfl,a,_,0,_,rfl,rfl,SqT.of ha,rfl,_,rfl,b,_,0,_,rfl,rfl,SqT.of hb,rfl,_,_,rfl,rfl,_,rfl,_,_,rfl,rfl,?_⟩;refine⟨decide (c.1<=d.1+1/\d.1<=c.1+1),congrArg V.bl (zpY c.1 d.1),?_⟩;by_cases h1:c.1<=d.1+1/\d.1<=c.1+1
   ·rw[decide_eq_true h1];refine QI ⟨_,rfl,a,_,1,_,rfl,rfl,SqT.of ha,rfl,_,rfl,b,_,1,_,rfl,rfl,SqT.of hb,rfl,_,_,rfl,rfl,_,rfl,_,_,rfl,rfl,?_⟩;have:Cells.near c d=decide (c.2<=d.2+1/\d.2<=c.2+1):=by
     rw[WV,ni,decide_eq_true_eq];exact⟨fun h=>h.2.1,fun h=>⟨h1,h,hcd⟩⟩
    show Q (V.bl (decide ((if ((c.2:Nat):Int)-((d.2:Nat):Int)<0 then -(((c.2:Nat):Int)-((d.2:Nat):Int)) else ((c.2:Nat):Int)-((d.2:Nat):Int))<2))) H;rw[zpY,<- this];exact q
   ·rw[decide_eq_false h1];refine QH ?_;have:Cells.near c d=false:=by
     rw[Xh,ne_eq,ni];exact fun h=>h1 h.1
    rw[this] at q;exact q
def fData (c1 c2:List (Nat×Nat)):Wa:=.tuple [.list (c1.map zp),.list (c2.map zp)]
theorem zdE (c1 c2:List (Nat×Nat)):zlK (fData c1 c2) (fData c1 c2):=by
 have h1:Uz (fData c1 c2)=true:=by
  show (Uz (.list (c1.map zp))&&(Uz (.list (c2.map zp))&&true))=true;rw[show Uz (.list (c1.map zp))=true from YZ c1,show Uz (.list (c2.map zp))=true from YZ c2];rfl
 refine⟨h1,h1,?_⟩;show max (UU (c1.map zp)+1) (max (UU (c2.map zp)+1) 0)+1<=64;have a:=zb5 c1;have b:=zb5 c2;lia
theorem yc.rdv {K:XT}{H:Hp}{fa fc fs:Addr}{us ws:List V}{cl st:List (Nat×Nat)}(x:yc H fa fc fs us ws cl st):Rdv K H (.ref fa) (fData cl st):=.tup (SqT.of x.tp) (.cons (.lst (SqL.of x.h1) (zei x.c1)) (.cons (.lst (SqL.of x.h2) (zei x.c2)) .nil))
def zmQ:Sp:=fun vs H Q _=>∃(c k:Int),vs=[.int c,.int k]/\∀z:Int,Q (.int z) H
def marks:List Nat:=[35,111,99,46]
def zoN:Sp:=fun vs H Q _=>∃(x o m:Int) (r:Bool),vs=[.int x,.int o,.int m,.bl r]/\0<o/\∀k:Nat,k∈marks->(r=false->k≠111/\k≠99)->Q (.str ⟨#[k]⟩) H
theorem zpZ:("o":Str)=⟨#[111]⟩:=by decide +kernel
theorem zqC:("c":Str)=⟨#[99]⟩:=by decide +kernel
theorem zqD:(".":Str)=⟨#[46]⟩:=by decide +kernel
theorem Z8:zF ["_law_cell","_law_k","_law_drawn_here"] ["_law_cell","_law_k"] (zf xG):=⟨rfl,rfl,rfl,by decide +kernel,rfl,by decide +kernel,by decide +kernel⟩
theorem zep (D:zm K mg "_law_mixed" xG ["_law_cell","_law_k"] f fd):qb P w K mg base CX0 1 f fd ["_law_cell","_law_k"] zmQ:=by
 refine D.F.ok Z8 (fun vs H Q E h=>?_) (fun cdv A outer s H vs Q E hr h=>?_)
 ·obtain⟨c,i,rfl,_⟩:=h;rfl
 ·obtain⟨c,i,rfl,k⟩:=h;refine⟨_,(ze (zz (i:=2) Z8.nd rfl (XE rfl) (zE yw (zE ZG (zE ZG (zE yw (pv 0) zg) (@zE _ _ _ _ _ _ _ _ ZI zg (pv 1))) zg) zg)) (ze (zz (i:=2) Z8.nd rfl (XE rfl) (zE yw (zE ZI (zE yw (zE ZI (pv 2) (pv 2)) zg) zg) zg)) (zh (zH (zE Jl (pv 2) zg))))),?_⟩;refine⟨_,rfl,_,_,rfl,rfl,(by show (0:Int)<2147483629;decide),_,rfl,_,_,rfl,rfl,mulL (by decide) (by decide),_,_,rfl,rfl,_,_,rfl,rfl,_,_,rfl,rfl,(by show (0:Int)<2147483647;decide),?_⟩;have a0:=UV (c%2147483629+7919*i+11) (show (2147483647:Int)≠0 by decide);have a1:=Us (c%2147483629+7919*i+11) (show (0:Int)<2147483647 by decide);generalize (c%2147483629+7919*i+11)%2147483647=d at *
  refine⟨_,rfl,_,rfl,_,_,rfl,rfl,mulL (by lia) (by lia),_,_,rfl,rfl,(by show (0:Int)<2147483647;decide),_,_,rfl,rfl,zpq (by decide) (by decide),_,_,rfl,rfl,(by show (0:Int)<2147483587;decide),?_⟩;exact⟨_,rfl,_,_,rfl,rfl,JP.small (by decide) (by decide),k _⟩
theorem zfU:zF ["_law_drawn_here","_law_often","_law_many","_law_room"] ["_law_drawn_here","_law_often","_law_many","_law_room"] (zf JB):=⟨rfl,rfl,rfl,by decide +kernel,rfl,by decide +kernel,by decide +kernel⟩
theorem zfV (D:zm K mg "_law_mark" JB ["_law_drawn_here","_law_often","_law_many","_law_room"] f fd):qb P w K mg base CX0 1 f fd ["_law_drawn_here","_law_often","_law_many","_law_room"] zoN:=by
 refine D.F.ok zfU (fun vs H Q E h=>?_) (fun cdv A outer s H vs Q E hr h=>?_)
 ·obtain⟨x,o,m,r,rfl,_⟩:=h;rfl
 ·obtain⟨x,o,m,r,rfl,ho,q⟩:=h;refine⟨_,(ze (jg (jL Zc (zE yw (zE Jl (pv 0) zg) zg) zg (qa _)) (@zh _ _ _ (@zH _ _ _ _ jF)) qi) (ze (jg (PW.pt (zf6 (Yh (pv 3) (fun _=>rfl)) (zdM (jL Zc (zE yw (zE yw (pv 0) zg) (pv 1)) zg (qa _))))) (@zh _ _ _ (@zH _ _ _ _ jF)) qi) (ze (jg (PW.pt (zf6 (Yh (pv 3) (fun _=>rfl)) (zdM (jL zeC (zE yw (zE Jl (pv 0) zg) zg) (pv 2) (qa _))))) (@zh _ _ _ (@zH _ _ _ _ jF)) qi) (@zh _ _ _ (@zH _ _ _ _ jF))))),?_⟩;have q1:Q (.str "#") H:=by
   rw[JS];exact q 35 (by decide) (fun _=>⟨by decide,by decide⟩)
  have q4:Q (.str ".") H:=by
   rw[zqD];exact q 46 (by decide) (fun _=>⟨by decide,by decide⟩)
  refine⟨_,rfl,_,_,rfl,rfl,JP.small (by decide) (by decide),_,_,rfl,rfl,(by show (0:Int)<13;decide),rfl,_,rfl,zgc (fun _=>q1) (fun _=>?_)⟩;cases r with
  | false =>
   refine⟨_,rfl,_,rfl,QH (QH ?_)⟩;exact⟨_,rfl,_,rfl,QH (QH q4)⟩
  | true =>
   have q2:Q (.str "o") H:=by
    rw[zpZ];exact q 111 (by decide) (fun h=>nomatch h)
   have q3:Q (.str "c") H:=by
    rw[zqC];exact q 99 (by decide) (fun h=>nomatch h)
   refine⟨_,rfl,_,rfl,QI ⟨_,rfl,_,_,rfl,rfl,(by show (0:Int)<64;decide),_,rfl,_,_,rfl,rfl,ho,rfl,_,rfl,zgc (fun _=>q2) (fun _=>?_)⟩⟩;exact⟨_,rfl,_,rfl,QI ⟨_,rfl,_,_,rfl,rfl,JP.small (by decide) (by decide),_,_,rfl,rfl,(by show (0:Int)<5;decide),_,rfl,_,_,rfl,rfl,_,rfl,zgc (fun _=>q3) (fun _=>q4)⟩⟩
def jB (k:Nat):Bool:=decide (k=111) || decide (k=99)
def zaP (t:List Nat):Nat:=(t.filter jB).length
def zah (gs:List (List Nat)):Nat:=(gs.map zaP).sum
theorem zdF (t:List Nat)(k:Nat):zaP (t++[k])=zaP t+(if jB k=true then 1 else 0):=by
 unfold zaP;rw[WY,X4,WD];split<;>rfl
theorem zjj (gs:List (List Nat))(t:List Nat):zah (gs++[t])=zah gs+zaP t:=by
 unfold zah;rw[Xs,List.sum_append];simp
structure Ye (gs:List (List Nat)):Prop where
 lo:1<=gs.length
 hi:gs.length<=8
 ex:∃n,1<=n/\n<=8/\gs.length*n<=25/\∀t∈gs,t.length=n/\∀k∈t,k∈marks
 few:zah gs<=9
def zh5 (K:XT):Sp:=fun vs H Q _=>∃(a:Addr) (ns:List Int),vs=[.ref a,.int 25,.int 9]/\SqL K H a (ns.map V.int) /\
 ∀(d:Addr) (us:List V) (gs:List (List Nat)) (H':Hp),H d=none->H' d=some (.lst us)->J0 H' us gs->Ye gs->zq H H'->Q (.ref d) H'
theorem mr8 (x:Int):1<=1+x%8/\1+x%8<=8:=by
 have a:=UV x (show (8:Int)≠0 by decide);have b:=Us x (show (0:Int)<8 by decide);lia
theorem m25 {x:Int}(h1:1<=x)(h8:x<=8):(0:Int)<(if 25/x<8 then 25/x else 8):=by
 have h:x=1\/x=2\/x=3\/x=4\/x=5\/x=6\/x=7\/x=8:=by lia
 rcases h with rfl | rfl | rfl | rfl | rfl | rfl | rfl | rfl<;>decide
def wd (c0 c1:Int):Int:=1+c1/8%(if 25/(1+c0%8)<8 then 25/(1+c0%8) else 8)
theorem zoO {c0 c1:Int}(_:Int)(h1:1<=1+c0%8)(h8:1+c0%8<=8):1<=wd c0 c1/\wd c0 c1<=8:=by
 have m:=m25 h1 h8;have a:=UV (c1/8) (Int.ne_of_gt m);have b:=Us (c1/8) m;unfold wd;have c:(if 25/(1+c0%8)<8 then 25/(1+c0%8) else 8)<=8:=by split<;>lia
 lia
theorem zoP {c0 c1:Int}(h1:1<=1+c0%8)(h8:1+c0%8<=8):(1+c0%8).toNat*(wd c0 c1).toNat<=25:=by
 have m:=m25 h1 h8;have a:=UV (c1/8) (Int.ne_of_gt m);have b:=Us (c1/8) m;unfold wd;generalize c1/8%(if 25/(1+c0%8)<8 then 25/(1+c0%8) else 8)=y at *
 generalize 1+c0%8=x at *
 have h:x=1\/x=2\/x=3\/x=4\/x=5\/x=6\/x=7\/x=8:=by lia
 rcases h with rfl | rfl | rfl | rfl | rfl | rfl | rfl | rfl
 ·have b:y<8:=b;show 1*(1+y).toNat<=25;lia
 ·have b:y<8:=b;show 2*(1+y).toNat<=25;lia
 ·have b:y<8:=b;show 3*(1+y).toNat<=25;lia
 ·have b:y<6:=b;show 4*(1+y).toNat<=25;lia
 ·have b:y<5:=b;show 5*(1+y).toNat<=25;lia
 ·have b:y<4:=b;show 6*(1+y).toNat<=25;lia
 ·have b:y<3:=b;show 7*(1+y).toNat<=25;lia
 ·have b:y<3:=b;show 8*(1+y).toNat<=25;lia
theorem zmR:∀k∈marks,([PyData.str "o",PyData.str "c"].any fun z=>WL z (.str ⟨#[k]⟩))=jB k:=by decide +kernel
theorem zlj:∀k∈marks,Uz (.str ⟨#[k]⟩)=true:=by decide +kernel
theorem zlk {α:Type}(xs:List α)(v:α):atI (xs++[v]) (-1)=some v:=by
 have hl:(xs++[v]).length=xs.length+1:=by simp
 have e:ixN (xs.length+1) (-1)=some xs.length:=by
  unfold ixN;rw[if_neg (by decide),if_pos (by lia)];congr 1;lia
 unfold atI;rw[hl,e];show (xs++[v])[xs.length]?=some v;simp
theorem qe:zF ["_law_script","_law_most","_law_limit","_law_high","_law_wide","_law_often","_law_many","_law_marks","_law_shut","_law_row","_law_line","_law_column","_law_place","_law_drawn_here"] ["_law_script","_law_most","_law_limit"] (zf JV):=⟨rfl,rfl,rfl,by decide +kernel,rfl,by decide +kernel,by decide +kernel⟩
theorem zeq {f1 f2 f3:Addr}{fd1 fd2 fd3:Xz}(T:Txt mg)(D:zm K mg "_law_drawn" JV ["_law_script","_law_most","_law_limit"] f fd)(qM:zm K mg "_law_cell_at" jW ["_law_script","_law_k"] f1 fd1)(J1:zm K mg "_law_mixed" xG ["_law_cell","_law_k"] f2 fd2)(Z9:zm K mg "_law_mark" JB ["_law_drawn_here","_law_often","_law_many","_law_room"] f3 fd3):qb P w K mg base CX0 2 f fd ["_law_script","_law_most","_law_limit"] (zh5 K):=by
 have j4:qb P w K mg base CX0 1 f1 fd1 ["_law_script","_law_k"] (zkw K):=zb3 T qM;refine D.F.ok qe (fun vs H Q E h=>?_) (fun cdv A outer s H vs Q E hr h=>?_)
 ·obtain⟨a,ns,rfl,_⟩:=h;rfl
 ·obtain⟨a,ns,rfl,hS,q⟩:=h;refine⟨_,(@ze _ _ _ _ _ (@zz _ _ 3 _ _ _ _ qe.nd rfl (XE rfl) (@zE _ _ _ _ _ _ _ _ ZG zg (zE yw (pc0 j4 hr qM (za (pv 0) (@za _ _ _ _ _ zg zc rfl))) (zu (YG rfl) (by rfl) T.zfn UX (@za _ _ _ _ _ zg (za (pv 1) zc) rfl)))) (by rfl) (.inr rfl)) (@ze _ _ _ _ _ (@zz _ _ 4 _ _ _ _ qe.nd rfl (XE rfl) (@zE _ _ _ _ _ _ _ _ ZG zg (zE yw (zE Jl (pc0 j4 hr qM (za (pv 0) (@za _ _ _ _ _ zg zc rfl))) zg) (zu (YG rfl) (by rfl) T.zfn UX (@za _ _ _ _ _ zg (za (zE Jl (pv 1) (pv 3)) zc) rfl)))) (by rfl) (.inr rfl)) (@ze _ _ _ _ _ (@zz _ _ 5 _ _ _ _ qe.nd rfl (XE rfl) (@zE _ _ _ _ _ _ _ _ ZG zg (zE yw (pc0 j4 hr qM (za (pv 0) (@za _ _ _ _ _ zg zc rfl))) zg)) (by rfl) (.inr rfl)) (ze (zz (i:=6) qe.nd rfl (XE rfl) (zE yw (zE Jl (pc0 j4 hr qM (za (pv 0) (@za _ _ _ _ _ zg zc rfl))) zg) zg)) (@ze _ _ _ _ _ (@zz _ _ 7 _ _ _ _ qe.nd rfl (XE rfl) (@qd _ _ _ _ zc) (by rfl) (.inr rfl)) (@ze _ _ _ _ _ (@zz _ _ 8 _ _ _ _ qe.nd rfl (XE rfl) zg (by rfl) (.inr rfl)) (ze (qD W1 rfl (qU (by rfl) T.jf (za (pv 3) zc)) (zo (i:=9) qe.nd rfl (XE rfl)) (@ze _ _ _ _ _ (@zz _ _ 10 _ _ _ _ qe.nd rfl (XE rfl) (@qd _ _ _ _ zc) (by rfl) (.inr rfl)) (ze (qD W1 rfl (qU (by rfl) T.jf (za (pv 4) zc)) (zo (i:=11) qe.nd rfl (XE rfl)) (@ze _ _ _ _ _ (@zz _ _ 12 _ _ _ _ qe.nd rfl (XE rfl) (@zE _ _ _ _ _ _ _ _ ZG (@zE _ _ _ _ _ _ _ _ ZI zg (pv 9)) (pv 11)) (by rfl) (.inr rfl)) (ze (zz (i:=13) qe.nd rfl (XE rfl) (pc0 (zep J1) hr J1 (za (pc0 j4 hr qM (za (pv 0) (@za _ _ _ _ _ (@zE _ _ _ _ _ _ _ _ ZG zg (zE yw (pv 12) zg)) zc rfl))) (za (pv 12) zc)))) (ze (jC (Jk WQ Wr Wq yd (pv 10) (za (pc0 (zfV Z9) hr Z9 (za (pv 13) (za (pv 5) (za (pv 6) (za (xZ zeC (pv 8) (pv 2) (qa _)) zc))))) zc))) (zh (zz (i:=8) qe.nd rfl (XE rfl) (zE ZG (pv 8) (yO zif (by rfl) T.znf PY (za (xZ (ziA hr.units) (zL xw (pv 10) (zpg znO zg) (fun _ _=>rfl)) (@qm _ _ _ _ _ (@za _ _ _ _ _ jF (@za _ _ _ _ _ jF zc rfl) rfl)) (by rfl)) zc))))))))) (zh (jC (Jk WQ Wr Wq yd (pv 7) (za (pv 10) zc))))))) (zh (zH (pv 7)))))))))),?_⟩;refine⟨_,rfl,a,ns,_,rfl,hS,by decide,fun c0=>⟨_,rfl,8,25,rfl,_,_,rfl,rfl,(by show (0:Int)<8;decide),_,_,rfl,rfl,?_⟩⟩;obtain⟨h1,h8⟩:=mr8 c0;refine⟨_,rfl,a,ns,_,rfl,hS,by decide,fun c1=>⟨_,_,rfl,rfl,JP.small (by decide) (by decide),_,rfl,_,rfl,_,_,rfl,rfl,JP.small (by show (0:Int)<1+c0%8;lia) (by show 1+c0%8<_;exact Int.lt_of_le_of_lt h8 (by decide)),8,_,rfl,_,_,rfl,rfl,?_,_,_,rfl,rfl,?_⟩⟩
  ·show (0:Int)<(if 25/(1+c0%8)<8 then 25/(1+c0%8) else 8);exact m25 h1 h8
  obtain⟨w1,w8⟩:=zoO (c0:=c0) (c1:=c1) 0 h1 h8;refine⟨_,rfl,a,ns,_,rfl,hS,by decide,fun c2=>⟨_,_,rfl,rfl,(by show (0:Int)<5;decide),_,_,rfl,rfl,?_⟩⟩;have o0:=UV c2 (show (5:Int)≠0 by decide);refine⟨_,rfl,a,ns,_,rfl,hS,by decide,fun c3=>⟨_,_,rfl,rfl,JP.small (by decide) (by decide),_,_,rfl,rfl,(by show (0:Int)<5;decide),?_⟩⟩;refine⟨Jw,fun d hd=>?_⟩;have s0:=zd (o:=.lst []) hd;refine⟨_,rfl,1+c0%8,rfl,by lia,by lia,?_⟩;refine qO (lo:=0) (n:=(1+c0%8).toNat) (fun i σ H'=>∃(v9 v10 v11 v12 v13:Option V) (us:List V) (gs:List (List Nat)),σ=[some (.ref a),some (.int 25),some (.int 9),some (.int (1+c0%8)),some (.int (wd c0 c1)),some (.int (2+c2%5)),some (.int (c3/5%5)),some (.ref d),some (.int ((zah gs:Nat):Int)),v9,v10,v11,v12,v13]/\zq H H'/\H' d=some (.lst us)/\J0 H' us gs/\(∀v∈us,v≠V.ref d)/\gs.length=i/\(∀t∈gs,t.length=(wd c0 c1).toNat/\∀k∈t,k∈marks)/\zah gs<=9) ⟨_,_,_,_,_,[],[],rfl,s0,zb,.nil,(fun _ h=>nomatch h),rfl,(fun _ h=>nomatch h),by decide⟩ ?_ ?_
  ·rintro i σ H1 hi ⟨v9,v10,v11,v12,v13,us,gs,rfl,s1,hd1,hM,hnd,gl,hgs,hcnt⟩;refine⟨Jw,fun ln hln=>?_⟩;have z2:=zd (o:=.lst []) hln;refine⟨_,rfl,wd c0 c1,rfl,by lia,by lia,?_⟩;refine qO (lo:=0) (n:=(wd c0 c1).toNat) (fun j σ H'=>∃(v11 v12 v13:Option V) (t:List Nat),σ=[some (.ref a),some (.int 25),some (.int 9),some (.int (1+c0%8)),some (.int (wd c0 c1)),some (.int (2+c2%5)),some (.int (c3/5%5)),some (.ref d),some (.int (((zah gs+zaP t):Nat):Int)),some (.int (0+(i:Int))),some (.ref ln),v11,v12,v13]/\zq H1 H'/\H' ln=some (.lst (t.map fun c=>V.str ⟨#[c]⟩))/\t.length=j/\(∀k∈t,k∈marks)/\zah gs+zaP t<=9) ⟨_,_,_,[],rfl,z2,zb,rfl,(fun _ h=>nomatch h),hcnt⟩ ?_ ?_
   ·rintro j σ H2 hj ⟨v11,v12,v13,t,rfl,s2,hln2,tl,htm,hc2⟩;have s12:=s1.trans s2;refine⟨_,rfl,_,_,rfl,rfl,mulL (by decide) (by decide),_,rfl,_,_,rfl,rfl,?_⟩;have p0:=UV (8*(0+(i:Int))+(0+(j:Int))) (show (58:Int)≠0 by decide);refine⟨_,rfl,_,rfl,_,_,rfl,rfl,(by show (0:Int)<58;decide),_,_,rfl,rfl,a,ns,_,rfl,s12.seq hS,(by show (0:Int)<=4+(8*(0+(i:Int))+(0+(j:Int)))%58;lia),fun cc=>⟨_,rfl,_,_,rfl,fun dr=>?_⟩⟩;refine⟨_,rfl,.inl ⟨rfl,_,SqL.of hln2⟩,_,rfl,_,rfl,_,rfl,_,rfl,_,rfl,_,_,rfl,rfl,_,_,_,_,rfl,(by show (0:Int)<2+c2%5;lia),fun k hk hroom=>?_⟩;refine⟨ln,_,_,rfl,rfl,hln2,?_,?_⟩
    ·rw[Y1];exact XG (show _<=8 by lia) (by decide)
    have t1:(t++[k]).map (fun c=>V.str ⟨#[c]⟩)=t.map (fun c=>V.str ⟨#[c]⟩)++[V.str ⟨#[k]⟩]:=by rw[Xs];rfl
    have hln3:upd H2 ln (.lst (t.map (fun c=>V.str ⟨#[c]⟩)++[V.str ⟨#[k]⟩])) ln=some (.lst (t.map (fun c=>V.str ⟨#[c]⟩)++[V.str ⟨#[k]⟩])):=zb;have s3:zq H1 (upd H2 ln (.lst (t.map (fun c=>V.str ⟨#[c]⟩)++[V.str ⟨#[k]⟩]))):=fun b o e=>by
     rw[zk (zj e hln)];exact s2 _ _ e
    generalize upd H2 ln (.lst (t.map (fun c=>V.str ⟨#[c]⟩)++[V.str ⟨#[k]⟩]))=H3 at *
    refine⟨_,rfl,_,rfl,_,rfl,ln,_,_,V.str ⟨#[k]⟩,rfl,rfl,SqL.of hln3,zlk _ _,yJ,fun tp htp=>?_⟩;have z4:=zd (o:=.tup [V.str "o",V.str "c"]) htp;refine⟨.str ⟨#[k]⟩,[.str "o",.str "c"],.str _,.tup (SqT.of zb) (.cons (.str _) (.cons (.str _) .nil)),zlj k hk,by decide +kernel,by show 0<=60;decide,?_⟩;rw[zmR k hk];refine .inr ⟨_,rfl,_,_,rfl,rfl,?_⟩;have ec:((zah gs+zaP t:Nat):Int)+(if jB k=true then 1 else 0)=((zah gs+zaP (t++[k]):Nat):Int):=by
     rw[zdF];split<;>lia
    refine⟨some (.int (0+(j:Int))),some (.int (8*(0+(i:Int))+(0+(j:Int)))),some (.int dr),t++[k],?_,s3.trans z4,?_,by rw[X4,tl];rfl,fun x hx=>?_,?_⟩
    ·show [_,_,_,_,_,_,_,_,some (V.int (((zah gs+zaP t:Nat):Int)+(if jB k=true then 1 else 0))),_,_,_,_,_]=_;rw[ec]
    ·rw[t1];exact z4 _ _ hln3
    ·rcases XO.mp hx with h | h
     ·exact htm x h
     ·have:x=k:=by simpa using h
      rw[this];exact hk
    ·rw[zdF];split
     ·rename_i hsk;have hlt:((zah gs+zaP t:Nat):Int)<9:=by
       refine Wv fun hc=>?_;have hf:=hroom (decide_eq_false hc);unfold jB at hsk;rw[decide_eq_false hf.1,decide_eq_false hf.2] at hsk;cases hsk
      lia
     ·lia
   ·rintro σ H2 ⟨v11,v12,v13,t,rfl,s2,hln2,tl,htm,hc2⟩;have hd2:=s2 _ _ hd1;have nld:ln≠d:=fun z=>by
     rw[z,hd1] at hln;cases hln
    have ul:us.length=gs.length:=Paired.length hM;refine⟨_,rfl,.inl ⟨rfl,_,SqL.of hd2⟩,_,rfl,d,_,_,rfl,rfl,hd2,?_,?_⟩
    ·exact XG (show _<=8 by lia) (by decide)
    have hg2:=zjj gs t;refine⟨some (.int (0+(i:Int))),some (.ref ln),v11,v12,v13,us++[.ref ln],gs++[t],?_,fun b o e=>?_,zb,?_,fun v hv=>?_,by rw[X4,gl];rfl,fun u hu=>?_,by rw[hg2];exact hc2⟩
    ·rw[hg2]
    ·rw[zk (zj e hd)];exact s2 _ _ (s1 _ _ e)
    ·refine Paired.snoc (J0.keep (d:=d) (fun b o nb e=>by rw[zk nb];exact s2 _ _ e) hM hnd) ⟨ln,rfl,?_⟩;rw[zk nld];exact hln2
    ·rcases XO.mp hv with h | h
     ·exact hnd v h
     ·have:v=V.ref ln:=by simpa using h
      rw[this];exact fun z=>nld (V.ref.inj z)
    ·rcases XO.mp hu with h | h
     ·exact hgs u h
     ·have:u=t:=by simpa using h
      rw[this];exact⟨tl,htm⟩
  ·rintro σ H1 ⟨v9,v10,v11,v12,v13,us,gs,rfl,s1,hd1,hM,hnd,gl,hgs,hcnt⟩;exact⟨_,rfl,q d us gs H1 hd hd1 hM ⟨by lia,by lia,⟨(wd c0 c1).toNat,by lia,by lia,by rw[gl];exact zoP h1 h8,hgs⟩,hcnt⟩ s1⟩
theorem Ye.t8 {gs:List (List Nat)}(M:Ye gs):∀t∈gs,t.length<=8:=fun t ht=>by
 obtain⟨n,_,h8,_,h⟩:=M.ex;rw[(h t ht).1];exact h8
def dlt (c x:Nat×Nat):Nat×Nat:=(x.1+1-c.1,x.2+1-c.2)
def zh6:List (Nat×Nat):=[(0,0),(0,1),(0,2),(1,0),(1,2),(2,0),(2,1),(2,2)]
theorem zll {a b:Nat}(ha:a<3)(hb:b<3)(h:¬ (a=1/\b=1)):(a,b)∈zh6:=by
 have key:∀a b:Fin 3,¬ (a=1/\b=1)->(a.1,b.1)∈zh6:=by decide
 exact key ⟨a,ha⟩ ⟨b,hb⟩ fun z=>h ⟨congrArg Fin.val z.1,congrArg Fin.val z.2⟩
theorem zcv {p:Nat->Bool}(gs:List (List Nat))(c:Nat×Nat):((Cells.zB p 0 gs).filter fun x=>Cells.near x c).length<=8:=by
 have nd:=(ql (Cells.Jh p 0 gs)).sublist (Xa (p:=fun x=>Cells.near x c));have hn:∀x∈(Cells.zB p 0 gs).filter (fun x=>Cells.near x c),(x.1<=c.1+1/\c.1<=x.1+1)/\(x.2<=c.2+1/\c.2<=x.2+1)/\¬ x=c:=fun x hx=>(Cells.yy x c).mp (X9.mp hx).2;generalize (Cells.zB p 0 gs).filter (fun x=>Cells.near x c)=L at *
 have nm:(L.map (dlt c)).Nodup:=by
  refine Wm.mpr (nd.imp_of_mem fun {a b} ha hb hl e=>hl ?_);obtain⟨a1,a2,_⟩:=hn a ha;obtain⟨b1,b2,_⟩:=hn b hb;have e1:a.1+1-c.1=b.1+1-c.1:=congrArg Prod.fst e;have e2:a.2+1-c.2=b.2+1-c.2:=congrArg Prod.snd e;exact Prod.ext (by lia) (by lia)
 have i8:∀y∈L.map (dlt c),y∈zh6:=fun y hy=>by
  obtain⟨x,hx,rfl⟩:=XQ.mp hy;obtain⟨a,b,h⟩:=hn x hx;exact zll (by lia) (by lia) fun z=>h (Prod.ext (by lia) (by lia))
 have:=((W2 nm ((by decide:zh6.Nodup).sublist (Xa (p:=fun y=>decide (y∈L.map (dlt c)))))).mpr fun y=>by
  rw[X9,decide_eq_true_eq];exact⟨fun z=>⟨i8 y z,z⟩,fun z=>z.2⟩).length_eq
 rw[Y1] at this;rw[this];exact Xe _ _
theorem zqE:∀d:Nat,d<9->((toString (d:Int):String):Str)=⟨#[48+d]⟩/\48+d∈bd.cps.toList/\yM (48+d)=false:=by decide +kernel
def stM (gs:List (List Nat)):List (Nat×Nat):=Cells.zB (pZ [111]) 0 gs
def nrM (gs:List (List Nat))(i j:Nat):List (Nat×Nat):=(stM gs).filter fun x=>Cells.near x (i,j)
def zaQ (gs:List (List Nat))(i j k:Nat):Nat:=if k=46 then 48+(nrM gs i j).length else if jB k=true then 63 else k
def zfW (gs:List (List Nat))(i:Nat)(t:List Nat):List Nat:=t.mapIdx (zaQ gs i)
def Yy (gs:List (List Nat)):List (List Nat):=gs.mapIdx (zfW gs)
theorem za5 {α β:Type}(f:Nat->α->β){t:List α}{j:Nat}{k:α}(h:t[j]?=some k):(t.take (j+1)).mapIdx f=(t.take j).mapIdx f++[f j k]:=by
 obtain⟨hl,e⟩:=X0.mp h;rw[Xc,h,List.mapIdx_append];simp only[Option.toList_some,Rz,List.mapIdx_nil,XM];rw[VC,Nat.min_eq_left (by lia)]
theorem zai {p q:Nat->Bool}{f:Nat->Nat->Nat}(i:Nat)(hf:∀m c,p (f m c)=q c):∀(j m:Nat) (t:List Nat),Cells.zR p i j (t.mapIdx fun a=>f (a+m))=Cells.zR q i j t
 | _,_,[]=>rfl
 | j,m,c::r=>by
  rw[Rz,Cells.zR,Cells.zR,hf];have:=zai i hf (j+1) (m+1) r;have e:(fun a=>f (a+(m+1)))=fun a=>f (a+1+m):=by
   funext a;congr 1;lia
  rw[e] at this;rw[this]
theorem zaj {p q:Nat->Bool}{f:Nat->List Nat->List Nat}(hf:∀m i t,Cells.zR p i 0 (f m t)=Cells.zR q i 0 t):∀(i m:Nat) (gs:List (List Nat)),Cells.zB p i (gs.mapIdx fun a=>f (a+m))=Cells.zB q i gs
 | _,_,[]=>rfl
 | i,m,t::r=>by
  rw[Rz,Cells.zB,Cells.zB,hf];have:=zaj hf (i+1) (m+1) r;have e:(fun a=>f (a+(m+1)))=fun a=>f (a+1+m):=by
   funext a;congr 1;lia
  rw[e] at this;rw[this]
theorem zjk (gs:List (List Nat))(i j k:Nat):yM (zaQ gs i j k)=(jB k || decide (k=63)):=by
 unfold zaQ;have h8:(nrM gs i j).length<=8:=zcv gs (i,j);by_cases h1:k=46
 ·rw[if_pos h1,h1];show decide (48+(nrM gs i j).length=63)=false;exact decide_eq_false (by lia)
 ·rw[if_neg h1];by_cases h2:jB k=true
  ·rw[if_pos h2,h2];rfl
  ·rw[if_neg h2,Xh.mpr h2];rfl
theorem zfX {gs:List (List Nat)}:Cells.zB yM 0 (Yy gs)=Cells.zB (fun k=>jB k || decide (k=63)) 0 gs:=by
 have h:=zaj (p:=yM) (q:=fun k=>jB k || decide (k=63)) (f:=zfW gs) (fun m i t=>zai (f:=zaQ gs m) i (fun a c=>zjk gs m a c) 0 0 t) 0 0 gs;exact h
theorem zdG (i:Nat):∀(j:Nat) (t:List Nat),(∀k∈t,k∈marks)->(Cells.zR (fun k=>jB k || decide (k=63)) i j t).length=zaP t
 | _,[],_=>rfl
 | j,c::r,h=>by
  have ih:=zdG i (j+1) r fun k hk=>h k (XR _ hk);have hc:∀k∈marks,(jB k || decide (k=63))=jB k:=by decide
  have e:=hc c (h c XW);unfold zaP at ih ⊢;rw[Cells.zR,WD];by_cases hs:jB c=true
  ·rw[if_pos hs,if_pos (e.trans hs),X4,Xm,Xm,Vi,ih];lia
  ·rw[if_neg hs,if_neg (by rw[e];exact hs),QR,ih]
theorem zdH:∀(i:Nat) (gs:List (List Nat)),(∀t∈gs,∀k∈t,k∈marks)->(Cells.zB (fun k=>jB k || decide (k=63)) i gs).length=zah gs
 | _,[],_=>rfl
 | i,t::r,h=>by
  have ih:=zdH (i+1) r fun u hu=>h u (XR _ hu);have e:=zdG i 0 t (h t XW);unfold zah at ih ⊢;rw[Cells.zB,X4,XB,RS,ih,e]
theorem Ye.few9 {gs:List (List Nat)}{rs:List Str}(M:Ye gs)(h:codes rs=Yy gs):(zK rs).length<=9:=by
 unfold zK;obtain⟨n,_,_,_,hn⟩:=M.ex;rw[h,zfX,zdH 0 gs fun t ht=>(hn t ht).2];exact M.few
theorem Ye.rows {gs:List (List Nat)}{rs:List Str}(M:Ye gs)(h:codes rs=Yy gs):Rows bd.cps.toList rs:=by
 have hl:rs.length=gs.length:=by
  have e:(codes rs).length=(Yy gs).length:=by rw[h]
  rw[qW] at e;unfold Yy at e;rw[U0] at e;exact e
 obtain⟨n,n1,n8,_,hn⟩:=M.ex;refine⟨by rw[hl];exact M.lo,by rw[hl];exact M.hi,n,n1,n8,fun t ht=>?_⟩;have hm:t.cps.toList∈Yy gs:=by
  rw[<- h];exact Pd ht
 unfold Yy at hm;obtain⟨i,hi,e⟩:=Qb.mp hm;have hg:=hn gs[i] (U5 hi);refine⟨?_,fun k hk=>?_⟩
 ·have e2:t.cps.toList.length=n:=by
   rw[<- e];unfold zfW;rw[U0,hg.1]
  rw[X5] at e2;exact e2
 ·rw[<- e] at hk;unfold zfW at hk;obtain⟨j,hj,e3⟩:=Qb.mp hk;have hx:=hg.2 _ (U5 hj);have h8:(nrM gs i j).length<=8:=zcv gs (i,j);rw[<- e3];unfold zaQ;split
  ·have:∀d:Nat,d<9->48+d∈bd.cps.toList:=by decide +kernel
   exact this _ (by lia)
  ·split
   ·decide +kernel
   ·rename_i a b;have:∀k∈marks,k≠46->jB k≠true->k∈bd.cps.toList:=by decide +kernel
    exact this _ hx a b
def zfY:Sp:=fun vs H Q _=>∃(d:Addr) (us:List V) (gs:List (List Nat)),vs=[.ref d]/\H d=some (.lst us)/\J0 H us gs/\Ye gs /\
 ∀(p l:Addr) (rs:List Str) (H':Hp),H p=none->H l=none->qJ H' p l rs ((stM gs).length:Nat)->codes rs=Yy gs->zq H H'->Q (.ref p) H'
theorem zoQ:∀k∈marks,k≠46->(jb (ZL [] [(.inr "o",V.str "?"),(.inr "c",V.str "?")]) (.inr ⟨#[k]⟩)).getD (V.str ⟨#[k]⟩)=V.str ⟨#[if jB k=true then 63 else k]⟩:=by
 intro k hk h;have hm:k=35\/k=111\/k=99\/k=46:=by simpa[marks] using hk
 rcases hm with rfl | rfl | rfl | rfl
 ·rfl
 ·rfl
 ·rfl
 ·exact absurd rfl h
theorem zoR:∀d:Nat,d<9->(jb (ZL [] [(.inr "o",V.str "?"),(.inr "c",V.str "?")]) (.inr ⟨#[48+d]⟩)).getD (V.str ⟨#[48+d]⟩)=V.str ⟨#[48+d]⟩:=by
 intro d hd;have hm:d=0\/d=1\/d=2\/d=3\/d=4\/d=5\/d=6\/d=7\/d=8:=by lia
 rcases hm with rfl | rfl | rfl | rfl | rfl | rfl | rfl | rfl | rfl<;>rfl
theorem qK:zF ["_law_marks","_law_stones","_law_rows","_law_row","_law_text","_law_column","_law_sign"] ["_law_marks"] (zf xJ):=⟨rfl,rfl,rfl,by decide +kernel,rfl,by decide +kernel,by decide +kernel⟩
theorem zer {f1 f2:Addr}{fd1 fd2:Xz}(T:Txt mg)(D:zm K mg "_law_board" xJ ["_law_marks"] f fd)(Yb:zm K mg "_law_near" JC ["_law_one","_law_other"] f1 fd1)(J2:zm K mg "_law_cells" xH ["_law_rows","_law_signs"] f2 fd2):qb P w K mg base CX0 2 f fd ["_law_marks"] zfY:=by
 refine D.F.ok qK (fun vs H Q E h=>?_) (fun cdv A outer s H vs Q E hr h=>?_)
 ·obtain⟨d,us,gs,rfl,_⟩:=h;rfl
 ·obtain⟨d,us,gs,rfl,hd,hM,M,q⟩:=h;refine⟨_,(ze (zz (i:=1) qK.nd rfl (XE rfl) (pc0 (zeo T J2) hr J2 (za (pv 0) (@za _ _ _ _ _ (@qd _ _ _ _ (@za _ _ _ _ _ jF zc rfl)) zc rfl)))) (@ze _ _ _ _ _ (@zz _ _ 2 _ _ _ _ qK.nd rfl (XE rfl) (@qd _ _ _ _ zc) (by rfl) (.inr rfl)) (ze (qD W1 rfl (qU (by rfl) T.jf (za (zu qq (by rfl) T.qZ W3 (za (pv 0) zc)) zc)) (zo (i:=3) qK.nd rfl (Vp rfl)) (@ze _ _ _ _ _ (@zz _ _ 4 _ _ _ _ qK.nd rfl (XE rfl) jF (by rfl) (.inr rfl)) (ze (qD W1 rfl (qU (by rfl) T.jf (za (zu qq (by rfl) T.qZ W3 (za (zL xw (pv 0) (pv 3) (fun _ _=>rfl)) zc)) zc)) (zo (i:=5) qK.nd rfl (Vp rfl)) (ze (zz (i:=6) qK.nd rfl (XE rfl) (zL xw (zL xw (pv 0) (pv 3) (fun _ _=>rfl)) (pv 5) (fun _ _=>rfl))) (QJ (jg (jL Zc (pv 6) jF (qa _)) (zh (zz (i:=6) qK.nd rfl (XE rfl) (yO zdP (by rfl) T.zpL PyProof.Rows.boot_str (za (zu qq (by rfl) T.qZ W3 (za (z9 (N:=["_law_one","_law_row","_law_column"]) (src:=[none,some 3,some 5]) (zP.free (O:=(zf xJ).names) (XN:=["_law_marks","_law_stones","_law_rows","_law_row","_law_text","_law_column","_law_sign"]) rfl rfl ⟨_,rfl⟩ rfl rfl (by decide +kernel) (by decide +kernel) (by decide +kernel) rfl (by decide +kernel)) rfl (zJ (pv 1)) (fun _ _ _ _ _=>(zo (i:=0) (by show W7 (["_law_one","_law_row","_law_column"]:List Str);decide +kernel) rfl (XE rfl))) (fun _ _ _ _ _=>(qE (YI (K:=K) (by rfl) (pc0 (zfT T Yb) hr Yb (za (pv 0) (za (qm (za (pv 1) (za (pv 2) zc))) zc))) (fun _=>rfl)))) (fun _ _ _ _ _=>(pv 0))) zc)) zc)))) qi) (zh (zz (i:=4) qK.nd rfl (XE rfl) (zE zga (pv 4) (zeX (u1 hr.units) (zlY (zeW jF jF (zeW jF jF zlX)) rfl rfl (by simp) (by decide)) (pv 6) (pv 6) ⟨rfl,rfl,rfl,rfl⟩))))))) (zh (jC (Jk WQ Wr Wq yd (pv 2) (za (pv 4) zc))))))) (zh (zH (qm (za (pv 2) (za (zu qq (by rfl) T.qZ W3 (za (pv 1) zc)) zc)))))))),?_⟩;have ul:us.length=gs.length:=Paired.length hM;have g8:=M.hi;refine⟨_,rfl,sz_1,fun sg hsg=>?_⟩;have z1:=zd (o:=.lst [V.str "o"]) hsg;refine⟨d,sg,us,gs,[111],rfl,z1 _ _ hd,hM.mono z1,M.hi,M.t8,by rw[zb,zpZ];rfl,fun sa sv H2 hsa zoS hc2 s2=>?_⟩;have hcs:Cel H2 sv (stM gs):=hc2;have s02:=z1.trans s2;refine⟨Jw,fun l hl=>?_⟩;have z3:=zd (o:=.lst []) hl;have s03:=s02.trans z3;have hl3:upd H2 l (.lst []) l=some (.lst []):=zb;have hsa3:=z3 _ _ zoS;have hcs3:=hcs.mono z3;have lfree:=s02.free hl;generalize upd H2 l (.lst [])=H3 at *
  refine⟨_,rfl,d,_,rfl,.inl (SqL.of (s03 _ _ hd)),_,rfl,by lia,by lia,?_⟩;rw[UR,ul];refine qO (lo:=0) (n:=gs.length) (fun i σ H'=>∃(v3 v4 v5 v6:Option V) (rs:List Str),σ=[some (.ref d),some (.ref sa),some (.ref l),v3,v4,v5,v6]/\zq H H'/\zns H3 H' l/\H' l=some (.lst (rs.map V.str))/\codes rs=(gs.take i).mapIdx (zfW gs)) ⟨_,_,_,_,[],rfl,s03,fun _ _ _ e=>e,hl3,rfl⟩ ?_ ?_
  ·rintro i σ H4 hi ⟨v3,v4,v5,v6,rs,rfl,s4,s34,hl4,er⟩;obtain⟨t,ht⟩:∃t,gs[i]?=some t:=⟨_,XZ hi⟩;have tl:=M.t8 t (X7 ht);obtain⟨ra,hra,hra0⟩:=zen (hM.mono s4) ht;have hat:atI us (0+(i:Int))=some (V.ref ra):=by
    rw[V1];exact je hra
   have nsa:sa≠l:=zj zoS hl;have hsa4:=s34 _ _ nsa hsa3;have hcs4:Cel H4 sv (stM gs):=Cel.one s34 hl3 hcs3;have zl:(t.map fun c=>V.str ⟨#[c]⟩).length=t.length:=Y1 _;refine⟨_,rfl,_,rfl,d,_,_,_,rfl,rfl,SqL.of (s4 _ _ hd),hat,ra,_,rfl,.inl (SqL.of hra0),_,rfl,by rw[zl];lia,by rw[zl];lia,?_⟩;rw[UR,zl];refine qO (lo:=0) (n:=t.length) (fun j σ H'=>∃(v5 v6:Option V) (tx:Str),σ=[some (.ref d),some (.ref sa),some (.ref l),some (.int (0+(i:Int))),some (.str tx),v5,v6]/\zq H4 H'/\tx.cps.toList=(t.take j).mapIdx (zaQ gs i)) ⟨_,_,_,rfl,zq.refl _,rfl⟩ ?_ ?_
   ·rintro j σ H5 hj ⟨v5,v6,tx,rfl,s5,et⟩;obtain⟨k,hk⟩:∃k,t[j]?=some k:=⟨_,XZ hj⟩;obtain⟨n,n1,n8,_,hn⟩:=M.ex;have km:=(hn t (X7 ht)).2 k (X7 hk);have txl:tx.length=j:=by
     rw[<- show tx.cps.toList.length=tx.length from X5,et,U0,XM];lia
    have s45:=s4.trans s5;refine⟨_,rfl,_,rfl,d,_,_,_,rfl,rfl,SqL.of (s45 _ _ hd),hat,_,rfl,ra,_,_,V.str ⟨#[k]⟩,rfl,rfl,SqL.of (s5 _ _ hra0),(by rw[V1];exact je (by rw[XD,hk];rfl)),?_⟩;have fin:∀(c:Nat) (H6:Hp) (v6:V),zq H5 H6->c=zaQ gs i j k->∃(v5 v6':Option V) (tx':Str),[some (V.ref d),some (V.ref sa),some (V.ref l),some (V.int (0+(i:Int))),some (V.str (tx++⟨#[c]⟩)),some (V.int (0+(j:Int))),some v6]=[some (V.ref d),some (V.ref sa),some (V.ref l),some (V.int (0+(i:Int))),some (V.str tx'),v5,v6']/\zq H4 H6/\tx'.cps.toList=(t.take (j+1)).mapIdx (zaQ gs i):=fun c H6 v6 s6 ec=>by
     refine⟨_,_,_,rfl,s5.trans s6,?_⟩;rw[za5 _ hk,<- et,<- ec];show (tx.cps++#[c]).toList=_;rw[WO]
    refine⟨fun σ' H'=>∃c:Nat,σ'=[some (.ref d),some (.ref sa),some (.ref l),some (.int (0+(i:Int))),some (.str tx),some (.int (0+(j:Int))),some (.str ⟨#[c]⟩)]/\zq H5 H'/\(jb (ZL [] [(.inr "o",V.str "?"),(.inr "c",V.str "?")]) (.inr ⟨#[c]⟩)).getD (V.str ⟨#[c]⟩)=V.str ⟨#[zaQ gs i j k]⟩,?_,?_⟩
    ·by_cases h46:k=46
     ·have hsa5:=s5 _ _ hsa4;have hcs5:=hcs4.mono s5;have n8':(nrM gs i j).length<=8:=zcv gs (i,j);refine⟨_,rfl,rfl,_,rfl,jT (by rw[h46];decide +kernel) ?_⟩;refine⟨_,rfl,sa,rfl,⟨_,SqL.of hsa5⟩,fun z hz=>?_⟩;refine qk (K:=K) (a:=sa) (xs:=sv) (fun a=>a≠z) ((stM gs).map fun x=>if Cells.near x (i,j)=true then some (zp x) else none) (fun σ=>∃u0,σ=[u0,some (.int (0+(i:Int))),some (.int (0+(j:Int)))]) hz (fun _ h=>h) ⟨_,rfl⟩ (by rw[Y1];exact hcs5.length.symm) (by rw[hcs5.length];exact XX (show (stM gs).length<=64 from XX (Cells.qY (pZ [111]) 0 gs M.t8) (by lia)) (by decide)) (SqL.of hsa5) ?_ ?_
      ·rintro m x o σ H6 hx ho s6 _ ⟨u0,rfl⟩ Y Z yes no;obtain⟨y,hy,ya,rfl,hya⟩:=Cel.get (Cel.mono s6 hcs5) hx;have eo:=jA hy ho;refine⟨_,rfl,_,rfl,_,rfl,yJ,fun tq htq=>?_⟩;have z7:=zd (o:=.tup [V.int (0+(i:Int)),V.int (0+(j:Int))]) htq;refine⟨ya,tq,y,(i,j),rfl,z7 _ _ hya,by rw[zb,V1,V1],_,rfl,?_⟩;by_cases hp:Cells.near y (i,j)=true
       ·rw[if_pos hp] at eo;exact jT hp ⟨_,rfl,yes _ _ _ _ eo ⟨_,rfl⟩ z7 (yK.rdn ⟨ya,rfl,z7 _ _ hya⟩)⟩
       ·rw[if_neg hp] at eo;exact jE (Xh.mpr hp) (no _ _ eo ⟨_,rfl⟩ z7)
      ·rintro ys H6 s6 hz6 hr6;rw[qc] at hr6;have yl:ys.length=(nrM gs i j).length:=(zw.cel hr6).length;have y9:ys.length<9:=by lia
       obtain⟨d1,d2,d3⟩:=zqE ys.length y9;have hlog:((ys.length:Nat):Int).natAbs.log2<1920:=by
        rw[Sa];have:∀d:Nat,d<9->d.log2<1920:=by decide +kernel
        exact this _ y9
       refine⟨z,_,rfl,.inl (SqL.of hz6),_,rfl,hlog,48+ys.length,?_,s6,?_⟩
       ·rw[<- d1];rfl
       ·rw[zoR _ y9,yl];unfold zaQ;rw[if_pos h46]
     ·refine⟨_,rfl,rfl,_,rfl,jE ?_ ⟨k,rfl,zq.refl _,?_⟩⟩
      ·have:∀k∈marks,k≠46->decide (V.str ⟨#[k]⟩=V.str ".")=false:=by decide +kernel
       exact this k km h46
      ·rw[zoQ k km h46];unfold zaQ;rw[if_neg h46]
    ·rintro _ H6 ⟨c,rfl,s6,hg⟩;refine⟨_,rfl,fun dp hdp=>?_⟩;have z7:=zd (o:=.dK []) hdp;have hup:zq H6 (upd (upd H6 dp (.dK [])) dp (.dK (ZL [] [(.inr "o",V.str "?"),(.inr "c",V.str "?")]))):=fun b o e=>by
      rw[zk (zj e hdp)];exact z7 _ _ e
     refine⟨zb,[(.inr "o",V.str "?"),(.inr "c",V.str "?")],rfl,by decide,dp,rfl,.inl ⟨_,.inl zb⟩,_,rfl,_,rfl,_,YX.k (k:=.inr ⟨#[c]⟩) zb,tx,⟨#[zaQ gs i j k]⟩,rfl,hg,?_,fin _ _ _ (s6.trans hup) rfl⟩;rw[txl];exact XX (show j+1<=20 by lia) (by decide)
   ·rintro σ H5 ⟨v5,v6,tx,rfl,s5,et⟩;rw[XA] at et;have hl5:=s5 _ _ hl4;have rl:rs.length<=8:=by
     have:(codes rs).length=((gs.take i).mapIdx (zfW gs)).length:=by rw[er]
     rw[qW,U0,XM] at this;lia
    refine⟨_,rfl,.inl ⟨rfl,_,SqL.of hl5⟩,_,rfl,l,_,_,rfl,rfl,hl5,?_,?_⟩
    ·rw[Y1];exact XG rl (by decide)
    refine⟨_,_,_,_,rs++[tx],rfl,fun b o e=>?_,fun b o nb e=>?_,?_,?_⟩
    ·rw[zk (zj e lfree)];exact s5 _ _ (s4 _ _ e)
    ·rw[zk nb];exact s5 _ _ (s34 _ _ nb e)
    ·rw[zb,Xs];rfl
    ·rw[za5 _ ht,<- er];unfold codes;rw[Xs];show _++[tx.cps.toList]=_;rw[et];rfl
  ·rintro σ H4 ⟨v3,v4,v5,v6,rs,rfl,s4,s34,hl4,er⟩;rw[XA] at er;have nsa:sa≠l:=zj zoS hl;have hsa4:=s34 _ _ nsa hsa3;refine⟨_,rfl,_,rfl,sa,_,rfl,.inl (SqL.of hsa4),yJ,fun p hp=>?_⟩;have z5:=zd (o:=.tup [V.ref l,V.int ((sv.length:Nat):Int)]) hp;refine q p l rs _ (s4.free hp) lfree ⟨?_,z5 _ _ hl4⟩ er (s4.trans z5);rw[zb,hcs3.length]
def thR (m h r:Nat):Nat:=if m%2=1 then h-1-r else r
def zU (m h w:Nat)(c:Nat×Nat):Nat×Nat:=if m/4%2=1 then (thR (m/2) w c.2,thR m h c.1) else (thR m h c.1,thR (m/2) w c.2)
def jS (m h w:Nat)(x:Nat×Nat):Nat×Nat:=if m/4%2=1 then (thR m h x.2,thR (m/2) w x.1) else (thR m h x.1,thR (m/2) w x.2)
def hiT (m h w:Nat):Nat:=if m/4%2=1 then w else h
def wiT (m h w:Nat):Nat:=if m/4%2=1 then h else w
theorem Yz {m h r:Nat}(hr:r<h):thR m h r<h:=by
 unfold thR;split<;>lia
theorem J3 {m h r:Nat}(hr:r<h):thR m h (thR m h r)=r:=by
 unfold thR;split<;>lia
section
variable {m h w:Nat}{c x d:Nat×Nat}
theorem zfZ (h1:c.1<h)(h2:c.2<w):(zU m h w c).1<hiT m h w/\(zU m h w c).2<wiT m h w:=by
 unfold zU hiT wiT;split
 ·exact⟨Yz h2,Yz h1⟩
 ·exact⟨Yz h1,Yz h2⟩
theorem zes (h1:x.1<hiT m h w)(h2:x.2<wiT m h w):(jS m h w x).1<h/\(jS m h w x).2<w:=by
 unfold hiT at h1;unfold wiT at h2;unfold jS;split at h1
 ·rename_i z;rw[if_pos z] at h2 ⊢;exact⟨Yz h2,Yz h1⟩
 ·rename_i z;rw[if_neg z] at h2 ⊢;exact⟨Yz h1,Yz h2⟩
theorem qT (h1:c.1<h)(h2:c.2<w):jS m h w (zU m h w c)=c:=by
 unfold zU jS;split
 ·exact Prod.ext (J3 h1) (J3 h2)
 ·exact Prod.ext (J3 h1) (J3 h2)
theorem zcw (h1:x.1<hiT m h w)(h2:x.2<wiT m h w):zU m h w (jS m h w x)=x:=by
 unfold hiT at h1;unfold wiT at h2;unfold zU jS;split at h1
 ·rename_i z;rw[if_pos z] at h2;rw[if_pos z,if_pos z];exact Prod.ext (J3 h1) (J3 h2)
 ·rename_i z;rw[if_neg z] at h2;rw[if_neg z,if_neg z];exact Prod.ext (J3 h1) (J3 h2)
theorem zf0 {m h r s:Nat}(h1:r<h)(h2:s<h):(thR m h r<=thR m h s+1/\thR m h s<=thR m h r+1)↔(r<=s+1/\s<=r+1):=by
 unfold thR;split<;>lia
theorem zcx (h1:c.1<h)(h2:c.2<w)(h3:d.1<h)(h4:d.2<w):Cells.near (zU m h w c) (zU m h w d)=Cells.near c d:=by
 have ne:zU m h w c=zU m h w d↔c=d:=⟨fun e=>by rw[<- qT (m:=m) h1 h2,e,qT h3 h4],fun e=>by rw[e]⟩;rw[WV,Cells.yy,Cells.yy,ne];have a:=zf0 (m:=m) h1 h3;have b:=zf0 (m:=m/2) h2 h4;unfold zU;split
 ·show (_/\_)/\(_/\_)/\_↔_;rw[a,b];exact⟨fun z=>⟨z.2.1,z.1,z.2.2⟩,fun z=>⟨z.2.1,z.1,z.2.2⟩⟩
 ·show (_/\_)/\(_/\_)/\_↔_;rw[a,b]
end
def zbt:Sp:=fun vs H Q _=>∃(ca:Addr) (c:Nat×Nat) (m h w:Nat),vs=[.ref ca,.int (m:Nat),.int (h:Nat),.int (w:Nat)]/\H ca=some (.tup [.int (c.1:Nat),.int (c.2:Nat)])/\c.1<h/\c.2<w/\∀d,H d=none->Q (.ref d) (upd H d (.tup [.int ((zU m h w c).1:Nat),.int ((zU m h w c).2:Nat)]))
theorem yH:zF ["_law_cell","_law_way","_law_high","_law_wide","_law_row","_law_column"] ["_law_cell","_law_way","_law_high","_law_wide"] (zf JW):=⟨rfl,rfl,rfl,by decide +kernel,rfl,by decide +kernel,by decide +kernel⟩
theorem zak (T:Txt mg){f:Addr}{fd:Xz}(D:zm K mg "_law_there" JW ["_law_cell","_law_way","_law_high","_law_wide"] f fd):qb P w K mg base CX0 1 f fd ["_law_cell","_law_way","_law_high","_law_wide"] zbt:=by
 refine D.F.ok yH (fun vs H Q E h=>?_) (fun cdv A outer s H vs Q E hr h=>?_)
 ·obtain⟨ca,c,m,h,w,rfl,_⟩:=h;rfl
 ·obtain⟨ca,c,m,h,w,rfl,hca,h1,h2,q⟩:=h;refine⟨_,(ze (zdN (pvS 0) (yN rfl (zM (zo (i:=4) yH.nd rfl (XE rfl)) (zM (zo (i:=5) yH.nd rfl (XE rfl)) jD)))) (QJ (jg (qt Zc (zE zbp (pvS 1) zg) zg (qa _)) (zh (zz (i:=4) yH.nd rfl (XE rfl) (zE xx (zE xx (pvS 2) zg) (pvS 4)))) qi) (QJ (jg (qt Zc (zE zbp (zE YK (pvS 1) zg) zg) zg (qa _)) (zh (zz (i:=5) yH.nd rfl (XE rfl) (zE xx (zE xx (pvS 3) zg) (pvS 5)))) qi) (ze (jg (qt Zc (zE zbp (zE YK (pvS 1) zg) zg) zg (qa _)) (zh (zH (qm (za (pvS 5) (za (pvS 4) zc))))) qi) (zh (zH (qm (za (pvS 4) (za (pvS 5) zc))))))))),?_⟩;refine⟨_,rfl,ca,_,rfl,SqT.of hca,rfl,_,_,rfl,_,_,rfl,rfl,?_⟩;refine⟨fun σ' H'=>σ'=[some (.ref ca),some (.int (m:Nat)),some (.int (h:Nat)),some (.int (w:Nat)),some (.int (thR m h c.1:Nat)),some (.int (c.2:Nat))]/\H'=H,?_,?_⟩
  ·refine⟨_,rfl,_,_,rfl,rfl,(by show (0:Int)<2;decide),rfl,_,rfl,?_⟩;unfold thR;by_cases hm:m%2=1
   ·refine jT (decide_eq_true (congrArg V.int (by lia))) ?_;refine⟨_,rfl,_,_,rfl,rfl,_,rfl,_,_,rfl,rfl,?_,rfl⟩;rw[if_pos hm,show ((h-1-c.1:Nat):Int)=((h:Nat):Int)-1-((c.1:Nat):Int) by lia];rfl
   ·refine jE (decide_eq_false fun e=>hm (by have:=V.int.inj e;lia)) ?_;refine⟨?_,rfl⟩;rw[if_neg hm];rfl
  rintro σ' H' ⟨rfl,rfl⟩;refine⟨fun σ' H0=>σ'=[some (.ref ca),some (.int (m:Nat)),some (.int (h:Nat)),some (.int (w:Nat)),some (.int (thR m h c.1:Nat)),some (.int (thR (m/2) w c.2:Nat))]/\H0=H',?_,?_⟩
  ·refine⟨_,rfl,_,_,rfl,rfl,JP.small (by decide) (by decide),_,_,rfl,rfl,(by show (0:Int)<2;decide),rfl,_,rfl,?_⟩;by_cases hm:m/2%2=1
   ·refine jT (decide_eq_true (congrArg V.int (by lia))) ?_;refine⟨_,rfl,_,_,rfl,rfl,_,rfl,_,_,rfl,rfl,?_,rfl⟩;unfold thR;rw[if_pos hm,show ((w-1-c.2:Nat):Int)=((w:Nat):Int)-1-((c.2:Nat):Int) by lia];rfl
   ·refine jE (decide_eq_false fun e=>hm (by have:=V.int.inj e;lia)) ?_;refine⟨?_,rfl⟩;unfold thR;rw[if_neg hm]
  rintro σ' H0 ⟨rfl,rfl⟩;refine⟨_,rfl,_,_,rfl,rfl,JP.small (by decide) (by decide),_,_,rfl,rfl,(by show (0:Int)<2;decide),rfl,_,rfl,?_⟩;unfold zU at q;by_cases hm:m/4%2=1
  ·rw[if_pos hm] at q;refine jT (decide_eq_true (congrArg V.int (by lia))) ?_;exact⟨_,rfl,_,rfl,yJ,fun d hd=>q d hd⟩
  ·rw[if_neg hm] at q;refine jE (decide_eq_false fun e=>hm (by have:=V.int.inj e;lia)) ?_;exact⟨_,rfl,_,rfl,yJ,fun d hd=>q d hd⟩
theorem zmS (kvs:List (List Key×V))(k:List Key)(v:V):(putK kvs k v).length<=kvs.length+1:=by
 unfold putK;split
 ·rw[Y1];exact V4 _
 ·rw[X4];exact XU _
theorem zmT {c d:Nat×Nat}(h:c≠d):yL c≠yL d:=fun e=>h (by
 unfold yL at e;injection e with a b
 injection b with b _
 injection a with a
 injection b with b
 exact Prod.ext (by lia) (by lia))
theorem join_one:∀ts:List Nat,(OV "" (ts.map fun c=>(⟨#[c]⟩:Str)))=⟨ts.toArray⟩
 | []=>rfl
 | [c]=>rfl
 | c::c'::r=>by
  have ih:=join_one (c'::r);show (⟨#[c]⟩:Str)++("":Str)++OV "" ((c'::r).map fun c=>(⟨#[c]⟩:Str))=_;rw[ih];show (⟨#[c]++(("":Str).cps)++(c'::r).toArray⟩:Str)=_;congr 1;apply Array.ext';rw[WO,WO];rfl
theorem zg0 (ts:List Nat)(h:ts.length<=8):(((ts.map fun c=>(⟨#[c]⟩:Str)).map (·.length)).sum+(ts.map fun c=>(⟨#[c]⟩:Str)).length*("":Str).length)<=16777216:=by
 have e0:("":Str).length=0:=by decide +kernel
 have e1:∀l:List Nat,((l.map fun c=>(⟨#[c]⟩:Str)).map (·.length)).sum=l.length:=fun l=>by
  induction l with
  | nil=>rfl
  | cons c r ih =>
   rw[XB,XB,RS,ih];show 1+r.length=r.length+1;lia
 rw[e0,e1];lia
def zaR (m:Nat)(rs:List Str)(w i:Nat):List Nat:=(WC (wiT m rs.length w)).map fun j=>Cells.sgn (codes rs) (jS m rs.length w (i,j))
def qH (m:Nat)(rs:List Str)(w:Nat):List Str:=(WC (hiT m rs.length w)).map fun i=>⟨(zaR m rs w i).toArray⟩
structure Wide (rs:List Str)(w:Nat):Prop where
 h1:1<=rs.length
 h8:rs.length<=8
 w1:1<=w
 w8:w<=8
 r:∀t∈rs,t.cps.size=w
theorem Wide.sgn {rs:List Str}{w:Nat}(W:Wide rs w){i j:Nat}(hi:i<rs.length)(hj:j<w):∃t,rs[i]?=some t/\t.length<=Xx/\t.cps.toList[j]?=some (Cells.sgn (codes rs) (i,j)):=by
 obtain⟨t,ht⟩:∃t,rs[i]?=some t:=⟨_,XZ hi⟩;have tw:=W.r t (X7 ht);have w8:=W.w8;obtain⟨k,hk⟩:∃k,t.cps.toList[j]?=some k:=⟨_,XZ (by rw[X5];lia)⟩;refine⟨t,ht,XX (show t.cps.size<=8 by lia) (by decide),?_⟩;rw[Cells.Qo (qV ht) hk];exact hk
def Told (m:Nat)(rs:List Str)(w i j:Nat)(kvs:List (List Key×V)):Prop:=∀c:Nat×Nat,c.1<rs.length->c.2<w->(c.1<i\/(c.1=i/\c.2<j))->jb kvs (yL (zU m rs.length w c))=some (V.str ⟨#[Cells.sgn (codes rs) c]⟩)
def zf1:Sp:=fun vs H Q _=>∃(l:Addr) (rs:List Str) (m w:Nat),vs=[.ref l,.int (m:Nat)]/\H l=some (.lst (rs.map V.str))/\Wide rs w/\∀(d:Addr) (H':Hp),H' d=some (.lst ((qH m rs w).map V.str))->zq H H'->Q (.ref d) H'
theorem qN:zF ["_law_rows","_law_way","_law_high","_law_wide","_law_signs","_law_row","_law_column"] ["_law_rows","_law_way"] (zf Ja):=⟨rfl,rfl,rfl,by decide +kernel,rfl,by decide +kernel,by decide +kernel⟩
theorem zcQ (T:Txt mg)(Z:Prog K mg){f:Addr}{fd:Xz}(D:zm K mg "_law_turned" Ja ["_law_rows","_law_way"] f fd):qb P w K mg base CX0 2 f fd ["_law_rows","_law_way"] zf1:=by
 obtain⟨zf2,zet,yq⟩:=Z.law_there;have  J4:qb P w K mg base CX0 1 _ _ ["_law_cell","_law_way","_law_high","_law_wide"] zbt:=zak T yq;refine D.F.ok qN (fun vs H Q E h=>?_) (fun cdv A outer s H vs Q E hr h=>?_)
 ·obtain⟨l,rs,m,w,rfl,_⟩:=h;rfl
 ·obtain⟨l,rs,m,w,rfl,hl,W,q⟩:=h;refine⟨_,(ze (zz (i:=2) qN.nd rfl (XE rfl) (zu zT (by rfl) T.qZ W3 (za (pvS 0) zc))) (ze (zz (i:=3) qN.nd rfl (Vp rfl) (zu ZH (by rfl) T.qZ W3 (za (zL xE (pvS 0) zg (fun _ _=>rfl)) zc))) (@ze _ _ _ _ _ (@zz _ _ 4 _ _ _ _ qN.nd rfl (Vp rfl) zjN (by rfl) (.inl rfl)) (ze (qD W1 rfl (qU (by rfl) T.jf (za (pvS 2) zc)) (zo (i:=5) qN.nd rfl (XE rfl)) (zh (qD W1 rfl (qU (by rfl) T.jf (za (pvS 3) zc)) (zo (i:=6) qN.nd rfl (XE rfl)) (zh (zlW (u1 hr.units) (pvS 4) (pc0 J4 hr yq (za (qm (za (pvS 5) (za (pvS 6) zc))) (za (pvS 1) (za (pvS 2) (za (pvS 3) zc))))) (zL zea (zL xE (pvS 0) (pvS 5) (fun _ _=>rfl)) (pvS 6) (fun _ _=>rfl)) rfl))))) (QJ (jg (qt Zc (zE zbp (zE YK (pvS 1) zg) zg) zg (qa _)) (zh (zdN (qm (za (pvS 3) (za (pvS 2) zc))) (yN rfl (zM (zo (i:=2) qN.nd rfl (XE rfl)) (zM (zo (i:=3) qN.nd rfl (Vp rfl)) jD))))) qi) (zh (zH (zeS (N:=["_law_row","_law_signs","_law_wide"]) (src:=[none,some 4,some 3]) (JR.byRfl (y:="_law_row") rfl (fun _ _=>rfl) (fun _=>rfl) (by decide +kernel) (by decide +kernel) (by rfl) rfl (by rfl)) rfl (qU (by rfl) T.jf (za (pvS 2) zc)) (fun _ _ _ _ _=>(zo (i:=0) (by show W7 (["_law_row","_law_signs","_law_wide"]:List Str);decide +kernel) rfl (Vp rfl))) (fun _ _ _ _ _=>qo) (fun _ _ _ _ _=>(@zoe _ K _ _ _ _ _ _ _ _ _ _ _ (by rfl) PySem.F.plainAttrs_str PySem.F.slot_str_join PySem.F.type_str_join (zke (K:=K) (by rfl)) jF (za (z9 (N:=["_law_column","_law_signs","_law_row"]) (src:=[none,some 1,some 0]) (zP.byRfl rfl (by decide +kernel) (by decide +kernel) (by rfl) rfl (by rfl)) (by rfl) (qU (by rfl) T.jf (za (pvS 2) zc)) (fun _ _ _ _ _=>(zo (i:=0) (by show W7 (["_law_column","_law_signs","_law_row"]:List Str);decide +kernel) rfl (XE rfl))) (fun _ _ _ _ _=>qo) (fun _ _ _ _ _=>(zlV (u1 hr.units) (pvS 1) (qm (za (pvS 2) (za (pvS 0) zc))) (fun _ _=>rfl)))) zc) (by rfl) (by rfl) (by rfl) (by rfl) (by rfl))))))))))),?_⟩;have h1:=W.h1;have h8:=W.h8;have w8:=W.w8;obtain⟨t0,ht0⟩:∃t,rs[0]?=some t:=⟨_,XZ (by lia)⟩;have tw:t0.length=w:=W.r t0 (X7 ht0);have ix:(rs.map V.str)[0]?=some (V.str t0):=by
   rw[XD,ht0];rfl
  refine⟨_,rfl,l,_,rfl,.inl (SqL.of hl),_,rfl,l,_,0,_,rfl,rfl,SqL.of hl,je (j:=0) ix,t0,rfl,by rw[tw];exact XX w8 (by decide),fun dd hdd=>?_⟩;rw[Y1,tw];have y1:=zd (o:=.dT []) hdd;refine⟨_,rfl,_,rfl,by lia,by lia,?_⟩;rw[show (((rs.length:Nat):Int)).toNat=rs.length by lia];refine qO (lo:=0) (n:=rs.length) (fun i σ H'=>∃(w5 w6:Option V) (kvs:List (List Key×V)),σ=[some (.ref l),some (.int (m:Nat)),some (.int (rs.length:Nat)),some (.int (w:Nat)),some (.ref dd),w5,w6]/\zq H H'/\H' dd=some (.dT kvs)/\kvs.length<=8*i/\Told m rs w i 0 kvs) ⟨_,_,[],rfl,y1,zb,WZ _,fun c _ _ z=>by lia⟩ ?_ ?_
  ·rintro i σ H1 hi ⟨w5,w6,kvs,rfl,s1,hd1,kl,hT⟩;rw[V1];refine⟨_,rfl,_,rfl,by lia,by lia,?_⟩;rw[show (((w:Nat):Int)).toNat=w by lia];refine qO (lo:=0) (n:=w) (fun j σ H'=>∃(w6:Option V) (kvs:List (List Key×V)),σ=[some (.ref l),some (.int (m:Nat)),some (.int (rs.length:Nat)),some (.int (w:Nat)),some (.ref dd),some (.int (i:Nat)),w6]/\zq H H'/\H' dd=some (.dT kvs)/\kvs.length<=8*i+j/\Told m rs w i j kvs) ⟨_,kvs,rfl,s1,hd1,kl,hT⟩ ?_ ?_
   ·rintro j σ H2 hj ⟨w6,kvs,rfl,s2,hd2,kl,hT⟩;rw[V1];obtain⟨t,ht,t8,hk⟩:=W.sgn hi hj;have ix2:(rs.map V.str)[i]?=some (V.str t):=by
     rw[XD,ht];rfl
    refine⟨_,rfl,_,rfl,l,_,_,_,rfl,rfl,SqL.of (s2 _ _ hl),je ix2,_,rfl,t,_,_,rfl,rfl,t8,je hk,_,rfl,_,rfl,_,rfl,yJ,fun ca hca=>?_⟩;have y3:=zd (o:=.tup [.int (i:Nat),.int (j:Nat)]) hca;refine⟨_,rfl,_,rfl,_,rfl,ca,(i,j),m,rs.length,w,rfl,zb,hi,hj,fun d hd=>?_⟩;have y4:=zd (o:=.tup [.int ((zU m rs.length w (i,j)).1:Nat),.int ((zU m rs.length w (i,j)).2:Nat)]) hd;have s4:=s2.trans (y3.trans y4);have hd4:=(y3.trans y4) _ _ hd2;refine⟨dd,_,rfl,zjJ.t (k:=yL (zU m rs.length w (i,j))) hd4 zb (XG (show kvs.length<=100 by lia) (by decide)),?_⟩;have pl:=zmS kvs (yL (zU m rs.length w (i,j))) (V.str ⟨#[Cells.sgn (codes rs) (i,j)]⟩);refine⟨_,_,rfl,fun b o e=>?_,zb,by lia,fun c c1 c2 hc=>?_⟩
    ·rw[zk (zj e hdd)];exact s4 _ _ e
    ·rw[zbE];by_cases e:c=(i,j)
     ·rw[e,if_pos rfl]
     ·rw[if_neg (zmT fun z=>e ?_)]
      ·refine hT c c1 c2 ?_;have:¬ (c.1=i/\c.2=j):=fun z=>e (Prod.ext z.1 z.2);lia
      ·rw[<- qT (m:=m) c1 c2,z,qT hi hj]
   ·rintro σ H2 ⟨w6,kvs,rfl,s2,hd2,kl,hT⟩;exact⟨_,_,kvs,rfl,s2,hd2,by lia,fun c c1 c2 hc=>hT c c1 c2 (by lia)⟩
  rintro σ H1 ⟨w5,w6,kvs,rfl,s1,hd1,kl,hT⟩;refine⟨fun σ' H'=>σ'=[some (.ref l),some (.int (m:Nat)),some (.int (hiT m rs.length w:Nat)),some (.int (wiT m rs.length w:Nat)),some (.ref dd),w5,w6]/\zq H1 H',?_,?_⟩
  ·refine⟨_,rfl,_,_,rfl,rfl,JP.small (by decide) (by decide),_,_,rfl,rfl,(by show (0:Int)<2;decide),rfl,_,rfl,?_⟩;unfold hiT wiT;by_cases hm:m/4%2=1
   ·refine jT (decide_eq_true (congrArg V.int (by lia))) ?_;rw[if_pos hm,if_pos hm];refine⟨_,rfl,_,rfl,yJ,fun tp htp=>?_⟩;exact⟨tp,_,rfl,SqT.of zb,rfl,_,_,rfl,_,_,rfl,rfl,rfl,zd htp⟩
   ·refine jE (decide_eq_false fun e=>hm (by have:=V.int.inj e;lia)) ?_;rw[if_neg hm,if_neg hm];exact⟨rfl,zq.refl _⟩
  rintro σ' H2 ⟨rfl,s2⟩;have hb:hiT m rs.length w<=8/\wiT m rs.length w<=8:=by
   unfold hiT wiT;split<;>exact⟨by lia,by lia⟩
  refine⟨_,rfl,_,rfl,by lia,by lia,fun z hz=>?_⟩;rw[show (((hiT m rs.length w:Nat):Int)).toNat=hiT m rs.length w by lia];have hd2:=s2 _ _ hd1;have tl:(qH m rs w).length=hiT m rs.length w:=by
   unfold qH;rw[Y1,WU]
  have ta:∀{i},i<hiT m rs.length w->(qH m rs w)[i]?=some ⟨(zaR m rs w i).toArray⟩:=fun {i} hi=>by
   unfold qH;rw[XD,VQ hi];rfl
  refine Qj (lo:=0) (n:=hiT m rs.length w) (fun i σ' H'=>∃(u0:Option V),σ'=[u0,some (.ref dd),some (.int (wiT m rs.length w:Nat))]/\zq H2 H'/\H' z=some (.lst (((qH m rs w).take i).map V.str))) ⟨_,rfl,zd hz,zb⟩ ?_ ?_
  ·rintro i σ' H3 hi ⟨u0,rfl,s3,hz3⟩;rw[V1];unfold JO;refine Za ?_;refine⟨rfl,_,rfl,_,rfl,by lia,by lia,fun y hy=>?_⟩;rw[show (((wiT m rs.length w:Nat):Int)).toNat=wiT m rs.length w by lia];refine Qj (lo:=0) (n:=wiT m rs.length w) (fun j σ' H'=>∃(u0:Option V),σ'=[u0,some (.ref dd),some (.int (i:Nat))]/\zq H3 H'/\H' y=some (.lst ((((zaR m rs w i).take j).map fun c=>(⟨#[c]⟩:Str)).map V.str))) ⟨_,rfl,zd hy,zb⟩ ?_ ?_
   ·rintro j σ' H4 hj ⟨u0,rfl,s4,hy4⟩;rw[V1];refine Za ?_;refine⟨_,rfl,_,rfl,_,rfl,yJ,fun ca hca=>?_⟩;have y5:=zd (o:=.tup [.int (i:Nat),.int (j:Nat)]) hca;have bi:=zes (m:=m) (h:=rs.length) (w:=w) (x:=(i,j)) hi hj;have hv:=hT (jS m rs.length w (i,j)) bi.1 bi.2 (.inl bi.1);rw[zcw hi hj] at hv;have hd5:=(s3.trans (s4.trans y5)) _ _ hd2;have hg:YX _ dd (.ref ca) (jb kvs (yL (i,j))):=YX.t (k:=yL (i,j)) hd5 (zb (H:=H4) (a:=ca) (o:=.tup [.int (i:Nat),.int (j:Nat)]));rw[hv] at hg;have rj:(zaR m rs w i)[j]?=some (Cells.sgn (codes rs) (jS m rs.length w (i,j))):=by
     unfold zaR;rw[XD,VQ hj];rfl
    refine⟨dd,_,rfl,hg,_,y5 _ _ hy4,?_,_,rfl,fun b o e=>?_,?_⟩
    ·rw[Y1,Y1,XM];exact XG (show min j (zaR m rs w i).length<=8 by lia) (by decide)
    ·rw[zk (zj e hy)];exact y5 _ _ (s4 _ _ e)
    ·rw[zb,take_snoc rj,Xs,Xs];rfl
   rintro σ' H4 ⟨u0,rfl,s4,hy4⟩;have rl:(zaR m rs w i).length=wiT m rs.length w:=by
    unfold zaR;rw[Y1,WU]
   rw[WE (by lia)] at hy4;refine⟨_,y,_,rfl,rfl,SqL.of hy4,zg0 _ (by lia),_,s4 _ _ hz3,?_,_,rfl,fun b o e=>?_,?_⟩
   ·rw[Y1,XM];exact XG (show min i (qH m rs w).length<=8 by lia) (by decide)
   ·rw[zk (zj e hz)];exact s4 _ _ (s3 _ _ e)
   ·rw[zb,take_snoc (ta hi),Xs,join_one];rfl
  ·rintro σ' H3 ⟨u0,rfl,s3,hz3⟩;rw[WE (by lia)] at hz3;exact q z H3 hz3 (s1.trans (s2.trans s3))
theorem zlm (rs:List Str)(c:Nat×Nat):clA rs c=(zK rs).filter fun x=>Cells.near x c:=by
 unfold clA zI zK;rw[VX];have e:Cells.zB yM 0 (codes rs)=(Cells.zB qj 0 (codes rs)).filter fun x=>yM (Cells.sgn (codes rs) x):=by
  rw[Cells.all_filter];refine Cells.Yn (fun c=>?_) 0 _;unfold yM qj;by_cases h:c=63
  ·subst h;rfl
  ·rw[decide_eq_false h,Si]
 rw[e,VX];refine VZ fun x _=>?_;rw[RT];rfl
theorem Wide.mem {rs:List Str}{w:Nat}(W:Wide rs w){p:Nat->Bool}{x:Nat×Nat}:x∈Cells.zB p 0 (codes rs)↔x.1<rs.length/\x.2<w/\p (Cells.sgn (codes rs) x)=true:=by
 constructor
 ·intro h;obtain⟨t,k,ht,hk,hp,es⟩:=zV h;have a:=(X0.mp ht).1;have b:=(X0.mp hk).1;rw[X5,W.r t (X7 ht)] at b;exact⟨a,b,by rw[es];exact hp⟩
 ·rintro⟨a,b,d⟩;obtain⟨t,ht,_,hk⟩:=W.sgn a b;have:=Jb (p:=p) (i:=0) (qV ht) hk d;rwa [VC] at this
theorem zh7 (p:Nat->Bool)(i:Nat):∀(j:Nat) (t:List Nat),(Cells.zR p i j t).length<=t.length
 | _,[]=>XU _
 | j,c::r=>by
  have:=zh7 p i (j+1) r;show ((if p c=true then [(i,j)] else [])++Cells.zR p i (j+1) r).length<=r.length+1;rw[X4];split
  ·show 1+_<=_;lia
  ·show 0+_<=_;lia
theorem zh8 (p:Nat->Bool){w:Nat}:∀(i:Nat) (gs:List (List Nat)),(∀t∈gs,t.length<=w)->(Cells.zB p i gs).length<=gs.length*w
 | _,[],_=>WZ _
 | i,t::r,h=>by
  have a:=zh8 p (i+1) r fun u hu=>h u (XR _ hu);have b:=zh7 p i 0 t;have d:=h t XW;show (Cells.zR p i 0 t++Cells.zB p (i+1) r).length<=(r.length+1)*w;rw[X4,OU];lia
section
variable {rs:List Str}{w m:Nat}
theorem zal:(qH m rs w).length=hiT m rs.length w:=by
 unfold qH;rw[Y1,WU]
theorem Wide.turn (W:Wide rs w):Wide (qH m rs w) (wiT m rs.length w):=by
 have a:=W.h1;have b:=W.h8;have c:=W.w1;have d:=W.w8;refine⟨?_,?_,?_,?_,fun t ht=>?_⟩
 ·rw[zal];unfold hiT;split<;>assumption
 ·rw[zal];unfold hiT;split<;>assumption
 ·unfold wiT;split<;>assumption
 ·unfold wiT;split<;>assumption
 ·obtain⟨i,_,rfl⟩:=XQ.mp ht;show (zaR m rs w i).toArray.size=_;unfold zaR;rw[Xr,Y1,WU]
theorem zcy {x:Nat×Nat}(h1:x.1<hiT m rs.length w)(h2:x.2<wiT m rs.length w):Cells.sgn (codes (qH m rs w)) x=Cells.sgn (codes rs) (jS m rs.length w x):=by
 refine Cells.Qo (t:=zaR m rs w x.1) ?_ ?_
 ·unfold codes qH;rw[Ws,XD,VQ h1];rfl
 ·unfold zaR;rw[XD,VQ h2];rfl
theorem Wide.turn_mem (W:Wide rs w){p:Nat->Bool}{x:Nat×Nat}:x∈Cells.zB p 0 (codes (qH m rs w)) ↔ ∃c∈Cells.zB p 0 (codes rs),zU m rs.length w c=x:=by
 rw[W.turn.mem,zal];constructor
 ·rintro⟨a,b,d⟩;rw[zcy a b] at d;have e:=zes a b;exact⟨_,W.mem.mpr ⟨e.1,e.2,d⟩,zcw a b⟩
 ·rintro⟨c,hc,rfl⟩;obtain⟨a,b,d⟩:=W.mem.mp hc;have e:=zfZ (m:=m) a b;refine⟨e.1,e.2,?_⟩;rw[zcy e.1 e.2,qT a b];exact d
theorem zjl {c d:Nat×Nat}(h1:c.1<rs.length)(h2:c.2<w)(h3:d.1<rs.length)(h4:d.2<w)(e:zU m rs.length w c=zU m rs.length w d):c=d:=by
 rw[<- qT (m:=m) h1 h2,e,qT h3 h4]
theorem YW {l:List (Nat×Nat)}(h:l.Nodup)(b:∀c∈l,c.1<rs.length/\c.2<w):(l.map (zU m rs.length w)).Nodup:=by
 unfold W7;rw[Wm];exact List.Pairwise.imp_of_mem (fun {c d} hc hd ne e=>ne (zjl (b c hc).1 (b c hc).2 (b d hd).1 (b d hd).2 e)) h
theorem Wide.in_ (W:Wide rs w){p:Nat->Bool}:∀c∈Cells.zB p 0 (codes rs),c.1<rs.length/\c.2<w:=fun c hc=>let z:=W.mem.mp hc;⟨z.1,z.2.1⟩
theorem Wide.yT (W:Wide rs w):(zK (qH m rs w)).Perm ((zK rs).map (zU m rs.length w)) :=
 (W2 (jd _) (YW (jd rs) W.in_)).mpr fun x=>by
  rw[XQ];exact W.turn_mem
theorem Wide.cl_perm (W:Wide rs w){o:Nat×Nat}(h1:o.1<rs.length)(h2:o.2<w):(clA (qH m rs w) (zU m rs.length w o)).Perm ((clA rs o).map (zU m rs.length w)):=by
 refine(W2 (Zu _ _) (YW (Zu rs o) fun c hc=>W.in_ c (jY hc))).mpr fun x=>?_;rw[zlm,zlm,X9,XQ];constructor
 ·rintro⟨a,b⟩;obtain⟨c,hc,rfl⟩:=W.turn_mem.mp a;have z:=W.in_ c hc;rw[zcx z.1 z.2 h1 h2] at b;exact⟨c,X9.mpr ⟨hc,b⟩,rfl⟩
 ·rintro⟨c,hc,rfl⟩;obtain⟨a,b⟩:=X9.mp hc;have z:=W.in_ c a;exact⟨W.turn_mem.mpr ⟨c,a,rfl⟩,by rw[zcx z.1 z.2 h1 h2];exact b⟩
theorem zcz {l:List (Nat×Nat)}(b:∀c∈l,c.1<rs.length/\c.2<w):(l.map (zU m rs.length w)).map (jS m rs.length w)=l:=by
 rw[Ws];conv=>rhs;rw[<- Tp l]
 exact Xb fun c hc=>qT (b c hc).1 (b c hc).2
theorem Wide.num (W:Wide rs w){o:Nat×Nat}(h1:o.1<rs.length)(h2:o.2<w):Cells.sgn (codes (qH m rs w)) (zU m rs.length w o)=Cells.sgn (codes rs) o:=by
 have e:=zfZ (m:=m) h1 h2;rw[zcy e.1 e.2,qT h1 h2]
theorem Wide.lay (W:Wide rs w){n:Int}{L:Nat×Nat->Bool}(h:Lay rs n L):Lay (qH m rs w) n fun x=>L (jS m rs.length w x):=by
 have key:∀l:List (Nat×Nat),(∀c∈l,c.1<rs.length/\c.2<w)->(l.map (zU m rs.length w)).countP (fun x=>L (jS m rs.length w x))=l.countP L:=fun l b=>by
  conv=>rhs;rw[<- zcz (m:=m) b,SC]
  rfl
 refine⟨?_,fun o ho=>?_⟩
 ·rw[W.yT.countP_eq,key (zK rs) W.in_];exact h.a
 ·obtain⟨c,hc,rfl⟩:=W.turn_mem.mp ho;have z:=W.in_ c hc;rw[(W.cl_perm z.1 z.2).countP_eq,key _ fun c hc=>W.in_ c (jY hc)];have:=h.o c hc;unfold jj at *
  rw[W.num z.1 z.2];exact this
theorem Wide.nb (W:Wide rs w){o:Nat×Nat}(h:o∈nbC rs):zU m rs.length w o∈nbC (qH m rs w):=by
 obtain⟨a,b⟩:=X9.mp h;have z:=W.in_ o a;refine X9.mpr ⟨W.turn_mem.mpr ⟨o,a,rfl⟩,?_⟩;rw[WI,VR] at b ⊢;intro e;have:=(W.cl_perm (m:=m) z.1 z.2).length_eq;rw[e,Y1] at this;exact b (Wj.mp this.symm)
theorem Wide.nb_back (W:Wide rs w){x:Nat×Nat}(h:x∈nbC (qH m rs w)):∃o∈nbC rs,zU m rs.length w o=x:=by
 obtain⟨a,b⟩:=X9.mp h;obtain⟨o,ho,rfl⟩:=W.turn_mem.mp a;have z:=W.in_ o ho;refine⟨o,X9.mpr ⟨ho,?_⟩,rfl⟩;rw[WI,VR] at b ⊢;intro e;have:=(W.cl_perm (m:=m) z.1 z.2).length_eq;rw[e] at this;exact b (Wj.mp this)
theorem Wide.to (W:Wide rs w)(n:Int)(L:Nat×Nat->Bool):Turn (zU m rs.length w) (zK rs) (qp rs n (Zx rs)) (qp (qH m rs w) n (Zx (qH m rs w))) L fun x=>L (jS m rs.length w x):=by
 refine⟨fun k hk=>?_,fun k hk c hc=>?_,fun c hc=>?_⟩
 ·obtain⟨tg,ht,rfl⟩:=XQ.mp hk;rcases XO.mp ht with ht | ht
  ·obtain⟨o,ho,rfl⟩:=XQ.mp ht;have z:=W.in_ o (X9.mp ho).1;refine⟨_,XQ.mpr ⟨some (zU m rs.length w o),W6 _ (XQ.mpr ⟨_,W.nb ho,rfl⟩),rfl⟩,?_,W.cl_perm z.1 z.2⟩;show ((Cells.sgn _ _:Nat):Int)-48=((Cells.sgn _ _:Nat):Int)-48;rw[W.num z.1 z.2]
  ·rw[VH.mp ht];exact⟨_,XQ.mpr ⟨none,Xy _ XW,rfl⟩,rfl,W.yT⟩
 ·obtain⟨tg,_,rfl⟩:=XQ.mp hk;exact zek.subset hc
 ·have z:=W.in_ c hc;show L (jS _ _ _ _)=_;rw[qT z.1 z.2]
theorem Wide.from (W:Wide rs w)(n:Int)(L:Nat×Nat->Bool):Turn (jS m rs.length w) (zK (qH m rs w)) (qp (qH m rs w) n (Zx (qH m rs w))) (qp rs n (Zx rs)) (fun x=>L (jS m rs.length w x)) L:=by
 refine⟨fun k hk=>?_,fun k hk c hc=>?_,fun c _=>rfl⟩
 ·obtain⟨tg,ht,rfl⟩:=XQ.mp hk;rcases XO.mp ht with ht | ht
  ·obtain⟨x,hx,rfl⟩:=XQ.mp ht;obtain⟨o,ho,rfl⟩:=W.nb_back hx;have z:=W.in_ o (X9.mp ho).1;refine⟨_,XQ.mpr ⟨some o,W6 _ (XQ.mpr ⟨_,ho,rfl⟩),rfl⟩,?_,?_⟩
   ·show ((Cells.sgn _ _:Nat):Int)-48=((Cells.sgn _ _:Nat):Int)-48;rw[W.num z.1 z.2]
   ·have:=(W.cl_perm (m:=m) z.1 z.2).map (jS m rs.length w);rw[zcz fun c hc=>W.in_ c (jY hc)] at this;exact this.symm
  ·rw[VH.mp ht];refine⟨_,XQ.mpr ⟨none,Xy _ XW,rfl⟩,rfl,?_⟩;have:=(W.yT (m:=m)).map (jS m rs.length w);rw[zcz (l:=zK rs) W.in_] at this;exact this.symm
 ·obtain⟨tg,_,rfl⟩:=XQ.mp hk;exact zek.subset hc
theorem Wide.same (W:Wide rs w){n:Int}{L:Nat×Nat->Bool}(hL:Lay rs n L){cl st cl' st':List (Nat×Nat)}(Y:Way (zK rs) (qp rs n (Zx rs)) L cl st)(Cl:Qw (qp rs n (Zx rs)) cl st)
  (Y':Way (zK (qH m rs w)) (qp (qH m rs w) n (Zx (qH m rs w))) (fun x=>L (jS m rs.length w x)) cl' st') (Cl':Qw (qp (qH m rs w) n (Zx (qH m rs w))) cl' st') :
  (∀q,q.Perm (cl.map (zU m rs.length w))->q.Pairwise Cells.lex->q=cl')/\∀q,q.Perm (st.map (zU m rs.length w))->q.Pairwise Cells.lex->q=st':=by
 obtain⟨a1,a2⟩:=zfL (W.to n L) hL.tr.ct Y.le Y'.tr Cl';obtain⟨b1,b2⟩:=zfL (W.from (m:=m) n L) (W.lay hL).tr.ct Y'.le Y.tr Cl;have key:∀(l l':List (Nat×Nat)),l'.Pairwise Cells.lex->(∀c∈l',c∈zK (qH m rs w))->(∀c∈l,zU m rs.length w c∈l')->(∀c∈l',jS m rs.length w c∈l)->∀q,q.Perm (l.map (zU m rs.length w))->q.Pairwise Cells.lex->q=l':=fun l l' x s u v q p xq=>by
  refine zk6 ((W2 (ql xq) (ql x)).mpr fun c=>?_) xq x;rw[p.mem_iff,XQ];constructor
  ·rintro⟨d,hd,rfl⟩;exact u d hd
  ·intro hc;obtain⟨d,hd,rfl⟩:=W.turn_mem.mp (s c hc);have z:=W.in_ d hd;refine⟨d,?_,rfl⟩;have:=v _ hc;rwa [qT z.1 z.2] at this
 exact⟨key cl cl' Y'.x1 Y'.s1 a1 b1,key st st' Y'.x2 Y'.s2 a2 b2⟩
end
theorem zoT {gs:List (List Nat)}{i j:Nat}{t:List Nat}{c:Nat}(h:(Yy gs)[i]?=some t)(hj:t[j]?=some c):∃u k,gs[i]?=some u/\u[j]?=some k/\c=zaQ gs i j k:=by
 unfold Yy at h;rw[Pr] at h;obtain⟨u,hu,rfl⟩:=Vc.mp h;unfold zfW at hj;rw[Pr] at hj;obtain⟨k,hk,rfl⟩:=Vc.mp hj;exact⟨u,k,hu,hk,rfl⟩
theorem zmU {gs:List (List Nat)}{rs:List Str}(h:codes rs=Yy gs){c:Nat×Nat}(hc:c∈stM gs):c∈zK rs:=by
 unfold zK;rw[h,zfX];obtain⟨i,j,t,k,rfl,ht,hk,hp⟩:=Cells.yi hc;have e:k=111:=VH.mp (of_decide_eq_true hp);exact Jb ht hk (by rw[e];rfl)
theorem zln (gs:List (List Nat)):(stM gs).Nodup:=ql (Cells.Jh _ 0 gs)
theorem Ye.lay {gs:List (List Nat)}{rs:List Str}(M:Ye gs)(h:codes rs=Yy gs):Lay rs ((stM gs).length:Nat) fun c=>decide (c∈stM gs):=by
 have key:∀p:Nat×Nat->Bool,((zK rs).filter p).countP (fun c=>decide (c∈stM gs))=((stM gs).filter p).length:=fun p=>by
  rw[VI,VX];refine UD ((W2 ((jd rs).sublist Xa) ((zln gs).sublist Xa)).mpr fun c=>?_);rw[X9,X9,Wo,decide_eq_true_eq];exact⟨fun z=>z.2,fun z=>⟨zmU h z.1,z⟩⟩
 refine⟨?_,fun o ho=>?_⟩
 ·have:=key fun _=>true;rw[TR.mpr fun _ _=>rfl,TR.mpr fun _ _=>rfl] at this;rw[this]
 ·rw[zlm,key];obtain⟨t,c,ht,hk,hp,es⟩:=zV ho;obtain⟨u,k,hu,hk2,ec⟩:=zoT (h ▸ qV ht) hk;obtain⟨n,_,_,_,hn⟩:=M.ex;have km:=(hn u (X7 hu)).2 k (X7 hk2);have k46:k=46:=by
   have hm:k=35\/k=111\/k=99\/k=46:=by simpa[marks] using km
   rcases hm with rfl | rfl | rfl | rfl
   ·rw[ec] at hp;cases hp
   ·rw[ec] at hp;cases hp
   ·rw[ec] at hp;cases hp
   ·rfl
  unfold jj;rw[es,ec,k46];show (((stM gs).filter fun x=>Cells.near x (o.1,o.2)).length:Int)=(((48+(nrM gs o.1 o.2).length:Nat)):Int)-48;unfold nrM;lia
theorem Ye.wide {gs:List (List Nat)}{rs:List Str}(M:Ye gs)(h:codes rs=Yy gs):∃w,Wide rs w/\rs.length*w<=25:=by
 have hl:rs.length=gs.length:=by
  have e:(codes rs).length=(Yy gs).length:=by rw[h]
  rw[qW] at e;unfold Yy at e;rw[U0] at e;exact e
 obtain⟨n,n1,n8,n25,hn⟩:=M.ex;refine⟨n,⟨by rw[hl];exact M.lo,by rw[hl];exact M.hi,n1,n8,fun t ht=>?_⟩,by rw[hl];exact n25⟩;have hm:t.cps.toList∈Yy gs:=by
  rw[<- h];exact Pd ht
 unfold Yy at hm;obtain⟨i,hi,e⟩:=Qb.mp hm;have e2:t.cps.toList.length=n:=by
  rw[<- e];unfold zfW;rw[U0,(hn gs[i] (U5 hi)).1]
 rw[X5] at e2;exact e2
theorem Wide.rows {rs:List Str}{w m:Nat}(W:Wide rs w)(R:Rows bd.cps.toList rs):Rows bd.cps.toList (qH m rs w):=by
 have V:=W.turn (m:=m);refine⟨V.h1,V.h8,_,V.w1,V.w8,fun t ht=>⟨V.r t ht,fun c hc=>?_⟩⟩;obtain⟨i,hi,rfl⟩:=XQ.mp ht;obtain⟨j,hj,rfl⟩:=XQ.mp (show c∈zaR m rs w i from hc);have z:=zes (m:=m) (h:=rs.length) (w:=w) (x:=(i,j)) (Wz.mp hi) (Wz.mp hj);obtain⟨t,ht,_,hk⟩:=W.sgn z.1 z.2;obtain⟨n,_,_,hn⟩:=R.ex;exact(hn t (X7 ht)).mem _ (X7 hk)
structure zmV (rs:List Str):Prop where
 nb:(nbC rs).length<=30
 s9:(zK rs).length<=9
theorem zmV.small {rs:List Str}(F:zmV rs){gs:List (List (Nat×Nat))}(G:Parts.Good (clA rs) (qf rs) gs):∀g∈gs,g.length<=14:=fun g hg=>by
 have a:=(VF hg).length_le;have b:=(yT G).length_eq;rw[X4] at b;have:=F.s9;lia
theorem Wide.fair {rs:List Str}{w:Nat}(W:Wide rs w)(h25:rs.length*w<=25)(h9:(zK rs).length<=9):zmV rs:=by
 refine⟨XX (Xe _ _) ?_,h9⟩;have:=zh8 Q6 (w:=w) 0 (codes rs) fun t ht=>by
  obtain⟨u,hu,rfl⟩:=XQ.mp ht;rw[X5,W.r u hu];exact XU _
 rw[qW] at this;exact XX this (by lia)
theorem Wide.fairT {rs:List Str}{w m:Nat}(W:Wide rs w)(h25:rs.length*w<=25)(h9:(zK rs).length<=9):zmV (qH m rs w):=by
 refine W.turn.fair ?_ ?_
 ·rw[zal];unfold hiT wiT;split
  ·rw[OT];exact h25
  ·exact h25
 ·rw[W.yT.length_eq,Y1];exact h9
theorem zf3 {K:XT}{H1:Hp}{z a:Addr}{us:List V}{cl:List (Nat×Nat)}{m h w:Nat}{Q:VK}(hz:H1 z=none)(ha:H1 a=some (.lst us))(hc:Cel H1 us cl)(hb:∀c∈cl,c.1<h/\c.2<w)(l20:cl.length<=20)
  (q:∀ys H2,zq H1 H2->H2 z=some (.lst ys)->Cel H2 ys (cl.map (zU m h w))->Q (.ref z) H2):Jm (Itl K a) (JO 0) zjB (zeG zbt [] E0 (zeF (tVS 0) (zeF (tVS 1) (zeF (tVS 2) (zeF (tVS 3) zpk))))) Q z [none,some (.int (m:Nat)),some (.int (h:Nat)),some (.int (w:Nat))] (upd H1 z (.lst [])):=by
 refine qB (K:=K) (a:=a) (xs:=us) (fun i σ' H'=>∃(u0:Option V) (ys:List V),σ'=[u0,some (.int (m:Nat)),some (.int (h:Nat)),some (.int (w:Nat))]/\zq H1 H'/\H' z=some (.lst ys)/\Cel H' ys ((cl.take i).map (zU m h w))) ⟨_,[],rfl,zd hz,zb,.nil⟩ (fun i σ' H' _ ⟨_,_,_,s',_⟩=>SqL.of (s' _ _ ha)) ?_ ?_
 ·rintro i v σ' H2 hv ⟨u0,ys,rfl,s2,hz2,hP⟩;obtain⟨c,hci,ca,rfl,hca⟩:=Cel.get (Cel.mono s2 hc) hv;have b:=hb c (X7 hci);unfold JO;refine Za ?_;refine⟨_,rfl,_,rfl,_,rfl,_,rfl,ca,c,m,h,w,rfl,hca,b.1,b.2,fun d hd=>?_⟩;have y3:=zd (o:=.tup [.int ((zU m h w c).1:Nat),.int ((zU m h w c).2:Nat)]) hd;have yl:ys.length<=20:=by
   rw[hP.length,Y1,XM];lia
  have dz:d≠z:=fun e=>by
   rw[e,hz2] at hd;cases hd
  refine⟨ys,y3 _ _ hz2,XG yl (by decide),_,ys++[.ref d],rfl,fun x o e=>?_,zb,?_⟩
  ·rw[zk (zj e hz)];exact y3 _ _ (s2 _ _ e)
  ·rw[take_snoc hci,Xs];refine Cel.append (Cel.into _ _ (y3 _ _ hz2) (hP.mono y3)) (.cons ⟨d,rfl,?_⟩ .nil);rw[zk dz];exact zb
 ·rintro σ' H2 ⟨u0,ys,rfl,s2,hz2,hP⟩;rw[hc.length,XA] at hP;exact q ys H2 s2 hz2 hP
def zh9 (K:XT):Sp:=fun vs H Q _=>∃(a:Addr) (ns:List Int),vs=[.ref a]/\SqL K H a (ns.map V.int)/\ns.length<=63/\∀H',Q (.bl true) H'
section
variable {P:Xn}{w:WW}{K:XT}{mg:Str->Option X8}{base:Heap}{f:Addr}{fd:Xz}{jaa jab:Addr}
theorem Zb:zF ["_law_script","_law_rows","_law_stones","_law_high","_law_wide","_law_clears","_law_others","_law_way","_law_found","_law_due"] ["_law_script"] (zf zb0):=⟨rfl,rfl,rfl,by decide +kernel,rfl,by decide +kernel,by decide +kernel⟩
theorem zoU (T:Txt mg)(jac:Y4 K mg "NoLaying" jaa)(jad:Y4 K mg "TooGreat" jab)(Z:Prog K mg){f:Addr}{fd:Xz}(D:zm K mg "law" zb0 ["_law_script"] f fd):qb P w K mg base CX0 9 f fd ["_law_script"] (zh9 K):=by
 obtain⟨zlx,zlo,qM⟩:=Z.law_cell_at;obtain⟨znt,zmW,J1⟩:=Z.law_mixed;obtain⟨zoV,znu,Z9⟩:=Z.law_mark;obtain⟨znv,zmX,za6⟩:=Z.law_drawn;obtain⟨zoW,znw,Yb⟩:=Z.law_near;obtain⟨znx,zmY,J2⟩:=Z.law_cells;obtain⟨zny,zmZ,za7⟩:=Z.law_board;obtain⟨zf2,zet,yq⟩:=Z.law_there;obtain⟨zm0,zly,zam⟩:=Z.law_turned;obtain⟨zoX,znz,Qy⟩:=Z.thoughts;have  zf4:qb P w K mg base CX0 2 _ _ ["_law_script","_law_most","_law_limit"] (zh5 K):=zeq T za6 qM J1 Z9;have  zf5:qb P w K mg base CX0 2 _ _ ["_law_marks"] zfY:=zer T za7 Yb J2;have  J4:qb P w K mg base CX0 1 _ _ ["_law_cell","_law_way","_law_high","_law_wide"] zbt:=zak T yq;have  zeu:qb P w K mg base CX0 2 _ _ ["_law_rows","_law_way"] zf1:=zcQ T Z zam;have  zcA:qb P w K mg base (CXE P w) 8 _ _ ["board"] zcu:=zfQ T Z jac jad Qy;refine D.F.ok Zb (fun vs H Q E h=>?_) (fun cdv A outer s H vs Q E hr h=>?_)
 ·obtain⟨a,ns,rfl,_⟩:=h;rfl
 ·obtain⟨a,ns,rfl,hS,nl,q⟩:=h;refine⟨_,(ze (zdN (pc0 zf5 hr za7 (za (pc0 zf4 hr za6 (za (pvS 0) (@za _ _ _ _ _ zg (@za _ _ _ _ _ zg zc rfl) rfl))) zc)) (yN rfl (zM (zo (i:=1) Zb.nd rfl (XE rfl)) (zM (zo (i:=2) Zb.nd rfl (XE rfl)) jD)))) (ze (zz (i:=3) Zb.nd rfl (Vp rfl) (zu zT (by rfl) T.qZ W3 (za (pvS 1) zc))) (ze (zz (i:=4) Zb.nd rfl (Vp rfl) (zu ZH (by rfl) T.qZ W3 (za (zL xE (pvS 1) zg (fun _ _=>rfl)) zc))) (ze (zdN (zL qG (pcX zcA hr Qy (za (qm (za (pvS 1) (za (pvS 2) zc))) zc)) zg (fun _ _=>rfl)) (yN rfl (zM (zo (i:=5) Zb.nd rfl (XE rfl)) (zM (zo (i:=6) Zb.nd rfl (XE rfl)) jD)))) (ze (qD W1 rfl (YF (by rfl) T.jf (@za _ _ _ _ _ zg (@za _ _ _ _ _ zg zc rfl) rfl)) (zo (i:=7) Zb.nd rfl (Vp rfl)) (ze (zz (i:=8) Zb.nd rfl (XE rfl) (zL qG (pcX zcA hr Qy (za (qm (za (pc0 zeu hr zam (za (pvS 1) (za (pvS 7) zc))) (za (pvS 2) zc))) zc)) zg (fun _ _=>rfl))) (ze (zz (i:=9) Zb.nd rfl (XE rfl) (qm (za (zu GS.jx (by rfl) T.yC Wp (za (z9 (N:=["_law_cell","_law_way","_law_high","_law_wide"]) (src:=[none,some 7,some 3,some 4]) (zP.free (O:=(zf zb0).names) (XN:=["_law_script","_law_rows","_law_stones","_law_high","_law_wide","_law_clears","_law_others","_law_way","_law_found","_law_due"]) rfl rfl ⟨_,rfl⟩ rfl rfl (by decide +kernel) (by decide +kernel) (by decide +kernel) rfl (by decide +kernel)) rfl (zJ (pvS 5)) (fun _ _ _ _ _=>(zo (i:=0) (by show W7 (["_law_cell","_law_way","_law_high","_law_wide"]:List Str);decide +kernel) rfl (XE rfl))) (fun _ _ _ _ _=>qo) (fun _ _ _ _ _=>(pc0 J4 hr yq (za (pvS 0) (za (pvS 1) (za (pvS 2) (za (pvS 3) zc))))))) zc)) (za (zu GS.jx (by rfl) T.yC Wp (za (z9 (N:=["_law_cell","_law_way","_law_high","_law_wide"]) (src:=[none,some 7,some 3,some 4]) (zP.free (O:=(zf zb0).names) (XN:=["_law_script","_law_rows","_law_stones","_law_high","_law_wide","_law_clears","_law_others","_law_way","_law_found","_law_due"]) rfl rfl ⟨_,rfl⟩ rfl rfl (by decide +kernel) (by decide +kernel) (by decide +kernel) rfl (by decide +kernel)) rfl (zJ (pvS 6)) (fun _ _ _ _ _=>(zo (i:=0) (by show W7 (["_law_cell","_law_way","_law_high","_law_wide"]:List Str);decide +kernel) rfl (XE rfl))) (fun _ _ _ _ _=>qo) (fun _ _ _ _ _=>(pc0 J4 hr yq (za (pvS 0) (za (pvS 1) (za (pvS 2) (za (pvS 3) zc))))))) zc)) zc)))) (zh (jg (qt (yP hr.units) (pvS 8) (pvS 9) (qa _)) (@zh _ _ _ (@zH _ _ _ _ zhd)) qi))))) (@zh _ _ _ (@zH _ _ _ _ zhd))))))),?_⟩;refine⟨_,rfl,a,ns,rfl,hS,fun d us gs H1 hd hd1 hM M s1=>⟨d,us,gs,rfl,hd1,hM,M,fun p l rs H2 hp hl B ec s2=>⟨p,_,rfl,SqT.of B.tp,rfl,_,_,rfl,_,_,rfl,rfl,?_⟩⟩⟩;have R:=M.rows ec;have s9:=M.few9 ec;have hL:=M.lay ec;obtain⟨w,W,w25⟩:=M.wide ec;have Fr:=W.fair w25 s9;generalize hn:(((stM gs).length:Nat):Int)=n at *
  have n0:0<=n:=by lia
  have h1:=W.h1;obtain⟨t0,ht0⟩:∃t,rs[0]?=some t:=⟨_,XZ (by lia)⟩;have tw:t0.length=w:=W.r t0 (X7 ht0);have ix:(rs.map V.str)[0]?=some (V.str t0):=by
   rw[XD,ht0];rfl
  refine⟨_,rfl,l,_,rfl,.inl (SqL.of B.rw),_,rfl,l,_,0,_,rfl,rfl,SqL.of B.rw,je (j:=0) ix,t0,rfl,by rw[tw];exact XX W.w8 (by decide),?_⟩;rw[Y1,tw];refine⟨_,rfl,_,rfl,yJ,fun b hb=>?_⟩;have y3:=zd (o:=.tup [.ref l,.int n]) hb;refine⟨b,l,rs,n,_,rfl,⟨zb,y3 _ _ B.rw⟩,R,n0,Fr.nb,fun gs G=>Fr.small G,hL,by lia,fun t sa fa fc fs sv us ws cl st H4 k1 k2 F Y Cl s4=>?_⟩;refine⟨t,_,1,_,rfl,rfl,SqT.of k1,rfl,fa,_,rfl,SqT.of F.tp,rfl,_,_,rfl,_,_,rfl,rfl,?_⟩;have hl4:=s4 _ _ (y3 _ _ B.rw);have wl:=Y.len (jd rs) (by lia);refine⟨1,8,rfl,⟨by decide,by decide,by decide,by decide⟩,?_⟩;refine qO (lo:=1) (n:=7) (fun i σ H'=>∃(w7 w8 w9:Option V),σ=[some (.ref a),some (.ref l),some (.int n),some (.int (rs.length:Nat)),some (.int (w:Nat)),some (.ref fc),some (.ref fs),w7,w8,w9]/\zq H4 H') ⟨_,_,_,rfl,zq.refl _⟩ ?_ ?_
  ·rintro i σ H5 hi ⟨w7,w8,w9,rfl,s5⟩;obtain⟨m,hm⟩:∃m:Nat,(1:Int)+((i:Nat):Int)=((m:Nat):Int):=⟨1+i,by lia⟩;rw[hm];refine⟨_,rfl,_,rfl,l,rs,m,w,rfl,s5 _ _ hl4,W,fun d5 H6 hd6 s6=>⟨_,rfl,yJ,fun b6 hb6=>?_⟩⟩;have y7:=zd (o:=.tup [.ref d5,.int n]) hb6;have Fr':=W.fairT (m:=m) w25 s9;have hL':=W.lay (m:=m) hL;refine⟨b6,d5,qH m rs w,n,_,rfl,⟨zb,y7 _ _ hd6⟩,W.rows R,n0,Fr'.nb,fun gs G=>Fr'.small G,hL',XX Fr'.s9 (by decide),fun t' sa' fa' fc' fs' sv' us' ws' cl' st' H8 k1' k2' F' Y' Cl' s8=>?_⟩;refine⟨t',_,1,_,rfl,rfl,SqT.of k1',rfl,?_⟩;have s48:=s5.trans (s6.trans (y7.trans s8));have F8:=F.mono s48;have inb:∀c∈zK rs,c.1<rs.length/\c.2<w:=W.in_;refine⟨_,rfl,fc,rfl,⟨_,SqL.of F8.h1⟩,fun z hz=>?_⟩;refine zf3 (m:=m) hz F8.h1 F8.c1 (fun c hc=>inb c (Y.s1 c hc)) (by lia) fun ys H9 s9' hz9 hc9=>?_;refine⟨z,ys,_,rfl,SqL.of hz9,Cel.tup2 hc9,by rw[hc9.length,Y1];lia,fun a1 u1 p1 ha1 ht1 pm1 up1=>?_⟩;obtain⟨q1,rfl,hp1⟩:=ZY pm1;have y10:=zd (o:=.lst u1) ha1;have s810:=s9'.trans y10;have F10:=F8.mono s810;refine⟨_,rfl,fs,rfl,⟨_,SqL.of F10.h2⟩,fun z' hz'=>?_⟩;refine zf3 (m:=m) hz' F10.h2 F10.c2 (fun c hc=>inb c (Y.s2 c hc)) (by lia) fun ys' H11 s11 zqF zp0=>?_;refine⟨z',ys',_,rfl,SqL.of zqF,Cel.tup2 zp0,by rw[zp0.length,Y1];lia,fun a2 u2 p2 ha2 ht2 pm2 up2=>?_⟩;obtain⟨q2,rfl,hp2⟩:=ZY pm2;have y12:=zd (o:=.lst u2) ha2;refine⟨yJ,fun a3 ha3=>?_⟩;have y13:=zd (o:=.tup [.ref a1,.ref a2]) ha3;obtain⟨e1,e2⟩:=W.same hL Y Cl Y' Cl';have eq1:=e1 q1 hp1 (zaN (hp1.nodup_iff.mpr (YW (ql Y.x1) fun c hc=>inb c (Y.s1 c hc))) up1);have eq2:=e2 q2 hp2 (zaN (hp2.nodup_iff.mpr (YW (ql Y.x2) fun c hc=>inb c (Y.s2 c hc))) up2);subst eq1;subst eq2;have s1013:=s11.trans (y12.trans y13);have G1:yc _ a3 a1 a2 u1 u2 q1 q2:=⟨zb,s1013 _ _ zb,y13 _ _ zb,Cel.mono (y10.trans s1013) (qL ht1),Cel.mono (y12.trans y13) (qL ht2)⟩;refine⟨_,rfl,_,rfl,_,_,(F'.mono (s810.trans s1013)).rdv,G1.rdv,zdE q1 q2,_,rfl,jE ?_ ?_⟩
   ·rw[if_pos rfl,SeqAt.eqv_refl _ (zdE q1 q2).l1];rfl
   ·exact⟨_,_,_,rfl,s48.trans (s810.trans s1013)⟩
  ·rintro σ H5 ⟨w7,w8,w9,rfl,s5⟩;exact q _
end
theorem all_mk {l:QQ}{w:WW}{K:XT}{h:Heap}{mg:Str->Option X8}{fa:Addr}{jag:Tok}{jah:Tok}{jai:Tok}{jaj:Tok}{jak:Tok}{jaa:Addr}{jab:Addr}(X:K.In h)(G:h.Ns XC mg)(hfa:mg "law"=some (.ref fa))
  (Qz:HasDef K "closed" Jy)
  (xS:HasDef K "open_cells" qx)
  (QA:HasDef K "around" jw)
  (JG:HasDef K "number_at" jn)
  (Zy:HasDef K "cells_of" qy)
  (YA:HasDef K "sign_at" qC)
  (zbe:HasDef K "parts" zbr)
  (QB:HasDef K "joined" Zp)
  (zg1:HasDef K "far" zfm)
  (xT:HasDef K "numbers_of" jo)
  (xU:HasDef K "bare_wrong" jO)
  (j5:HasDef K "closed_around" qz)
  (yr:HasDef K "part_layings" qF)
  (Zz:HasDef K "needs_at" j8)
  (YB:HasDef K "may_fit" yR)
  (yZ:HasDef K "part_counts" xy)
  (YC:HasDef K "counted" Zq)
  (YD:HasDef K "choices" YM)
  (QC:HasDef K "poured" Q4)
  (xg:HasDef K "near_counts" jU)
  (zbf:HasDef K "count" zbs)
  (xV:HasDef K "all_poured" x9)
  (zbg:HasDef K "dealt" Q5)
  (ZA:HasDef K "asked_by" ZU)
  (ZC:HasDef K "known_of" ZV)
  (xh:HasDef K "still_asked" jy)
  (QD:HasDef K "gained" Jz)
  (YE:HasDef K "settled" Zr)
  (ZD:HasDef K "thoughts" JA)
  (JH:HasDef K "all_steps" xF)
  (xj:HasDef K "place_lists" jV)
  (xW:HasDef K "first_step" jq)
  (xo:HasDef K "_law_cell_at" jW)
  (JI:HasDef K "_law_mixed" xG)
  (ZE:HasDef K "_law_mark" JB)
  (JJ:HasDef K "_law_drawn" JV)
  (JK:HasDef K "_law_cells" xH)
  (ZF:HasDef K "_law_near" JC)
  (JL:HasDef K "_law_board" xJ)
  (JM:HasDef K "_law_there" JW)
  (xX:HasDef K "_law_turned" Ja)
  (zg2:HasDef K "law" zb0)
  (zg3:Xl K XC "abs"=some none)
  (zg4:Xl K XC "any"=some none)
  (zdI:Xl K XC "dict"=some none)
  (JN:Xl K XC "enumerate"=some none)
  (zg5:Xl K XC "int"=some none)
  (zg6:Xl K XC "len"=some none)
  (zdJ:Xl K XC "list"=some none)
  (zg7:Xl K XC "max"=some none)
  (zg8:Xl K XC "min"=some none)
  (zbh:Xl K XC "range"=some none)
  (zg9:Xl K XC "set"=some none)
  (QE:Xl K XC "sorted"=some none)
  (zha:Xl K XC "str"=some none)
  (zhb:Xl K XC "sum"=some none)
  (zhc:Xl K XC "ALL"=some (some (.str "all" jag)))
  (xr:Xl K XC "CLOSED_SIGN"=some (some (.str "?" jah)))
  (yt:Xl K XC "MOST_OF_PART"=some (some (.int 14 jai)))
  (xu:Xl K XC "MOST_THINGS"=some (some (.int 30 jaj)))
  (yu:Xl K XC "NO_CELL_SIGN"=some (some (.str "#" jak)))
  (jae:Xl K XC "NoLaying"=some (some (.ref jaa)))
  (jal:Ui K jaa zew "ValueError.__new__"=true)
  (jaf:Xl K XC "TooGreat"=some (some (.ref jab)))
  (jam:Ui K jab zew "ValueError.__new__"=true) :
  ∃fd:Xz,(∀(s:X6) (v:X8),OX s fd ⟨[v],[]⟩ [("_law_script",v)])/\∀base:Heap,K.In base->base.Ns XC mg->qb l.prog w K mg base CX0 9 fa fd ["_law_script"] (zh9 K):=by
 obtain⟨f,oc,od,an,sl,kV,dc,pm,cd,ct,a,l0,c,k⟩:=zg2;have e:=hfa.symm.trans (VE X G a);cases e;have T:Txt mg:=⟨Wx X G zg3,Wx X G zg4,Wx X G zdI,Wx X G JN,Wx X G zg5,Wx X G zg6,Wx X G zdJ,Wx X G zg7,Wx X G zg8,Wx X G zbh,Wx X G zg9,Wx X G QE,Wx X G zha,Wx X G zhb,⟨_,VE X G zhc⟩,⟨_,VE X G xr⟩,⟨_,VE X G yt⟩,⟨_,VE X G xu⟩,⟨_,VE X G yu⟩⟩;have Z:Prog K mg:=⟨Qz.at X G (fun _ _ _ _ _ _=>us1 fun _=>rfl),xS.at X G (fun _ _ _ _ _ _=>us1 fun _=>rfl),QA.at X G (fun _ _ _ _ _ _=>us2 fun _ _=>rfl),JG.at X G (fun _ _ _ _ _ _=>us2 fun _ _=>rfl),Zy.at X G (fun _ _ _ _ _ _=>us1 fun _=>rfl),YA.at X G (fun _ _ _ _ _ _=>us2 fun _ _=>rfl),zbe.at X G (fun _ _ _ _ _ _=>us1 fun _=>rfl),QB.at X G (fun _ _ _ _ _ _=>us2 fun _ _=>rfl),zg1.at X G (fun _ _ _ _ _ _=>us1 fun _=>rfl),xT.at X G (fun _ _ _ _ _ _=>us2 fun _ _=>rfl),xU.at X G (fun _ _ _ _ _ _=>us1 fun _=>rfl),j5.at X G (fun _ _ _ _ _ _=>us2 fun _ _=>rfl),yr.at X G (fun _ _ _ _ _ _=>us2 fun _ _=>rfl),Zz.at X G (fun _ _ _ _ _ _=>us3 fun _ _ _=>rfl),YB.at X G (fun _ _ _ _ _ _=>us2 fun _ _=>rfl),yZ.at X G (fun _ _ _ _ _ _=>us2 fun _ _=>rfl),YC.at X G (fun _ _ _ _ _ _=>us2 fun _ _=>rfl),YD.at X G (fun _ _ _ _ _ _=>us2 fun _ _=>rfl),QC.at X G (fun _ _ _ _ _ _=>us2 fun _ _=>rfl),xg.at X G (fun _ _ _ _ _ _=>us1 fun _=>rfl),zbf.at X G (fun _ _ _ _ _ _=>us1 fun _=>rfl),xV.at X G (fun _ _ _ _ _ _=>us1 fun _=>rfl),zbg.at X G (fun _ _ _ _ _ _=>us3 fun _ _ _=>rfl),ZA.at X G (fun _ _ _ _ _ _=>us2 fun _ _=>rfl),ZC.at X G (fun _ _ _ _ _ _=>us1 fun _=>rfl),xh.at X G (fun _ _ _ _ _ _=>us2 fun _ _=>rfl),QD.at X G (fun _ _ _ _ _ _=>us1 fun _=>rfl),YE.at X G (fun _ _ _ _ _ _=>us1 fun _=>rfl),ZD.at X G (fun _ _ _ _ _ _=>us1 fun _=>rfl),JH.at X G (fun _ _ _ _ _ _=>us2 fun _ _=>rfl),xj.at X G (fun _ _ _ _ _ _=>us1 fun _=>rfl),xW.at X G (fun _ _ _ _ _ _=>us4 fun _ _ _ _=>rfl),xo.at X G (fun _ _ _ _ _ _=>us2 fun _ _=>rfl),JI.at X G (fun _ _ _ _ _ _=>us2 fun _ _=>rfl),ZE.at X G (fun _ _ _ _ _ _=>us4 fun _ _ _ _=>rfl),JJ.at X G (fun _ _ _ _ _ _=>us3 fun _ _ _=>rfl),JK.at X G (fun _ _ _ _ _ _=>us2 fun _ _=>rfl),ZF.at X G (fun _ _ _ _ _ _=>us2 fun _ _=>rfl),JL.at X G (fun _ _ _ _ _ _=>us1 fun _=>rfl),JM.at X G (fun _ _ _ _ _ _=>us4 fun _ _ _ _=>rfl),xX.at X G (fun _ _ _ _ _ _=>us2 fun _ _=>rfl)⟩;have F:=zjz (st:=zb0) l0 c k;have D:zm K mg "law" zb0 ["_law_script"] _ _:=⟨F,VE X G a,F.binds (ps:=["_law_script"]) (fun _ _ _ _ _ _=>us1 fun _=>rfl)⟩;have jac:Y4 K mg "NoLaying" jaa:=⟨VE X G jae,jal⟩;have jad:Y4 K mg "TooGreat" jab:=⟨VE X G jaf,jam⟩;exact⟨_,fun s v=>.of_eq rfl,fun base _ _=>zoU T jac jad Z D⟩
theorem walk {l:QQ}{q:Xn}{loose:List Str}{XP:(Str->Option X8)->Heap->Prop}{YP:WW->Heap->Prop}{d:DefRec}{K:Params->XT}(hn:l.most=some 63)(hdf:d.params.defaults=[])
  (hY:∀(w:WW) (h:Heap),YP w h->(K w.params).In h)
  (F:∀(w:WW) (mg:Str->Option X8) (fa:Addr) (h:Heap),(K w.params).In h->h.Ns XC mg->mg d.name=some (.ref fa) ->
   ∃fd:Xz,(∀(s:X6) (u:X8),OX s fd ⟨[u],[]⟩ [("_law_script",u)])/\∀base:Heap,(K w.params).In base->base.Ns XC mg->qb l.prog w (K w.params) mg base CX0 9 fa fd ["_law_script"] (zh9 (K w.params))) :
  Pb q loose XP YP l.row.toRowW d [] (fun f vs=>PySem.call f vs) :=
 L2.zhj (n:=63) (k:=9) (x:="_law_script") (CX:=fun _=>CX0) (sp:=fun w=>zh9 (K w.params)) hn (by decide) hdf ⟨rfl,by decide,by decide⟩ hY F (fun _ _ a ns hl _ hS=>⟨a,ns,rfl,hS,hl,fun _=>rfl⟩) fun _ _ _ _ _ z=>z
end K56
open PySem PySem.W PyProof.Rows
set_option maxRecDepth 100000 in
set_option maxHeartbeats 0 in
theorem PySem.Challenge.cw_stonelay_k56_turned_about_holds : PySem.Challenge.rw_stonelay_k56_turned_about.Holds := by
 refine zbu.early fun {q XP YP d K} hdf hY hn F=>?_;refine K56.walk (l:=PySem.Challenge.rw_stonelay_k56_turned_about) rfl hdf hY fun w mg fa h KX G hmg=>?_;rw[hn] at hmg;obtain⟨Qz,xS,QA,JG,Zy,YA,zbe,QB,zg1,xT,xU,j5,yr,Zz,YB,yZ,YC,YD,QC,xg,zbf,xV,zbg,ZA,ZC,xh,QD,YE,ZD,JH,xj,xW,xo,JI,ZE,JJ,JK,ZF,JL,JM,xX,zg2,zg3,zg4,zdI,JN,zg5,zg6,zdJ,zg7,zg8,zbh,zg9,QE,zha,zhb,⟨_,zhc⟩,⟨_,xr⟩,⟨_,yt⟩,⟨_,xu⟩,⟨_,yu⟩,⟨_,jae,jal⟩,⟨_,jaf,jam⟩⟩:=F w;exact K56.all_mk KX G hmg Qz xS QA JG Zy YA zbe QB zg1 xT xU j5 yr Zz YB yZ YC YD QC xg zbf xV zbg ZA ZC xh QD YE ZD JH xj xW xo JI ZE JJ JK ZF JL JM xX zg2 zg3 zg4 zdI JN zg5 zg6 zdJ zg7 zg8 zbh zg9 QE zha zhb zhc xr yt xu yu jae jal jaf jam